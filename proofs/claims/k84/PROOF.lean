import PyProof.Rows.All
import Wide.All
import OpenK.AllK
import Wide.FinOn
import Lean
import PyProof.EqAt
import PyProof.EqKinds
import PyProof.TupleCall
import PyProof.ListRange
import PySem.Names
import PySem.Builtin.Str.Common
import PyProof.NeKinds
import PySem.Challenge.RW_minortables_k84_cases_refused
set_option Elab.async false
set_option linter.all false
set_option maxRecDepth 100000
noncomputable section
namespace Zz
abbrev Zf:=PySem.W.Frag
open PySem
def A0z:=@List.replicate_append_replicate
def B0z:=@PyProof.Rows.callWith_type1
def C0z:=@PySem.W.Fast.te14364793385576792824
def D0z:=@List.drop_eq_getElem_cons
def E0z:=@PySem.F.args_tuple_add_2
def F0z:=@PySem.AutoSeq1.wpAny_loadPart'
def G0z:=@PySem.AutoSeq1.sub_tuple_tuple
def H0z:=@PySem.F.args_tuple_mul_2
def I0z:=@PySem.F.slot_list_append
def J0z:=@PySem.F.type_list_append
def K0z:=@PySem.F.entry_tuple_add
def L0z:=@PySem.F.entry_tuple_mul
def M0z:=@PySem.F.plainAttrs_list
def N0z:=@PySem.W.cellsFrom_some
def O0z:=@PySem.F.slot_tuple_add
def P0z:=@PySem.Calls.callWith_builtin
def Q0z:=@Option.map_eq_some_iff
def R0z:=@PySem.F.slot_tuple_mul
def S0z:=@List.mem_append_right
def T0z:=@PySem.builtinLookup_eq_fast
def U0z:=@PySem.F.slot_dict_get
def V0z:=@PySem.F.typeOf_object_class
def W0z:=@List.mem_cons_of_mem
def X0z:=@List.mem_append_left
def Y0z:=@PySem.W.looks_findIn
def Z0z:=@PySem.Around.frames_deeper
def A1z:=@PySem.Calls.evalArgs_plain
def B1z:=@PySem.F.args_object_init_2
def C1z:=@PySem.Around.under_plainId
def D1z:=@PySem.W.hideAll_get
def E1z:=@List.filterMap_cons
def F1z:=@Array.length_toList
def G1z:=@PySem.W.plainGet_of
def H1z:=@PySem.mem_of_lookup
def I1z:=@List.replicate_succ
def J1z:=@beq_eq_false_iff_ne
def K1z:=@List.length_reverse
def L1z:=@List.toList_toArray
def M1z:=@Nat.lt_of_lt_of_le
def N1z:=@PySem.W.of_hideAll
def O1z:=@List.mem_cons_self
def P1z:=@PySem.wpAny_pyIter_tuple
def Q1z:=@Bool.false_ne_true
def R1z:=@PySem.Calls.spliced_cons
def S1z:=@PySem.wpAny_Call_Name_kw
def T1z:=@PySem.W.callWith_K
def U1z:=@List.length_append
def V1z:=@Nat.lt_of_le_of_lt
def W1z:=@Bool.false_eq_true
def X1z:=@PySem.wpAny_setField_rec
def Y1z:=@PySem.tupleKind_room_in1
def Z1z:=@PySem.W.kitx_tuple
def A2z:=@PySem.wpAny_truthy_bool
def B2z:=@PySem.wpAny_newObj_type
def C2z:=@PySem.Calls.spliced_nil
def D2z:=@List.size_toArray
def E2z:=@List.flatten_cons
def F2z:=@Nat.lt_succ_of_lt
def G2z:=@Nat.le_of_succ_le
def H2z:=@Option.isSome_map
def I2z:=@Bool.not_eq_true'
def J2z:=@decide_eq_true_eq
def K2z:=@Option.some.injEq
def L2z:=@PySem.W.kitx_bool
def M2z:=@PySem.W.kitx_list
def N2z:=@of_decide_eq_true
def O2z:=@List.length_cons
def P2z:=@Nat.lt_succ_self
def Q2z:=@List.length_take
def R2z:=@List.lookup_cons
def S2z:=@PySem.wpAny_call_entry
def T2z:=@Nat.le_add_right
def U2z:=@PySem.AutoSeq1.idx_int
def V2z:=@List.filter_cons
def W2z:=@Bool.and_eq_true
def X2z:=@Option.bind_some
def Y2z:=@PySem.W.kitx_int
def Z2z:=@PySem.W.kitx_str
def A3z:=@decide_eq_false
def B3z:=@Option.some.inj
def C3z:=@PySem.wpAny_passesOwn
def D3z:=@List.length_map
def E3z:=@List.append_nil
def F3z:=@List.of_mem_zip
def G3z:=@PySem.wpAny_loadPart'
def H3z:=@List.length_set
def I3z:=@List.nodup_cons
def J3z:=@Option.map_some
def K3z:=@PySem.pushCells_keeps
def L3z:=@PySem.typeLookup_type
def M3z:=@PySem.wpAny_specialOf
def N3z:=@PySem.codeAny_builtin
def O3z:=@PySem.wpAny_updateSeq
def P3z:=@Bool.or_eq_true
def Q3z:=@PySem.W.kia_one
def R3z:=@PySem.Heap.size_push
def S3z:=@decide_eq_true
def T3z:=@PySem.wpAny_seqItems
def U3z:=@PySem.isSubtype_type
def V3z:=@Bool.and_false
def W3z:=@Nat.lt_irrefl
def X3z:=@PySem.wpAny_holding
def Y3z:=@PySem.wpAny_standAt
def Z3z:=@List.map_cons
def A4z:=@PySem.wpAny_attempt
def B4z:=@PySem.plainId_quiet
def C4z:=@List.any_cons
def D4z:=@PySem.W.mg_of
def E4z:=@PySem.Heap.lt_size
def F4z:=@Nat.ne_of_lt
def G4z:=@Nat.le_trans
def H4z:=@Nat.le_of_lt
def I4z:=@Nat.ne_of_gt
def J4z:=@PySem.codeAny_mono
def K4z:=@List.map_nil
def L4z:=@List.map_map
def M4z:=@Nat.le_refl
def N4z:=@PySem.sizeLine_eq
def O4z:=@Nat.zero_le
def P4z:=@PySem.wpAny_field
def Q4z:=@PySem.wpAny_of_eq
def R4z:=@PySem.wpAny_mono
def S4z:=@PySem.wpAny_bind
def T4z:=@PySem.wpAny_pure
def U4z:=@PySem.call_meets
def V4z:=@bne_iff_ne
def W4z:=@Nat.mod_lt
def X4z:=@PySem.W.looks_pair
def Y4z:=@PySem.W.segRun_of
def Z4z:=@PySem.W.piece_app
def A5z:=@if_false
def B5z:=@Ne.symm
def C5z:=@if_true
def D5z:=@if_pos
def E5z:=@if_neg
end Zz
open Zz
local macro_rules|`(tactic|rfl')=>`(tactic|kernel_rfl)
namespace L2
open PySem PySem.Spec PyProof.Rows
abbrev Key:=Sum Int Str
def pq:Key->Value->Bool
 | .inl k,v=>Value.isInt k v
 | .inr x,v=>Value.isStrOf x v
def Vw(w:World):Key->Int
 | .inl k=>hashInt k
 | .inr x=>hashStr w x
theorem bw:∀ {k:Key} {v:Value},pq k v=true->(∃ i t,k=Sum.inl i/\v=Value.int i t)\/(∃ x t,k=Sum.inr x/\v=Value.str x t)
 | .inl i,v,h=>by
  obtain⟨t,e⟩:=Value.isInt_shape (k:=i) (v:=v) h;exact .inl ⟨i,t,rfl,e⟩
 | .inr x,v,h=>by
  obtain⟨t,e⟩:=Value.isStrOf_shape (x:=x) (v:=v) h;exact .inr ⟨x,t,rfl,e⟩
theorem vY(i:Int)(t:Tok):pq (.inl i) (.int i t)=true:=by simp[pq,Value.isInt]
theorem vX(x:Str)(t:Tok):pq (.inr x) (.str x t)=true:=by simp[pq,Value.isStrOf]
theorem Jh(a b:Int):decide ((Sum.inl a:Key)=Sum.inl b)=(a==b):=by
 by_cases e:a=b
 ·subst e;simp
 ·have h:¬ (Sum.inl a:Key)=Sum.inl b:=fun q=>e (Sum.inl.inj q)
  rw[A3z h];exact(J1z.mpr e).symm
theorem Je(a b:Str):decide ((Sum.inr a:Key)=Sum.inr b)=decide (a=b):=by
 by_cases e:a=b
 ·subst e;simp
 ·have h:¬ (Sum.inr a:Key)=Sum.inr b:=fun q=>e (Sum.inr.inj q)
  rw[A3z h,A3z e]
theorem Jg(a:Int)(b:Str):decide ((Sum.inl a:Key)=Sum.inr b)=false:=A3z (fun q=>nomatch q)
theorem Jf(a:Str)(b:Int):decide ((Sum.inr a:Key)=Sum.inl b)=false:=A3z (fun q=>nomatch q)
def aW(prog:Program)(w:World):PySem.KeyKind prog w Key where
 is:=pq
 hash:=Vw w
 inj:=fun v a b ha hb=>by
  rcases bw ha with⟨i,t,rfl,rfl⟩ | ⟨x,t,rfl,rfl⟩
  ·rcases bw hb with⟨j,u,rfl,e⟩ | ⟨y,u,rfl,e⟩
   ·injection e with e1 _;rw[e1]
   ·exact nomatch e
  ·rcases bw hb with⟨j,u,rfl,e⟩ | ⟨y,u,rfl,e⟩
   ·exact nomatch e
   ·injection e with e1 _;rw[e1]
 byValue:=fun k v h=>by
  rcases bw h with⟨i,t,rfl,rfl⟩ | ⟨x,t,rfl,rfl⟩<;>rfl
 pyHash:=fun hv h=>by
  rcases bw hv with⟨i,t,rfl,rfl⟩ | ⟨x,t,rfl,rfl⟩
  ·exact wpAny_pyHash_int h
  ·exact wpAny_pyHash_str h
 eqBool:=fun hu hv h=>by
  rcases bw hu with⟨i,t,rfl,rfl⟩ | ⟨x,t,rfl,rfl⟩
  ·rcases bw hv with⟨j,u,rfl,rfl⟩ | ⟨y,u,rfl,rfl⟩
   ·rw[Jh] at h;exact wpAny_eqBool_int h
   ·rw[Jg] at h;exact SeqAt.EqAt.int_str i t y u _ _ _ _ h
  ·rcases bw hv with⟨j,u,rfl,rfl⟩ | ⟨y,u,rfl,rfl⟩
   ·rw[Jf] at h;exact SeqAt.EqAt.str_int x t j u _ _ _ _ h
   ·rw[Je] at h;exact wpAny_eqBool_str h
 «strs» :=fun k x t v h=>by
  rcases bw h with⟨i,u,rfl,e⟩ | ⟨y,u,rfl,e⟩
  ·exact nomatch e
  ·injection e with e1 _
   subst e1
   cases v<;>rfl
theorem rY(prog:Program)(w:World)(k:Key)(v:Value):(aW prog w).is k v=pq k v:=rfl
theorem o8(prog:Program)(w:World)(i:Int)(t:Tok):(aW prog w).is (.inl i) (.int i t)=true:=vY i t
theorem o7(prog:Program)(w:World)(x:Str)(t:Tok):(aW prog w).is (.inr x) (.str x t)=true:=vX x t
inductive V where
 | non | bl (b:Bool) | int (i:Int) | str (x:Str) | byt (b:Array UInt8) | flt (b:UInt64) | ref (a:Addr) | ty (n:String)
 deriving DecidableEq
def RelV:V->Value->Prop
 | .non,u=>u=Value.none
 | .bl b,u=>u=Value.bool b
 | .int i,u=>∃ t,u=Value.int i t
 | .str x,u=>∃ t,u=Value.str x t
 | .byt b,u=>∃ t,u=Value.bytes b t
 | .flt b,u=>∃ t,u=Value.float b t
 | .ref a,u=>u=Value.ref a
 | .ty n,u=>u=Value.type n
abbrev Vals:List V->List Value->Prop:=Paired RelV
theorem Vals.length{xs:List V}{us:List Value}(r:Vals xs us):xs.length=us.length:=Paired.length r
theorem Vals.get:∀ {xs:List V} {us:List Value} {i:Nat} {x:V},Vals xs us->xs[i]?=some x->∃ u,us[i]?=some u/\RelV x u
 | _,_,_,_,.nil,e=>by simp at e
 | _,_,0,_,.cons r _,e=>by simp at e;subst e;exact⟨_,rfl,r⟩
 | _,_,i+1,x,.cons _ t,e=>by
  obtain⟨u,h1,h2⟩:=Vals.get (i:=i) (x:=x) t (by simpa using e);exact⟨u,by simpa using h1,h2⟩
theorem Vals.set{x:V}{u:Value}(r:RelV x u):∀ {xs:List V} {us:List Value} (i:Nat),Vals xs us->Vals (xs.set i x) (us.set i u)
 | _,_,_,.nil=>.nil
 | _,_,0,.cons _ t=>.cons r t
 | _,_,i+1,.cons q t=>.cons q (Vals.set r i t)
theorem Vals.append:∀ {xs ys:List V} {us ws:List Value},Vals xs us->Vals ys ws->Vals (xs++ys) (us++ws)
 | _,_,_,_,.nil,s=>s
 | _,_,_,_,.cons r t,s=>.cons r (Vals.append t s)
def j7:Option V->Option Value->Prop
 | some v,some u=>RelV v u
 | none,none=>True
 | _,_=>False
def KV{κ:Type}:List (κ×V)->List (κ×Value)->Prop:=Paired fun(p:κ×V) (q:κ×Value)=>p.1=q.1/\RelV p.2 q.2
def kV:Key->V
 | .inl i=>.int i
 | .inr x=>.str x
inductive HO where
 | lst (xs:List V)
 | tup (xs:List V)
 | dK (kvs:List (Key×V)) | dT (kvs:List (List Key×V))
 | set (S:Int->Bool) (n:Nat)
 | ins (C dx:Addr) (fs:List (Str×V))
 | own (x:Addr)
 | xd (fs:List (Str×V))
 | met (f x:Addr)
 | rng (lo hi:Int)
 | frz (o:Obj) (u:HO)
 | tbl (ps:Array Value)
 | ext (φ:Heap->Prop)
noncomputable abbrev Hp:=Addr->Option HO
def upd(H:Hp)(a:Addr)(o:HO):Hp:=fun b=>if b=a then some o else H b
theorem aB{H:Hp}{a:Addr}{o:HO}:upd H a o a=some o:=by unfold upd;rw[D5z rfl]
theorem ak{H:Hp}{a b:Addr}{o:HO}(h:b≠a):upd H a o b=H b:=by unfold upd;rw[E5z h]
theorem m8{H:Hp}{a b:Addr}{o u:HO}(h:H a=some o)(h':H b=some u)(d:o≠u):a≠b:=by
 intro e;subst e;rw[h] at h';exact d (B3z h')
theorem aq{H:Hp}{a b:Addr}{o:HO}(h:H a=some o)(h':H b=none):a≠b:=by
 intro e;subst e;rw[h] at h';cases h'
section
variable (P:Program) (w:World)
def cg(H:Hp)(h:Heap)(a:Addr):HO->Prop
 | .lst xs=>xs.length<=sizeLine/\∃ (its:List Value) (n:Nat),Vals xs its/\h.get? a=some { cls:=.type "list",data:=.seq its.toArray n }
 | .tup xs=>xs.length<=sizeLine/\∃ its:List Value,Vals xs its/\IsTup h a its.toArray
 | .dK kvs=>kvs.length<=sizeLine/\(a==sysModules)=false/\∃ vs,KV kvs vs/\h.DictOf (aW P w) a vs
 | .dT kvs => kvs.length <= sizeLine /\ (a == sysModules) = false /\ ∃ xs : List (List Key × Addr × Value),
   Paired (fun(p:List Key×V) (q:List Key×Addr×Value)=>p.1=q.1/\H q.2.1=some (.tup (p.1.map kV))/\RelV p.2 q.2.2) kvs xs /\
   ∃ o es ep,h.get? a=some o/\o.ExactDict/\o.data=.dict es ep/\es.toList=xs.map (entryOfKey (tupleKind (aW P w)))/\(xs.map (·.1)).Nodup
 | .set S n=>h.SetOf (intKind P w) a S n
 | .ins C dx fs => H dx = some (.own a) /\ fs.length <= 1000 /\ dx ≠ a /\ h.get? a = some (PySem.W.instObj C dx) /\
   ∃ mA,h.Ns1 dx mA/\(∀ f,j7 (fs.lookup f) (mA f))/\PySem.Within mA (fs.map (·.1))
 | .own _=>∃ o,h.get? a=some o
 | .xd fs=>∃ mA,h.Ns1 a mA/\∀ f,j7 (fs.lookup f) (mA f)
 | .rng lo hi=>∃ t u v,h.get? a=some { cls:=.type "range",data:=.fields #[.int lo t,.int hi u,.int 1 v] }
 | .frz o u=>h.get? a=some o/\cg H h a u
 | .tbl ps=>h.get? a=some { cls:=.none,data:=.fields ps }
 | .met f x=>h.get? a=some (PySem.W.methodObj (.ref f) (.ref x))
 | .ext φ=>φ h/\(∃ o,h.get? a=some o)/\∀ h1 h2:Heap,φ h1->(∀ o,h1.get? a=some o->h2.get? a=some o)->φ h2
def HOk(H:Hp)(h:Heap):Prop:=∀ a o,H a=some o->cg P w H h a o
end
section
variable {P:Program} {w:World} {H H':Hp} {h h':Heap} {a:Addr} {o:HO}
theorem cg.lt(x:cg P w H h a o):a<h.objs.size:=by
 cases o with
 | lst xs=>obtain⟨_,_,_,_,e⟩:=x;exact E4z e
 | tup xs=>obtain⟨_,_,_,p⟩:=x;exact p.lt
 | dK kvs=>obtain⟨_,_,_,_,o,_,_,e,_⟩:=x;exact E4z e
 | dT kvs=>obtain⟨_,_,_,_,o,_,_,e,_⟩:=x;exact E4z e
 | set S n=>obtain⟨o,_,_,_,e,_⟩:=x;exact E4z e
 | ins C dx fs=>obtain⟨_,_,_,e,_⟩:=x;exact E4z e
 | own y=>obtain⟨_,e⟩:=x;exact E4z e
 | xd fs=>obtain⟨_,⟨_,_,_,e,_⟩,_⟩:=x;exact E4z e
 | rng lo hi=>obtain⟨_,_,_,e⟩:=x;exact E4z e
 | frz ob u=>obtain⟨e,_⟩:=x;exact E4z e
 | tbl ps=>exact E4z (show h.get? a=some _ from x)
 | met f y=>exact E4z (show h.get? a=some _ from x)
 | ext φ=>obtain⟨_,⟨_,e⟩,_⟩:=x;exact E4z e
theorem Paired.mapP{α β:Type}{F G:α->β->Prop}:∀ {l₁:List α} {l₂:List β},Paired F l₁ l₂->(∀ a b,F a b->G a b)->Paired G l₁ l₂
 | _,_,.nil,_=>.nil
 | _,_,.cons r t,f=>.cons (f _ _ r) (Paired.mapP t f)
theorem cg.stay(x:cg P w H h a o)(k:∀ b u,(b=a\/H b=some (.own a))->h.get? b=some u->h'.get? b=some u)
  (ho:∀ b,H b=some (.own a)->H' b=some (.own a)) (ht:∀ b xs,H b=some (.tup xs)->H' b=some (.tup xs)):cg P w H' h' a o:=by
 induction o with
 | lst xs=>obtain⟨z,its,n,r,e⟩:=x;exact⟨z,its,n,r,k _ _ (.inl rfl) e⟩
 | tup xs=>obtain⟨z,its,r,ob,e,c⟩:=x;exact⟨z,its,r,ob,k _ _ (.inl rfl) e,c⟩
 | dK kvs=>obtain⟨z,y,vs,r,ob,es,ep,e,c⟩:=x;exact⟨z,y,vs,r,ob,es,ep,k _ _ (.inl rfl) e,c⟩
 | dT kvs =>
  obtain⟨z,y,xs,r,ob,es,ep,e,c⟩:=x;exact⟨z,y,xs,Paired.mapP r fun p q z=>⟨z.1,ht _ _ z.2.1,z.2.2⟩,ob,es,ep,k _ _ (.inl rfl) e,c⟩
 | set S n=>obtain⟨ob,es,ep,t,e,c⟩:=x;exact⟨ob,es,ep,t,k _ _ (.inl rfl) e,c⟩
 | ins C dx fs =>
  obtain⟨d,z,ne,e,mA,⟨od,es,ep,e2,c⟩,r⟩:=x;exact⟨ho _ d,z,ne,k _ _ (.inl rfl) e,mA,⟨od,es,ep,k _ _ (.inr d) e2,c⟩,r⟩
 | own y=>obtain⟨ob,e⟩:=x;exact⟨ob,k _ _ (.inl rfl) e⟩
 | xd fs=>obtain⟨mA,⟨od,es,ep,e,c⟩,r⟩:=x;exact⟨mA,⟨od,es,ep,k _ _ (.inl rfl) e,c⟩,r⟩
 | rng lo hi=>obtain⟨t,u,v,e⟩:=x;exact⟨t,u,v,k _ _ (.inl rfl) e⟩
 | frz ob u ih=>obtain⟨e,q⟩:=x;exact⟨k _ _ (.inl rfl) e,ih q⟩
 | tbl ps =>
  have e:h.get? a=some { cls:=.none,data:=.fields ps }:=x;show h'.get? a=some { cls:=.none,data:=.fields ps };exact k a _ (.inl rfl) e
 | met f y =>
  have e:h.get? a=some (PySem.W.methodObj (.ref f) (.ref y)):=x;show h'.get? a=some (PySem.W.methodObj (.ref f) (.ref y));exact k a _ (.inl rfl) e
 | ext φ=>obtain⟨p,⟨o,e⟩,st⟩:=x;exact⟨st _ _ p fun o q=>k _ _ (.inl rfl) q,⟨o,k _ _ (.inl rfl) e⟩,st⟩
theorem HOk.lt(x:HOk P w H h)(e:H a=some o):a<h.objs.size:=(x a o e).lt
theorem HOk.fresh(x:HOk P w H h)(e:h.objs.size<=a):H a=none:=by
 cases q:H a with
 | none=>rfl
 | some u=>exact absurd (M1z (x.lt q) e) (W3z _)
theorem HOk.kept(x:HOk P w H h)(k:∀ b u,h.get? b=some u->h'.get? b=some u):HOk P w H h':=fun a o e =>
 (x a o e).stay (fun b u _ q=>k b u q) (fun _ q=>q) fun _ _ q=>q
theorem HOk.laid(x:HOk P w H h)(k:∀ b u,h.get? b=some u->h'.get? b=some u)(hp:h.objs.size<=a)(new:cg P w (upd H a o) h' a o):HOk P w (upd H a o) h':=fun b u e=>by
 have hn:=x.fresh hp
 by_cases hb:b=a
 ·subst hb;rw[aB] at e;cases e;exact new
 ·rw[ak hb] at e
  exact(x b u e).stay (fun c v _ q=>k c v q) (fun c q=>by rw[ak (aq q hn)];exact q) fun c xs q=>by rw[ak (aq q hn)];exact q
end
def Rd(H:Hp)(a:Addr)(u:HO):Prop:=H a=some u\/∃ o,H a=some (.frz o u)
theorem Rd.ok{P:Program}{w:World}{H:Hp}{h:Heap}{a:Addr}{u:HO}(r:Rd H a u)(x:HOk P w H h):cg P w H h a u:=by
 rcases r with r | ⟨o,r⟩
 ·exact x a u r
 ·obtain⟨_,q⟩:=x a _ r
  exact q
def Mut:Option HO->Prop
 | some (.lst _)=>True
 | some (.dK _)=>True
 | some (.dT _)=>True
 | some (.set _ _)=>True
 | some (.ins _ _ _)=>True
 | some (.ext _)=>True
 | _=>False
section
variable {P:Program} {w:World} {H:Hp} {h h':Heap} {x e:Addr} {o':HO}
theorem HOk.write(ok:HOk P w H h)(mu:Mut (H x))(he:e=x\/H e=some (.own x))(k:∀ b u,b≠e->h.get? b=some u->h'.get? b=some u)(heo:∃ u,h'.get? e=some u)
  (new:cg P w (upd H x o') h' x o'):HOk P w (upd H x o') h':=fun b u q=>by
 have nown:∀ c y,H c=some (.own y)->c≠x:=fun c y r z=>by subst z;rw[r] at mu;exact mu
 have ntup:∀ c xs,H c=some (.tup xs)->c≠x:=fun c xs r z=>by subst z;rw[r] at mu;exact mu
 by_cases hb:b=x
 ·subst hb;rw[aB] at q;cases q;exact new
 ·rw[ak hb] at q
  by_cases hbe:b=e
  ·have q':H b=some (.own x):=by
    rcases he with z | z
    ·exact absurd (hbe.trans z) hb
    ·rw[hbe];exact z
   rw[q] at q';cases q'
   obtain⟨v,hv⟩:=heo;exact⟨v,by rw[hbe];exact hv⟩
  ·refine(ok b u q).stay (fun c v hc r=>k c v ?_ r) (fun c r=>by rw[ak (nown c b r)];exact r) fun c xs r=>by rw[ak (ntup c xs r)];exact r
   rcases hc with rfl | hc
   ·exact hbe
   ·rintro rfl
    rcases he with z | z
    ·exact nown c b hc z
    ·rw[hc] at z;cases z;exact hb rfl
end
structure Un (fs ex:List Addr) (H H':Hp) (h h':Heap):Prop where
 keep:∀ b o,h.get? b=some o->H b=none->b∉fs->b∉ex->h'.get? b=some o
 slot:∀ b o,h.get? b=some o->H b=none->b∈fs->b∉ex->∃ sl,h'.get? b=some { o with slots:=sl }
 free:∀ b o,h.get? b=some o->H b=none->b∉ex->H' b=none
 there:∀ b o,h.get? b=some o->b∉ex->∃ o',h'.get? b=some o'
 tups:∀ b xs,H b=some (.tup xs)->H' b=some (.tup xs)
 frzs:∀ b o u,H b=some (.frz o u)->H' b=some (.frz o u)
 tbls:∀ b ps,H b=some (.tbl ps)->∃ more,H' b=some (.tbl (ps++more))
section
variable {fs fs' ex ex':List Addr} {H H1 H2:Hp} {h h1 h2 h':Heap} {a x e:Addr} {o:HO}
theorem Un.any(u:Un fs ex H H1 h h1){b:Addr}{ob:Obj}(q:h.get? b=some ob)(n:H b=none)(hx:b∉ex):∃ sl,h1.get? b=some { ob with slots:=sl }:=by
 by_cases hb:b∈fs
 ·exact u.slot b ob q n hb hx
 ·exact⟨ob.slots,u.keep b ob q n hb hx⟩
theorem Un.trans(a:Un fs ex H H1 h h1)(b:Un fs ex H1 H2 h1 h2):Un fs ex H H2 h h2 where
 keep:=fun c ob q n hc hx=>b.keep c ob (a.keep c ob q n hc hx) (a.free c ob q n hx) hc hx
 slot:=fun c ob q n hc hx=>by
  obtain⟨sl,e1⟩:=a.slot c ob q n hc hx;obtain⟨sl',e2⟩:=b.slot c _ e1 (a.free c ob q n hx) hc hx;exact⟨sl',e2⟩
 free:=fun c ob q n hx=>by
  obtain⟨o',e1⟩:=a.there c ob q hx;exact b.free c o' e1 (a.free c ob q n hx) hx
 there:=fun c ob q hx=>by
  obtain⟨o',e1⟩:=a.there c ob q hx;exact b.there c o' e1 hx
 tups:=fun c xs q=>b.tups c xs (a.tups c xs q)
 frzs:=fun c ob xs q=>b.frzs c ob xs (a.frzs c ob xs q)
 tbls:=fun c ps q=>by
  obtain⟨m1,e1⟩:=a.tbls c ps q;obtain⟨m2,e2⟩:=b.tbls c _ e1;exact⟨m1++m2,by rw[e2,Array.append_assoc]⟩
theorem Un.kept(k:∀ b u,h.get? b=some u->h'.get? b=some u):Un fs ex H H h h' :=
 ⟨fun b ob q _ _ _=>k b ob q,fun b ob q _ _ _=>⟨ob.slots,k b ob q⟩,fun _ _ _ n _=>n,fun b ob q _=>⟨ob,k b ob q⟩,fun _ _ q=>q,fun _ _ _ q=>q,fun _ ps q=>⟨#[],by rw[q];simp⟩⟩
theorem Un.refl:Un fs ex H H h h:=Un.kept fun _ _ q=>q
theorem Un.laid(k:∀ b u,h.get? b=some u->h'.get? b=some u)(hp:h.objs.size<=a)(hn:H a=none):Un fs ex H (upd H a o) h h' where
 keep:=fun b u q _ _ _=>k b u q
 slot:=fun b u q _ _ _=>⟨u.slots,k b u q⟩
 free:=fun b u q n _=>by rw[ak (F4z (M1z (E4z q) hp))];exact n
 there:=fun b u q _=>⟨u,k b u q⟩
 tups:=fun b xs q=>by rw[ak (aq q hn)];exact q
 frzs:=fun b u xs q=>by rw[ak (aq q hn)];exact q
 tbls:=fun b ps q=>⟨#[],by rw[ak (aq q hn),q];simp⟩
theorem Un.write(mu:Mut (H x))(he:e=x\/H e=some (.own x))(k:∀ b u,b≠e->h.get? b=some u->h'.get? b=some u)(heo:∃ u,h'.get? e=some u):Un fs ex H (upd H x o) h h':=by
 have hx:∀ b,H b=none->b≠x:=fun b n z=>by subst z;rw[n] at mu;exact mu
 have hb:∀ b,H b=none->b≠e:=fun b n z=>by
  subst z;rcases he with r | r
  ·exact hx b n r
  ·rw[n] at r;cases r
 have hm:∀ b u,H b=some u->¬ Mut (some u)->b≠x:=fun b u q nm z=>by subst z;rw[q] at mu;exact nm mu
 refine⟨fun b u q n _ _=>k b u (hb b n) q,fun b u q n _ _=>⟨u.slots,k b u (hb b n) q⟩,fun b u q n _=>by rw[ak (hx b n)];exact n,fun b u q _=>?_,
  fun b xs q=>by rw[ak (hm b _ q fun z=>z)];exact q,fun b u xs q=>by rw[ak (hm b _ q fun z=>z)];exact q,fun b ps q=>⟨#[],by rw[ak (hm b _ q fun z=>z),q];simp⟩⟩
 by_cases hbe:b=e
 ·subst hbe;exact heo
 ·exact⟨u,k b u hbe q⟩
theorem Un.mono(u:Un fs ex H H1 h h1)(hs:∀ b∈fs,b∈fs')(hx:∀ b∈ex,b∈ex'):Un fs' ex' H H1 h h1 :=
 ⟨fun b ob q n hb he=>u.keep b ob q n (fun z=>hb (hs b z)) fun z=>he (hx b z),fun _ _ q n _ he=>u.any q n fun z=>he (hx _ z),fun b ob q n he=>u.free b ob q n fun z=>he (hx b z),fun b ob q he=>u.there b ob q fun z=>he (hx b z),u.tups,u.frzs,u.tbls⟩
end
def trk(h:Heap)(H:Hp):List Addr:=(List.range h.objs.size).filter fun a=>(H a).isSome
def nq(h:Heap)(H:Hp):Heap:=PySem.W.hideAll h (trk h H)
theorem ju(h:Heap)(H:Hp):(nq h H).objs.size=h.objs.size:=PySem.W.hideAll_size _ _
theorem lJ{h:Heap}{H:Hp}{b:Addr}{o:Obj}(e:h.get? b=some o)(n:H b=none):(nq h H).get? b=some o :=
 D1z _ e fun hm=>by
  have q:(H b).isSome=true:=(List.mem_filter.mp hm).2;rw[n] at q;simp at q
theorem oY{h:Heap}{H:Hp}{b:Addr}{o:Obj}(e:(nq h H).get? b=some o):h.get? b=some o/\H b=none:=by
 have e':h.get? b=some o:=N1z (trk h H) e;refine⟨e',?_⟩
 cases q:H b with
 | none=>rfl
 | some x =>
  have hm:b∈trk h H:=List.mem_filter.mpr ⟨List.mem_range.mpr (E4z e'),by simp[q]⟩;have z:(nq h H).get? b=none:=PySem.W.hideAll_none (trk h H) hm;rw[z] at e;cases e
def Gk(g h:Heap)(L:Addr):List (Addr×Obj):=(List.range h.objs.size).filterMap fun a=>if a=L\/(g.get? a).isSome=true then none else(h.get? a).map fun o=>(a,o)
def rest(g h:Heap)(L d:Addr):List (Addr×Obj):=(Gk g h L).filter fun p=>decide (p.1≠d)
structure Mod (K:Zf) (mg:Str->Option Value) (base:Heap):Prop where
 kin:K.In base
 glob:base.Ns mainGlobals mg
 blt:∃ mb,base.Ns builtinsNs mb/\∀ x:Str,x≠"__name__"->mb x=bootBuiltins x
 nolimit:base.NoLimit
structure Cx where
 prog:Program
 w:World
 K:Zf
 mg:Str->Option Value
 base:Heap
 A:Around
 N:List Str
 s₀:Shared
 H₀:Hp
 env:Env
 outer:List Env
 stack:List Env
 ex:List Addr
 fn:Str->Bool
 calm:Bool
 pn:List (Addr×Obj)
 xe:Value->Shared->Prop
 lm:Option (Addr×Str):=none
def frs(l:List Env):List Addr:=l.filterMap (·.frame)
abbrev Cx.fs(X:Cx):List Addr:=frs X.outer
def Vis(sc:Scope)(x:Str):Prop:=sc.names.lookup x=some .local\/sc.names.lookup x=some .cell\/sc.names.lookup x=some .free
def Loc(sc:Scope)(x:Str):Prop:=sc.names.lookup x=some .local\/sc.names.lookup x=some .cell
def Look(env:Env)(h:Heap)(m:Str->Option Value)(x:Str)(u:Value):Prop :=
 (env.kindOf x=some .local/\m x=some u)\/((env.kindOf x=some .cell\/env.kindOf x=some .free)/\∃ c,env.cells.lookup x=some c/\h.IsCell c (some u))
structure Cx.Ok (X:Cx):Prop where
 mod:Mod X.K X.mg X.base
 kind:X.env.scope.kind=.function
 glob:X.env.globals=mainGlobals
 blt:X.env.builtins=builtinsNs
 above:X.s₀.heap.objs.size<=X.env.locals
 inj:∀ x y c,X.env.cells.lookup x=some c->X.env.cells.lookup y=some c->x=y
 has:∀ x,(X.env.kindOf x=some .cell\/X.env.kindOf x=some .free)->∃ c,X.env.cells.lookup x=some c
 cab:∀ x c,X.fn x=true->X.env.cells.lookup x=some c->X.s₀.heap.objs.size<=c
 hd:X.calm=true->X.A.handled=none
 frames:X.A.frames=some X.stack
 stk:X.stack=X.outer\/(X.stack=X.env::X.outer/\X.env.frame=some X.env.locals)
 exf:∀ b∈X.ex,b≠X.env.locals/\∀ x c,X.env.cells.lookup x=some c->c≠b
 bs:∀ b o,X.base.get? b=some o->X.s₀.heap.get? b=some o/\X.H₀ b=none
 bsz:X.base.objs.size<=X.s₀.heap.objs.size
 noex:∀ b o,X.base.get? b=some o->b∉X.ex
 exfs:∀ b∈X.ex,b∉X.fs
 funs:X.s₀.heap.FunFrames X.base X.outer
 frf:∀ b∈X.fs,X.H₀ b=none
structure Inv (X:Cx) (z0:List (Addr×Obj)) (σ:List (Option V)) (H:Hp) (s:Shared):Prop where
 ok:X.Ok
 os:s.os=X.s₀.os
 bare:AllBare s.gens
 base:Un X.fs X.ex X.H₀ H X.s₀.heap s.heap
 loc:∃ m,s.heap.Ns X.env.locals m/\∀ (i:Nat) (x:Str) (v:V),X.N[i]?=some x->σ[i]?=some (some v)->Vis X.env.scope x->∃ u,RelV v u/\Look X.env s.heap m x u
 cell:∀ x c,X.env.cells.lookup x=some c->∃ v,s.heap.IsCell c v
 free:H X.env.locals=none
 freeC:∀ x c,X.env.cells.lookup x=some c->H c=none
 pin:∀ p∈X.pn++z0,s.heap.get? p.1=some p.2/\H p.1=none/\p.1≠X.env.locals/\p.1∉X.fs/\∀ v,p.2.data≠.cell v
 hok:HOk X.prog X.w H s.heap
 len:σ.length=X.N.length
section
variable {X:Cx} {z0:List (Addr×Obj)} {σ:List (Option V)} {H H':Hp} {s:Shared} {h':Heap}
theorem Cx.Ok.nofr(ok:X.Ok){b:Addr}{o:Obj}(e:X.base.get? b=some o):b∉X.fs:=fun hb=>by
 have:=(ok.funs.mem hb).1;rw[e] at this;cases this
theorem Inv.bs(I:Inv X z0 σ H s):∀ b o,X.base.get? b=some o->s.heap.get? b=some o/\H b=none:=fun b o e =>
 ⟨I.base.keep b o (I.ok.bs b o e).1 (I.ok.bs b o e).2 (I.ok.nofr e) (I.ok.noex b o e),I.base.free b o (I.ok.bs b o e).1 (I.ok.bs b o e).2 (I.ok.noex b o e)⟩
theorem Inv.bk(I:Inv X z0 σ H s):∀ b o,X.base.get? b=some o->s.heap.get? b=some o:=fun b o e=>(I.bs b o e).1
theorem Inv.mod(I:Inv X z0 σ H s):Mod X.K X.mg X.base:=I.ok.mod
theorem Inv.kIn(I:Inv X z0 σ H s):X.K.In s.heap:=I.ok.mod.kin.keeps I.bk
theorem Inv.lt(I:Inv X z0 σ H s):X.env.locals<s.heap.objs.size:=let ⟨_,hn,_⟩:=I.loc;hn.lt
theorem Inv.sz(I:Inv X z0 σ H s):X.s₀.heap.objs.size<=s.heap.objs.size:=G4z I.ok.above (H4z I.lt)
theorem Inv.nofs(I:Inv X z0 σ H s){a:Addr}(h:s.heap.objs.size<=a):a∉X.fs:=fun hb=>by
 obtain⟨_,o,ho,_⟩:=I.ok.funs.mem hb;exact absurd (M1z (E4z ho) (G4z I.sz h)) (W3z _)
theorem Inv.cne(I:Inv X z0 σ H s):∀ x c,X.env.cells.lookup x=some c->c≠X.env.locals:=fun x c e z=>by
 obtain⟨v,o,ho,hd⟩:=I.cell x c e;obtain⟨m,⟨o',es,ep,ho',hd',_⟩,_⟩:=I.loc;rw[z,ho'] at ho;cases ho;rw[hd'] at hd;cases hd
theorem Inv.funs(I:Inv X z0 σ H s):s.heap.FunFrames X.base X.outer:=by
 have all:∀ (l:List Env),(∀ b∈frs l,b∈X.fs)->X.s₀.heap.FunFrames X.base l->s.heap.FunFrames X.base l:=by
  intro l
  induction l with
  | nil=>intro _ _;trivial
  | cons env r ih =>
   intro hs hl;obtain⟨hk,⟨L,o,hf,hn,ho,hd⟩,hr⟩:=hl;have hL:L∈X.fs:=hs L (by unfold frs;rw[E1z,hf];exact O1z);obtain⟨sl,e⟩:=I.base.slot L o ho (I.ok.frf L hL) hL fun z=>I.ok.exfs L z hL;exact⟨hk,⟨L,_,hf,hn,e,hd⟩,ih (fun b hb=>hs b (by unfold frs;rw[E1z,hf];exact W0z _ hb)) hr⟩
 exact all X.outer (fun _ hb=>hb) I.ok.funs
theorem Inv.stack(I:Inv X z0 σ H s):s.heap.FunFrames X.base X.stack:=by
 rcases I.ok.stk with e | ⟨e,hf⟩
 ·rw[e];exact I.funs
 ·rw[e]
  obtain⟨m,hn,_⟩:=I.loc;refine .cons (by rw[I.ok.kind];decide) hf hn ?_ I.funs;exact Heap.get?_none_of_le (G4z I.ok.bsz I.ok.above)
theorem Inv.stkSub(I:Inv X z0 σ H s):∀ b∈frs X.stack,b∈X.env.locals::X.fs:=fun b hb=>by
 rcases I.ok.stk with e | ⟨e,hf⟩
 ·rw[e] at hb;exact W0z _ hb
 ·rw[e] at hb
  unfold frs at hb;rw[E1z,hf] at hb;exact hb
theorem Inv.stkFree(I:Inv X z0 σ H s):∀ b∈frs X.stack,H b=none:=fun b hb=>by
 rcases List.mem_cons.mp (I.stkSub b hb) with e | hb
 ·rw[e];exact I.free
 ·obtain⟨_,o,ho,_⟩:=I.ok.funs.mem hb
  exact I.base.free b o ho (I.ok.frf b hb) fun z=>I.ok.exfs b z hb
theorem Inv.step{g':Array GenState}{t':Nat}{d':Drawn}{ch:List Addr}(I:Inv X z0 σ H s)
  (hch:∀ b∈ch,(b∈X.ex\/X.s₀.heap.objs.size<=b)/\b≠X.env.locals/\(∀ x c,X.env.cells.lookup x=some c->c≠b)/\∀ p∈X.pn++z0,p.1≠b)
  (keep:∀ b o,b≠X.env.locals->b∉X.fs->b∉ch->s.heap.get? b=some o->H b=none->h'.get? b=some o)
  (slot:∀ b o,b≠X.env.locals->b∈X.fs->b∉ch->s.heap.get? b=some o->H b=none->∃ sl,h'.get? b=some { o with slots:=sl }) (free:∀ b o,b∉ch->s.heap.get? b=some o->H b=none->H' b=none)
  (there:∀ b o,b∉ch->s.heap.get? b=some o->∃ o',h'.get? b=some o')
  (tups:∀ b xs,H b=some (.tup xs)->H' b=some (.tup xs)) (frzs:∀ b o u,H b=some (.frz o u)->H' b=some (.frz o u)) (tbls:∀ b ps,H b=some (.tbl ps)->∃ more,H' b=some (.tbl (ps++more)))
  (ns:∀ m,s.heap.Ns X.env.locals m->h'.Ns X.env.locals m) (hok:HOk X.prog X.w H' h') (hg:AllBare g') :
  Inv X z0 σ H' { s with heap:=h',gens:=g',drawn:=d',toks:=t' }:=by
 have neL:∀ b o,X.s₀.heap.get? b=some o->b≠X.env.locals:=fun b o e=>F4z (M1z (E4z e) I.ok.above)
 have neC:∀ b o,X.s₀.heap.get? b=some o->b∉X.ex->b∉ch:=fun b o e hx hb=>by
  rcases(hch b hb).1 with z | z
  ·exact hx z
  ·exact absurd (M1z (E4z e) z) (W3z _)
 have cellK:∀ x c,X.env.cells.lookup x=some c->∀ v,s.heap.IsCell c v->h'.IsCell c v:=fun x c e v ⟨o,ho,hd⟩=>by
  have nch:c∉ch:=fun z=>(hch c z).2.2.1 x c e rfl
  by_cases hc:c∈X.fs
  ·obtain⟨sl,q⟩:=slot c o (I.cne x c e) hc nch ho (I.freeC x c e)
   exact⟨_,q,hd⟩
  ·exact⟨o,keep c o (I.cne x c e) hc nch ho (I.freeC x c e),hd⟩
 refine⟨I.ok,I.os,hg,⟨fun b o e n hb hx=>?_,fun b o e n hb hx=>?_,fun b o e n hx=>?_,fun b o e hx=>?_,fun b xs e=>tups b xs (I.base.tups b xs e),fun b o xs e=>frzs b o xs (I.base.frzs b o xs e),fun b ps e=>?_⟩,?_,fun x c e=>?_,?_,fun x c e=>?_,fun p hp=>?_,hok,I.len⟩
 ·exact keep b o (neL b o e) hb (neC b o e hx) (I.base.keep b o e n hb hx) (I.base.free b o e n hx)
 ·obtain⟨sl,e1⟩:=I.base.slot b o e n hb hx
  obtain⟨sl',e2⟩:=slot b _ (neL b o e) hb (neC b o e hx) e1 (I.base.free b o e n hx);exact⟨sl',e2⟩
 ·obtain⟨o',e1⟩:=I.base.there b o e hx
  exact free b o' (neC b o e hx) e1 (I.base.free b o e n hx)
 ·obtain⟨o',e1⟩:=I.base.there b o e hx
  exact there b o' (neC b o e hx) e1
 ·obtain⟨m1,e1⟩:=I.base.tbls b ps e
  obtain⟨m2,e2⟩:=tbls b _ e1;exact⟨m1++m2,by rw[e2,Array.append_assoc]⟩
 ·obtain⟨m,hn,hl⟩:=I.loc
  refine⟨m,ns m hn,fun i x v e1 e2 e3=>?_⟩;obtain⟨u,r,l⟩:=hl i x v e1 e2 e3;refine⟨u,r,?_⟩;rcases l with l | ⟨k,c,e,z⟩
  ·exact .inl l
  ·exact .inr ⟨k,c,e,cellK x c e _ z⟩
 ·obtain⟨v,z⟩:=I.cell x c e
  exact⟨v,cellK x c e v z⟩
 ·obtain⟨m,⟨o,_,_,ho,_⟩,_⟩:=I.loc
  exact free _ o (fun z=>(hch _ z).2.1 rfl) ho I.free
 ·obtain⟨v,o,ho,hd⟩:=I.cell x c e
  exact free c o (fun z=>(hch c z).2.2.1 x c e rfl) ho (I.freeC x c e)
 ·obtain⟨e,n,ne,nf,d⟩:=I.pin p hp
  have nch:p.1∉ch:=fun z=>(hch p.1 z).2.2.2 p hp rfl;exact⟨keep p.1 p.2 ne nf nch e n,free p.1 p.2 nch e n,ne,nf,d⟩
theorem Inv.un{t':Nat}(I:Inv X z0 σ H s)(u:Un X.fs [] H H' s.heap h')(hok:HOk X.prog X.w H' h'):Inv X z0 σ H' { s with heap:=h',toks:=t' }:=by
 obtain⟨m,⟨o,es,ep,ho,r⟩,_⟩:=id I.loc;obtain⟨sl,hL⟩:=u.any ho I.free (by simp)
 exact I.step (g':=s.gens) (d':=s.drawn) (ch:=[]) (fun _ z=>nomatch z) (fun b o _ hb _ e n=>u.keep b o e n hb (by simp)) (fun b o _ hb _ e n=>u.slot b o e n hb (by simp)) (fun b o _ e n=>u.free b o e n (by simp)) (fun b o _ e=>u.there b o e (by simp)) u.tups u.frzs u.tbls (fun m' hm=>by
  obtain⟨o',es',ep',ho',r'⟩:=hm;rw[ho] at ho';cases ho'
  exact⟨_,es',ep',hL,r'⟩) hok I.bare
theorem Inv.call{g':Array GenState}{t':Nat}{d':Drawn}{ch:List Addr}(I:Inv X z0 σ H s)(u:Un (frs X.stack) ch H H' s.heap h')(hok:HOk X.prog X.w H' h')(hg:AllBare g')
  (hch:∀ b∈ch,(b∈X.ex\/X.s₀.heap.objs.size<=b)/\b≠X.env.locals/\(∀ x c,X.env.cells.lookup x=some c->c≠b)/\∀ p∈X.pn++z0,p.1≠b) :
  Inv X z0 σ H' { s with heap:=h',gens:=g',drawn:=d',toks:=t' }:=by
 obtain⟨m,⟨o,es,ep,ho,r⟩,_⟩:=id I.loc;obtain⟨sl,hL⟩:=u.any ho I.free fun z=>(hch _ z).2.1 rfl
 exact I.step (ch:=ch) hch (fun b o hL hb hc e n=>u.keep b o e n (fun z=>(List.mem_cons.mp (I.stkSub b z)).elim hL hb) hc) (fun b o _ _ hc e n=>u.any e n hc) (fun b o hc e n=>u.free b o e n hc) (fun b o hc e=>u.there b o e hc) u.tups u.frzs u.tbls (fun m' hm=>by
  obtain⟨o',es',ep',ho',r'⟩:=hm;rw[ho] at ho';cases ho'
  exact⟨_,es',ep',hL,r'⟩) hok hg
theorem Inv.turned{t':Nat}{it:Addr}(I:Inv X z0 σ H s)(k:∀ b o,b≠it->s.heap.get? b=some o->h'.get? b=some o)(hn:H it=none)(hL:it≠X.env.locals)
  (h1:it∈X.ex\/X.s₀.heap.objs.size<=it) (h2:∀ x c,X.env.cells.lookup x=some c->c≠it) (h3:∀ p∈X.pn++z0,p.1≠it):Inv X z0 σ H { s with heap:=h',toks:=t' }:=by
 have nit:∀ b u,H b=some u->b≠it:=fun b u e z=>by rw[z,hn] at e;cases e
 refine I.step (g':=s.gens) (d':=s.drawn) (ch:=[it]) (fun b hb=>?_) (fun b o _ _ hc e _=>k b o (fun z=>hc (by simp[z])) e) (fun b o _ _ hc e _=>⟨o.slots,k b o (fun z=>hc (by simp[z])) e⟩) (fun _ _ _ _ n=>n)
  (fun b o hc e=>⟨o,k b o (fun z=>hc (by simp[z])) e⟩) (fun _ _ e=>e) (fun _ _ _ e=>e) (fun b ps e=>⟨#[],by rw[e];simp⟩) (fun m hm=>?_) (fun b u e=>?_) I.bare
 ·have e:b=it:=by simpa using hb
  subst e;exact⟨h1,hL,h2,h3⟩
 ·obtain⟨o,es,ep,ho,r⟩:=hm
  exact⟨o,es,ep,k _ o (B5z hL) ho,r⟩
 ·refine(I.hok b u e).stay (fun c v hc q=>k c v ?_ q) (fun _ q=>q) fun _ _ q=>q
  rcases hc with z | z
  ·rw[z];exact nit b u e
  ·exact nit c _ z
theorem Inv.tok(I:Inv X z0 σ H s)(t:Nat):Inv X z0 σ H { s with toks:=t }:=I.un (h':=s.heap) (t':=t) Un.refl I.hok
theorem Inv.kept{t':Nat}(I:Inv X z0 σ H s)(k:∀ b u,s.heap.get? b=some u->h'.get? b=some u):Inv X z0 σ H { s with heap:=h',toks:=t' }:=I.un (Un.kept k) (I.hok.kept k)
theorem Inv.laid{a:Addr}{o:HO}{t':Nat}(I:Inv X z0 σ H s)(k:∀ b u,s.heap.get? b=some u->h'.get? b=some u)(hp:s.heap.objs.size<=a)(new:cg X.prog X.w (upd H a o) h' a o) :
  Inv X z0 σ (upd H a o) { s with heap:=h',toks:=t' }:=I.un (Un.laid k hp (I.hok.fresh hp)) (I.hok.laid k hp new)
theorem Inv.write{x e:Addr}{o:HO}{t':Nat}(I:Inv X z0 σ H s)(mu:Mut (H x))(he:e=x\/H e=some (.own x))(k:∀ b u,b≠e->s.heap.get? b=some u->h'.get? b=some u)(heo:∃ u,h'.get? e=some u)
  (new:cg X.prog X.w (upd H x o) h' x o):Inv X z0 σ (upd H x o) { s with heap:=h',toks:=t' }:=I.un (Un.write mu he k heo) (I.hok.write mu he k heo new)
theorem Inv.pins_of{pins':List (Addr×Obj)}(I:Inv X z0 σ H s)(h:∀ p∈pins',s.heap.get? p.1=some p.2/\H p.1=none/\p.1≠X.env.locals/\p.1∉X.fs/\∀ v,p.2.data≠.cell v):Inv X pins' σ H s :=
 ⟨I.ok,I.os,I.bare,I.base,I.loc,I.cell,I.free,I.freeC,fun p hp=>(List.mem_append.mp hp).elim (fun z=>I.pin p (X0z _ z)) (h p),I.hok,I.len⟩
theorem lE{N:List Str}(hN:N.Nodup){i j:Nat}{x:Str}(a:N[i]?=some x)(b:N[j]?=some x):i=j:=by
 obtain⟨h1,e1⟩:=List.getElem?_eq_some_iff.mp a;obtain⟨h2,e2⟩:=List.getElem?_eq_some_iff.mp b;exact(List.getElem_inj hN).mp (e1.trans e2.symm)
theorem mU{M:Model}{A:Around}{E:Value->Shared->Prop}{i:Nat}{x:Str}{v:V}{u:Value}{Q:Unit->Shared->Prop}(I:Inv X z0 σ H s)(hN:X.N.Nodup)(hi:X.N[i]?=some x)(hx:Loc X.env.scope x)(r:RelV v u)
  (h:∀ s',Inv X z0 (σ.set i (some v)) H s'->(∃ a,Heap.SameBut a s.heap s'.heap/\(a=X.env.locals\/X.env.cells.lookup x=some a))->Q () s') (hf:X.fn x=true\/X.env.scope.names.lookup x=some .local:=by first | exact .inl rfl | exact .inr rfl | assumption):wpAny M A (storeName X.env x u) Q E s:=by
 obtain⟨m,hn,hl⟩:=id I.loc
 have hcls:(X.env.scope.kind==.class||(X.env.scope.kind==.module&&X.env.locals !=X.env.globals))=false:=by rw[I.ok.kind];rfl
 have hiσ:i<σ.length:=by rw[I.len];exact(List.getElem?_eq_some_iff.mp hi).1
 have cne:=I.cne
 have tracked:∀ {a:Addr} {h':Heap},(∃ o,s.heap.get? a=some o/\H a=none)->Heap.SameBut a s.heap h'->HOk X.prog X.w H h':=fun {a h'} ha hs b ob e=>by
  obtain⟨_,_,hfree⟩:=ha;refine(I.hok b ob e).stay (fun c w' hc q=>(hs.2 c ?_).trans q) (fun _ q=>q) fun _ _ q=>q;rintro rfl;rcases hc with rfl | hc
  ·rw[hfree] at e;cases e
  ·rw[hfree] at hc;cases hc
 rcases hx with hk | hk
 ·refine wpAny_storeName_local hk hn (fun h' hn' hs=>?_) hcls
  obtain⟨oL,_,_,hoL,_⟩:=id hn;refine h _ ⟨I.ok,I.os,I.bare,⟨fun b o e n hb hx=>?_,fun b o e n hb hx=>?_,I.base.free,fun b o e hx=>?_,I.base.tups,I.base.frzs,I.base.tbls⟩,⟨_,hn',fun j y v' e1 e2 e3=>?_⟩,fun y c e=>?_,I.free,I.freeC,fun p hp=>?_,tracked ⟨oL,hoL,I.free⟩ hs,by simpa using I.len⟩ ⟨_,hs,.inl rfl⟩
  ·exact(hs.2 b (F4z (M1z (E4z e) I.ok.above))).trans (I.base.keep b o e n hb hx)
  ·obtain⟨sl,e1⟩:=I.base.slot b o e n hb hx
   exact⟨sl,(hs.2 b (F4z (M1z (E4z e) I.ok.above))).trans e1⟩
  ·obtain⟨o',e1⟩:=I.base.there b o e hx
   exact⟨o',(hs.2 b (F4z (M1z (E4z e) I.ok.above))).trans e1⟩
  ·by_cases hj:j=i
   ·subst hj
    rw[hi] at e1;cases e1
    rw[List.getElem?_set_self hiσ] at e2;cases e2;exact⟨u,r,.inl ⟨hk,by simp⟩⟩
   ·rw[List.getElem?_set_ne (B5z hj)] at e2
    obtain⟨u',r',q⟩:=hl j y v' e1 e2 e3;refine⟨u',r',?_⟩;rcases q with⟨k,e⟩ | ⟨k,c,e,z⟩
    ·refine .inl ⟨k,?_⟩
     have:y≠x:=fun e=>hj (lE hN e1 (e▸hi));simp[this,e]
    ·exact .inr ⟨k,c,e,z.sameBut hs (cne y c e)⟩
  ·obtain⟨w',z⟩:=I.cell y c e
   exact⟨w',z.sameBut hs (cne y c e)⟩
  ·obtain⟨e,n,ne,nf,d⟩:=I.pin p hp
   exact⟨(hs.2 p.1 ne).trans e,n,ne,nf,d⟩
 ·have hfn:X.fn x=true:=by
   rcases hf with z | z
   ·exact z
   ·rw[z] at hk;cases hk
  obtain⟨c,hc⟩:=I.ok.has x (.inl hk);obtain⟨w',z⟩:=I.cell x c hc;refine wpAny_storeName_cell I.ok.kind hk hc z (fun h' hc' hs=>?_);obtain⟨oc,hoc,hocd⟩:=id z;refine h { s with heap:=h' } ⟨I.ok,I.os,I.bare,⟨fun b o e n hb hx=>?_,fun b o e n hb hx=>?_,I.base.free,fun b o e hx=>?_,I.base.tups,I.base.frzs,I.base.tbls⟩,⟨m,hn.sameBut hs (B5z (cne x c hc)),fun j y v' e1 e2 e3=>?_⟩,fun y c' e=>?_,I.free,I.freeC,fun p hp=>?_,tracked ⟨oc,hoc,I.freeC x c hc⟩ hs,by simpa using I.len⟩ ⟨c,hs,.inr hc⟩
  ·exact(hs.2 b (F4z (M1z (E4z e) (I.ok.cab x c hfn hc)))).trans (I.base.keep b o e n hb hx)
  ·obtain⟨sl,e1⟩:=I.base.slot b o e n hb hx
   exact⟨sl,(hs.2 b (F4z (M1z (E4z e) (I.ok.cab x c hfn hc)))).trans e1⟩
  ·obtain⟨o',e1⟩:=I.base.there b o e hx
   exact⟨o',(hs.2 b (F4z (M1z (E4z e) (I.ok.cab x c hfn hc)))).trans e1⟩
  ·by_cases hj:j=i
   ·subst hj
    rw[hi] at e1;cases e1
    rw[List.getElem?_set_self hiσ] at e2;cases e2;exact⟨u,r,.inr ⟨.inl hk,c,hc,hc'⟩⟩
   ·rw[List.getElem?_set_ne (B5z hj)] at e2
    obtain⟨u',r',q⟩:=hl j y v' e1 e2 e3;refine⟨u',r',?_⟩;rcases q with q | ⟨k,c',e,z'⟩
    ·exact .inl q
    ·refine .inr ⟨k,c',e,z'.sameBut hs ?_⟩
     rintro rfl;exact hj (lE hN e1 (I.ok.inj _ _ _ e hc▸hi))
  ·by_cases hcc:c'=c
   ·subst hcc;exact⟨_,hc'⟩
   ·obtain⟨w2,z2⟩:=I.cell y c' e
    exact⟨w2,z2.sameBut hs hcc⟩
  ·obtain⟨e,n,ne,nf,d⟩:=I.pin p hp
   refine⟨(hs.2 p.1 ?_).trans e,n,ne,nf,d⟩;intro q;rw[q,hoc] at e;have q':oc=p.2:=B3z e;exact d w' (by rw[<- q'];exact hocd)
theorem fV{M:Model}{A:Around}{E:Value->Shared->Prop}{i:Nat}{x:Str}{v:V}{u:Value}{Q:Unit->Shared->Prop}(I:Inv X z0 σ H s)(hN:X.N.Nodup)(hi:X.N[i]?=some x)(hx:Loc X.env.scope x)(r:RelV v u)
  (h:∀ s',Inv X z0 (σ.set i (some v)) H s'->Q () s') (hf:X.fn x=true\/X.env.scope.names.lookup x=some .local:=by first | exact .inl rfl | exact .inr rfl | assumption):wpAny M A (storeName X.env x u) Q E s :=
 mU I hN hi hx r (fun s' I' _=>h s' I') hf
theorem Inv.call'{s':Shared}{ch:List Addr}(I:Inv X z0 σ H s)(ho:s'.os=s.os)(u:Un (frs X.stack) ch H H' s.heap s'.heap)(hok:HOk X.prog X.w H' s'.heap)(hg:AllBare s'.gens)
  (hch:∀ b∈ch,(b∈X.ex\/X.s₀.heap.objs.size<=b)/\b≠X.env.locals/\(∀ x c,X.env.cells.lookup x=some c->c≠b)/\∀ p∈X.pn++z0,p.1≠b):Inv X z0 σ H' s':=by
 obtain⟨h',g',d',t',o'⟩:=s';have e:o'=s.os:=ho;subst e;exact I.call (g':=g') (t':=t') (d':=d') u hok hg hch
end
abbrev XK:=Value->Option Addr->Hp->Prop
abbrev St:=List (Option V)
abbrev VK:=V->Hp->Prop
abbrev TE:=St->Hp->VK->Prop
abbrev TT:=St->Hp->(Bool->Hp->Prop)->Prop
abbrev TA:=St->Hp->(List V->Hp->Prop)->Prop
structure Ends where
 nx:St->Hp->Prop
 rt:VK
 bk:St->Hp->Prop:=fun _ _=>False
 ct:St->Hp->Prop:=fun _ _=>False
abbrev TS:=Ends->St->Hp->Prop
def EP(X:Cx)(z0:List (Addr×Obj))(σ:St)(Q:VK)(u:Value)(s':Shared):Prop:=∃ v H',Inv X z0 σ H' s'/\RelV v u/\Q v H'
def TP(X:Cx)(z0:List (Addr×Obj))(σ:St)(Q:Bool->Hp->Prop)(b:Bool)(s':Shared):Prop:=∃ H',Inv X z0 σ H' s'/\Q b H'
def AP(X:Cx)(z0:List (Addr×Obj))(σ:St)(Q:List V->Hp->Prop)(us:List Value)(s':Shared):Prop:=∃ vs H',Inv X z0 σ H' s'/\Vals vs us/\Q vs H'
def SP(X:Cx)(z0:List (Addr×Obj))(D:Ends)(f:Flow)(s':Shared):Prop :=
 match f with
 | .next=>∃ σ' H',Inv X z0 σ' H' s'/\D.nx σ' H'
 | .brk=>∃ σ' H',Inv X z0 σ' H' s'/\D.bk σ' H'
 | .cont=>∃ σ' H',Inv X z0 σ' H' s'/\D.ct σ' H'
 | .ret u=>∃ v σ' H',Inv X z0 σ' H' s'/\RelV v u/\D.rt v H'
def PE(X:Cx)(e:Expr)(t:TE):Prop :=
 ∀ (z0:List (Addr×Obj)) (s:Shared) (σ:St) (H:Hp) (Q:VK),Inv X z0 σ H s->t σ H Q->wpAny (model X.prog X.w) X.A (eval e X.env) (EP X z0 σ Q) X.xe s
def PT(X:Cx)(e:Expr)(t:TT):Prop :=
 ∀ (z0:List (Addr×Obj)) (s:Shared) (σ:St) (H:Hp) (Q:Bool->Hp->Prop),Inv X z0 σ H s->t σ H Q->wpAny (model X.prog X.w) X.A (isTrue e X.env (eval e X.env)) (TP X z0 σ Q) X.xe s
def PW(X:Cx)(e:Expr)(t:TT):Prop :=
 ∀ (whole:Sem Value) (z0:List (Addr×Obj)) (s:Shared) (σ:St) (H:Hp) (Q:Bool->Hp->Prop),Inv X z0 σ H s->t σ H Q->wpAny (model X.prog X.w) X.A (isTrue e X.env whole) (TP X z0 σ Q) X.xe s
theorem PW.pt{X:Cx}{e:Expr}{t:TT}(h:PW X e t):PT X e t:=h _
def PA(X:Cx)(es:List Expr)(t:TA):Prop :=
 ∀ (pos:Pos) (z0:List (Addr×Obj)) (s:Shared) (σ:St) (H:Hp) (Q:List V->Hp->Prop),Inv X z0 σ H s->t σ H Q->wpAny (model X.prog X.w) X.A (spliced (backTo pos (starEach es X.env))) (AP X z0 σ Q) X.xe s
def PS(X:Cx)(st:Stmt)(t:TS):Prop :=
 ∀ (z0:List (Addr×Obj)) (s:Shared) (σ:St) (H:Hp) (D:Ends),Inv X z0 σ H s->t D σ H->wpAny (model X.prog X.w) X.A (exec st X.env) (SP X z0 D) X.xe s
def PSs(X:Cx)(st:List Stmt)(t:TS):Prop :=
 ∀ (z0:List (Addr×Obj)) (s:Shared) (σ:St) (H:Hp) (D:Ends),Inv X z0 σ H s->t D σ H->wpAny (model X.prog X.w) X.A (execs st X.env) (SP X z0 D) X.xe s
theorem thn{α:Type}{t:Sem α}{Q Q':α->Shared->Prop}{M:Model}{A:Around}{E:Value->Shared->Prop}{s:Shared}(h:wpAny M A t Q E s)(hQ:∀ a s,Q a s->Q' a s):wpAny M A t Q' E s:=R4z h hQ fun _ _ x=>x
section
variable {X:Cx}
theorem bin{a b:Expr}{ta tb:TE}(ha:PE X a ta)(hb:PE X b tb){z0:List (Addr×Obj)}{s:Shared}{σ:St}{H:Hp}{R:V->V->Hp->Prop}(I:Inv X z0 σ H s)(h:ta σ H fun x H1=>tb σ H1 fun y H2=>R x y H2)
  {α:Type} {Q:α->Shared->Prop} {f:Value->Value->Sem α}
  (hf:∀ v u s2 x y H2,Inv X z0 σ H2 s2->RelV x v->RelV y u->R x y H2->wpAny (model X.prog X.w) X.A (f v u) Q X.xe s2) :
  wpAny (model X.prog X.w) X.A (eval a X.env) (fun v s₁=>wpAny (model X.prog X.w) X.A (eval b X.env) (fun u s₂=>wpAny (model X.prog X.w) X.A (f v u) Q X.xe s₂) X.xe s₁) X.xe s:=by
 refine thn (ha z0 s σ H _ I h) fun v s1 ⟨x,H1,I1,r1,q1⟩=>?_;refine thn (hb z0 s1 σ H1 _ I1 q1) fun u s2 ⟨y,H2,I2,r2,q2⟩=>?_;exact hf v u s2 x y H2 I2 r1 r2 q2
def G3(i:Nat):TE:=fun σ H Q=>∃ v,σ[i]?=some (some v)/\Q v H
def tC(v:V):TE:=fun _ H Q=>Q v H
theorem eO{i:Nat}{x:Str}{pos:Pos}(hN:X.N[i]?=some x)(hv:Vis X.env.scope x)(hd:(x==("__debug__":Str))=false:=by decide)(hcd:(x==("__classdict__":Str))=false:=by decide):PE X (.Name x pos) (G3 i):=by
 intro z0 s σ H Q I h;obtain⟨v,e,h⟩:=h;obtain⟨m,hn,hl⟩:=I.loc;obtain⟨u,r,l⟩:=hl i x v hN e hv;have fin:EP X z0 σ Q u s:=⟨v,H,I,r,h⟩;rcases l with⟨hk,hm⟩ | ⟨hk,c,hc,hcell⟩
 ·exact wpAny_Name (wpAny_loadName_local I.ok.kind hk hn hm fin) hd
 ·rcases hk with hk | hk
  ·exact wpAny_Name (wpAny_loadName_cell I.ok.kind hk hc hcell fin) hd
  ·exact wpAny_Name (wpAny_loadName_free I.ok.kind hk hc hcell fin hcd) hd
theorem jU{i j pos}:PE X (.Constant (.int i) j pos) (tC (.int i)):=fun _ _ _ H _ I h=>wpAny_Constant_int ⟨.int i,H,I.tok _,⟨_,rfl⟩,h⟩
theorem KN{b j pos}:PE X (.Constant (.bool b) j pos) (tC (.bl b)):=fun _ _ _ H _ I h=>Constant_bool ⟨.bl b,H,I,rfl,h⟩
theorem Bg{j pos}:PE X (.Constant .none j pos) (tC .non):=fun _ _ _ H _ I h=>Constant_none ⟨.non,H,I,rfl,h⟩
theorem jg{x j pos}:PE X (.Constant (.str x) j pos) (tC (.str x)):=fun _ _ _ H _ I h=>Calls.Constant_str ⟨.str x,H,I.tok _,⟨_,rfl⟩,h⟩
def Gl(X:Cx)(x:Str):Prop:=X.env.kindOf x=some .globalImplicit
theorem eX{E:Value->Shared->Prop}{z0:List (Addr×Obj)}{s:Shared}{σ:St}{H:Hp}{x:Str}{u:Value}{pos:Pos}{Q:Value->Shared->Prop}(I:Inv X z0 σ H s)(hg:Gl X x)(hm:X.mg x=some u)(h:Q u s)
  (hd:(x==("__debug__":Str))=false:=by decide):wpAny (model X.prog X.w) X.A (eval (.Name x pos) X.env) Q E s :=
 Calls.Name_function_global I.ok.kind hg (Calls.loadGlobal_global (by rw[I.ok.glob];exact I.mod.glob.keeps I.bk) hm h) hd
theorem d8{E:Value->Shared->Prop}{z0:List (Addr×Obj)}{s:Shared}{σ:St}{H:Hp}{x:Str}{u:Value}{pos:Pos}{Q:Value->Shared->Prop}(I:Inv X z0 σ H s)(hg:Gl X x)(hm:X.mg x=none)(hv:bootBuiltins x=some u)(h:Q u s)
  (hn:x≠"__name__":=by decide) (hd:(x==("__debug__":Str))=false:=by decide):wpAny (model X.prog X.w) X.A (eval (.Name x pos) X.env) Q E s:=by
 obtain⟨mb,h1,h2⟩:=I.mod.blt;exact Calls.Name_function_global I.ok.kind hg (Calls.loadGlobal_builtin (by rw[I.ok.glob];exact I.mod.glob.keeps I.bk) hm (by rw[I.ok.blt];exact h1.keeps I.bk) ((h2 x hn).trans hv) h) hd
theorem jh{x:Str}{v:V}{u:Value}{pos:Pos}(hg:Gl X x)(hm:X.mg x=some u)(r:RelV v u)(hd:(x==("__debug__":Str))=false:=by decide):PE X (.Name x pos) (tC v) :=
 fun _ _ _ H _ I h=>eX I hg hm ⟨v,H,I,r,h⟩ hd
theorem oX{x:Str}{v:V}{u:Value}{pos:Pos}(hg:Gl X x)(hm:X.mg x=none)(hv:bootBuiltins x=some u)(r:RelV v u)(hn:x≠"__name__":=by decide)(hd:(x==("__debug__":Str))=false:=by decide):PE X (.Name x pos) (tC v) :=
 fun _ _ _ H _ I h=>d8 I hg hm hv ⟨v,H,I,r,h⟩ hn hd
def t2I(ta tb:TE)(k:Int->Int->Hp->Prop):St->Hp->Prop:=fun σ H=>ta σ H fun x H1=>tb σ H1 fun y H2=>∃ i j,x=.int i/\y=.int j/\k i j H2
variable {a b:Expr} {ta tb:TE} {pos:Pos}
def PC(X:Cx)(op:CmpOp)(a b:Expr)(t:TE):Prop :=
  ∀ (z0 : List (Addr × Obj)) (s : Shared) (σ : St) (H : Hp) (Q : VK), Inv X z0 σ H s -> t σ H Q ->
    wpAny (model X.prog X.w) X.A (eval a X.env) (fun v s₁=>wpAny (model X.prog X.w) X.A (eval b X.env) (fun u s₂=>wpAny (model X.prog X.w) X.A (compareOp op v u) (EP X z0 σ Q) X.xe s₂) X.xe s₁) X.xe s
theorem qz(b:Expr){op:CmpOp}(h:op≠.In)(h2:op≠.NotIn):behindInMarks op b=false:=by
 have e1:(op==CmpOp.In)=false:=by cases op<;>first | rfl | exact absurd rfl h
 have e2:(op==CmpOp.NotIn)=false:=by cases op<;>first | rfl | exact absurd rfl h2
 cases b<;>simp[behindInMarks,e1,e2]
def Ri(p:Int->Int->Bool)(ta tb:TE):TE:=fun σ H Q=>t2I ta tb (fun i j H2=>Q (.bl (p i j)) H2) σ H
abbrev UJ:TE->TE->TE:=Ri fun i j=>decide (i=j)
theorem Ia{op:CmpOp}{p:Int->Int->Bool}(ha:PE X a ta)(hb:PE X b tb)
  (rule:∀ (i j:Int) (t u:Tok) (Q:Value->Shared->Prop) (s:Shared),Q (.bool (p i j)) s->wpAny (model X.prog X.w) X.A (compareOp op (.int i t) (.int j u)) Q X.xe s):PC X op a b (Ri p ta tb):=by
 intro z0 s σ H Q I h;refine bin ha hb I h fun v u s2 x y H2 I2 rx ry q=>?_;obtain⟨i,j,rfl,rfl,q⟩:=q;obtain⟨t,rfl⟩:=rx;obtain⟨t',rfl⟩:=ry;exact rule i j t t' _ s2 ⟨.bl _,H2,I2,rfl,q⟩
theorem Ib(ha:PE X a ta)(hb:PE X b tb):PC X .Eq a b (UJ ta tb):=Ia ha hb fun _ _ _ _ _ _ h=>eq_int (by rw[Bool.beq_eq_decide_eq];exact h)
def Ux(ta:TE):TE:=fun σ H Q=>ta σ H fun x H1=>Q (.bl (decide (x=.non))) H1
theorem RelV.none_iff{x:V}{v:Value}(r:RelV x v):(v==Value.none)=decide (x=.non):=by
 cases x with
 | non=>cases r;rfl
 | bl _=>cases r;rfl
 | int _=>obtain⟨t,rfl⟩:=r;rfl
 | str _=>obtain⟨t,rfl⟩:=r;rfl
 | byt _=>obtain⟨t,rfl⟩:=r;rfl
 | flt _=>obtain⟨t,rfl⟩:=r;rfl
 | ref _=>cases r;rfl
 | ty _=>cases r;rfl
theorem HY{j pos'}(ha:PE X a ta):PC X .Is a (.Constant .none j pos') (Ux ta):=by
 intro z0 s σ H Q I h;refine thn (ha z0 s σ H _ I h) fun v s1 ⟨x,H1,I1,r1,q1⟩=>?_;exact Constant_none (is_none_gen ⟨.bl _,H1,I1,by rw[r1.none_iff];rfl,q1⟩)
def tB(t:TE):TT:=fun σ H Q=>t σ H fun x H1=>∃ c,x=.bl c/\Q c H1
theorem HW{op:CmpOp}{t:TE}(h:PC X op a b t)(h1:behindInMarks op b=false:=by first | exact qz _ (by decide) (by decide) | rfl):PE X (.Compare a [op] [b] pos) t:=fun z0 s σ H Q I hw=>wpAny_Compare1 (h z0 s σ H Q I hw) h1
theorem uY{op:CmpOp}{t:TE}(h:PC X op a b t)(h1:behindInMarks op b=false:=by first | exact qz _ (by decide) (by decide) | rfl):PT X (.Compare a [op] [b] pos) (tB t):=by
 intro z0 s σ H Q I hw;refine wpAny_isTrue_Compare1 (thn (h z0 s σ H _ I hw) fun v s1 h1=>thn h1 fun u s2 h2=>thn h2 fun c s3 ⟨x,H1,I1,r1,q1⟩=>?_) h1;obtain⟨d,rfl,q⟩:=q1;cases r1;exact A2z ⟨H1,I1,q⟩
theorem qw{e:Expr}{t:TE}(h:PE X e t)(he:∀ whole,isTrue e X.env whole=(do let v <- whole;standAt e.pos;holding [v] (truthy v)):=by intro _;rfl):PT X e (tB t):=by
 intro z0 s σ H Q I hw;refine isTrue_plain (thn (h z0 s σ H _ I hw) fun v s1 ⟨x,H1,I1,r1,q1⟩=>?_) (he _);obtain⟨d,rfl,q⟩:=q1;cases r1;exact A2z ⟨H1,I1,q⟩
variable {tA tB':TT} {rest:List Expr}
def U3(t u:TT):TT:=fun σ H Q=>t σ H fun c H1=>if c=true then u σ H1 Q else Q false H1
def tOr(t u:TT):TT:=fun σ H Q=>t σ H fun c H1=>if c=true then Q true H1 else u σ H1 Q
def Uv(t:TT):TT:=fun σ H Q=>t σ H fun c H1=>Q (!c) H1
theorem Dc(ha:PT X a tA):PW X (.BoolOp .And [a] pos) tA:=by
 intro wh z0 s σ H Q I h;refine isTrue_and (thn (ha z0 s σ H Q I h) fun c s1 e=>?_)
 cases c with
 | true=>exact isTrue_and_nil e
 | false=>exact e
theorem Ba(ha:PT X a tA):PW X (.BoolOp .Or [a] pos) tA:=by
 intro wh z0 s σ H Q I h;refine isTrue_or (thn (ha z0 s σ H Q I h) fun c s1 e=>?_)
 cases c with
 | false=>exact isTrue_or_nil e
 | true=>exact e
theorem Bb(ha:PT X a tA)(hb:PW X (.BoolOp .And (b::rest) pos) tB'):PW X (.BoolOp .And (a::b::rest) pos) (U3 tA tB'):=by
 intro wh z0 s σ H Q I h;refine isTrue_and (thn (ha z0 s σ H _ I h) fun c s1 ⟨H1,I1,q1⟩=>?_)
 cases c with
 | true=>exact hb wh z0 s1 σ H1 Q I1 q1
 | false=>exact⟨H1,I1,q1⟩
theorem CZ(ha:PT X a tA)(hb:PW X (.BoolOp .Or (b::rest) pos) tB'):PW X (.BoolOp .Or (a::b::rest) pos) (tOr tA tB'):=by
 intro wh z0 s σ H Q I h;refine isTrue_or (thn (ha z0 s σ H _ I h) fun c s1 ⟨H1,I1,q1⟩=>?_)
 cases c with
 | true=>exact⟨H1,I1,q1⟩
 | false=>exact hb wh z0 s1 σ H1 Q I1 q1
theorem qx(ha:PT X a tA):PT X (.UnaryOp .Not a pos) (Uv tA):=by
 intro z0 s σ H Q I h;exact isTrue_not (ha z0 s σ H (fun c H1=>Q (!c) H1) I h)
def Kh(ta tb:TE):TE:=fun σ H Q=>ta σ H fun x H1=>∃ c,x=.bl c/\if c=true then tb σ H1 Q else Q (.bl false) H1
def Uu(ta tb:TE):TE:=fun σ H Q=>ta σ H fun x H1=>∃ c,x=.bl c/\if c=true then Q (.bl true) H1 else tb σ H1 Q
def J9(ta:TE):TE:=fun σ H Q=>ta σ H fun x H1=>∃ c,x=.bl c/\Q (.bl (!c)) H1
theorem Bf{op}{t:TE}(h:PE X a t):PE X (.BoolOp op [a] pos) t:=fun z0 s σ H Q I hw=>BoolOp_one (h z0 s σ H Q I hw)
theorem vh(ha:PE X a ta)(hb:PE X (.BoolOp .And (b::rest) pos) tb):PE X (.BoolOp .And (a::b::rest) pos) (Kh ta tb):=by
 intro z0 s σ H Q I h;refine BoolOp_and (thn (ha z0 s σ H _ I h) fun v s1 ⟨x,H1,I1,r1,q1⟩=>?_);obtain⟨c,rfl,q1⟩:=q1;cases r1;refine A2z ?_
 cases c with
 | true=>exact hb z0 s1 σ H1 Q I1 q1
 | false=>exact⟨.bl false,H1,I1,rfl,q1⟩
theorem HJ(ha:PE X a ta)(hb:PE X (.BoolOp .Or (b::rest) pos) tb):PE X (.BoolOp .Or (a::b::rest) pos) (Uu ta tb):=by
 intro z0 s σ H Q I h;refine BoolOp_or (thn (ha z0 s σ H _ I h) fun v s1 ⟨x,H1,I1,r1,q1⟩=>?_);obtain⟨c,rfl,q1⟩:=q1;cases r1;refine A2z ?_
 cases c with
 | false=>exact hb z0 s1 σ H1 Q I1 q1
 | true=>exact⟨.bl true,H1,I1,rfl,q1⟩
theorem HN(ha:PE X a ta):PE X (.UnaryOp .Not a pos) (J9 ta):=by
 intro z0 s σ H Q I h;refine UnaryOp_ (thn (ha z0 s σ H _ I h) fun v s1 ⟨x,H1,I1,r1,q1⟩=>?_);obtain⟨c,rfl,q1⟩:=q1;cases r1;exact not_of (A2z ⟨.bl (!c),H1,I1,rfl,q1⟩)
def tIf(t:TT)(ta tb:TE):TE:=fun σ H Q=>t σ H fun c H1=>if c=true then ta σ H1 Q else tb σ H1 Q
theorem lA{c:Expr}(hc:PT X c tA)(ha:PE X a ta)(hb:PE X b tb):PE X (.IfExp c a b pos) (tIf tA ta tb):=by
 intro z0 s σ H Q I h;refine wpAny_IfExp (thn (hc z0 s σ H _ I h) fun d s1 ⟨H1,I1,q1⟩=>?_)
 cases d with
 | true=>exact ha z0 s1 σ H1 Q I1 q1
 | false=>exact hb z0 s1 σ H1 Q I1 q1
end
def SqL(K:Zf)(H:Hp)(a:Addr)(xs:List V):Prop :=
 Rd H a (.lst xs) \/
  ∃ (o:Obj) (its:Array Value) (n:Nat),K.lookup a=some o/\o.cls=.type "list"/\o.dict=none/\o.data=.seq its n/\its.size<=sizeLine/\Vals xs its.toList
def SqT(K:Zf)(H:Hp)(a:Addr)(xs:List V):Prop :=
 Rd H a (.tup xs) \/
  ∃ (o:Obj) (its:Array Value) (n:Nat),K.lookup a=some o/\o.cls=.type "tuple"/\o.data=.seq its n/\its.size<=sizeLine/\Vals xs its.toList
def V2:Value->Option V
 | .none=>some .non
 | .bool b=>some (.bl b)
 | .int i _=>some (.int i)
 | .str x _=>some (.str x)
 | .bytes b _=>some (.byt b)
 | .float b _=>some (.flt b)
 | .ref a=>some (.ref a)
 | .type n=>some (.ty n)
 | _=>none
theorem RelV.abs{x:V}{u:Value}(r:RelV x u):V2 u=some x:=by
 cases x with
 | non=>cases r;rfl
 | bl _=>cases r;rfl
 | int _=>obtain⟨t,rfl⟩:=r;rfl
 | str _=>obtain⟨t,rfl⟩:=r;rfl
 | byt _=>obtain⟨t,rfl⟩:=r;rfl
 | flt _=>obtain⟨t,rfl⟩:=r;rfl
 | ref _=>cases r;rfl
 | ty _=>cases r;rfl
theorem RelV.inj{x y:V}{u:Value}(r:RelV x u)(q:RelV y u):x=y:=B3z (r.abs.symm.trans q.abs)
theorem Vals.inj:∀ {xs ys:List V} {us:List Value},Vals xs us->Vals ys us->xs=ys
 | _,_,_,.nil,.nil=>rfl
 | _,_,_,.cons r t,.cons r' t'=>by rw[r.inj r',Vals.inj t t']
section
variable {X:Cx} {z0:List (Addr×Obj)} {σ:St} {H:Hp} {s:Shared} {a:Addr} {xs ys:List V}
theorem SqL.of{K:Zf}(h:H a=some (.lst xs)):SqL K H a xs:=.inl (.inl h)
theorem SqT.of{K:Zf}(h:H a=some (.tup xs)):SqT K H a xs:=.inl (.inl h)
theorem Inv.list(I:Inv X z0 σ H s)(h:SqL X.K H a xs):∃ its:List Value,Vals xs its/\PlainL s.heap a its.toArray/\xs.length<=sizeLine:=by
 rcases h with h | ⟨o,its,n,hk,hc,hd,hs,hz,r⟩
 ·obtain⟨z,its,n,r,e⟩:=h.ok I.hok
  exact⟨its,r,⟨_,n,e,rfl,rfl,rfl⟩,z⟩
 ·refine⟨its.toList,r,⟨o,n,I.kIn a o hk,hc,hd,by simpa using hs⟩,?_⟩
  have e:=r.length;simp only[F1z] at e;omega
theorem Inv.tuple(I:Inv X z0 σ H s)(h:SqT X.K H a xs):∃ its:List Value,Vals xs its/\IsTup s.heap a its.toArray/\xs.length<=sizeLine:=by
 rcases h with h | ⟨o,its,n,hk,hc,hs,hz,r⟩
 ·obtain⟨z,its,r,p⟩:=h.ok I.hok
  exact⟨its,r,p,z⟩
 ·refine⟨its.toList,r,⟨o,I.kIn a o hk,hc,n,by simpa using hs⟩,?_⟩
  have e:=r.length;simp only[F1z] at e;omega
theorem Inv.list_inj(I:Inv X z0 σ H s)(h:SqL X.K H a xs)(h':SqL X.K H a ys):xs=ys:=by
 obtain⟨its,r,⟨o,n,e,_,_,d⟩,_⟩:=I.list h;obtain⟨its',r',⟨o',n',e',_,_,d'⟩,_⟩:=I.list h';rw[e] at e';cases e';rw[d] at d';injection d' with d1 _
 have:its=its':=by simpa using congrArg Array.toList d1
 subst this;exact r.inj r'
theorem Inv.tuple_inj(I:Inv X z0 σ H s)(h:SqT X.K H a xs)(h':SqT X.K H a ys):xs=ys:=by
 obtain⟨its,r,⟨o,e,_,n,d⟩,_⟩:=I.tuple h;obtain⟨its',r',⟨o',e',_,n',d'⟩,_⟩:=I.tuple h';rw[e] at e';cases e';rw[d] at d';injection d' with d1 _
 have:its=its':=by simpa using congrArg Array.toList d1
 subst this;exact r.inj r'
end
abbrev Cx.wish(X:Cx)(E:Value->Shared->Prop):Cx:={ X with xe:=E }
abbrev Cx.nox(X:Cx):Cx:=X.wish fun _ _=>False
theorem Cx.Ok.wish{X:Cx}(ok:X.Ok)(E:Value->Shared->Prop):(X.wish E).Ok :=
 ⟨ok.mod,ok.kind,ok.glob,ok.blt,ok.above,ok.inj,ok.has,ok.cab,ok.hd,ok.frames,ok.stk,ok.exf,ok.bs,ok.bsz,ok.noex,ok.exfs,ok.funs,ok.frf⟩
theorem Cx.Ok.unwish{X:Cx}{E:Value->Shared->Prop}(ok:(X.wish E).Ok):X.Ok :=
 ⟨ok.mod,ok.kind,ok.glob,ok.blt,ok.above,ok.inj,ok.has,ok.cab,ok.hd,ok.frames,ok.stk,ok.exf,ok.bs,ok.bsz,ok.noex,ok.exfs,ok.funs,ok.frf⟩
section
variable {X:Cx} {z0:List (Addr×Obj)} {σ:St} {H:Hp} {s:Shared} {E:Value->Shared->Prop}
theorem Inv.wish(I:Inv X z0 σ H s)(E:Value->Shared->Prop):Inv (X.wish E) z0 σ H s:=⟨I.ok.wish E,I.os,I.bare,I.base,I.loc,I.cell,I.free,I.freeC,I.pin,I.hok,I.len⟩
theorem Inv.unwish(I:Inv (X.wish E) z0 σ H s):Inv X z0 σ H s:=⟨I.ok.unwish,I.os,I.bare,I.base,I.loc,I.cell,I.free,I.freeC,I.pin,I.hok,I.len⟩
theorem SP.unwish{D:Ends}{f:Flow}{s':Shared}(h:SP (X.wish E) z0 D f s'):SP X z0 D f s':=by
 cases f with
 | next=>obtain⟨σ',H',I,q⟩:=h;exact⟨σ',H',I.unwish,q⟩
 | brk=>obtain⟨σ',H',I,q⟩:=h;exact⟨σ',H',I.unwish,q⟩
 | cont=>obtain⟨σ',H',I,q⟩:=h;exact⟨σ',H',I.unwish,q⟩
 | ret u=>obtain⟨v,σ',H',I,r,q⟩:=h;exact⟨v,σ',H',I.unwish,r,q⟩
end
section
variable {X:Cx} {st:Stmt} {rest:List Stmt} {t u:TS} {e:Expr} {te:TE} {pos:Pos}
def G6:TS:=fun D σ H=>D.nx σ H
def Ur(t u:TS):TS:=fun D σ H=>t { D with nx:=u D } σ H
theorem fM:PSs X [] G6:=fun _ _ σ H _ I h=>wpAny_execs_nil ⟨σ,H,I,h⟩
theorem aL(h1:PS X st t)(h2:PSs X rest u):PSs X (st::rest) (Ur t u):=by
 intro z0 s σ H D I h;refine wpAny_execs_cons (thn (h1 z0 s σ H { D with nx:=u D } I h) fun f s1 q=>?_)
 cases f with
 | next =>
  obtain⟨σ',H',I',q⟩:=q;exact h2 z0 s1 σ' H' D I' q
 | ret v=>exact q
 | brk=>exact q
 | cont=>exact q
theorem aV(h1:PS X st t):PSs X [st] t:=by
 intro z0 s σ H D I h;refine wpAny_execs_cons (thn (h1 z0 s σ H D I h) fun f s1 q=>?_)
 cases f with
 | next=>exact wpAny_execs_nil q
 | ret v=>exact q
 | brk=>exact q
 | cont=>exact q
theorem Dg:PS X (.Pass pos) G6:=fun _ _ σ H _ I h=>wpAny_Pass ⟨σ,H,I,h⟩
theorem Inv.quiet{z0:List (Addr×Obj)}{σ:St}{H:Hp}{s:Shared}(I:Inv X z0 σ H s):interactive X.env=false:=by simp[interactive,I.ok.kind]
def Kd(te:TE):TS:=fun D σ H=>te σ H fun _ H1=>D.nx σ H1
theorem bh(he:PE X e te)(hs:swapsWith e none pos.line X.env=pure false:=by rfl):PS X (.Expr e pos) (Kd te):=by
 intro z0 s σ H D I h;exact wpAny_Expr_any (thn (he z0 s σ H _ I h) fun v s1 ⟨x,H1,I1,r1,q1⟩=>⟨σ,H1,I1,q1⟩) I.quiet hs
def Us(te:TE):TS:=fun D σ H=>te σ H D.rt
theorem cF(he:PE X e te):PS X (.Return (some e) pos) (Us te):=by
 intro z0 s σ H D I h;exact wpAny_Return_some (thn (he z0 s σ H _ I h) fun v s1 ⟨x,H1,I1,r1,q1⟩=>⟨x,σ,H1,I1,r1,q1⟩)
def J8:TS:=fun D _ H=>D.rt .non H
theorem Df:PS X (.Return none pos) J8:=fun _ _ σ H _ I h=>wpAny_Return_none ⟨.non,σ,H,I,rfl,h⟩
def Uy(c:TT)(t u:TS):TS:=fun D σ H=>c σ H fun b H1=>if b=true then t D σ H1 else u D σ H1
theorem jf{c:Expr}{a b:List Stmt}{tc:TT}(hc:PT X c tc)(ha:PSs X a t)(hb:PSs X b u):PS X (.If c a b pos) (Uy tc t u):=by
 intro z0 s σ H D I h;refine wpAny_If (thn (hc z0 s σ H _ I h) fun d s1 ⟨H1,I1,q1⟩=>?_)
 cases d with
 | true=>exact ha z0 s1 σ H1 D I1 q1
 | false=>exact hb z0 s1 σ H1 D I1 q1
end
abbrev TG:=V->St->Hp->(St->Hp->Prop)->Prop
abbrev TGs:=List V->St->Hp->(St->Hp->Prop)->Prop
def PG(X:Cx)(target:Expr)(t:TG):Prop :=
  ∀ (z0 : List (Addr × Obj)) (s : Shared) (σ : St) (H : Hp) (v : V) (u : Value) (Q : St -> Hp -> Prop), Inv X z0 σ H s -> RelV v u -> t v σ H Q ->
    wpAny (model X.prog X.w) X.A (assign target X.env u) (fun _ s'=>∃ σ' H',Inv X z0 σ' H' s'/\Q σ' H') X.xe s
def PGs(X:Cx)(ts:List Expr)(t:TGs):Prop :=
  ∀ (z0 : List (Addr × Obj)) (s : Shared) (σ : St) (H : Hp) (vs : List V) (us : List Value) (Q : St -> Hp -> Prop), Inv X z0 σ H s -> Vals vs us -> t vs σ H Q ->
    wpAny (model X.prog X.w) X.A (assignInOrder ((assignEach ts X.env).map (·.2)) us) (fun _ s'=>∃ σ' H',Inv X z0 σ' H' s'/\Q σ' H') X.xe s
abbrev Ra:=V->V->V->Hp->(Hp->Prop)->Prop
def Uk(X:Cx)(t:Ra):Prop :=
  ∀ (z0 : List (Addr × Obj)) (s : Shared) (σ : St) (H : Hp) (o i v : V) (ov iv u : Value) (Q : Hp -> Prop), Inv X z0 σ H s -> RelV o ov -> RelV i iv -> RelV v u -> t o i v H Q ->
    wpAny (model X.prog X.w) X.A (setItem ov iv u) (fun _ s'=>∃ H',Inv X z0 σ H' s'/\Q H') X.xe s
section
variable {X:Cx} {pos:Pos}
def Eu(i:Nat):TG:=fun v σ H Q=>Q (σ.set i (some v)) H
theorem Dl{i:Nat}{x:Str}(hN:X.N.Nodup)(hi:X.N[i]?=some x)(hx:Loc X.env.scope x)(hf:X.fn x=true\/X.env.scope.names.lookup x=some .local:=by first | exact .inl rfl | exact .inr rfl | assumption):PG X (.Name x pos) (Eu i):=by
 intro z0 s σ H v u Q I r h;exact wpAny_assign_Name (fV I hN hi hx r (fun s' I'=>⟨_,H,I',h⟩) hf)
def VJ:TGs:=fun vs σ H Q=>vs=[]/\Q σ H
def QZ(t:TG)(u:TGs):TGs:=fun vs σ H Q=>∃ v r,vs=v::r/\t v σ H fun σ' H'=>u r σ' H' Q
theorem Dk:PGs X [] VJ:=by
 intro z0 s σ H vs us Q I r h;obtain⟨e,h⟩:=h;subst e;cases r;exact assignInOrder_nil ⟨σ,H,I,h⟩
theorem yK{e:Expr}{es:List Expr}{t:TG}{u:TGs}(h1:PG X e t)(h2:PGs X es u)
  (hs:(assignEach (e::es) X.env).map (·.2)=assign e X.env::(assignEach es X.env).map (·.2):=by rfl):PGs X (e::es) (QZ t u):=by
 intro z0 s σ H vs us Q I r h;obtain⟨v,vr,e1,h⟩:=h;subst e1
 cases r with
 | cons r rr =>
  rw[hs];refine assignInOrder_cons (thn (h1 z0 s σ H _ _ _ I r h) fun _ s1 ⟨σ1,H1,I1,q1⟩=>?_);exact h2 z0 s1 σ1 H1 _ _ Q I1 rr q1
def VG(K:Zf)(n:Nat)(t:TGs):TG:=fun v σ H Q=>∃ a xs,v=.ref a/\SqT K H a xs/\xs.length=n/\t xs σ H Q
theorem Bc{es:List Expr}{k:Nat}{t:TGs}{n:Nat}(hc:X.calm=true)(h:PGs X es t)
  (hn:(assignEach es X.env).length=n:=by rfl) (hst:(assignEach es X.env).findIdx? (·.1)=none:=by rfl):PG X (.Tuple es k pos) (VG X.K n t):=by
 intro z0 s σ H v u Q I r hw;obtain⟨a,xs,e1,hq,hl,hw⟩:=hw;subst e1;cases r;obtain⟨its,rv,ht,hz⟩:=I.tuple hq;refine assign_Tuple_tuple (I.ok.hd hc) ht (by simp[hn,<- hl,rv.length]) hst fun h' hx=>?_;have I1:Inv X z0 σ H { s with heap:=h' }:=I.kept (t':=s.toks) fun b o e=>hx b o (F4z (E4z e)) e;exact h z0 _ σ H xs _ Q I1 (by simpa using rv) hw
def VH(to ti:TE)(t:Ra):TG:=fun v σ H Q=>to σ H fun o H1=>ti σ H1 fun i H2=>t o i v H2 fun H3=>Q σ H3
theorem Bd{o i:Expr}{to ti:TE}{t:Ra}(ho:PE X o to)(hi:PE X i ti)(hs:Uk X t)
  (ha:∀ v,assign (.Subscript o i pos) X.env v=(do
   let ov <- holding [v] (eval o X.env)
   let iv <- holding [v,ov] (eval i X.env)
   standAt pos
   holding [v,ov,iv] (setItem ov iv v)
   release [v,ov,iv] []):=by intro _;rfl):PG X (.Subscript o i pos) (VH to ti t):=by
 intro z0 s σ H v u Q I r h;rw[ha];refine S4z (X3z (thn (ho z0 s σ H _ I h) fun ov s1 ⟨x,H1,I1,r1,q1⟩=>?_));refine S4z (X3z (thn (hi z0 s1 σ H1 _ I1 q1) fun iv s2 ⟨y,H2,I2,r2,q2⟩=>?_));refine S4z (Y3z (S4z (X3z (thn (hs z0 s2 σ H2 x y v ov iv u _ I2 r1 r2 r q2) fun _ s3 ⟨H3,I3,q3⟩=>?_))));exact wpAny_release ⟨σ,H3,I3,q3⟩
def Kg(te:TE)(g:TG):TS:=fun D σ H=>te σ H fun x H1=>g x σ H1 D.nx
theorem uZ{tg e:Expr}{te:TE}{g:TG}(he:PE X e te)(hg:PG X tg g)(hs:swapsWithSole [tg] e pos.line X.env=pure false:=by rfl)(hw:swappedStores [tg] e X.env=pure none:=by rfl)
  (h1:(assignEach [tg] X.env).map (·.2)=[assign tg X.env]:=by rfl):PS X (.Assign [tg] e pos) (Kg te g):=by
 intro z0 s σ H D I h;refine wpAny_Assign_stores (thn (he z0 s σ H _ I h) fun v s1 ⟨x,H1,I1,r1,q1⟩=>?_) hs hw;rw[h1];exact thn (hg z0 s1 σ H1 x v _ I1 r1 q1) fun _ s2 q=>q
theorem cU{i:Nat}{x:Str}{e:Expr}{te:TE}{pos':Pos}(hN:X.N.Nodup)(hi:X.N[i]?=some x)(hx:Loc X.env.scope x)(he:PE X e te)(hs:swapsWith e (some (.Name x pos')) pos.line X.env=pure false:=by rfl)(hf:X.fn x=true\/X.env.scope.names.lookup x=some .local:=by first | exact .inl rfl | exact .inr rfl | assumption) :
  PS X (.Assign [.Name x pos'] e pos) (Kg te (Eu i)):=by
 intro z0 s σ H D I h;refine wpAny_Assign_Name (thn (he z0 s σ H _ I h) fun v s1 ⟨y,H1,I1,r1,q1⟩=>?_) hs;exact fV I1 hN hi hx r1 (fun s2 I2=>⟨_,H1,I2,q1⟩) hf
def Ut(i j:Nat)(ta:TA):TS:=fun D σ H=>ta σ H fun vs H1=>∃ v w,vs=[v,w]/\D.nx ((σ.set i (some v)).set j (some w)) H1
theorem Hw{i j:Nat}{x y:Str}{a b:Expr}{ta:TA}{px py pt:Pos}{kt k2 pt2}(hc:X.calm=true)(hN:X.N.Nodup)(hi:X.N[i]?=some x)(hj:X.N[j]?=some y)(hij:i≠j)
  (hx:X.env.scope.names.lookup x=some .local) (hy:X.env.scope.names.lookup y=some .local) (ha:PA X [a,b] ta)
  (hw:swappedStores [.Tuple [.Name x px,.Name y py] kt pt] (.Tuple [a,b] k2 pt2) X.env=pure (some [x,y]))
  (hs:swapsWithSole [.Tuple [.Name x px,.Name y py] kt pt] (.Tuple [a,b] k2 pt2) pos.line X.env=pure false:=by rfl) :
  PS X (.Assign [.Tuple [.Name x px,.Name y py] kt pt] (.Tuple [a,b] k2 pt2) pos) (Ut i j ta):=by
 intro z0 s σ H D I h;rw[exec_Assign_arm];refine S4z (Y3z ?_);rw[hs];refine S4z (T4z ?_);rw[E5z (by decide)];refine S4z (Tuple_ (thn (ha _ z0 s σ H _ I h) fun us s1 ⟨vs,H1,I1,r1,q1⟩=>?_));obtain⟨v,w,e1,q1⟩:=q1;subst e1
 obtain⟨u1,u2,rfl,rv,rw'⟩:∃ u1 u2,us=[u1,u2]/\RelV v u1/\RelV w u2:=by
  cases r1 with
  | cons p q =>
   cases q with
   | cons p' q' =>
    cases q';exact⟨_,_,rfl,p,p'⟩
 refine B2z ?_ (by show 2<=sizeLine;decide)
 have I2:Inv X z0 σ H1 { s1 with heap:=s1.heap.push { cls:=.type "tuple",data:=.seq [u1,u2].toArray } }:=I1.kept (t':=s1.toks) fun b o e=>Heap.get?_push_of_some _ e;rw[hw];refine S4z (T4z ?_);show wpAny (model X.prog X.w) X.A (do rule "assign.swapped-stores";let items <- unpackItems (.ref s1.heap.objs.size) 2 none;assignInOrder [fun v=>bindName X.env y v,fun v=>bindName X.env x v] items.reverse;pure Flow.next) _ _ _;refine S4z (wpAny_rule (S4z (unpackItems_tuple (items := #[u1,u2]) (I.ok.hd hc) (IsTup.new s1.heap _) fun h' hx'=>?_)));have I3:=I2.kept (h':=h') (t':=s1.toks) fun b o e=>hx' b o (F4z (E4z e)) e;show wpAny _ _ (assignInOrder [fun v=>bindName X.env y v,fun v=>bindName X.env x v] [u2,u1] >>=fun _=>pure Flow.next) _ _ _;refine S4z (assignInOrder_cons (wpAny_bindName (fV I3 hN hj (.inl hy) rw' (fun s2 I4=>?_) (.inr hy))));refine assignInOrder_cons (wpAny_bindName (fV I4 hN hi (.inl hx) rv (fun s3 I5=>assignInOrder_nil (T4z ?_)) (.inr hx)));rw[List.set_comm _ _ (B5z hij)] at I5;exact⟨_,H1,I5,q1⟩
end
section
variable {X:Cx} {pos:Pos}
end
structure It where
 go:Nat->Hp->Prop
 yld:Nat->Hp->V->Hp->Prop
 stop:Nat->Hp->Prop
def rm(X:Cx)(z0:List (Addr×Obj))(H:Hp)(b:Addr):Prop :=
 H b=none/\b≠X.env.locals/\b∉X.fs/\(b∈X.ex\/X.s₀.heap.objs.size<=b)/\(∀ x c,X.env.cells.lookup x=some c->c≠b)/\∀ p∈X.pn++z0,p.1≠b
theorem Inv.fpOk{X:Cx}{z0:List (Addr×Obj)}{σ:St}{H H':Hp}{s:Shared}{b:Addr}(I:Inv X z0 σ H s)(hb:s.heap.objs.size<=b)(hn:H' b=none):rm X z0 H' b:=by
 refine⟨hn,I4z (M1z I.lt hb),I.nofs hb,.inr (G4z I.sz hb),fun x c e z=>?_,fun p hp z=>?_⟩
 ·obtain⟨v,q⟩:=I.cell x c e
  exact absurd (M1z q.lt (by rw[z];exact hb)) (W3z _)
 ·exact absurd (M1z (E4z (I.pin p hp).1) (by rw[z];exact hb)) (W3z _)
structure Turn (P:Program) (w:World) (K:Zf) (tg:Expr) (J:It) (fp:List Addr) (it:Addr) (tn:Nat->Heap->Prop):Prop where
 mem:it∈fp
 obj:∀ i h,tn i h->∀ b∈fp,∃ o,h.get? b=some o/\∀ v,o.data≠.cell v
 keep:∀ i h h',tn i h->(∀ b∈fp,∀ o,h.get? b=some o->h'.get? b=some o)->tn i h'
 item:∀ (X:Cx),X.prog=P->X.w=w->X.K=K->X.calm=true->∀ (i:Nat) (z0:List (Addr×Obj)) (s:Shared) (σ:St) (H:Hp) (E:Value->Shared->Prop),Inv X z0 σ H s->(∀ b∈fp,rm X z0 H b)->tn i s.heap->J.go i H ->
  wpAny (model P w) X.A (pyNext (.ref it)) (fun r s1=>∃ u,r=some u /\
   wpAny (model P w) X.A (letOwnedTupleGo tg (.ref it) u) (fun _ s2=>∃ x H',Inv X z0 σ H' s2/\RelV x u/\J.yld i H x H'/\tn (i+1) s2.heap/\∀ b∈fp,H' b=none) E s1) E s
 done:∀ (X:Cx),X.prog=P->X.w=w->X.K=K->X.calm=true->∀ (i:Nat) (z0:List (Addr×Obj)) (s:Shared) (σ:St) (H:Hp) (E:Value->Shared->Prop),Inv X z0 σ H s->(∀ b∈fp,rm X z0 H b)->tn i s.heap->J.stop i H ->
  wpAny (model P w) X.A (pyNext (.ref it)) (fun r s1=>r=none/\Inv X z0 σ H s1) E s
 self:∀ (A:Around) (i:Nat) (s:Shared) (Q:Value->Shared->Prop) (E:Value->Shared->Prop),tn i s.heap->Q (.ref it) s->wpAny (model P w) A (pyIter (.ref it)) Q E s
abbrev TI:=St->Hp->(It->Hp->Prop)->Prop
def PIE(X:Cx)(z0:List (Addr×Obj))(σ:St)(tg:Expr)(R:It->Hp->Prop)(itv:Value)(s2:Shared):Prop :=
 ∃ (it:Addr) (fp:List Addr) (tn:Nat->Heap->Prop) (J:It) (H':Hp),itv=.ref it/\Inv X z0 σ H' s2/\Turn X.prog X.w X.K tg J fp it tn/\tn 0 s2.heap/\(∀ b∈fp,rm X z0 H' b)/\R J H'
def PI(X:Cx)(tg iter:Expr)(wi:TI):Prop :=
  ∀ (z0 : List (Addr × Obj)) (s : Shared) (σ : St) (H : Hp) (R : It -> Hp -> Prop), Inv X z0 σ H s -> wi σ H R ->
    wpAny (model X.prog X.w) X.A (eval iter X.env) (fun v s1=>wpAny (model X.prog X.w) X.A (pyIter v) (PIE X z0 σ tg R) X.xe s1) X.xe s
theorem sS{M:Model}{A:Around}{E:Value->Shared->Prop}{s:Shared}{tg:Expr}{it:Addr}{u:Value}{o:Obj}{n:String}{vs:Array Value}{Q:Unit->Shared->Prop}(ho:s.heap.get? it=some o)(hc:o.cls=.type n)(hd:o.data=.fields vs)
    (hn:["enumerate","zip","dict_itemiterator","dict_reverseitemiterator","odict_iterator","itertools.zip_longest","itertools.pairwise"].contains n=false) (hQ:Q () s):wpAny M A (letOwnedTupleGo tg (.ref it) u) Q E s:=by
  unfold letOwnedTupleGo
  cases tg<;>first
    | exact T4z hQ
    | (cases u<;>first
        | exact T4z hQ
        | (refine S4z (wpAny_load ho ?_)
           rw[hc,hd]
           show wpAny M A (if(["enumerate","zip","dict_itemiterator","dict_reverseitemiterator","odict_iterator","itertools.zip_longest","itertools.pairwise"].contains n&&vs[0]?==some (rawInt _))=true then _ else _) Q E s
           rw[E5z (by intro h;rw[hn,Bool.false_and] at h;cases h)]
           exact T4z hQ))
def Itl(K:Zf)(a:Addr):It :=
 ⟨fun i H=>∃ xs x,SqL K H a xs/\xs[i]?=some x,fun i H x H'=>H'=H/\∀ xs,SqL K H a xs->xs[i]?=some x,fun i H=>∃ xs,SqL K H a xs/\xs.length<=i⟩
def Itt(K:Zf)(a:Addr):It :=
 ⟨fun i H=>∃ xs x,SqT K H a xs/\xs[i]?=some x,fun i H x H'=>H'=H/\∀ xs,SqT K H a xs->xs[i]?=some x,fun i H=>∃ xs,SqT K H a xs/\xs.length<=i⟩
def Itr(lo:Int)(n:Nat):It:=⟨fun i _=>i<n,fun i H x H'=>H'=H/\x=.int (lo+i),fun i _=>n<=i⟩
theorem ug{P:Program}{w:World}{K:Zf}{tg:Expr}(a it:Addr):Turn P w K tg (Itl K a) [it] it (fun i h=>h.IsListIter it a i) where
 mem:=by simp
 obj:=fun i h st b hb=>by
  have e:b=it:=by simpa using hb
  subst e;obtain⟨o,e,c,d⟩:=st;exact⟨o,e,fun v z=>by rw[d] at z;cases z⟩
 keep:=fun i h h' st k=>st.at fun o e=>k it (by simp) o e
 item:=by
  intro X hP hw hK hc i z0 s σ H E I hf st hg;subst hP hw hK;obtain⟨xs,x,hq,hx⟩:=hg;obtain⟨its,rv,p,hz⟩:=I.list hq;obtain⟨u,hu,ru⟩:=rv.get hx;obtain⟨f0,f1,f2,f3,f4,f5⟩:=hf it (by simp);refine wpAny_pyNext_list_item st p.isList (x:=u) (by simpa using hu) fun h' st' sb=>?_;have I1:Inv X z0 σ H { s with heap:=h' }:=I.turned (t':=s.toks) (fun b o hb e=>(sb.2 b hb).trans e) f0 f1 f3 f4 f5;obtain⟨o,e,c,d⟩:=id st';exact⟨u,rfl,sS (s:={ s with heap:=h' }) e c d (by decide) ⟨x,H,I1,ru,⟨rfl,fun ys hy=>by rw[I.list_inj hy hq];exact hx⟩,st',fun b hb=>(hf b hb).1⟩⟩
 done:=by
  intro X hP hw hK hc i z0 s σ H E I hf st hg;subst hP hw hK;obtain⟨xs,hq,hx⟩:=hg;obtain⟨its,rv,p,hz⟩:=I.list hq;obtain⟨f0,f1,f2,f3,f4,f5⟩:=hf it (by simp);have hl:=rv.length;exact wpAny_pyNext_list_end (I.ok.hd hc) st p.isList (by simp;omega) fun h' eb=>⟨rfl,I.turned (t':=s.toks) (fun b o hb e=>eb b o hb e) f0 f1 f3 f4 f5⟩
 self:=fun _ _ _ _ _ st h=>wpAny_pyIter_listiter st h
theorem rA{P:Program}{w:World}{K:Zf}{tg:Expr}(a it:Addr):Turn P w K tg (Itt K a) [it] it (fun i h=>h.IsTupleIter it a i) where
 mem:=by simp
 obj:=fun i h st b hb=>by
  have e:b=it:=by simpa using hb
  subst e;obtain⟨o,e,c,d⟩:=st;exact⟨o,e,fun v z=>by rw[d] at z;cases z⟩
 keep:=fun i h h' st k=>st.at fun o e=>k it (by simp) o e
 item:=by
  intro X hP hw hK hc i z0 s σ H E I hf st hg;subst hP hw hK;obtain⟨xs,x,hq,hx⟩:=hg;obtain⟨its,rv,p,hz⟩:=I.tuple hq;obtain⟨u,hu,ru⟩:=rv.get hx;obtain⟨f0,f1,f2,f3,f4,f5⟩:=hf it (by simp);refine wpAny_pyNext_tuple_item st (show s.heap.IsTuple a its.toArray from p) (x:=u) (by simpa using hu) fun h' st' sb=>?_;have I1:Inv X z0 σ H { s with heap:=h' }:=I.turned (t':=s.toks) (fun b o hb e=>(sb.2 b hb).trans e) f0 f1 f3 f4 f5;obtain⟨o,e,c,d⟩:=id st';exact⟨u,rfl,sS (s:={ s with heap:=h' }) e c d (by decide) ⟨x,H,I1,ru,⟨rfl,fun ys hy=>by rw[I.tuple_inj hy hq];exact hx⟩,st',fun b hb=>(hf b hb).1⟩⟩
 done:=by
  intro X hP hw hK hc i z0 s σ H E I hf st hg;subst hP hw hK;obtain⟨xs,hq,hx⟩:=hg;obtain⟨its,rv,p,hz⟩:=I.tuple hq;obtain⟨f0,f1,f2,f3,f4,f5⟩:=hf it (by simp);have hl:=rv.length;exact wpAny_pyNext_tuple_end (I.ok.hd hc) st (show s.heap.IsTuple a its.toArray from p) (by simp;omega) fun h' eb=>⟨rfl,I.turned (t':=s.toks) (fun b o hb e=>eb b o hb e) f0 f1 f3 f4 f5⟩
 self:=fun _ _ _ _ _ st h=>wpAny_pyIter_tupleiter st h
theorem rB{P:Program}{w:World}{K:Zf}{tg:Expr}(it:Addr)(lo:Int)(n:Nat):Turn P w K tg (Itr lo n) [it] it (fun i h=>IsRangeIter h it (lo+(i:Nat)*1) ((n:Int)-(i:Nat)) 1) where
 mem:=by simp
 obj:=fun i h st b hb=>by
  have e:b=it:=by simpa using hb
  subst e
  exact⟨_,st,fun v z=>by
   have z':Data.fields _=Data.cell v:=z
   cases z'⟩
 keep:=fun i h h' st k=>k it (by simp) _ st
 item:=by
  intro X hP hw hK hc i z0 s σ H E I hf st hg;subst hP hw hK;obtain⟨f0,f1,f2,f3,f4,f5⟩:=hf it (by simp);have W:=Walks.range (prog:=X.prog) (w:=X.w) (I.ok.hd hc) it lo 1 n;refine W.item i s _ _ hg st fun v h' tk hv st' kk=>?_;obtain⟨t,rfl⟩:=hv;have I1:Inv X z0 σ H { s with heap:=h',toks:=tk }:=I.turned (fun b o hb e=>kk b o (by simpa using hb) e) f0 f1 f3 f4 f5;refine⟨_,rfl,sS (s:={ s with heap:=h',toks:=tk }) (n:="range_iterator") st' rfl rfl (by decide) ⟨.int (lo+i),H,I1,⟨t,?_⟩,⟨rfl,rfl⟩,st',fun b hb=>(hf b hb).1⟩⟩;rw[Int.mul_one]
 done:=by
  intro X hP hw hK hc i z0 s σ H E I hf st hg;subst hP hw hK;obtain⟨f0,f1,f2,f3,f4,f5⟩:=hf it (by simp);exact wpAny_pyNext_range_end (I.ok.hd hc) st (by have:n<=i:=hg;omega) fun h' eb=>⟨rfl,I.turned (t':=s.toks) (fun b o hb e=>eb b o hb e) f0 f1 f3 f4 f5⟩
 self:=fun _ _ _ _ _ st h=>wpAny_pyIter_rangeiter st h
section
variable {X:Cx} {tg:Expr}
def QV(K:Zf)(tl:TE):TI:=fun σ H R=>tl σ H fun x H1=>∃ a,x=.ref a/\(∃ xs,SqL K H1 a xs)/\R (Itl K a) H1
def Vz(K:Zf)(tl:TE):TI:=fun σ H R=>tl σ H fun x H1=>∃ a,x=.ref a/\(∃ xs,SqT K H1 a xs)/\R (Itt K a) H1
theorem Di{l:Expr}{tl:TE}(hl:PE X l tl):PI X tg l (QV X.K tl):=by
 intro z0 s σ H R I h;refine thn (hl z0 s σ H _ I h) fun v s1 ⟨x,H1,I1,r1,q1⟩=>?_;obtain⟨a,e,⟨xs,hq⟩,q⟩:=q1;subst e;cases r1;obtain⟨its,rv,p,hz⟩:=I1.list hq;refine wpAny_pyIter_list p.isList ?_;refine⟨s1.heap.objs.size,[s1.heap.objs.size],_,_,H1,rfl,I1.kept (t':=s1.toks) fun b o e=>Heap.get?_push_of_some _ e,ug a _,⟨_,Heap.get?_push_size _ rfl,rfl,rfl⟩,fun b hb=>?_,q⟩
 have e:b=s1.heap.objs.size:=by simpa using hb
 subst e;exact I1.fpOk (M4z _) (I1.hok.fresh (M4z _))
theorem Hz{l:Expr}{tl:TE}(hl:PE X l tl):PI X tg l (Vz X.K tl):=by
 intro z0 s σ H R I h;refine thn (hl z0 s σ H _ I h) fun v s1 ⟨x,H1,I1,r1,q1⟩=>?_;obtain⟨a,e,⟨xs,hq⟩,q⟩:=q1;subst e;cases r1;obtain⟨its,rv,p,hz⟩:=I1.tuple hq;refine P1z (show s1.heap.IsTuple a its.toArray from p) ?_;refine⟨s1.heap.objs.size,[s1.heap.objs.size],_,_,H1,rfl,I1.kept (t':=s1.toks) fun b o e=>Heap.get?_push_of_some _ e,rA a _,⟨_,Heap.get?_push_size _ rfl,rfl,rfl⟩,fun b hb=>?_,q⟩
 have e:b=s1.heap.objs.size:=by simpa using hb
 subst e;exact I1.fpOk (M4z _) (I1.hok.fresh (M4z _))
theorem qt{z0:List (Addr×Obj)}{σ:St}{H:Hp}{s:Shared}{R:It->Hp->Prop}{E:Value->Shared->Prop}{lo hi:Int}{t u v:Tok}{tk:Nat}(I:Inv X z0 σ H s)(h1:-(2^62)<=lo)(h2:lo<2^62)(h3:-(2^62)<=hi)(h4:hi<2^62)
  (q:R (Itr lo (hi-lo).toNat) H):wpAny (model X.prog X.w) X.A (pyIter (.ref s.heap.objs.size)) (PIE X z0 σ tg R) E { s with heap:=s.heap.push { cls:=.type "range",data:=.fields #[.int lo t,.int hi u,.int 1 v] },toks:=tk }:=by
 refine wpAny_pyIter_range (IsRange.new ..) (small_one h1 h2 h3 h4) ?_;have I1:Inv X z0 σ H { s with heap:=s.heap.push { cls:=.type "range",data:=.fields #[.int lo t,.int hi u,.int 1 v] },toks:=tk }:=I.kept fun b o e=>Heap.get?_push_of_some _ e
 refine⟨(s.heap.push { cls:=.type "range",data:=.fields #[.int lo t,.int hi u,.int 1 v] }).objs.size,[(s.heap.push { cls:=.type "range",data:=.fields #[.int lo t,.int hi u,.int 1 v] }).objs.size],_,_,H,rfl,
  I1.kept (t':=tk) fun b o e=>Heap.get?_push_of_some _ e,rB _ lo (hi-lo).toNat,?_,fun b hb=>?_,q⟩
 ·have e1:lo+((0:Nat):Int)*1=lo:=by simp
  have e2:(((hi-lo).toNat:Nat):Int)-((0:Nat):Int)=Builtin.Range.rangeSize lo hi 1:=by rw[rangeSize_one];split<;>omega
  show IsRangeIter _ _ (lo+((0:Nat):Int)*1) ((((hi-lo).toNat:Nat):Int)-((0:Nat):Int)) 1;rw[e1,e2];exact Heap.get?_push_size _ rfl
 ·have e:b=(s.heap.push { cls:=.type "range",data:=.fields #[.int lo t,.int hi u,.int 1 v] }).objs.size:=by simpa using hb
  subst e;exact I1.fpOk (M4z _) (I1.hok.fresh (M4z _))
def QS(ta:TA):TI:=fun σ H R=>ta σ H fun vs H1=>∃ j:Int,vs=[.int j] /\ -(2^62)<=j/\j<2^62/\R (Itr 0 j.toNat) H1
def QM(ta:TA):TI:=fun σ H R=>ta σ H fun vs H1=>∃ i j:Int,vs=[.int i,.int j]/\(-(2^62)<=i/\i<2^62 /\ -(2^62)<=j/\j<2^62)/\R (Itr i (j-i).toNat) H1
theorem vd{a:Expr}{ta:TA}{p pos:Pos}(hg:Gl X "range")(hm:X.mg "range"=none)(ha:PA X [a] ta)(hs:starEach [a] X.env=[(false,eval a X.env)]:=by rfl):PI X tg (.Call (.Name "range" p) [a] [] pos) (QS ta):=by
 intro z0 s σ H R I h;refine Call_ (d8 I hg hm boot_range (B0z (thn (ha pos z0 s σ H _ I h) fun us s1 ⟨vs,H1,I1,r1,q1⟩=>?_) hs rfl));obtain⟨j,e,q1,q2,q⟩:=q1;subst e
 cases r1 with
 | cons r rr =>
  cases rr;obtain⟨t,rfl⟩:=r;exact call_range_1 (qt I1 (by omega) (by omega) q1 q2 (by simpa using q))
theorem u9{a b:Expr}{ta:TA}{p pos:Pos}(hg:Gl X "range")(hm:X.mg "range"=none)(ha:PA X [a,b] ta)(hs:starEach [a,b] X.env=[(false,eval a X.env),(false,eval b X.env)]:=by rfl)(hs2:starEach [b] X.env=[(false,eval b X.env)]:=by rfl) :
  PI X tg (.Call (.Name "range" p) [a,b] [] pos) (QM ta):=by
 intro z0 s σ H R I h;refine Call_ (d8 I hg hm boot_range (B0z (thn (ha pos z0 s σ H _ I h) fun us s1 ⟨vs,H1,I1,r1,q1⟩=>?_) (by rw[hs,hs2]) (by rw[hs2];rfl)));obtain⟨i,j,e,⟨q1,q2,q3,q4⟩,q⟩:=q1;subst e
 cases r1 with
 | cons r rr =>
  cases rr with
  | cons r' rr =>
   cases rr;obtain⟨t,rfl⟩:=r;obtain⟨t',rfl⟩:=r';exact call_range_2 (qt I1 q1 q2 q3 q4 q)
def Uz(wi:TI)(g:TG)(tb:TS):TS:=fun D σ H=>wi σ H fun J H1=>∃ W:Nat->Nat->St->Hp->Prop,(∃ m,W 0 m σ H1)/\∀ i m σ H,W i m σ H ->
 (J.stop i H/\D.nx σ H)\/(J.go i H/\∃ N:St->Hp->Prop,(∀ σ' H',N σ' H'->∃ m',m'<m/\W (i+1) m' σ' H')/\∀ x H',J.yld i H x H'->g x σ H' fun σ2 H2=>tb { D with nx:=N,ct:=N,bk:=D.nx } σ2 H2)
def m7(fp:List Addr)(h:Heap):List (Addr×Obj):=fp.filterMap fun b=>(h.get? b).map fun o=>(b,o)
theorem fC{fp:List Addr}{h:Heap}{b:Addr}{o:Obj}(hb:b∈fp)(e:h.get? b=some o):(b,o)∈m7 fp h:=List.mem_filterMap.mpr ⟨b,hb,by rw[e];rfl⟩
theorem vC{fp:List Addr}{h:Heap}{p:Addr×Obj}(hp:p∈m7 fp h):p.1∈fp/\h.get? p.1=some p.2:=by
 obtain⟨b,hb,e⟩:=List.mem_filterMap.mp hp
 cases q:h.get? b with
 | none=>rw[q] at e;cases e
 | some o =>
  rw[q] at e;have e':(b,o)=p:=B3z e;subst e';exact⟨hb,q⟩
theorem Inv.pinned{z0:List (Addr×Obj)}{σ:St}{H:Hp}{s:Shared}{fp:List Addr}(I:Inv X z0 σ H s)(hf:∀ b∈fp,rm X z0 H b)(ho:∀ b∈fp,∃ o,s.heap.get? b=some o/\∀ v,o.data≠.cell v):Inv X (z0++m7 fp s.heap) σ H s :=
 I.pins_of fun p hp=>(List.mem_append.mp hp).elim (fun z=>I.pin p (S0z _ z)) fun z=>by
  obtain⟨hb,e⟩:=vC z;obtain⟨f0,f1,f2,_⟩:=hf p.1 hb;obtain⟨o,e',d⟩:=ho p.1 hb;rw[e] at e';cases e';exact⟨e,f0,f1,f2,d⟩
theorem Inv.unpinned{z0 pl:List (Addr×Obj)}{σ:St}{H:Hp}{s:Shared}(I:Inv X (z0++pl) σ H s):Inv X z0 σ H s:=I.pins_of fun p hp=>I.pin p (S0z _ (X0z _ hp))
theorem Hx{iter:Expr}{body:List Stmt}{wi:TI}{g:TG}{tb:TS}{pos:Pos}(hp:PassesOwn (model X.prog X.w) X.A X.env X.xe)(hc:X.calm=true)(hi:PI X tg iter wi)(hg:PG X tg g)(hb:PSs X body tb)
  (hs:∀ x,foldedSetIterable iter X.env x=pure x:=by intro _;rfl):PS X (.For tg iter body [] pos) (Uz wi g tb):=by
 intro z0 s σ H D I h;refine wpAny_For (thn (hi z0 s σ H _ I h) fun v s1 h1=>thn h1 fun itv s2 h2=>?_) hs;obtain⟨it,fp,tn,J,H2,e,I2,T,st2,f2,W,⟨m0,w0⟩,turn⟩:=h2;subst e;have stat:∀ {H':Hp},(∀ b∈fp,H' b=none)->∀ b∈fp,rm X z0 H' b:=fun hn b hb=>⟨hn b hb,(f2 b hb).2⟩;refine codeAny_forLoop_any (fun n s'=>∃ i σ' H',Inv X z0 σ' H' s'/\tn i s'.heap/\(∀ b∈fp,H' b=none)/\W i n σ' H') ?_ m0 ⟨0,σ,H2,I2,st2,fun b hb=>(f2 b hb).1,w0⟩;rintro n s3 ⟨i,σ3,H3,I3,st3,fr3,w3⟩;rcases turn i n σ3 H3 w3 with⟨stop,qn⟩ | ⟨go,N,hN,step⟩
 ·refine C3z hp (thn (T.done X rfl rfl rfl hc i z0 s3 σ3 H3 X.xe I3 (stat fr3) st3 stop) fun r s4 ⟨hr,I4⟩=>?_)
  subst hr;exact wpAny_execs_nil ⟨σ3,H3,I4,qn⟩
 ·refine C3z hp (thn (T.item X rfl rfl rfl hc i z0 s3 σ3 H3 X.xe I3 (stat fr3) st3 go) fun r s4 ⟨u,hr,h4⟩=>?_)
  subst hr;refine C3z hp (thn h4 fun _ s5 ⟨x,H5,I5,r5,y5,st5,fr5⟩=>?_);have I5':=I5.pinned (stat fr5) (T.obj _ _ st5);refine C3z hp (thn (hg _ s5 σ3 H5 x u _ I5' r5 (step x H5 y5)) fun _ s6 ⟨σ6,H6,I6,q6⟩=>?_);refine C3z hp (thn (hb _ s6 σ6 H6 _ I6 q6) fun f s7 q7=>?_)
  have again:∀ {σ7:St} {H7:Hp},Inv X (z0++m7 fp s5.heap) σ7 H7 s7->N σ7 H7->∃ m,m<n/\∃ i σ' H',Inv X z0 σ' H' s7/\tn i s7.heap/\(∀ b∈fp,H' b=none)/\W i m σ' H':=fun {σ7 H7} I7 n7=>by
   obtain⟨m',hm,w7⟩:=hN σ7 H7 n7;refine⟨m',hm,i+1,σ7,H7,I7.unpinned,T.keep _ _ _ st5 fun b hb o e=>(I7.pin (b,o) (S0z _ (S0z _ (fC hb e)))).1,fun b hb=>?_,w7⟩;obtain⟨o,e,d⟩:=T.obj _ _ st5 b hb;exact(I7.pin (b,o) (S0z _ (S0z _ (fC hb e)))).2.1
  cases f with
  | next=>obtain⟨σ7,H7,I7,n7⟩:=q7;exact again I7 n7
  | cont=>obtain⟨σ7,H7,I7,n7⟩:=q7;exact again I7 n7
  | brk=>obtain⟨σ7,H7,I7,q7⟩:=q7;exact⟨σ7,H7,I7.unpinned,q7⟩
  | ret v=>obtain⟨x7,σ7,H7,I7,r7,q7⟩:=q7;exact⟨x7,σ7,H7,I7.unpinned,r7,q7⟩
end
abbrev R2:=V->V->Hp->VK->Prop
def OpR(X:Cx)(f:Value->Value->Sem Value)(r:R2):Prop :=
  ∀ (z0 : List (Addr × Obj)) (s : Shared) (σ : St) (H : Hp) (x y : V) (v u : Value) (Q : VK), Inv X z0 σ H s -> RelV x v -> RelV y u -> r x y H Q ->
    wpAny (model X.prog X.w) X.A (f v u) (EP X z0 σ Q) X.xe s
def UnR(X:Cx)(f:Value->Sem Value)(r:V->Hp->VK->Prop):Prop :=
  ∀ (z0 : List (Addr × Obj)) (s : Shared) (σ : St) (H : Hp) (x : V) (v : Value) (Q : VK), Inv X z0 σ H s -> RelV x v -> r x H Q ->
    wpAny (model X.prog X.w) X.A (f v) (EP X z0 σ Q) X.xe s
def cB(X:Cx)(f:Value)(r:List V->Hp->VK->Prop):Prop :=
  ∀ (z0 : List (Addr × Obj)) (s : Shared) (σ : St) (H : Hp) (xs : List V) (us : List Value) (Q : VK), Inv X z0 σ H s -> Vals xs us -> r xs H Q ->
    wpAny (model X.prog X.w) X.A (call f us) (EP X z0 σ Q) X.xe s
def tOp(r:R2)(ta tb:TE):TE:=fun σ H Q=>ta σ H fun x H1=>tb σ H1 fun y H2=>r x y H2 Q
def tUn(r:V->Hp->VK->Prop)(ta:TE):TE:=fun σ H Q=>ta σ H fun x H1=>r x H1 Q
def rI(C:Int->Int->Prop)(g:Int->Int->V):R2:=fun x y H Q=>∃ i j,x=.int i/\y=.int j/\C i j/\Q (g i j) H
def rI0(g:Int->Int->V):R2:=fun x y H Q=>∃ i j,x=.int i/\y=.int j/\Q (g i j) H
def rU(g:Int->V):V->Hp->VK->Prop:=fun x H Q=>∃ i,x=.int i/\Q (g i) H
section
variable {X:Cx} {a b c:Expr} {ta tb tc:TE} {pos:Pos}
theorem Q8(ha:PE X a ta)(hb:PE X b tb){z0:List (Addr×Obj)}{s:Shared}{σ:St}{H:Hp}{R:V->V->Hp->Prop}(I:Inv X z0 σ H s)
  (h:ta σ H fun x H1=>tb σ H1 fun y H2=>R x y H2) {Q:Value->Shared->Prop} {f:Value->Value->Sem Value}
  (hf:∀ v u s2 x y H2,Inv X z0 σ H2 s2->RelV x v->RelV y u->R x y H2->wpAny (model X.prog X.w) X.A (f v u) Q X.xe s2) :
  wpAny (model X.prog X.w) X.A (eval a X.env) (fun v s₁=>wpAny (model X.prog X.w) X.A (eval b X.env) (fun u s₂=>wpAny (model X.prog X.w) X.A (f v u) Q X.xe s₂) X.xe s₁) X.xe s:=by
 refine thn (ha z0 s σ H _ I h) fun v s1 ⟨x,H1,I1,r1,q1⟩=>?_;refine thn (hb z0 s1 σ H1 _ I1 q1) fun u s2 ⟨y,H2,I2,r2,q2⟩=>?_;exact hf v u s2 x y H2 I2 r1 r2 q2
theorem iu{op:Operator}{r:R2}(ho:OpR X (binaryOp op) r)(ha:PE X a ta)(hb:PE X b tb):PE X (.BinOp a op b pos) (tOp r ta tb):=by
 intro z0 s σ H Q I h;exact wpAny_BinOp (Q8 ha hb I h fun v u s2 x y H2 I2 rx ry q=>ho z0 s2 σ H2 x y v u Q I2 rx ry q)
theorem KJ{op:UnaryOp}{r:V->Hp->VK->Prop}(ho:UnR X (unaryOp op) r)(ha:PE X a ta):PE X (.UnaryOp op a pos) (tUn r ta):=by
 intro z0 s σ H Q I h;exact UnaryOp_ (thn (ha z0 s σ H _ I h) fun v s1 ⟨x,H1,I1,r1,q1⟩=>ho z0 s1 σ H1 x v Q I1 r1 q1)
theorem opI{f:Value->Value->Sem Value}{C:Int->Int->Prop}{g:Int->Int->Int}
  (rule:∀ (i j:Int) (t u:Tok) (s:Shared) (Q:Value->Shared->Prop) (E:Value->Shared->Prop),C i j->Q (.int (g i j) s.toks) { s with toks:=s.toks+1 }->wpAny (model X.prog X.w) X.A (f (.int i t) (.int j u)) Q E s) :
  OpR X f (rI C fun i j=>.int (g i j)):=by
 intro z0 s σ H x y v u Q I rx ry h;obtain⟨i,j,rfl,rfl,hc,q⟩:=h;obtain⟨t,rfl⟩:=rx;obtain⟨t',rfl⟩:=ry;exact rule i j t t' s _ _ hc ⟨.int (g i j),H,I.tok _,⟨_,rfl⟩,q⟩
theorem Rk{f:Value->Value->Sem Value}{g:Int->Int->Int}
  (rule:∀ (i j:Int) (t u:Tok) (s:Shared) (Q:Value->Shared->Prop) (E:Value->Shared->Prop),Q (.int (g i j) s.toks) { s with toks:=s.toks+1 }->wpAny (model X.prog X.w) X.A (f (.int i t) (.int j u)) Q E s) :
  OpR X f (rI0 fun i j=>.int (g i j)):=by
 intro z0 s σ H x y v u Q I rx ry h;obtain⟨i,j,rfl,rfl,q⟩:=h;obtain⟨t,rfl⟩:=rx;obtain⟨t',rfl⟩:=ry;exact rule i j t t' s _ _ ⟨.int (g i j),H,I.tok _,⟨_,rfl⟩,q⟩
theorem JW{f:Value->Value->Sem Value}{g:Int->Int->Bool}
  (rule:∀ (i j:Int) (t u:Tok) (s:Shared) (Q:Value->Shared->Prop) (E:Value->Shared->Prop),Q (.bool (g i j)) s->wpAny (model X.prog X.w) X.A (f (.int i t) (.int j u)) Q E s) :
  OpR X f (rI0 fun i j=>.bl (g i j)):=by
 intro z0 s σ H x y v u Q I rx ry h;obtain⟨i,j,rfl,rfl,q⟩:=h;obtain⟨t,rfl⟩:=rx;obtain⟨t',rfl⟩:=ry;exact rule i j t t' s _ _ ⟨.bl (g i j),H,I,rfl,q⟩
def V4(i j:Int):Prop:=0<j/\j<1073741824
def Rf(i j:Int):Prop:=(-(2^64)<i/\i<2^64)\/(-(2^64)<j/\j<2^64)
theorem Rf.ok{i j:Int}(h:Rf i j):IntMulOk i j:=by
 rcases h with⟨h1,h2⟩ | ⟨h1,h2⟩
 ·exact .of_left (intBits_le_64 h1 h2)
 ·exact .of_right (intBits_le_64 h1 h2)
theorem Ik:OpR X (binaryOp .Add) (rI0 fun i j=>.int (i+j)):=Rk fun _ _ _ _ _ _ _ q=>add_int q
theorem Ih:OpR X (binaryOp .Sub) (rI0 fun i j=>.int (i-j)):=Rk fun _ _ _ _ _ _ _ q=>sub_int q
theorem Dv:OpR X (binaryOp .FloorDiv) (rI V4 fun i j=>.int (i / j)):=opI fun i j _ _ _ _ _ hc q=>by
 have h1:(0:Int)<j:=hc.1;have h2:j<1073741824:=hc.2;exact floordiv_int (by omega) (by rw[Int.fdiv_eq_ediv_of_nonneg i (by omega)];exact q) (.inl (PyProof.noPylong_small (by omega)))
theorem Ii:OpR X (binaryOp .Mod) (rI (fun _ j=>0<j) fun i j=>.int (i%j)):=opI fun i j _ _ _ _ _ hc q=>by
 have h1:(0:Int)<j:=hc;exact mod_int' (by omega) (by rw[Int.fmod_eq_emod_of_nonneg i (by omega)];exact q)
theorem Du:OpR X (binaryOp .Mod) (rI (fun _ j=>j≠0) fun i j=>.int (i.fmod j)):=opI fun _ _ _ _ _ _ _ hc q=>mod_int' hc q
theorem unI{f:Value->Sem Value}{g:Int->Int}
  (rule:∀ (i:Int) (t:Tok) (s:Shared) (Q:Value->Shared->Prop) (E:Value->Shared->Prop),Q (.int (g i) s.toks) { s with toks:=s.toks+1 }->wpAny (model X.prog X.w) X.A (f (.int i t)) Q E s) :
  UnR X f (rU fun i=>.int (g i)):=by
 intro z0 s σ H x v Q I rx h;obtain⟨i,rfl,q⟩:=h;obtain⟨t,rfl⟩:=rx;exact rule i t s _ _ ⟨.int (g i),H,I.tok _,⟨_,rfl⟩,q⟩
theorem Gz:UnR X (unaryOp .USub) (rU fun i=>.int (-i)):=unI fun _ _ _ _ _ q=>neg_int q
end
section
variable {X:Cx} {a b c:Expr} {ta tb tc:TE} {pos:Pos}
theorem wD{z0:List (Addr×Obj)}{σ:St}{H:Hp}{s:Shared}{Q:VK}{k k':Bool}(I:Inv X z0 σ H s)(q:Q (.bl k) H)(e:k=k'):EP X z0 σ Q (.bool k') s:=by
 subst e;exact⟨.bl k,H,I,rfl,q⟩
theorem KQ:OpR X (compareOp .Lt) (rI0 fun i j=>.bl (decide (i<j))):=JW fun _ _ _ _ _ _ _ q=>lt_int q
theorem KR:OpR X (compareOp .LtE) (rI0 fun i j=>.bl (decide (i<=j))):=JW fun _ _ _ _ _ _ _ q=>le_int q
theorem KY:OpR X (compareOp .Gt) (rI0 fun i j=>.bl (decide (j<i))):=JW fun _ _ _ _ _ _ _ q=>gt_int q
theorem KZ:OpR X (compareOp .GtE) (rI0 fun i j=>.bl (decide (j<=i))):=JW fun _ _ _ _ _ _ _ q=>ge_int q
theorem vq:OpR X (compareOp .In) (fun x y H Q=>∃ i j,x=.str i/\y=.str j/\Q (.bl (!(Builtin.Str.occurrences j i 0 j.length 1).isEmpty)) H):=by
 intro z0 s σ H x y v u Q I rx ry h;obtain⟨i,j,rfl,rfl,q⟩:=h;obtain⟨t,rfl⟩:=rx;obtain⟨t',rfl⟩:=ry;exact in_str (wD I q rfl)
theorem Ij:OpR X (compareOp .Is) (fun x y H Q=>y=.non/\Q (.bl (decide (x=.non))) H):=by
 intro z0 s σ H x y v u Q I rx ry h;obtain⟨rfl,q⟩:=h;cases ry;refine is_none_gen (wD I q ?_)
 cases x<;>first
  | (cases rx;rfl)
  | (obtain⟨t,rfl⟩:=rx;rfl)
theorem Ds:OpR X (compareOp .IsNot) (fun x y H Q=>y=.non/\Q (.bl (!decide (x=.non))) H):=by
 intro z0 s σ H x y v u Q I rx ry h;obtain⟨rfl,q⟩:=h;cases ry;refine isnot_none_gen (wD I q ?_)
 cases x<;>first
  | (cases rx;rfl)
  | (obtain⟨t,rfl⟩:=rx;rfl)
theorem lC{op:CmpOp}{r:R2}(ho:OpR X (compareOp op) r)(ha:PE X a ta)(hb:PE X b tb)(hm:behindInMarks op b=false):PE X (.Compare a [op] [b] pos) (tOp r ta tb):=by
 intro z0 s σ H Q I h;exact wpAny_Compare1 (Q8 ha hb I h fun v u s2 x y H2 I2 rx ry q=>ho z0 s2 σ H2 x y v u Q I2 rx ry q) hm
def G4(t:TE):TT:=fun σ H Q=>t σ H fun x H'=>∃ k,x=.bl k/\Q k H'
theorem kZ{op:CmpOp}{r:R2}(ho:OpR X (compareOp op) r)(ha:PE X a ta)(hb:PE X b tb)(hm:behindInMarks op b=false):PT X (.Compare a [op] [b] pos) (G4 (tOp r ta tb)):=by
 intro z0 s σ H Q I h
 refine wpAny_isTrue_Compare1 (thn (ha z0 s σ H _ I h) fun v s1 ⟨x,H1,I1,r1,q1⟩=>thn (hb z0 s1 σ H1 _ I1 q1) fun u s2 ⟨y,H2,I2,r2,q2⟩ =>
  thn (ho z0 s2 σ H2 x y v u _ I2 r1 r2 q2) fun c s3 ⟨z,H3,I3,r3,k,e,q3⟩=>?_) hm
 subst e;cases r3;exact A2z ⟨H3,I3,q3⟩
def uE(r r':R2)(ta tb tc:TE):TE:=fun σ H Q=>ta σ H fun x H1=>tb σ H1 fun y H2=>r x y H2 fun z H3=>∃ k,z=.bl k /\
 (if k=true then tc σ H3 fun w' H4=>r' y w' H4 Q else Q (.bl false) H3)
theorem yQ{op op':CmpOp}{r r':R2}(ho:OpR X (compareOp op) r)(ho':OpR X (compareOp op') r')(ha:PE X a ta)(hb:PE X b tb)(hc:PE X c tc)
  (hm:lastMarks [op,op'] [b,c]=false:=by with_unfolding_all rfl):PE X (.Compare a [op,op'] [b,c] pos) (uE r r' ta tb tc):=by
 intro z0 s σ H Q I h
 refine Compare_chain (thn (ha z0 s σ H _ I h) fun v s1 ⟨x,H1,I1,r1,q1⟩=>chain_link (thn (hb z0 s1 σ H1 _ I1 q1) fun u s2 ⟨y,H2,I2,r2,q2⟩ =>
  thn (ho z0 s2 σ H2 x y v u _ I2 r1 r2 q2) fun d s3 ⟨z,H3,I3,r3,k,e,q3⟩=>?_)) hm
 subst e;cases r3;refine A2z ?_
 cases k with
 | false=>exact ite_ff ⟨.bl false,H3,I3,rfl,q3⟩
 | true=>exact ite_tt (chain_last (thn (hc z0 s3 σ H3 _ I3 q3) fun w' s4 ⟨z',H4,I4,r4,q4⟩=>ho' z0 s4 σ H4 y z' u w' Q I4 r2 r4 q4))
theorem yG{op op':CmpOp}{r r':R2}(ho:OpR X (compareOp op) r)(ho':OpR X (compareOp op') r')(ha:PE X a ta)(hb:PE X b tb)(hc:PE X c tc)
  (hm:lastMarks [op,op'] [b,c]=false:=by with_unfolding_all rfl):PT X (.Compare a [op,op'] [b,c] pos) (G4 (uE r r' ta tb tc)):=by
 intro z0 s σ H Q I h
 refine isTrue_chain (thn (ha z0 s σ H _ I h) fun v s1 ⟨x,H1,I1,r1,q1⟩=>test_link (thn (hb z0 s1 σ H1 _ I1 q1) fun u s2 ⟨y,H2,I2,r2,q2⟩ =>
  thn (ho z0 s2 σ H2 x y v u _ I2 r1 r2 q2) fun d s3 ⟨z,H3,I3,r3,k,e,q3⟩=>?_)) hm
 subst e;cases r3;refine A2z ?_
 cases k with
 | false =>
  obtain⟨k',e',q'⟩:=q3;cases e';exact ite_ff ⟨H3,I3,q'⟩
 | true =>
  refine ite_tt (test_last (thn (hc z0 s3 σ H3 _ I3 q3) fun w' s4 ⟨z',H4,I4,r4,q4⟩=>thn (ho' z0 s4 σ H4 y z' u w' _ I4 r2 r4 q4) fun d' s5 ⟨z2,H5,I5,r5,k2,e2,q5⟩=>?_));subst e2;cases r5;exact A2z ⟨H5,I5,q5⟩
theorem jX:(sizeLine:Nat)<2^63:=by rw[N4z];decide
theorem vals1{x:V}{us:List Value}(r:Vals [x] us):∃ u,us=[u]/\RelV x u:=by
 cases r with
 | cons r1 r2=>cases r2;exact⟨_,rfl,r1⟩
theorem vals2{x y:V}{us:List Value}(r:Vals [x,y] us):∃ u w',us=[u,w']/\RelV x u/\RelV y w':=by
 cases r with
 | cons r1 r2 =>
  cases r2 with
  | cons r3 r4=>cases r4;exact⟨_,_,rfl,r1,r3⟩
theorem Af:cB X (.builtin "abs") (fun xs H Q=>∃ i,xs=[.int i]/\Q (.int (if i<0 then -i else i)) H):=by
 intro z0 s σ H xs us Q I r h;obtain⟨i,rfl,q⟩:=h;obtain⟨u,rfl,t,rfl⟩:=vals1 r;exact call_abs_int fun u tk=>⟨.int (if i<0 then -i else i),H,I.tok _,⟨_,rfl⟩,q⟩
theorem xu(hc:X.calm=true):cB X (.builtin "max") (fun xs H Q=>∃ i j,xs=[.int i,.int j]/\Q (.int (if j>i then j else i)) H):=by
 intro z0 s σ H xs us Q I r h;obtain⟨i,j,rfl,q⟩:=h;obtain⟨u,w',rfl,⟨t,rfl⟩,⟨t',rfl⟩⟩:=vals2 r;refine max_two_ints (I.ok.hd hc) fun h' tk k=>⟨_,H,I.kept k,?_,q⟩
 by_cases hj:j>i
 ·rw[D5z hj,D5z hj];exact⟨_,rfl⟩
 ·rw[E5z hj,E5z hj];exact⟨_,rfl⟩
theorem xr(hc:X.calm=true):cB X (.builtin "min") (fun xs H Q=>∃ i j,xs=[.int i,.int j]/\Q (.int (if j<i then j else i)) H):=by
 intro z0 s σ H xs us Q I r h;obtain⟨i,j,rfl,q⟩:=h;obtain⟨u,w',rfl,⟨t,rfl⟩,⟨t',rfl⟩⟩:=vals2 r;refine min_two_ints (I.ok.hd hc) fun h' tk k=>⟨_,H,I.kept k,?_,q⟩
 by_cases hj:j<i
 ·rw[D5z hj,D5z hj];exact⟨_,rfl⟩
 ·rw[E5z hj,E5z hj];exact⟨_,rfl⟩
theorem ou:cB X (.type "int") (fun xs H Q=>(∃ i,xs=[.int i]/\Q (.int i) H)\/∃ k,xs=[.bl k]/\Q (.int (if k then 1 else 0)) H):=by
 intro z0 s σ H xs us Q I r h;rcases h with⟨i,rfl,q⟩ | ⟨k,rfl,q⟩
 ·obtain⟨u,rfl,t,rfl⟩:=vals1 r
  exact call_int_int ⟨.int i,H,I,⟨_,rfl⟩,q⟩
 ·obtain⟨u,rfl,r1⟩:=vals1 r
  cases r1;exact call_int_bool ⟨.int (if k then 1 else 0),H,I.tok _,⟨_,rfl⟩,q⟩
end
structure ObjM (h:Heap) (x dx C:Addr) (mA:Str->Option Value):Prop where
 obj:h.get? x=some (PySem.W.instObj C dx)
 ns:h.Ns1 dx mA
 ne:dx≠x
theorem vM{h:Heap}{dx:Addr}{mA:Str->Option Value}(n:h.Ns1 dx mA):∃ od,h.get? dx=some od/\∀ name,PySem.W.lookIn name od=some (mA name):=by
 obtain⟨o,es,ep,ho,hd,hk,_,hm⟩:=n;refine⟨o,ho,fun name=>?_⟩;have e:=hm name;unfold nsFind findBy at e;rw[<- Array.find?_toList] at e;unfold PySem.W.lookIn;rw[hd];dsimp only;split
 ·rename_i y q
  rw[q] at e;exact congrArg some e
 ·rename_i q
  rw[q] at e
  have a:es.toList.any (·.refKey)=false:=by
   rw[List.any_eq_false];intro y hy;obtain⟨z,t,hkey⟩:=hk y (Array.mem_toList_iff.mp hy);simp[DictEntry.refKey,hkey]
  have a':¬ es.toList.any (·.refKey)=true:=by rw[a];exact Q1z
  rw[E5z a'];exact congrArg some e
theorem ObjM.look{h:Heap}{x dx C:Addr}{mA:Str->Option Value}(I:ObjM h x dx C mA):∃ od,PySem.W.InstAt h x (PySem.W.instObj C dx) C (some od)/\∀ name,PySem.W.lookIn name od=some (mA name) :=
 let ⟨od,ho,hl⟩:=vM I.ns
 ⟨od,⟨I.obj,rfl,rfl,ho⟩,hl⟩
section
variable {prog:Program} {w:World} {A:Around} {E:Value->Shared->Prop} {s:Shared} {K:Zf} {x dx C f:Addr} {mA:Str->Option Value} {name:Str} {v:Value}
theorem get_map{expr:Bool}{Q:Value->Shared->Prop}(X:K.In s.heap)(I:ObjM s.heap x dx C mA)(hg:PySem.W.plainGet K C name=true)(hh:PySem.W.hasDictIn K C=true)
  (ha:PySem.W.findIn K (.ref C) name=some none) (hv:mA name=some v) (hv':PySem.W.handedIn v=true) (h:Q v { s with toks:=s.toks+1 }) :
  wpAny (model prog w) A (getAttr (.ref x) name expr) Q E s:=by
 obtain⟨od,J,hl⟩:=I.look;exact PySem.W.get_value X J (G1z hg).1 (PySem.W.findObj_own hh ha rfl (by rw[hl,hv])) hv' h
theorem zQ{pl:Sem Bool}{Q:Value×List Value->Shared->Prop}(X:K.In s.heap)(I:ObjM s.heap x dx C mA)(hg:PySem.W.plainGet K C name=true)
  (hf:PySem.W.findIn K (.ref C) name=some (some (.ref f))) (ht:PySem.W.isFn K (.ref f)=true) (hv:mA name=none) (h:Q (.ref f,[.ref x]) s) :
  wpAny (model prog w) A (getMethod (.ref x) name pl) Q E s:=by
 obtain⟨od,J,hl⟩:=I.look;exact PySem.W.method_fn X J (G1z hg).1 (G1z hg).2 hf (beq_iff_eq.mp ht) (by show(PySem.W.lookIn name od).map (·.isSome)=some false;rw[hl,hv];rfl) h
theorem Cv{ns:List Str}{Q:Unit->Shared->Prop}(X:K.In s.heap)(I:ObjM s.heap x dx C mA)
  (hs:PySem.W.findIn K (.ref C) "__setattr__"=some (some (.builtin "object.__setattr__"))) (hp:PySem.W.plainOver K C=true) (ht:PySem.W.takerIn K C name=some none) (hh:PySem.W.hasDictIn K C=true)
  (hw:PySem.Within mA ns) (hsz:ns.length<=sizeLine)
  (h:∀ h',ObjM h' x dx C (fun y=>if y=name then some v else mA y)->Heap.SameBut dx s.heap h'->Q () { s with heap:=h',toks:=s.toks+2 }) :
  wpAny (model prog w) A (setAttr (.ref x) name v) Q E s:=by
 obtain⟨od,J,hl⟩:=I.look;refine PySem.W.set_plain X J hs (PySem.W.osa_open (s:={ s with toks:=s.toks+1 }) (r:=none) X J hp ht fun b=>?_);obtain⟨cd,hc,hd'⟩:=PySem.W.any_some hh;have hx:s.heap.get? x=some ⟨.ref C,some dx,.plain,#[]⟩:=I.obj;refine S4z (T4z (S4z (S4z (wpAny_loadPart hx (S4z (PySem.W.Looks.here (s:={ s with toks:=s.toks+1 }) (PySem.W.looks_clsIn X hc) ?_))))));rw[hd'];refine T4z (a:=some dx) (S4z (T4z (S4z ?_)));refine wpAny_nsSet1 (s:={ s with toks:=s.toks+1 }) I.ns fun h' hn2 hs2=>?_;obtain⟨oD,esD,epD,hoD,hdD,hcD⟩:=hn2.count (PySem.Within.cons name v hw);refine S4z (wpAny_lookBehind hoD (by rw[hdD];exact pastItsLine_dict (G4z hcD (by rw[O2z];omega))) ?_);exact T4z (h _ ⟨(hs2.2 _ (B5z I.ne)).trans I.obj,hn2,I.ne⟩ hs2)
theorem zy{R:Result->Shared->Prop}{vs:List Value}{kw:List (Str×Value)}(X:K.In s.heap)(hm:PySem.W.makesIn K C=true)
  (hi:PySem.W.findIn K (.ref C) "__init__"=some (some (.ref f))) (hf:PySem.W.typeIn K (.ref f)=some (.type "function"))
  (h : codeAny (model prog w) (A.under (.builtin "type.__call__" ⟨.ref C :: vs, kw⟩)) (.call (.ref f) ⟨.ref (s.heap.objs.size + 1) :: vs, kw⟩) (PySem.W.InitBack (s.heap.objs.size + 1) R)
   { s with heap:=(s.heap.push PySem.W.emptyDict).push (PySem.W.instObj C s.heap.objs.size) }) :
  codeAny (model prog w) A (.call (.ref C) ⟨vs,kw⟩) R s:=by
 obtain⟨hh,g,d,t,os⟩:=s;exact PySem.W.make_core (PySem.W.makes_of X hm) (Y0z X hi) (fun self=>PySem.W.bind_fn X self hf) (.inl rfl) h
end
def kY(f:Str)(v:V):List (Str×V)->List (Str×V)
 | []=>[(f,v)]
 | (g,x)::r=>if g=f then(g,v)::r else(g,x)::kY f v r
theorem jk(f g:Str)(v:V):∀ fs:List (Str×V),(kY f v fs).lookup g=if g=f then some v else fs.lookup g
 | []=>by
  show List.lookup g [(f,v)]=_
  by_cases h:g=f
  ·have hb:(g==f)=true:=beq_iff_eq.mpr h
   simp only[List.lookup,hb,D5z h]
  ·have hb:(g==f)=false:=J1z.mpr h
   simp only[List.lookup,hb,E5z h]
 | (k,x)::r=>by
  have ih:=jk f g v r;rw[show kY f v ((k,x)::r)=(if k=f then(k,v)::r else(k,x)::kY f v r) from rfl]
  by_cases hk:k=f
  ·rw[D5z hk]
   by_cases h:g=k
   ·have hb:(g==k)=true:=beq_iff_eq.mpr h
    simp only[List.lookup,hb,D5z (h.trans hk)]
   ·have hb:(g==k)=false:=J1z.mpr h
    simp only[List.lookup,hb,E5z (fun e:g=f=>h (e.trans hk.symm))]
  ·rw[E5z hk]
   by_cases h:g=k
   ·have hb:(g==k)=true:=beq_iff_eq.mpr h
    simp only[List.lookup,hb,E5z (fun e:g=f=>hk (h.symm.trans e))]
   ·have hb:(g==k)=false:=J1z.mpr h
    simp only[List.lookup,hb];exact ih
theorem jq(f:Str)(v:V):∀ fs:List (Str×V),f∈(kY f v fs).map (·.1)/\∀ g,g∈fs.map (·.1)->g∈(kY f v fs).map (·.1)
 | []=>⟨by simp[kY],fun g h=>by simp at h⟩
 | (k,x)::r=>by
  obtain⟨i1,i2⟩:=jq f v r;rw[show kY f v ((k,x)::r)=(if k=f then(k,v)::r else(k,x)::kY f v r) from rfl]
  by_cases hk:k=f
  ·rw[D5z hk]
   subst hk;exact⟨by simp,fun g h=>by simpa using h⟩
  ·rw[E5z hk]
   refine⟨?_,fun g h=>?_⟩
   ·rw[Z3z]
    exact W0z _ i1
   ·rw[Z3z] at h ⊢
    rcases List.mem_cons.mp h with e | e
    ·exact List.mem_cons.mpr (.inl e)
    ·exact W0z _ (i2 g e)
theorem jm(f:Str)(v:V):∀ fs:List (Str×V),(kY f v fs).length<=fs.length+1
 | []=>by simp[kY]
 | (k,x)::r=>by
  have ih:=jm f v r;rw[show kY f v ((k,x)::r)=(if k=f then(k,v)::r else(k,x)::kY f v r) from rfl]
  by_cases hk:k=f
  ·rw[D5z hk,O2z,O2z];omega
  ·rw[E5z hk,O2z,O2z];omega
theorem j7.some_of{v:V}{o:Option Value}(r:j7 (some v) o):∃ u,o=some u/\RelV v u:=by
 cases o with
 | none=>exact(show False from r).elim
 | some u=>exact⟨u,rfl,r⟩
theorem j7.none_of{o:Option Value}(r:j7 none o):o=none:=by
 cases o with
 | none=>rfl
 | some u=>exact(show False from r).elim
theorem wA{v:V}{u:Value}(r:RelV v u):PySem.W.handedIn u=true:=by
 cases v with
 | non=>cases (show u=Value.none from r);rfl
 | bl b=>cases (show u=Value.bool b from r);rfl
 | int i=>obtain⟨t,e⟩:=(show ∃ t,u=Value.int i t from r);cases e;rfl
 | str x=>obtain⟨t,e⟩:=(show ∃ t,u=Value.str x t from r);cases e;rfl
 | byt b=>obtain⟨t,e⟩:=(show ∃ t,u=Value.bytes b t from r);cases e;rfl
 | flt b=>obtain⟨t,e⟩:=(show ∃ t,u=Value.float b t from r);cases e;rfl
 | ref a=>cases (show u=Value.ref a from r);rfl
 | ty n=>cases (show u=Value.type n from r);rfl
section
variable {P:Program} {w:World} {H H':Hp} {h h':Heap} {a C dx:Addr} {fs fs':List (Str×V)}
theorem pC(hok:HOk P w H h)(e:H a=some (.ins C dx fs)):∃ mA,ObjM h a dx C mA/\(∀ f,j7 (fs.lookup f) (mA f))/\PySem.Within mA (fs.map (·.1))/\fs.length<=1000/\H dx=some (.own a):=by
 obtain⟨d,z,ne,ob,mA,n,r,q⟩:=(show cg P w H h a (.ins C dx fs) from hok a _ e);exact⟨mA,⟨ob,n,ne⟩,r,q,z,d⟩
end
structure Cls (K:Zf) (C:Addr):Prop where
 pg:PySem.W.plainGet K C Str.empty=true
 hd:PySem.W.hasDictIn K C=true
 po:PySem.W.plainOver K C=true
 sa:PySem.W.findIn K (.ref C) "__setattr__"=some (some (.builtin "object.__setattr__"))
theorem Cls.get{K:Zf}{C:Addr}(c:Cls K C)(f:Str):PySem.W.plainGet K C f=true:=c.pg
def gG(K:Zf)(C:Addr)(f:Str):Prop:=PySem.W.findIn K (.ref C) f=some none
theorem gG.taker{K:Zf}{C:Addr}{f:Str}(n:gG K C f):PySem.W.takerIn K C f=some none:=by
 unfold PySem.W.takerIn;rw[show PySem.W.findIn K (.ref C) f=some none from n];rfl
structure Meth (K:Zf) (C:Addr) (m:Str) (f:Addr):Prop where
 at_:PySem.W.findIn K (.ref C) m=some (some (.ref f))
 fn:PySem.W.isFn K (.ref f)=true
 kp:PySem.W.keepIn K (.ref f)=true
section
variable {X:Cx} {z0:List (Addr×Obj)} {σ:St} {H:Hp} {s:Shared} {a C dx:Addr} {fs:List (Str×V)} {f:Str} {v:V} {A:Around} {E:Value->Shared->Prop}
theorem sU{b:Bool}{Q:Value->Shared->Prop}(I:Inv X z0 σ H s)(e:H a=some (.ins C dx fs))(c:Cls X.K C)(n:gG X.K C f)(l:fs.lookup f=some v)
  (h:∀ u s',Inv X z0 σ H s'->RelV v u->Q u s'):wpAny (model X.prog X.w) A (getAttr (.ref a) f b) Q E s:=by
 obtain⟨mA,O,r,_,_,_⟩:=pC I.hok e;obtain⟨u,hu,ru⟩:=j7.some_of (v:=v) (o:=mA f) (by rw[<- l];exact r f);exact get_map I.kIn O (c.get f) c.hd n hu (wA ru) (h u _ (I.tok _) ru)
theorem j4{m:Str}{g:Addr}{pl:Sem Bool}{Q:Value×List Value->Shared->Prop}(I:Inv X z0 σ H s)(e:H a=some (.ins C dx fs))(c:Cls X.K C)(k:Meth X.K C m g)(l:fs.lookup m=none)
  (h:Q (.ref g,[.ref a]) s):wpAny (model X.prog X.w) A (getMethod (.ref a) m pl) Q E s:=by
 obtain⟨mA,O,r,_,_,_⟩:=pC I.hok e;have hn:mA m=none:=j7.none_of (by rw[<- l];exact r m);exact zQ I.kIn O (c.get m) k.at_ k.fn hn h
theorem rQ{y:V}{u:Value}{Q:Unit->Shared->Prop}(I:Inv X z0 σ H s)(e:H a=some (.ins C dx fs))(c:Cls X.K C)(n:gG X.K C f)(hl:fs.length<1000)(ry:RelV y u)
  (h:∀ s',Inv X z0 σ (upd H a (.ins C dx (kY f y fs))) s'->Q () s'):wpAny (model X.prog X.w) A (setAttr (.ref a) f u) Q E s:=by
 obtain⟨mA,O,r,wi,_,ho⟩:=pC I.hok e
 have hz:(fs.map (·.1)).length<=sizeLine:=by rw[D3z,N4z];omega
 refine Cv I.kIn O c.sa c.po n.taker c.hd wi hz fun h' O' sb=>h _ ?_;have hd:∃ o,h'.get? dx=some o:=let ⟨o,_,_,e',_⟩:=O'.ns;⟨o,e'⟩;refine I.write (x:=a) (e:=dx) (by rw[e];exact True.intro) (.inr ho) (fun b q hb z=>(sb.2 b hb).trans z) hd ?_;refine⟨by rw[ak O.ne];exact ho,?_,O.ne,O'.obj,_,O'.ns,fun g=>?_,fun g hg=>?_⟩
 ·have:=jm f y fs;omega
 ·show j7 ((kY f y fs).lookup g) (if g=f then some u else mA g)
  rw[jk]
  by_cases q:g=f
  ·rw[D5z q,D5z q];exact ry
  ·rw[E5z q,E5z q];exact r g
 ·by_cases q:g=f
  ·rw[q];exact(jq f y fs).1
  ·refine(jq f y fs).2 g (wi g fun z=>hg ?_)
   show(if g=f then some u else mA g)=none;rw[E5z q];exact z
theorem Inv.made(I:Inv X z0 σ H s):Inv X z0 σ (upd (upd H s.heap.objs.size (.own (s.heap.objs.size+1))) (s.heap.objs.size+1) (.ins C s.heap.objs.size []))
  { s with heap:=(s.heap.push PySem.W.emptyDict).push (PySem.W.instObj C s.heap.objs.size) }:=by
 have e1:(s.heap.push PySem.W.emptyDict).get? s.heap.objs.size=some PySem.W.emptyDict:=Heap.get?_push_size s.heap rfl
 have e2:((s.heap.push PySem.W.emptyDict).push (PySem.W.instObj C s.heap.objs.size)).get? (s.heap.objs.size+1)=some (PySem.W.instObj C s.heap.objs.size):=by
  have:=Heap.get?_push_size (s.heap.push PySem.W.emptyDict) (o:=PySem.W.instObj C s.heap.objs.size) rfl
  rwa [R3z] at this
 have e3:(s.heap.push PySem.W.emptyDict).Ns s.heap.objs.size (fun _=>none):=⟨PySem.W.emptyDict,#[],_,e1,rfl,(fun e he=>absurd he (by simp)),fun _=>rfl⟩;have I1:=I.laid (a:=s.heap.objs.size) (o:=.own (s.heap.objs.size+1)) (h':=s.heap.push PySem.W.emptyDict) (t':=s.toks) (fun b u q=>Heap.get?_push_of_some _ q) (M4z _) ⟨_,e1⟩;refine I1.laid (a:=s.heap.objs.size+1) (o:=.ins C s.heap.objs.size []) (t':=s.toks) (fun b u q=>Heap.get?_push_of_some _ q) (Nat.le_of_eq (R3z _ _)) ?_;have ne:s.heap.objs.size≠s.heap.objs.size+1:=F4z (P2z _);refine⟨by rw[ak ne,aB],O4z _,ne,e2,fun _=>none,(Heap.Ns1.of_empty e3).at fun o q=>Heap.get?_push_of_some _ q,fun _=>True.intro,fun y hy=>absurd rfl hy⟩
theorem Gj{prog:Program}{w:World}{env:Env}{e:Expr}{f:Str}{pos:Pos}{s:Shared}{Q:Value->Shared->Prop}(hb:attributeBase e f env (eval e env)=eval e env)
  (h:wpAny (model prog w) A (eval e env) (fun o s₁=>wpAny (model prog w) A (getAttr o f true) Q E s₁) E s):wpAny (model prog w) A (eval (.Attribute e f pos) env) Q E s :=
 Attribute_any_ h (by rw[arm_eval_Attribute,hb])
end
def UG(K:Zf)(ta:TE)(f:Str):TE:=fun σ H Q=>ta σ H fun x H1=>∃ a C dx fs v,x=.ref a/\H1 a=some (.ins C dx fs)/\Cls K C/\gG K C f/\fs.lookup f=some v/\Q v H1
def Vd(K:Zf)(ta tv:TE)(f:Str):TS:=fun D σ H=>tv σ H fun y H1=>ta σ H1 fun x H2=>∃ a C dx fs,x=.ref a/\H2 a=some (.ins C dx fs)/\Cls K C/\gG K C f/\fs.length<1000 /\
 D.nx σ (upd H2 a (.ins C dx (kY f y fs)))
section
variable {X:Cx} {o e value:Expr} {f:Str} {pos pos' tpos:Pos} {ta tv:TE}
theorem dg(he:PE X e ta)(hb:attributeBase e f X.env (eval e X.env)=eval e X.env):PE X (.Attribute e f pos) (UG X.K ta f):=by
 intro z0 s σ H Q I h;refine Gj hb (thn (he z0 s σ H _ I h) fun u s1 ⟨x,H1,I1,rx,a,C,dx,fs,v,ex,ea,c,n,l,q⟩=>?_);subst ex;obtain rfl:u=Value.ref a:=rx;exact sU I1 ea c n l fun u' s2 I2 ru=>⟨v,H1,I2,ru,q⟩
theorem qy(ha:PE X o ta)(hv:PE X value tv)(hs:swapsWith value (some (.Attribute o f pos')) pos.line X.env=pure false):PS X (.Assign [.Attribute o f pos'] value pos) (Vd X.K ta tv f):=by
 intro z0 s σ H D I h;refine plainObj_wpAny_Assign_Attribute (thn (hv z0 s σ H _ I h) fun u s1 ⟨y,H1,I1,ry,q⟩=>thn (ha z0 s1 σ H1 _ I1 q) fun ov s2 ⟨x,H2,I2,rx,a,C,dx,fs,ex,ea,c,n,l,q2⟩=>?_) hs;subst ex;obtain rfl:ov=Value.ref a:=rx;exact rQ I2 ea c n l ry fun s3 I3=>⟨σ,_,I3,q2⟩
end
section
variable {X:Cx} {z0:List (Addr×Obj)} {σ:St} {H:Hp} {s:Shared} {A:Around} {E:Value->Shared->Prop} {Q:Value->Shared->Prop} {c:Value} {b:Bool}
end
structure Room (k:Nat) (A:Around):Prop where
 hd:A.handled=none
 dp:A.depth+3*k+5<recursionLimit
 un:A.units+16*k+200<cLine
theorem Room.mono{j k:Nat}{A:Around}(r:Room k A)(h:j<=k):Room j A:=⟨r.hd,by have:=r.dp;omega,by have:=r.un;omega⟩
theorem Room.deeper{k:Nat}{A:Around}(r:Room (k+1) A)(env:Env):Room k (A.deeper env) :=
 ⟨r.hd,by have:=r.dp;show A.depth+1+3*k+5<_;omega,by have:=r.un;show A.units+3+16*k+200<_;omega⟩
theorem sy{A:Around}{C:Addr}{us:List Value}{kw:List (Str×Value)}:(A.under (.builtin "type.__call__" ⟨.ref C::us,kw⟩)).depth=A.depth+1:=by
 first | rfl | simp[Around.under,Code.weight,Code.isCreation,Code.isGuard,Code.isCaller,Code.frames,Code.isFrame,guardIds]
theorem su{A:Around}{C:Addr}{us:List Value}{kw:List (Str×Value)}:(A.under (.builtin "type.__call__" ⟨.ref C::us,kw⟩)).units=A.units+1:=by
 first | rfl | simp[Around.under,Code.cUnits,Code.frames,Code.isFrame]
theorem Room.make{k:Nat}{A:Around}(r:Room (k+1) A)(C:Addr)(us:List Value)(kw:List (Str×Value)):Room k (A.under (.builtin "type.__call__" ⟨.ref C::us,kw⟩)) :=
 ⟨r.hd,by have:=r.dp;rw[sy];omega,by have:=r.un;rw[su];omega⟩
theorem Room.depth{k:Nat}{A:Around}(r:Room k A):A.depth<recursionLimit:=by have:=r.dp;omega
theorem Room.units{k:Nat}{A:Around}(r:Room k A):A.units+64<cLine:=by have:=r.un;omega
def G5:TA:=fun _ H Q=>Q [] H
def Ci(ta:TE)(tr:TA):TA:=fun σ H Q=>ta σ H fun x H1=>tr σ H1 fun xs H2=>Q (x::xs) H2
section
variable {X:Cx} {e:Expr} {es:List Expr} {te:TE} {t:TA} {pos:Pos}
theorem aK:PA X [] G5:=fun _ _ _ _ H Q I h=>C2z ⟨[],H,I,.nil,h⟩
theorem au(ha:PE X e te)(hr:PA X es t)(hs:starEach (e::es) X.env=(false,eval e X.env)::starEach es X.env:=by rfl):PA X (e::es) (Ci te t):=by
 intro pos z0 s σ H Q I h;rw[hs];show wpAny _ _ (spliced ((false,eval e X.env)::backTo pos (starEach es X.env))) _ _ s;refine R1z (thn (ha z0 s σ H _ I h) fun u s1 ⟨x,H1,I1,r1,q1⟩=>?_);exact thn (hr pos z0 s1 σ H1 _ I1 q1) fun us s2 ⟨xs,H2,I2,r2,q2⟩=>⟨x::xs,H2,I2,.cons r1 r2,q2⟩
def Uq(t:TA):TE:=fun σ H Q=>t σ H fun xs H1=>xs.length<=sizeLine/\∀ p,H1 p=none->Q (.ref p) (upd H1 p (.tup xs))
def Uw(t:TA):TE:=fun σ H Q=>t σ H fun xs H1=>xs.length<=sizeLine/\∀ p,H1 p=none->Q (.ref p) (upd H1 p (.lst xs))
theorem vf{x1}(h:PA X es t):PE X (.Tuple es x1 pos) (Uq t):=by
 intro z0 s σ H Q I hq;refine wpAny_Tuple_spliced (thn (h pos z0 s σ H _ I hq) fun us s1 ⟨xs,H1,I1,r,z,q⟩=>⟨by rw[<- r.length];exact z,?_⟩);have hf:H1 s1.heap.objs.size=none:=I1.hok.fresh (M4z _);refine⟨.ref s1.heap.objs.size,upd H1 s1.heap.objs.size (.tup xs),I1.laid (t':=s1.toks) (fun b u e=>Heap.get?_push_of_some _ e) (M4z _) ?_,rfl,q _ hf⟩;exact⟨z,us,r,⟨_,Heap.get?_push_size _ rfl,rfl,_,rfl⟩⟩
theorem jT(h:PA X es t):PE X (.List es pos) (Uw t):=by
 intro z0 s σ H Q I hq;refine wpAny_List_spliced (thn (h pos z0 s σ H _ I hq) fun us s1 ⟨xs,H1,I1,r,z,q⟩=>⟨by rw[<- r.length];exact z,?_⟩);have hf:H1 s1.heap.objs.size=none:=I1.hok.fresh (M4z _);refine⟨.ref s1.heap.objs.size,upd H1 s1.heap.objs.size (.lst xs),I1.laid (t':=s1.toks) (fun b u e=>Heap.get?_push_of_some _ e) (M4z _) ?_,rfl,q _ hf⟩;exact⟨z,us,0,r,Heap.get?_push_size _ rfl⟩
end
abbrev Sp:=List V->Hp->VK->XK->Prop
abbrev CXT:=List Env->Hp->Shared->XK->Value->Shared->Prop
structure Env0 (P:Program) (w:World) (K:Zf) (mg:Str->Option Value) (base:Heap) (A:Around) (outer:List Env) (s:Shared) (H:Hp):Prop where
 frames:A.frames=some outer
 mod:Mod K mg base
 bs:∀ b o,base.get? b=some o->s.heap.get? b=some o/\H b=none
 bsz:base.objs.size<=s.heap.objs.size
 funs:s.heap.FunFrames base outer
 frf:∀ b∈frs outer,H b=none
 hok:HOk P w H s.heap
 bare:AllBare s.gens
def CE(outer:List Env)(P:Program)(w:World)(H:Hp)(s:Shared)(Q:VK)(u:Value)(s':Shared):Prop :=
 ∃ v H',s'.os=s.os/\AllBare s'.gens/\Un (frs outer) [] H H' s.heap s'.heap/\HOk P w H' s'.heap/\RelV v u/\Q v H'
def CR(CX:CXT)(outer:List Env)(P:Program)(w:World)(H:Hp)(s:Shared)(Q:VK)(E:XK)(r:Result)(s':Shared):Prop :=
 match r with
 | .ok (.ret u)=>CE outer P w H s Q u s'
 | .ok _=>False
 | .error e=>CX outer H s E e s'
structure FnOk (P:Program) (w:World) (K:Zf) (mg:Str->Option Value) (base:Heap) (CX:CXT) (k:Nat) (f:Addr) (fd:FuncData) (ps:List Str) (sp:Sp):Prop where
 len:∀ vs H Q E,sp vs H Q E->vs.length=ps.length
 run:∀ (A:Around) (outer:List Env) (s:Shared) (H:Hp) (args:Args) (us:List Value) (vs:List V) (Q:VK) (E:XK),Room k A->Env0 P w K mg base A outer s H->BindsTo s fd args (ps.zip us)->Vals vs us->sp vs H Q E ->
  codeAny (model P w) A (.call (.ref f) args) (CR CX outer P w H s Q E) s
theorem FnOk.mono{P:Program}{w:World}{K:Zf}{mg:Str->Option Value}{base:Heap}{CX:CXT}{j k:Nat}{f:Addr}{fd:FuncData}{ps:List Str}{sp:Sp}(F:FnOk P w K mg base CX j f fd ps sp)(h:j<=k) :
  FnOk P w K mg base CX k f fd ps sp:=⟨F.len,fun A outer s H args us vs Q E hr=>F.run A outer s H args us vs Q E (hr.mono h)⟩
theorem FnOk.imp{P:Program}{w:World}{K:Zf}{mg:Str->Option Value}{base:Heap}{CX:CXT}{k:Nat}{f:Addr}{fd:FuncData}{ps:List Str}{sp sp':Sp}(F:FnOk P w K mg base CX k f fd ps sp)
  (h:∀ vs H Q E,sp' vs H Q E->sp vs H Q E):FnOk P w K mg base CX k f fd ps sp' :=
 ⟨fun vs H Q E q=>F.len vs H Q E (h _ _ _ _ q),fun A outer s H args us vs Q E hr he hb hv hs=>F.run A outer s H args us vs Q E hr he hb hv (h _ _ _ _ hs)⟩
theorem Env0.make{P:Program}{w:World}{K:Zf}{mg:Str->Option Value}{base:Heap}{A:Around}{outer:List Env}{s:Shared}{H:Hp}(e:Env0 P w K mg base A outer s H)(C:Addr)(us:List Value)(kw:List (Str×Value)) :
  Env0 P w K mg base (A.under (.builtin "type.__call__" ⟨.ref C::us,kw⟩)) outer s H:=⟨by first | exact e.frames | (simpa[Around.under,Code.envs,Code.isFrame,pushEnvs] using e.frames),e.mod,e.bs,e.bsz,e.funs,e.frf,e.hok,e.bare⟩
section
variable {X:Cx} {z0:List (Addr×Obj)} {σ:St} {H:Hp} {s s':Shared}
theorem Inv.env0(I:Inv X z0 σ H s):Env0 X.prog X.w X.K X.mg X.base X.A X.stack s H :=
 ⟨I.ok.frames,I.ok.mod,I.bs,G4z I.ok.bsz I.sz,I.stack,I.stkFree,I.hok,I.bare⟩
theorem Inv.after{Q:VK}{u:Value}(I:Inv X z0 σ H s)(h:CE X.stack X.prog X.w H s Q u s'):EP X z0 σ Q u s':=by
 obtain⟨v,H',os,bare,un,hok,r,q⟩:=h;obtain⟨hh,g,d,t,os'⟩:=s';obtain rfl:os'=s.os:=os;exact⟨v,H',I.call (h':=hh) (g':=g) (d':=d) (t':=t) (ch:=[]) un hok bare (fun b z=>absurd z (by simp)),r,q⟩
end
def Kf(sp:Sp)(dvs:List V)(E:XK)(t:TA):TE:=fun σ H Q=>t σ H fun vs H1=>sp (vs++dvs) H1 Q E
def G7(C:Addr)(m:Str)(sp:Sp)(dvs:List V)(E:XK)(ta:TE)(t:TA):TE:=fun σ H Q=>ta σ H fun x H1=>∃ a dx fs,x=.ref a/\H1 a=some (.ins C dx fs)/\fs.lookup m=none /\
 t σ H1 fun vs H2=>sp (x::(vs++dvs)) H2 Q E
def Ka(C:Addr)(sp:Sp)(dvs:List V)(E:XK)(t:TA):TE:=fun σ H Q=>t σ H fun vs H1=>∀ x dx,H1 x=none->H1 dx=none->dx≠x ->
 sp (.ref x::(vs++dvs)) (upd (upd H1 dx (.own x)) x (.ins C dx [])) (fun v H2=>v=.non/\Q (.ref x) H2) E
def Binds(K:Zf)(fd:FuncData)(ps:List Str)(ds:List Value):Prop :=
 ∀ (s:Shared) (us:List Value),K.In s.heap->(us++ds).length=ps.length->BindsTo s fd ⟨us,[]⟩ (ps.zip (us++ds))
theorem Binds.all{K:Zf}{fd:FuncData}{ps:List Str}(h:∀ us:List Value,us.length=ps.length->bindArgs fd ⟨us,[]⟩=pure (ps.zip us)):Binds K fd ps []:=fun s us _ hl=>by
 rw[E3z] at hl ⊢;exact .of_eq (h us hl)
def Passes(CX:CXT)(X:Cx)(E:XK):Prop:=∀ (z0:List (Addr×Obj)) (σ:St) (H:Hp) (s:Shared) (e:Value) (s':Shared),Inv X z0 σ H s->CX X.stack H s E e s'->X.xe e s'
section
variable {X:Cx} {CX:CXT} {k:Nat} {f C:Addr} {fd:FuncData} {ps:List Str} {sp:Sp} {dvs:List V} {ds:List Value} {E:XK} {x m:Str} {p pos apos:Pos} {e o:Expr} {es:List Expr} {ta:TE} {t:TA}
theorem uU{z0:List (Addr×Obj)}{σ:St}{H:Hp}{s:Shared}{Q:VK}{us:List Value}{vs:List V}(F:FnOk X.prog X.w X.K X.mg X.base CX k f fd ps sp)(hr:Room k X.A)(hb:Binds X.K fd ps ds)(hd:Vals dvs ds)(hx:Passes CX X E)
  (I:Inv X z0 σ H s) (r:Vals vs us) (h:sp (vs++dvs) H Q E):wpAny (model X.prog X.w) X.A (call (.ref f) us) (EP X z0 σ Q) X.xe s:=by
 have r2:Vals (vs++dvs) (us++ds):=r.append hd
 have hl:(us++ds).length=ps.length:=by rw[<- r2.length];exact F.len _ _ _ _ h
 refine wpAny_call (J4z (F.run X.A X.stack s H ⟨us,[]⟩ (us++ds) (vs++dvs) Q E hr I.env0 (hb s us I.kIn hl) r2 h) fun r s' hq=>?_)
 cases r with
 | error e=>exact hx z0 σ H s e s' I hq
 | ok fl =>
  cases fl with
  | ret u=>exact I.after hq
  | next=>exact False.elim hq
  | brk=>exact False.elim hq
  | cont=>exact False.elim hq
theorem dZ(F:FnOk X.prog X.w X.K X.mg X.base CX k f fd ps sp)(hr:Room k X.A)(hg:Gl X x)(hm:X.mg x=some (.ref f))(hk:PySem.W.keepIn X.K (.ref f)=true)(hb:Binds X.K fd ps ds)(hd:Vals dvs ds)(hx:Passes CX X E)
  (ha:PA X (e::es) t) (hdb:(x==("__debug__":Str))=false:=by decide) (he:starEach (e::es) X.env=(false,eval e X.env)::starEach es X.env:=by rfl) (hpl:(backTo pos (starEach es X.env)).any (·.1)=false:=by rfl) :
  PE X (.Call (.Name x p) (e::es) [] pos) (Kf sp dvs E t):=by
 intro z0 s σ H Q I h;refine S1z (eX I hg hm ?_ hdb);refine T1z (h₀:=X.base) I.ok.mod.kin hk (thn (ha pos z0 s σ H _ I h) fun us s1 ⟨vs,H1,I1,r,q⟩=>⟨I1.kIn,?_⟩) he hpl;exact uU F hr hb hd hx I1 r q
theorem cj{pl:Sem Bool}(he:PE X o ta)(c:Cls X.K C)(hm:Meth X.K C m f)(F:FnOk X.prog X.w X.K X.mg X.base CX k f fd ps sp)(hr:Room k X.A)(hb:Binds X.K fd ps ds)(hd:Vals dvs ds)(hx:Passes CX X E)(ha:PA X (e::es) t)
  (hst:starEach (e::es) X.env=(false,eval e X.env)::starEach es X.env:=by rfl) (hpl:(backTo pos (starEach es X.env)).any (·.1)=false:=by rfl)
  (ht:eval (.Call (.Attribute o m apos) (e::es) [] pos) X.env=(do
   let ov <- eval o X.env
   standAt apos.atName
   let (f,first) <- holding [ov] (getMethod ov m pl)
   callWith pos f first (backTo pos (starEach (e::es) X.env)) (backToKw pos (keywordEach [] X.env))):=by rfl) :
  PE X (.Call (.Attribute o m apos) (e::es) [] pos) (G7 C m sp dvs E ta t):=by
 intro z0 s σ H Q I h;refine PySem.W.methodCall_KW (pl:=pl) (thn (he z0 s σ H _ I h) fun u s1 ⟨x,H1,I1,rx,a,dx,fs,ex,ea,l,q⟩=>?_) ht;subst ex;obtain rfl:u=Value.ref a:=rx;refine j4 I1 ea c hm l ?_;refine T1z (first:=[.ref a]) (h₀:=X.base) I.ok.mod.kin hm.kp (thn (ha pos z0 s1 σ H1 _ I1 q) fun us s2 ⟨vs,H2,I2,r,q2⟩=>⟨I2.kIn,?_⟩) hst hpl;exact uU (us:=.ref a::us) (vs:=.ref a::vs) F hr hb hd hx I2 (.cons rfl r) q2
theorem yL{pl:Sem Bool}(he:PE X o ta)(c:Cls X.K C)(hm:Meth X.K C m f)(F:FnOk X.prog X.w X.K X.mg X.base CX k f fd ps sp)(hr:Room k X.A)(hb:Binds X.K fd ps ds)(hd:Vals dvs ds)(hx:Passes CX X E)
  (ht:eval (.Call (.Attribute o m apos) [] [] pos) X.env=(do
   let ov <- eval o X.env
   standAt apos.atName
   let (f,first) <- holding [ov] (getMethod ov m pl)
   callWith pos f first (backTo pos (starEach [] X.env)) (backToKw pos (keywordEach [] X.env))):=by rfl) :
  PE X (.Call (.Attribute o m apos) [] [] pos) (G7 C m sp dvs E ta G5):=by
 intro z0 s σ H Q I h;refine PySem.W.methodCall_KW (pl:=pl) (thn (he z0 s σ H _ I h) fun u s1 ⟨x,H1,I1,rx,a,dx,fs,ex,ea,l,q⟩=>?_) ht;subst ex;obtain rfl:u=Value.ref a:=rx;refine j4 I1 ea c hm l ?_;exact PySem.W.callWith_K0 (first:=[.ref a]) I1.kIn hm.kp (uU (us:=[.ref a]) (vs:=[.ref a]) F hr hb hd hx I1 (.cons rfl .nil) q)
structure Mk (K:Zf) (C f:Addr):Prop where
 makes:PySem.W.makesIn K C=true
 init:PySem.W.findIn K (.ref C) "__init__"=some (some (.ref f))
 fn:PySem.W.isFn K (.ref f)=true
 kp:PySem.W.keepIn K (.ref C)=true
theorem yx{z0:List (Addr×Obj)}{σ:St}{H:Hp}{s:Shared}{Q:VK}{us:List Value}{vs:List V}(M:Mk X.K C f)(F:FnOk X.prog X.w X.K X.mg X.base CX k f fd ps sp)(hr:Room (k+1) X.A)(hb:Binds X.K fd ps ds)(hd:Vals dvs ds)
  (hx:Passes CX X E) (I:Inv X z0 σ H s) (r:Vals vs us)
  (h:∀ x dx,H x=none->H dx=none->dx≠x->sp (.ref x::(vs++dvs)) (upd (upd H dx (.own x)) x (.ins C dx [])) (fun v H2=>v=.non/\Q (.ref x) H2) E) :
  wpAny (model X.prog X.w) X.A (call (.ref C) us) (EP X z0 σ Q) X.xe s:=by
 have hq:=h (s.heap.objs.size+1) s.heap.objs.size (I.hok.fresh (Nat.le_succ _)) (I.hok.fresh (M4z _)) (F4z (P2z _));have I2:=Inv.made (C:=C) I;have r2:Vals (V.ref (s.heap.objs.size+1)::(vs++dvs)) (Value.ref (s.heap.objs.size+1)::(us++ds)):=.cons rfl (r.append hd)
 have hl:(Value.ref (s.heap.objs.size+1)::us++ds).length=ps.length:=by
  have e:=r2.length;rw[F.len _ _ _ _ hq] at e;exact e.symm
 refine wpAny_call (zy (f:=f) I.kIn M.makes M.init (beq_iff_eq.mp M.fn) (J4z (F.run _ X.stack _ _ ⟨Value.ref (s.heap.objs.size+1)::us,[]⟩ (Value.ref (s.heap.objs.size+1)::(us++ds)) _ _ E (hr.make C us [])
  (I2.env0.make C us []) (hb _ (Value.ref (s.heap.objs.size+1)::us) I2.kIn hl) r2 hq) fun r s' hq'=>?_))
 cases r with
 | error e=>exact hx z0 σ _ _ e s' I2 hq'
 | ok fl =>
  cases fl with
  | ret u =>
   obtain⟨v,H',I3,rv,ev,q3⟩:=I2.after hq';subst ev;exact⟨rv,⟨V.ref (s.heap.objs.size+1),H',I3,rfl,q3⟩⟩
  | next=>exact False.elim hq'
  | brk=>exact False.elim hq'
  | cont=>exact False.elim hq'
theorem yM(M:Mk X.K C f)(F:FnOk X.prog X.w X.K X.mg X.base CX k f fd ps sp)(hr:Room (k+1) X.A)(hg:Gl X x)(hm:X.mg x=some (.ref C))(hb:Binds X.K fd ps ds)(hd:Vals dvs ds)(hx:Passes CX X E)
  (hdb:(x==("__debug__":Str))=false:=by decide):PE X (.Call (.Name x p) [] [] pos) (Ka C sp dvs E G5):=by
 intro z0 s σ H Q I h;refine S1z (eX I hg hm ?_ hdb);exact PySem.W.callWith_K0 I.kIn M.kp (yx (us:=[]) M F hr hb hd hx I .nil h)
end
section
variable {X:Cx} {CX:CXT} {k:Nat} {f C:Addr} {fd:FuncData} {ps ks:List Str} {sp:Sp} {E:XK} {x m:Str} {p pos apos kpos:Pos} {e o:Expr} {es:List Expr} {kws:List Keyword} {te ta:TE} {t tk:TA} {nm:Option Str}
variable {g:List Value->List Value->List Value} {gV:List V->List V->List V}
end
structure FnScope (N P:List Str) (sc:Scope):Prop where
 kind:sc.kind=.function
 co:sc.isCoroutine=false
 gen:sc.isGenerator=false
 nd:N.Nodup
 pre:N.take P.length=P
 par:∀ x∈P,sc.names.lookup x=some .local\/sc.names.lookup x=some .cell
 nofree:∀ y∈sc.names,y.2≠.free
theorem oF{kindOf:Str->Option NameKind}{x:Str}:∀ {binds:List (Str×Value)} {m:Str->Option Value},(∀ v,(x,v)∉binds)->bindL kindOf binds m x=m x
 | [],_,_=>rfl
 | (n,v)::r,m,h=>by
  unfold bindL;rw[oF fun w hw=>h w (W0z _ hw)];split
  ·have:x≠n:=by rintro rfl;exact h v O1z
   simp[this]
  ·rfl
theorem oG{kindOf:Str->Option NameKind}{x:Str}:∀ {binds:List (Str×Value)} {m:Str->Option Value},(∀ v,(x,v)∉binds)->bindC kindOf binds m x=m x
 | [],_,_=>rfl
 | (n,v)::r,m,h=>by
  unfold bindC;rw[oG fun w hw=>h w (W0z _ hw)];split
  ·rfl
  ·have:x≠n:=by rintro rfl;exact h v O1z
   simp[this]
theorem jB{kindOf:Str->Option NameKind}{x:Str}{v:Value}:∀ {P:List Str} {vs:List Value} {i:Nat} {m:Str->Option Value},P.Nodup->P[i]?=some x->vs[i]?=some v->kindOf x=some .local ->
  bindL kindOf (P.zip vs) m x=some v
 | [],_,_,_,_,h,_,_=>by simp at h
 | _::_,[],_,_,_,_,h,_=>by simp at h
 | p::P,w::vs,0,m,nd,h1,h2,hk=>by
  simp at h1 h2;subst h1;subst h2
  show bindL kindOf ((p,w)::P.zip vs) m p=_;unfold bindL;rw[oF fun v hv=>(I3z.mp nd).1 (F3z hv).1,D5z hk];simp
 | p::P,w::vs,i+1,m,nd,h1,h2,hk=>by
  show bindL kindOf ((p,w)::P.zip vs) m x=_;unfold bindL;exact jB (i:=i) (I3z.mp nd).2 (by simpa using h1) (by simpa using h2) hk
theorem jC{kindOf:Str->Option NameKind}{x:Str}{v:Value}:∀ {P:List Str} {vs:List Value} {i:Nat} {m:Str->Option Value},P.Nodup->P[i]?=some x->vs[i]?=some v->kindOf x≠some .local ->
  bindC kindOf (P.zip vs) m x=some v
 | [],_,_,_,_,h,_,_=>by simp at h
 | _::_,[],_,_,_,_,h,_=>by simp at h
 | p::P,w::vs,0,m,nd,h1,h2,hk=>by
  simp at h1 h2;subst h1;subst h2
  show bindC kindOf ((p,w)::P.zip vs) m p=_;unfold bindC;rw[oG fun v hv=>(I3z.mp nd).1 (F3z hv).1,E5z hk];simp
 | p::P,w::vs,i+1,m,nd,h1,h2,hk=>by
  show bindC kindOf ((p,w)::P.zip vs) m x=_;unfold bindC;exact jC (i:=i) (I3z.mp nd).2 (by simpa using h1) (by simpa using h2) hk
def start(N:List Str)(vs:List V):St:=vs.map some++List.replicate (N.length-vs.length) none
def dW(CX:CXT)(P:Program)(w:World)(K:Zf)(mg:Str->Option Value)(base:Heap)(N:List Str)(qual:Str)(scope:Scope)(f:Addr)(cd:Value)(A:Around)(outer:List Env)(s:Shared)(H:Hp)(E:XK):Cx where
 prog:=P
 w:=w
 K:=K
 mg:=mg
 base:=base
 A:=A.deeper (envOfC qual scope s.heap.objs.size f cd)
 N:=N
 s₀:=s
 H₀:=H
 env:=envOfC qual scope s.heap.objs.size f cd
 outer:=outer
 stack:=envOfC qual scope s.heap.objs.size f cd::outer
 ex:=[]
 calm:=true
 fn:=fun _=>true
 pn:=[]
 xe:=fun e s'=>wpAny (model P w) (A.deeper (envOfC qual scope s.heap.objs.size f cd)) (leaving (envOfC qual scope s.heap.objs.size f cd) e) (fun _ s''=>CX outer H s E e s'') (fun e' s''=>CX outer H s E e' s'') s'
theorem iJ{sc:Scope}{n:Nat}{x:Str}(h:sc.names.lookup x=some .cell):∃ c,(cellsFrom n sc.names []).lookup x=some c:=by
 have q:=N0z sc.names n [] (.inl h);exact Option.isSome_iff_exists.mp q
theorem wj{CX:CXT}{P:Program}{w:World}{K:Zf}{mg:Str->Option Value}{base:Heap}{N ps:List Str}{qual:Str}{scope:Scope}{f:Addr}{cd:Value}{A:Around}{outer:List Env}{s s1:Shared}{H:Hp}{E:XK}{us:List Value}{vs:List V}
  (S:FnScope N ps scope) (hd:A.handled=none) (e0:Env0 P w K mg base A outer s H) (hl:vs.length=ps.length) (r:Vals vs us)
  (x:InCallC s s.heap.objs.size (bindL (envOfC qual scope s.heap.objs.size f cd).kindOf (ps.zip us) fun _=>none) (cellsFrom (s.heap.objs.size+1) scope.names []) (bindC (envOfC qual scope s.heap.objs.size f cd).kindOf (ps.zip us) fun _=>none) s1) :
  Inv (dW CX P w K mg base N qual scope f cd A outer s H E) [] (start N vs) H s1:=by
 have hpl:ps.length<=N.length:=by have:=congrArg List.length S.pre;rw[Q2z] at this;omega
 obtain⟨h1,tk,rfl,hk⟩:=x.done;have noA:∀ b:Addr,b∉(dW CX P w K mg base N qual scope f cd A outer s H E).ex:=fun b z=>absurd (show b∈([]:List Addr) from z) (by simp)
 refine⟨⟨e0.mod,S.kind,rfl,rfl,M4z _,fun y z c h1 h2=>?_,fun y hy=>?_,fun y c _ h=>?_,fun _=>hd,Z0z e0.frames,.inr ⟨rfl,rfl⟩,fun b z=>absurd z (noA b),e0.bs,e0.bsz,fun b _ _=>noA b,fun b z=>absurd z (noA b),e0.funs,e0.frf⟩,
  rfl,e0.bare,Un.kept hk,⟨_,x.toInCall.ns,fun i y v h1 h2 h3=>?_⟩,fun y c h=>⟨_,x.cell y c h⟩,e0.hok.fresh (M4z _),fun y c h=>?_,fun p hp=>absurd (show p∈([]:List (Addr×Obj)) from hp) (by simp),e0.hok.kept hk,?_⟩
 ·exact name_of_addr x.apart (H1z h1) (H1z h2)
 ·have hy:scope.names.lookup y=some .cell\/scope.names.lookup y=some .free:=hy
  rcases hy with hy | hy
  ·exact iJ hy
  ·exact absurd rfl (S.nofree _ (H1z hy))
 ·exact H4z (x.above y c (H1z h))
 ·have hi:i<vs.length:=by
   unfold start at h2
   by_cases hi:i<vs.length
   ·exact hi
   ·rw[List.getElem?_append_right (by simpa using hi)] at h2
    rw[List.getElem?_replicate] at h2
    split at h2<;>cases h2
  have ha:vs[i]?=some v:=by
   unfold start at h2;rw[List.getElem?_append_left (by simpa using hi),List.getElem?_map] at h2
   cases e:vs[i]? with
   | none=>rw[e] at h2;cases h2
   | some a=>rw[e] at h2;cases h2;rfl
  obtain⟨u,hu,rv⟩:=r.get ha
  have hp:ps[i]?=some y:=by
   rw[<- S.pre,List.getElem?_take_of_lt (by omega)];exact h1
  have ndP:ps.Nodup:=by rw[<- S.pre];exact S.nd.sublist (List.take_sublist _ _)
  refine⟨u,rv,?_⟩;rcases S.par y (List.mem_of_getElem? hp) with k | k
  ·exact .inl ⟨k,jB ndP hp hu k⟩
  ·obtain⟨c,e⟩:=iJ (n:=s.heap.objs.size+1) k
   refine .inr ⟨.inl k,c,e,?_⟩;have q:=x.cell y c e;rw[jC ndP hp hu (by show scope.names.lookup y≠_;rw[k];decide)] at q;exact q
 ·exact e0.hok.fresh (H4z (x.above y c (H1z h)))
 ·unfold start
  show _=N.length;rw[U1z,D3z,List.length_replicate];omega
theorem Jl{CX:CXT}{P:Program}{w:World}{K:Zf}{mg:Str->Option Value}{base:Heap}{k:Nat}{f:Addr}{name qual:Str}{params:Arguments}{body:List Stmt}{scope:Scope}{dV kV doc pm cdv ct oc:Value}{an od:Option Addr}
  {osl:Array (Option Value)} {N ps:List Str} {sp:Sp} (lk:K.lookup f=some ⟨oc,od,.func (PySem.W.fnOf name qual params body scope dV kV doc pm an cdv ct),osl⟩) (hcd:PySem.W.codeIn K cdv qual=true) (S:FnScope N ps scope)
  (len:∀ vs H Q E,sp vs H Q E->vs.length=ps.length)
  (hbody : ∀ (A : Around) (outer : List Env) (s : Shared) (H : Hp) (vs : List V) (Q : VK) (E : XK), Room k (A.deeper (envOfC qual scope s.heap.objs.size f cdv)) -> sp vs H Q E ->
   ∃ t,PSs (dW CX P w K mg base N qual scope f cdv A outer s H E) body t/\t { nx:=fun _ H'=>Q .non H',rt:=Q } (start N vs) H) :
  FnOk P w K mg base CX (k+1) f (PySem.W.fnOf name qual params body scope dV kV doc pm an cdv ct) ps sp:=by
 refine⟨len,fun A outer s H args us vs Q E hr e0 hb r hsp=>?_⟩;have hl:=len _ _ _ _ hsp;have KX:K.In s.heap:=e0.mod.kin.keeps fun b o e=>(e0.bs b o e).1;have lim:s.heap.NoLimit:=e0.mod.nolimit.keeps fun b o e=>(e0.bs b o e).1
 have hkind:∀ y∈ps.zip us,scope.names.lookup y.1=some .local\/(scope.names.lookup y.1=some .cell/\((cellsFrom (s.heap.objs.size+1) scope.names []).lookup y.1).isSome=true):=fun⟨n,v⟩ hy=>by
  rcases S.par n (F3z hy).1 with q | q
  ·exact .inl q
  ·exact .inr ⟨q,N0z _ _ _ (.inl q)⟩
 refine codeAny_call_function hr.depth (KX _ _ lk) rfl S.co S.gen rfl (PySem.W.codeRec_of KX hcd) (hb _ _ _ _ ?_);refine wpAny_newFunctionEnv_cells S.kind hkind fun env he s1 x=>?_;subst he;refine⟨lim.keeps x.toInCall.keep,codeAny_func ?_⟩;obtain⟨t,ht,hq⟩:=hbody A outer s H vs Q E (hr.deeper _) hsp;have I:Inv (dW CX P w K mg base N qual scope f cdv A outer s H E) [] (start N vs) H s1:=wj S hr.hd e0 hl r x;refine R4z (ht [] s1 (start N vs) H _ I hq) (fun fl s' hs=>?_) fun e s' hs=>hs
 have fin:∀ {σ':St} {H':Hp} {v:V} {u:Value},Inv (dW CX P w K mg base N qual scope f cdv A outer s H E) [] σ' H' s'->RelV v u->Q v H'->CE outer P w H s Q u s' :=
  fun {σ' H' v u} J rv q=>⟨v,H',J.os,J.bare,J.base,J.hok,rv,q⟩
 cases fl with
 | ret u =>
  obtain⟨v,σ',H',J,rv,q⟩:=hs;exact fin J rv q
 | next =>
  obtain⟨σ',H',J,q⟩:=hs;exact fin (v:=V.non) (u:=Value.none) J rfl q
 | brk =>
  obtain⟨_,_,_,q⟩:=hs;exact False.elim q
 | cont =>
  obtain⟨_,_,_,q⟩:=hs;exact False.elim q
section
variable {X:Cx} {x:Str} {p pos:Pos} {e:Expr} {es:List Expr} {t:TA} {id T:String} {r:List V->Hp->VK->Prop}
def tCB(r:List V->Hp->VK->Prop)(t:TA):TE:=fun σ H Q=>t σ H fun vs H1=>r vs H1 Q
theorem bQ(hc:cB X (.builtin id) r)(hg:Gl X x)(hm:X.mg x=none)(hv:bootBuiltins x=some (.builtin id))(ha:PA X (e::es) t)(hn:x≠"__name__":=by decide)(hdb:(x==("__debug__":Str))=false:=by decide)
  (he:starEach (e::es) X.env=(false,eval e X.env)::starEach es X.env:=by rfl) (hpl:(backTo pos (starEach es X.env)).any (·.1)=false:=by rfl):PE X (.Call (.Name x p) (e::es) [] pos) (tCB r t):=by
 intro z0 s σ H Q I h;refine S1z (d8 I hg hm hv ?_ hn hdb);exact PyProof.Rows.callWith_builtin1 (thn (ha pos z0 s σ H _ I h) fun us s1 ⟨vs,H1,I1,r1,q1⟩=>hc z0 s1 σ H1 vs us Q I1 r1 q1) he hpl
theorem fZ(hc:cB X (.type T) r)(hg:Gl X x)(hm:X.mg x=none)(hv:bootBuiltins x=some (.type T))(ha:PA X (e::es) t)(hn:x≠"__name__":=by decide)(hdb:(x==("__debug__":Str))=false:=by decide)
  (he:starEach (e::es) X.env=(false,eval e X.env)::starEach es X.env:=by rfl) (hpl:(backTo pos (starEach es X.env)).any (·.1)=false:=by rfl):PE X (.Call (.Name x p) (e::es) [] pos) (tCB r t):=by
 intro z0 s σ H Q I h;refine S1z (d8 I hg hm hv ?_ hn hdb);exact B0z (thn (ha pos z0 s σ H _ I h) fun us s1 ⟨vs,H1,I1,r1,q1⟩=>hc z0 s1 σ H1 vs us Q I1 r1 q1) he hpl
end
end L2
namespace HT
open PySem PyProof.Rows
section
open PySem.SeqAt
open PySem.MeetsSeq PySem.MeetsSeq2 PySem.MeetsSeq3
end
section
variable {prog:Program} {w:World} {A:Around} {E:Value->Shared->Prop} {s:Shared}
theorem Ge{t b:Addr}{vs ws:List Value}{Q:Value->Shared->Prop}(ht:IsTup s.heap t vs.toArray)(hb:IsTup s.heap b ws.toArray)(hv:vs≠[])
  (h1:ws=[]->Q (.ref t) s) (h2:ws≠[]->Q (.ref s.heap.objs.size) { s with heap:=s.heap.push { cls:=.type "tuple",data:=.seq (vs++ws).toArray } })
  (hsz:vs.length+ws.length<=sizeLine):wpAny (model prog w) A (binaryOp .Add (.ref t) (.ref b)) Q E s:=by
 obtain⟨⟨cls,dd,data,sl⟩,ho,hc,n,hd⟩:=id ht;obtain⟨⟨cls2,dd2,data2,sl2⟩,ho2,hc2,n2,hd2⟩:=id hb;simp only at hc hd hc2 hd2;subst hc hd hc2 hd2
 have e:vs.toArray++ws.toArray=(vs++ws).toArray:=by simp
 by_cases hw:ws=[]
 ·exact concat_meets ⟨_,ho,rfl⟩ ⟨_,ho2,rfl⟩ noFill_tuple_add seq_tuple_add O0z K0z (E0z _ _)
   (tuple_addW1 t b vs.toArray ws.toArray n n2 dd dd2 sl sl2 (by simpa using hv) (by simp[hw])) ⟨ho,ho2,h1 hw⟩
 ·refine concat_meets ⟨_,ho,rfl⟩ ⟨_,ho2,rfl⟩ noFill_tuple_add seq_tuple_add O0z K0z (E0z _ _)
   (tuple_addW2 t b vs.toArray ws.toArray n n2 dd dd2 sl sl2 (by simpa using hv) (by simpa using hw) (by rw[D2z,D2z];exact hsz)) ⟨ho,ho2,?_⟩
  rw[e];exact h2 hw
end
end HT
namespace L2
open PySem PySem.Spec PyProof.Rows
abbrev TO:=St->Hp->(Option Int->Hp->Prop)->Prop
theorem intsAre_of{ns:List Int}:∀ {us:List Value},Vals (ns.map V.int) us->IntsAre us ns:=by
 induction ns with
 | nil=>intro us r;rw[K4z] at r;cases r;exact .nil
 | cons n ns ih =>
  intro us r;rw[Z3z] at r
  cases r with
  | cons r1 r2 =>
   obtain⟨t,e⟩:=r1;subst e;exact .cons n t (ih r2)
section
variable {X:Cx} {e:Expr} {te:TE} {lo hi:Option Expr} {tl th:TO} {pos p2:Pos}
def KC(K:Zf):R2:=fun x y H Q=>∃ a b xs ys,x=.ref a/\y=.ref b/\SqT K H a xs/\SqT K H b ys/\xs≠[]/\xs.length+ys.length<=sizeLine /\
 (ys=[]->Q (.ref a) H)/\(ys≠[]->∀ p,H p=none->Q (.ref p) (upd H p (.tup (xs++ys))))
theorem Vals.nil_iff{xs:List V}{us:List Value}(r:Vals xs us):us=[]↔xs=[]:=by
 cases r with
 | nil=>simp
 | cons _ _=>simp
theorem Dw:OpR X (binaryOp .Add) (KC X.K):=by
 intro z0 s σ H x y v u Q I rx ry h;obtain⟨a,b,xs,ys,rfl,rfl,ha,hb,hx,hz,q1,q2⟩:=h;cases rx;cases ry;obtain⟨its,r1,p1,_⟩:=I.tuple ha;obtain⟨its2,r2,p2,_⟩:=I.tuple hb;refine HT.Ge p1 p2 (fun z=>hx (r1.nil_iff.mp z)) (fun z=>⟨.ref a,H,I,rfl,q1 (r2.nil_iff.mp z)⟩) (fun z=>?_) (by rw[<- r1.length,<- r2.length];exact hz);refine⟨.ref s.heap.objs.size,_,I.laid (t':=s.toks) (o:=.tup (xs++ys)) (fun b ob q=>Heap.get?_push_of_some _ q) (M4z _) ?_,rfl,q2 (fun w=>z (r2.nil_iff.mpr w)) _ (I.hok.fresh (M4z _))⟩;exact⟨by rw[U1z];exact hz,_,r1.append r2,IsTup.new _ _⟩
end
def ixN(n:Nat)(i:Int):Option Nat:=if 0<=i then(if i<n then some i.toNat else none) else if -(n:Int)<=i then some (i+n).toNat else none
def atI{α:Type}(xs:List α)(i:Int):Option α:=(ixN xs.length i).bind fun j=>xs[j]?
theorem v9{n:Nat}{i:Int}{j:Nat}(h:ixN n i=some j):seqIndex? i n=some j/\j<n /\ -(n:Int)<=i/\i<n:=by
 unfold ixN at h
 by_cases h0:0<=i
 ·rw[D5z h0] at h
  by_cases h1:i<n
  ·rw[D5z h1] at h
   have e:i.toNat=j:=B3z h;exact⟨by rw[seqIndex_of h0 h1,e],by omega,by omega,h1⟩
  ·rw[E5z h1] at h;cases h
 ·rw[E5z h0] at h
  by_cases h1:-(n:Int)<=i
  ·rw[D5z h1] at h
   have e:(i+n).toNat=j:=B3z h;exact⟨by rw[seqIndex_neg (by omega) h1,e],by omega,h1,by omega⟩
  ·rw[E5z h1] at h;cases h
theorem xQ{α:Type}{xs:List α}{i:Int}{v:α}(h:atI xs i=some v):∃ j,seqIndex? i xs.length=some j/\xs[j]?=some v/\j<xs.length /\ -(xs.length:Int)<=i/\i<xs.length:=by
 unfold atI at h
 cases e:ixN xs.length i with
 | none=>rw[e] at h;cases h
 | some j =>
  rw[e] at h;obtain⟨h1,h2,h3,h4⟩:=v9 e;exact⟨j,h1,h,h2,h3,h4⟩
def xY(b:Expr):Prop:=∀ o i,subscripted b false o i=operate [o,i] (getItem o i)
def IxR(X:Cx)(r:R2):Prop :=
  ∀ (value slice : Expr) (z0 : List (Addr × Obj)) (s : Shared) (σ : St) (H : Hp) (x y : V) (v u : Value) (Q : VK), Inv X z0 σ H s -> RelV x v -> RelV y u -> r x y H Q ->
    subscripted slice false v u=operate [v,u] (getItem v u)->wpAny (model X.prog X.w) X.A (subscriptTail value slice v u) (EP X z0 σ Q) X.xe s
def MtR(X:Cx)(id:String)(r:V->List V->Hp->VK->Prop):Prop :=
  ∀ (z0 : List (Addr × Obj)) (s : Shared) (σ : St) (H : Hp) (x : V) (xs : List V) (v : Value) (us : List Value) (Q : VK), Inv X z0 σ H s -> RelV x v -> Vals xs us -> r x xs H Q ->
    wpAny (model X.prog X.w) X.A (call (.builtin id) (v::us)) (EP X z0 σ Q) X.xe s
section
variable {X:Cx} {a b:Expr} {ta tb:TE} {pos:Pos}
theorem vg{r:R2}(hr:IxR X r)(ha:PE X a ta)(hb:PE X b tb)(hs:xY b):PE X (.Subscript a b pos) (tOp r ta tb):=by
 intro z0 s σ H Q I h;exact Subscript_ (Q8 ha hb I h fun v u s2 x y H2 I2 rx ry q=>hr a b z0 s2 σ H2 x y v u Q I2 rx ry q (hs _ _))
def Vh(K:Zf):R2:=fun x y H Q=>∃ p xs i v,x=.ref p/\y=.int i/\SqL K H p xs/\atI xs i=some v/\Q v H
def Vg(K:Zf):R2:=fun x y H Q=>∃ p xs i v,x=.ref p/\y=.int i/\SqT K H p xs/\atI xs i=some v/\Q v H
theorem En:IxR X (Vh X.K):=by
 intro value slice z0 s σ H x y v u Q I rx ry h hs;obtain⟨p,xs,i,z,rfl,rfl,hq,he,q⟩:=h;cases rx;obtain⟨t,rfl⟩:=ry;obtain⟨its,r,pl,hz⟩:=I.list hq;obtain⟨j,h1,h2,h3,h4,h5⟩:=xQ he;obtain⟨w,ew,rw'⟩:=r.get h2;have hl:=r.length;have hn:=jX;have fin:EP X z0 σ Q w s:=⟨z,H,I,rw',q⟩
 by_cases h0:0<=i
 ·have hj:i.toNat=j:=by
   rw[seqIndex_of h0 h5] at h1;exact B3z h1
  exact item_listR pl.isList h0 (by omega) (by rw[hj];simpa using ew) fin hs
 ·have hj:(i+(its.toArray.size:Int)).toNat=j:=by
   rw[seqIndex_neg (by omega) h4] at h1;rw[D2z,<- hl];exact B3z h1
  exact subscriptTail_builtinR (x:=w) pl.isList.typeIs slot_list_getitem.lookup
   (wpAny_getItem_list_neg (Q:=fun r s'=>r=w/\EP X z0 σ Q r s') pl.isList (by omega) (by rw[D2z]<;>omega) (by omega) (by rw[hj];simpa using ew) ⟨rfl,fin⟩) hs
theorem qJ:IxR X (Vg X.K):=by
 intro value slice z0 s σ H x y v u Q I rx ry h hs;obtain⟨p,xs,i,z,rfl,rfl,hq,he,q⟩:=h;cases rx;obtain⟨t,rfl⟩:=ry;obtain⟨its,r,pl,hz⟩:=I.tuple hq;obtain⟨j,h1,h2,h3,h4,h5⟩:=xQ he;obtain⟨w,ew,rw'⟩:=r.get h2;have hl:=r.length;have hn:=jX;have fin:EP X z0 σ Q w s:=⟨z,H,I,rw',q⟩
 exact subscriptTail_builtinR (x:=w) pl.typeIs slot_tuple_getitem.lookup
  (getItem_tuple (j:=j) (Q:=fun r s'=>r=w/\EP X z0 σ Q r s') pl (by omega) (by omega) (by rw[D2z,<- hl];exact h1) (by simpa using ew) ⟨rfl,fin⟩) hs
theorem rZ(its:List Value)(n j:Nat)(u:Value):Obj.mapSeq (·.setIfInBounds j u) { cls:=.type "list",data:=.seq its.toArray n }={ cls:=.type "list",data:=.seq (its.set j u).toArray n }:=by
 simp[Obj.mapSeq]
theorem Inv.lst{z0:List (Addr×Obj)}{σ:St}{H:Hp}{s:Shared}{p:Addr}{xs:List V}(I:Inv X z0 σ H s)(h:H p=some (.lst xs)) :
  ∃ (its:List Value) (n:Nat),Vals xs its/\s.heap.get? p=some { cls:=.type "list",data:=.seq its.toArray n }/\xs.length<=sizeLine:=by
 obtain⟨z,its,n,r,e⟩:=I.hok p _ h;exact⟨its,n,r,e,z⟩
theorem Inv.lstUpd{z0:List (Addr×Obj)}{σ:St}{H:Hp}{s:Shared}{p:Addr}{xs ys:List V}{its its':List Value}{n n':Nat}{f:Obj->Obj}(I:Inv X z0 σ H s)(h:H p=some (.lst xs))
  (ho:s.heap.get? p=some { cls:=.type "list",data:=.seq its.toArray n }) (hf:f { cls:=.type "list",data:=.seq its.toArray n }={ cls:=.type "list",data:=.seq its'.toArray n' }) (r:Vals ys its') (hz:ys.length<=sizeLine) (t:Nat) :
  Inv X z0 σ (upd H p (.lst ys)) { s with heap:=s.heap.update p f,toks:=t }:=by
 have e:(s.heap.update p f).get? p=some { cls:=.type "list",data:=.seq its'.toArray n' }:=by
  rw[Heap.get?_update_self f ho (by rw[hf]<;>rfl),hf]
 refine I.write (x:=p) (e:=p) (by rw[h];trivial) (.inl rfl) (fun b u hb q=>(Heap.get?_update_other _ _ (B5z hb)).trans q) ⟨_,e⟩ ?_
 exact⟨hz,its',n',r,e⟩
def Ks:V->V->V->Hp->(Hp->Prop)->Prop:=fun o i v H Q=>∃ p xs k j,o=.ref p/\i=.int k/\H p=some (.lst xs)/\ixN xs.length k=some j/\Q (upd H p (.lst (xs.set j v)))
theorem set_list:Uk X Ks:=by
 intro z0 s σ H o i v ov iv u Q I ro ri rv h;obtain⟨p,xs,k,j,rfl,rfl,hp,hj,q⟩:=h;cases ro;obtain⟨t,rfl⟩:=ri;obtain⟨its,n,r,ho,hz⟩:=I.lst hp;obtain⟨h1,h2,h3,h4⟩:=v9 hj;have hl:=r.length;have hn:=jX
 have I':Inv X z0 σ (upd H p (.lst (xs.set j v))) { s with heap:=s.heap.update p (Obj.mapSeq (·.setIfInBounds j u)) } :=
  I.lstUpd hp ho (rZ its n j u) (r.set rv j) (by rw[H3z];exact hz) s.toks
 by_cases h0:0<=k
 ·have hk:k.toNat=j:=by
   rw[seqIndex_of h0 h4] at h1;exact B3z h1
  exact PySem.W.ki_setAt ho h0 (by omega) (by rw[D2z,<- hl];exact h4) (by rw[hk];exact⟨_,I',q⟩)
 ·have hk:(k+(its.toArray.size:Int)).toNat=j:=by
   rw[seqIndex_neg (by omega) h3] at h1;rw[D2z,<- hl];exact B3z h1
  exact PySem.W.ki_setBack ho (by omega) (by rw[D2z,<- hl];exact h3) (by omega) (by rw[hk];exact⟨_,I',q⟩)
theorem dB:cB X (.builtin "len") (fun xs H Q=>∃ p ys,xs=[.ref p]/\(SqL X.K H p ys\/SqT X.K H p ys)/\Q (.int ys.length) H):=by
 intro z0 s σ H xs us Q I r h;obtain⟨p,ys,rfl,hq,q⟩:=h;obtain⟨u,rfl,rx⟩:=vals1 r;cases rx;have hn:=jX;rcases hq with hq | hq
 ·obtain⟨its,r',pl,hz⟩:=I.list hq
  have hlen:=r'.length;exact Calls.call_len_list pl.isList (by simp only[D2z]<;>omega) ⟨.int ys.length,H,I.tok _,⟨s.toks+1,by rw[D2z,hlen]⟩,q⟩
 ·obtain⟨its,r',pl,hz⟩:=I.tuple hq
  have hlen:=r'.length;exact len_tuple pl (by simp only[D2z]<;>omega) ⟨.int ys.length,H,I.tok _,⟨s.toks+1,by rw[D2z,hlen]⟩,q⟩
theorem n8:cB X (.builtin "len") (fun xs H Q=>∃ z,xs=[.str z]/\z.length<=sizeLine/\Q (.int z.length) H):=by
 intro z0 s σ H xs us Q I r h;obtain⟨z,rfl,hz,q⟩:=h;obtain⟨u,rfl,t,rfl⟩:=vals1 r;have hn:=jX;exact len_str (by omega) ⟨.int z.length,H,I.tok _,⟨_,rfl⟩,q⟩
theorem gY:cB X (.type "list") (fun xs H Q=>∃ p ys,xs=[.ref p]/\(SqL X.K H p ys\/SqT X.K H p ys)/\∀ l,H l=none->Q (.ref l) (upd H l (.lst ys))):=by
 intro z0 s σ H xs us Q I r h;obtain⟨p,ys,rfl,hq,q⟩:=h;obtain⟨u,rfl,rx⟩:=vals1 r;cases rx
 have fin:∀ (its:List Value),Vals ys its->ys.length<=sizeLine->∀ (h':Heap) (c':Nat),(∀ b o',s.heap.get? b=some o'->h'.get? b=some o') ->
   h'.get? s.heap.objs.size=some { cls:=.type "list",dict:=none,data:=.seq its.toArray c',slots := #[] }->EP X z0 σ Q (.ref s.heap.objs.size) { s with heap:=h' }:=fun its r' hz h' c' kp e =>
  ⟨.ref s.heap.objs.size,_,I.laid (t':=s.toks) kp (M4z _) (show cg X.prog X.w _ h' _ (.lst ys) from⟨hz,its,c',r',e⟩),rfl,q _ (I.hok.fresh (M4z _))⟩
 rcases hq with hq | hq
 ·obtain⟨its,r',pl,hz⟩:=I.list hq
  have hlen:=r'.length;obtain⟨o,ho,hc,n,hd⟩:=pl.isList;exact call_list_seq p (.inl rfl) ho hc hd (fun h' c' kp e=>fin its r' hz h' c' kp e) (by simp only[D2z]<;>omega)
 ·obtain⟨its,r',pl,hz⟩:=I.tuple hq
  have hlen:=r'.length;obtain⟨o,ho,hc,n,hd⟩:=pl;exact call_list_seq p (.inr rfl) ho hc hd (fun h' c' kp e=>fin its r' hz h' c' kp e) (by simp only[D2z]<;>omega)
theorem lZ:cB X (.type "tuple") (fun xs H Q=>∃ p ys,xs=[.ref p]/\((SqL X.K H p ys/\∀ l,H l=none->Q (.ref l) (upd H l (.tup ys)))\/(SqT X.K H p ys/\Q (.ref p) H))):=by
 intro z0 s σ H xs us Q I r h;obtain⟨p,ys,rfl,h⟩:=h;obtain⟨u,rfl,rx⟩:=vals1 r;cases rx;rcases h with⟨hq,q⟩ | ⟨hq,q⟩
 ·obtain⟨its,r',pl,hz⟩:=I.list hq
  have hlen:=r'.length;refine call_tuple_list pl.isList (fun h' kp=>?_) (by simp only[D2z]<;>omega);have I1:Inv X z0 σ H { s with heap:=h' }:=I.kept (t':=s.toks) kp
  have I2:Inv X z0 σ (upd H h'.objs.size (.tup ys)) { s with heap:=h'.push { cls:=.type "tuple",data:=.seq its.toArray } } :=
   I1.laid (t':=s.toks) (fun b o e=>Heap.get?_push_of_some _ e) (M4z _) (show cg X.prog X.w _ _ _ (.tup ys) from⟨hz,its,r',IsTup.new _ _⟩)
  exact⟨.ref h'.objs.size,_,I2,rfl,q _ (I1.hok.fresh (M4z _))⟩
 ·obtain⟨its,r',pl,hz⟩:=I.tuple hq
  exact call_tuple_same pl ⟨.ref p,H,I,rfl,q⟩
def tyV(K:Zf)(T:String)(x:V)(H:Hp):Prop:=match x with
 | .str _=>T="str"
 | .int _=>T="int"
 | .ref p => (T = "list" /\ ∃ xs, SqL K H p xs) \/ (T = "tuple" /\ ∃ o, K.lookup p = some o /\ o.cls = .type "tuple" /\ o.dict = none) \/
   (T="dict"/\((∃ kvs,H p=some (.dK kvs))\/∃ kvs,H p=some (.dT kvs)))\/(T="set"/\∃ S n,H p=some (.set S n))
 | _=>False
theorem Ao{z0:List (Addr×Obj)}{σ:St}{H:Hp}{s:Shared}{T:String}{x:V}{v:Value}(I:Inv X z0 σ H s)(r:RelV x v)(ty:tyV X.K T x H) :
  s.TypeIs v T/\∀ a,v=.ref a->∃ ob,s.heap.get? a=some ob/\ob.dict=none:=by
 cases x with
 | str z =>
  obtain⟨t,rfl⟩:=r;cases (show T="str" from ty);exact⟨typeIs_str s z t,fun _ e=>nomatch e⟩
 | int i =>
  obtain⟨t,rfl⟩:=r;cases (show T="int" from ty);exact⟨typeIs_int s i t,fun _ e=>nomatch e⟩
 | ref p =>
  cases r;rcases ty with⟨rfl,xs,hq⟩ | ⟨rfl,o,hk,hc,hd⟩ | ⟨rfl,hk⟩ | ⟨rfl,S,n,hk⟩
  ·obtain⟨its,_,pl,_⟩:=I.list hq
   refine⟨pl.isList.typeIs,fun a e=>?_⟩;cases e;obtain⟨o,n,e,c,hd,_⟩:=pl;exact⟨o,e,hd⟩
  ·refine⟨⟨o,I.kIn p o hk,hc⟩,fun a e=>?_⟩
   cases e;exact⟨o,I.kIn _ o hk,hd⟩
  ·have z:∃ o,s.heap.get? p=some o/\o.ExactDict:=by
    rcases hk with⟨kvs,hk⟩ | ⟨kvs,hk⟩
    ·obtain⟨_,_,_,_,o,_,_,e,ex,_⟩:=I.hok p _ hk
     exact⟨o,e,ex⟩
    ·obtain⟨_,_,_,_,o,_,_,e,ex,_⟩:=I.hok p _ hk
     exact⟨o,e,ex⟩
   obtain⟨o,e,ex⟩:=z;refine⟨⟨o,e,ex.1⟩,fun a e2=>?_⟩;cases e2;exact⟨o,e,ex.2.1⟩
  ·obtain⟨o,_,_,_,e,ex,_⟩:=I.hok p _ hk
   refine⟨⟨o,e,ex.1⟩,fun a e2=>?_⟩;cases e2;exact⟨o,e,ex.2.1⟩
 | _=>exact False.elim ty
def UW(K:Zf)(T:String)(r:V->List V->Hp->VK->Prop)(to:TE):TE:=fun σ H Q=>to σ H fun x H1=>tyV K T x H1/\r x [] H1 Q
def tBM(K:Zf)(T:String)(r:V->List V->Hp->VK->Prop)(to:TE)(t:TA):TE:=fun σ H Q=>to σ H fun x H1=>tyV K T x H1/\t σ H1 fun xs H2=>r x xs H2 Q
variable {o e:Expr} {es:List Expr} {to:TE} {t:TA} {name:Str} {apos cpos:Pos} {T id:String} {r:V->List V->Hp->VK->Prop}
theorem HX(pa:PlainAttrs T)(slot:Slot T name id)(hty:typeOf (.builtin id)=pure (.type "method_descriptor"))(hm:MtR X id r)(ho:PE X o to)
  (hbase:attributeBase o name X.env (eval o X.env)=eval o X.env:=by rfl) (hline:(apos.endLine==cpos.line)=true:=by rfl):PE X (.Call (.Attribute o name apos) [] [] cpos) (UW X.K T r to):=by
 intro z0 s σ H Q I h;refine wpAny_Call_method0_late hbase hline (thn (ho z0 s σ H _ I h) fun v s1 ⟨x,H1,I1,r1,ty,q1⟩=>?_);obtain⟨h1,h2⟩:=Ao I1 r1 ty;exact⟨T,id,pa,slot,hty,h1,h2,P0z rfl (PySem.evalArgs_none (hm z0 s1 σ H1 x [] v [] Q I1 r1 .nil q1))⟩
theorem jJ(pa:PlainAttrs T)(slot:Slot T name id)(hty:typeOf (.builtin id)=pure (.type "method_descriptor"))(hm:MtR X id r)(ho:PE X o to)(ha:PA X (e::es) t)
  (hbase:attributeBase o name X.env (eval o X.env)=eval o X.env:=by rfl)
  (hfew : ((backTo cpos (starEach (e :: es) X.env)).all (fun x => !x.1) && (backToKw cpos (keywordEach [] X.env)).all (fun x => x.1.isSome)
   && decide ((e::es).length+([]:List Keyword).length+(if([]:List Keyword).isEmpty then 0 else 1)<30))=true:=by rfl)
  (hline:(apos.endLine==cpos.line)=true:=by rfl) (hs:starEach (e::es) X.env=(false,eval e X.env)::starEach es X.env:=by rfl) (hplain:(backTo cpos (starEach es X.env)).any (·.1)=false:=by rfl) :
  PE X (.Call (.Attribute o name apos) (e::es) [] cpos) (tBM X.K T r to t):=by
 intro z0 s σ H Q I h;refine wpAny_Call_method_late hbase hfew hline rfl (thn (ho z0 s σ H _ I h) fun v s1 ⟨x,H1,I1,r1,ty,q1⟩=>?_);obtain⟨h1,h2⟩:=Ao I1 r1 ty;refine⟨T,id,pa,slot,hty,h1,h2,?_⟩;have hA:=ha cpos z0 s1 σ H1 _ I1 q1;rw[hs] at hA ⊢;refine P0z (by show(false||(backTo cpos (starEach es X.env)).any (·.1))=false;rw[hplain]<;>rfl) (A1z ?_);exact thn hA fun us s2 ⟨vs,H2,I2,r2,q2⟩=>hm z0 s2 σ H2 x vs v us Q I2 r1 r2 q2
end
def MtM(X:Cx)(id:String)(r:V->List V->Hp->VK->Prop):Prop :=
  ∀ (z0 : List (Addr × Obj)) (s : Shared) (σ : St) (H : Hp) (x : V) (xs : List V) (v : Value) (us : List Value) (Q : VK), Inv X z0 σ H s -> RelV x v -> Vals xs us -> r x xs H Q ->
    wpAny (model X.prog X.w) X.A (call (.builtin id) (v::us)) (EP X z0 σ Q) X.xe s
theorem Vals.one:∀ {x:V} {us:List Value},Vals [x] us->∃ u,us=[u]/\RelV x u
 | _,_,.cons r .nil=>⟨_,rfl,r⟩
theorem Vals.zero:∀ {us:List Value},Vals [] us->us=[]
 | _,.nil=>rfl
theorem Vals.dropLast{xs:List V}{us:List Value}(h:Vals xs us):Vals xs.dropLast us.dropLast:=by
 induction h with
 | nil=>exact .nil
 | cons r t ih =>
  cases t with
  | nil=>exact .nil
  | cons q t'=>exact .cons r ih
theorem Vals.rep{xs:List V}{us:List Value}(h:Vals xs us):∀ k:Nat,Vals (List.replicate k xs).flatten (List.replicate k us).flatten
 | 0=>.nil
 | k+1=>by
  rw[I1z,I1z,E2z,E2z];exact Vals.append h (Vals.rep h k)
theorem sY{α:Type}(l:List α):l.eraseIdx (l.length-1)=l.dropLast:=by
 induction l with
 | nil=>rfl
 | cons a r ih =>
  cases r with
  | nil=>rfl
  | cons b r =>
   have e:(a::b::r).length-1=((b::r).length-1)+1:=by
    have h1:(a::b::r).length=r.length+2:=rfl;have h2:(b::r).length=r.length+1:=rfl;omega
   rw[e,List.eraseIdx_cons_succ,ih]
   all_goals rfl
theorem foldl_rep(its:List Value):∀ (k:Nat) (acc:List Value),
  List.foldl (fun x1 x2=>x1++x2) acc.toArray (List.replicate k its.toArray)=(acc++(List.replicate k its).flatten).toArray
 | 0,acc=>by simp
 | k+1,acc=>by
  have e:acc.toArray++its.toArray=(acc++its).toArray:=by simp
  have e2:(acc++its)++(List.replicate k its).flatten=acc++(List.replicate (k+1) its).flatten:=by
   rw[I1z,E2z,List.append_assoc]
  rw[<- e2,<- foldl_rep its k (acc++its),<- e,I1z,List.foldl_cons]
section
variable {X:Cx} {z0:List (Addr×Obj)} {σ:St} {H:Hp} {s:Shared} {l b:Addr} {xs ys zs:List V}
theorem Inv.lset{its its':List Value}{n:Nat}{f:Array Value->Array Value}{t':Nat}(I:Inv X z0 σ H s)(hH:H l=some (.lst xs))
  (e:s.heap.get? l=some { cls:=.type "list",data:=.seq its.toArray n }) (hf:f its.toArray=its'.toArray) (hv:Vals ys its') (hz:ys.length<=sizeLine) :
  Inv X z0 σ (upd H l (.lst ys)) { s with heap:=s.heap.update l (Obj.mapSeq f),toks:=t' }:=by
 have q:=PySem.IsL.update e f;rw[hf] at q;refine I.write (x:=l) (e:=l) (by rw[hH];exact trivial) (.inl rfl) (fun b' u hb hu=>(Heap.get?_update_other s.heap (Obj.mapSeq f) (B5z hb)).trans hu) ⟨_,q⟩ ?_;exact⟨hz,its',_,hv,q⟩
theorem Inv.lnew{its:List Value}{t':Nat}(I:Inv X z0 σ H s)(hv:Vals ys its)(hz:ys.length<=sizeLine) :
  Inv X z0 σ (upd H s.heap.objs.size (.lst ys)) { s with heap:=s.heap.push { cls:=.type "list",data:=.seq its.toArray },toks:=t' } :=
 I.laid (fun _ _ q=>Heap.get?_push_of_some _ q) (M4z _) ⟨hz,its,0,hv,Heap.get?_push_size _ rfl⟩
theorem Inv.fresh(I:Inv X z0 σ H s):H s.heap.objs.size=none:=I.hok.fresh (M4z _)
theorem Inv.lstM(I:Inv X z0 σ H s)(hH:H l=some (.lst xs)):xs.length<=sizeLine/\∃ (its:List Value) (n:Nat),Vals xs its/\xs.length=its.length/\s.heap.get? l=some { cls:=.type "list",data:=.seq its.toArray n }:=by
 obtain⟨z,its,n,r,e⟩:=I.hok l _ hH;exact⟨z,its,n,r,r.length,e⟩
theorem lD{n:Nat}(h:n<=sizeLine):Builtin.List.listTooLong n=false:=by
 unfold Builtin.List.listTooLong;exact A3z (by omega)
end
section
variable {X:Cx}
def CW:V->List V->Hp->VK->Prop:=fun x vs H Q=>∃ l xs y,x=.ref l/\vs=[y]/\H l=some (.lst xs)/\xs.length<sizeLine/\Q .non (upd H l (.lst (xs++[y])))
theorem dR:MtM X "list.append" CW:=by
 intro z0 s σ H x vs v us Q I rx rv h;obtain⟨l,xs,y,rfl,rfl,hH,hz,q⟩:=h;cases rx;obtain⟨u,rfl,ru⟩:=rv.one;obtain⟨z,its,n,r,hl,e⟩:=I.lstM hH;refine U4z F.slot_list_append ⟨_,e,rfl⟩ F.entry_list_append (F.args_list_append_2 _ _) (PySem.list_append l its.toArray n u (by rw[D2z];omega)) ⟨e,?_⟩;refine⟨.non,_,I.lset (its':=its++[u]) hH e (by simp) (r.append (.cons ru .nil)) ?_,rfl,q⟩;rw[U1z,List.length_singleton];omega
def Vf:V->List V->Hp->VK->Prop:=fun x vs H Q=>∃ l xs y,x=.ref l/\vs=[]/\H l=some (.lst xs)/\xs[xs.length-1]?=some y/\Q y (upd H l (.lst xs.dropLast))
theorem IW:MtM X "list.pop" Vf:=by
 intro z0 s σ H x vs v us Q I rx rv h;obtain⟨l,xs,y,rfl,rfl,hH,hy,q⟩:=h;cases rx;have hus:=rv.zero;subst hus;obtain⟨z,its,n,r,hl,e⟩:=I.lstM hH;obtain⟨u,hu,ru⟩:=r.get hy
 have hy':its.toArray[its.toArray.size-1]?=some u:=by
  show its.toArray[its.length-1]?=some u;rw[<- Array.getElem?_toList,<- hl];exact hu
 refine U4z F.slot_list_pop ⟨_,e,rfl⟩ F.entry_list_pop (F.args_list_pop_1 _) (MeetsSeq.list_pop_last l its.toArray n u hy' (by rw[D2z];omega)) ⟨e,?_⟩
 refine⟨y,_,I.lset (its':=its.dropLast) hH e ?_ r.dropLast ?_,ru,q⟩
 ·show its.toArray.eraseIdxIfInBounds (its.toArray.size-1)=its.dropLast.toArray
  rw[D2z,List.eraseIdxIfInBounds_toArray,sY]
 ·rw[List.length_dropLast]
  omega
theorem len_rep{α:Type}(xs:List α)(k:Nat):(List.replicate k xs).flatten.length=k*xs.length:=by
 induction k with
 | zero=>simp
 | succ k ih=>rw[I1z,E2z,U1z,ih,Nat.succ_mul,Nat.add_comm]
end
section
variable {prog:Program} {w:World} {A:Around} {E:Value->Shared->Prop} {s:Shared}
set_option maxRecDepth 100000 in
end
section
variable {X:Cx}
end
end L2
namespace Att
open PySem PySem.W PySem.Calls PyProof.Rows
theorem jt{P:Params}{h:Heap}:∀ (ns:List Int) (vs:List Value),WellAll P h vs (ns.map WData.int)->IntsAre vs ns:=by
 intro ns
 induction ns with
 | nil =>
  intro vs w;rw[K4z] at w;cases w;exact .nil
 | cons n ns ih =>
  intro vs w;rw[Z3z] at w
  cases w with
  | cons a b =>
   cases a;exact .cons _ _ (ih _ b)
theorem uP{l:OpenLaw}{n:Nat}(hn:l.most=some n){P:Params}{h:Heap}{args:List WData}{vals:List Value}
  (hpre:l.row.toRowW.claim.pre args=true) (hwl:WellAll P h vals args) :
  ∃ a vs ns,vals=[Value.ref a]/\args=[WData.list (ns.map WData.int)]/\h.get? a=some { cls:=.type "list",data:=.seq vs.toArray }/\IntsAre vs ns/\ns.length<=n:=by
 have hsh:WShape.hasAll [] args [.list .int]=true:=(pre_splitW hpre).1;have hc:l.pre.holds [] { args:=args }=true:=(pre_splitW hpre).2;obtain⟨d,r,rfl,h1,h2⟩:=hasAllW_cons hsh;obtain rfl:=hasAllW_nil h2;obtain⟨xs,rfl,h3⟩:=hasW_list h1;obtain⟨ns,rfl⟩:=items_int h3
 have hlen:ns.length<=n:=by
  unfold OpenLaw.pre at hc
  have h4:(WTm.not (.lt (.lit (.int n)) (.len (.arg 0)))).holds [] { args:=[.list (ns.map .int)] }=true:=by
   have h4:=(holds_andW hc).1;rw[hn] at h4;exact h4
  have h5:=condW_of h4 (w_not (w_lt w_lit (w_len_list (w_arg rfl))));rw[D3z] at h5;refine Nat.le_of_not_lt fun q=>?_
  have q':(n:Int)<((ns.length:Nat):Int):=by omega
  first
   | (rw[S3z q'] at h5;exact absurd h5 (by decide))
   | (simp at h5;omega)
 cases hwl with
 | cons w1 w2 =>
  cases w2
  cases w1 with
  | list ho hall=>exact⟨_,_,ns,rfl,rfl,ho,jt ns _ hall,hlen⟩
theorem u5(l:OpenLaw)(args:List WData):l.row.toRowW.claim.post args (.bool true) args=true :=
 postW_of (r:=l.row.toRowW) (X:=(true==true))
  (show WShape.has [] (.bool true) .bool=true by first | rfl | decide | simp[WShape.has,WShape.arms,WShape.armsAll])
  (show(WTm.eq .res (.lit (.bool true))).value [] { args:=args,res:=some (.bool true),after:=args }=some (.bool (true==true)) from w_eq_bool (w_res rfl) w_lit) rfl
theorem jD{l:OpenLaw}{n:Nat}{q:Program}{loose:List Str}{XP:(Str->Option Value)->Heap->Prop}{YP:World->Heap->Prop}{d:DefRec}
  (hn:l.most=some n) (hdf:d.params.defaults=[])
  (call : ∀ (w : World) (s₀ s₁ : Shared) (mg mb : Str -> Option Value) (fa : Addr) (o : Obj) (pm cd doc : Value) (a : Addr) (vs : List Value) (ns : List Int),
   Ground q loose [] XP w s₀ mg mb s₁.heap->YP w s₁.heap ->
   s₁.heap.get? fa=some o->o.data=.func (docDef d.name d.params d.body d.scope pm cd doc)->s₁.heap.CodeRec cd d.name->mg d.name=some (.ref fa) ->
   s₁.heap.get? a=some { cls:=.type "list",data:=.seq vs.toArray }->IntsAre vs ns->ns.length<=n->s₁.gens = #[] ->
   codeAny (model l.prog w) callerA (.call (.ref fa) ⟨[.ref a],[]⟩) (fun r s'=>r=.ok (.ret (.bool true))/\OldK s₁.heap s'.heap/\s'.os=s₁.os/\AllBare s'.gens) s₁) :
  WalkO q loose XP YP l.row.toRowW d [] (fun f vs=>PySem.call f vs):=by
 intro w s₀ s₁ mg mb G Y fa o pm cd doc dV kV ho hd hcd hD hmg hg args vals as hpre hlay hrd hwl hlo;obtain rfl:dV=.none:=Dflts.none hD hdf;obtain rfl:kV=.none:=Dflts.noKw hD;obtain⟨a,vs,ns,rfl,rfl,hobj,hints,hlen⟩:=uP hn hpre hwl;refine enter_call (J4z (call w s₀ s₁ mg mb fa o pm cd doc a vs ns G Y ho (fd_plain hd) hcd hmg hobj hints hlen hg) fun r s' hq=>?_);obtain⟨rfl,h2,h3,h4⟩:=hq;exact⟨.inl ⟨.bool true,.bool true,[],rfl,fun _=>rfl,.bool true,u5 l _,fun _=>⟨List.Pairwise.nil,fun _ hm=>(nomatch hm)⟩⟩,h2,h3,h4⟩
section
variable {prog:Program} {w:World} {A:Around} {E:Value->Shared->Prop} {s:Shared} {K:Frag}
def ledger(h:Heap)(L d:Addr):List (Addr×Obj):=(List.range h.objs.size).filterMap fun a=>if a=L\/a=d then none else(h.get? a).map fun o=>(a,o)
end
end Att
namespace L2
open PySem PySem.Spec PyProof.Rows
theorem iR:∀ {vs:List Value} {ns:List Int},IntsAre vs ns->Vals (ns.map V.int) vs
 | _,_,.nil=>.nil
 | _,_,.cons n t h=>.cons ⟨t,rfl⟩ (iR h)
def Only(H:Hp):Prop:=∀ b,H b=none\/∃ o xs,H b=some (.frz o (.lst xs))
theorem zG{P:Program}{w:World}{K:Zf}{mg mb:Str->Option Value}{CX:CXT}{k:Nat}{fa a:Addr}{fd:FuncData}{x:Str}{sp:Sp}{s₁:Shared}{vs:List Value}{ns:List Int}
  (KX:K.In s₁.heap) (hns:s₁.heap.Ns mainGlobals mg) (hb:s₁.heap.Ns builtinsNs mb) (hbb:∀ x:Str,x≠"__name__"->mb x=bootBuiltins x) (hlim:s₁.heap.NoLimit) (hg:s₁.gens = #[])
  (ha:s₁.heap.get? a=some { cls:=.type "list",data:=.seq vs.toArray }) (hi:IntsAre vs ns) (hl:ns.length<=sizeLine) (hr:Room k callerA)
  (F:∀ base:Heap,K.In base->base.Ns mainGlobals mg->FnOk P w K mg base CX k fa fd [x] sp) (hbind:∀ (s:Shared) (u:Value),BindsTo s fd ⟨[u],[]⟩ [(x,u)])
  (hsp:∀ H:Hp,Only H->SqL K H a (ns.map V.int)->sp [.ref a] H (fun v _=>v=.bl true) fun _ _ _=>False)
  (hCX:∀ H e s',CX [] H s₁ (fun _ _ _=>False) e s'->False) :
  codeAny (model P w) callerA (.call (.ref fa) ⟨[.ref a],[]⟩) (fun r s'=>r=.ok (.ret (.bool true))/\OldK s₁.heap s'.heap/\s'.os=s₁.os/\AllBare s'.gens) s₁:=by
 have rv:=iR hi;have lenV:=hi.length
 have core:∀ H:Hp,Only H->SqL K H a (ns.map V.int)->HOk P w H s₁.heap->(∀ b,H b≠none->b=a)->(H a≠none->K.lookup a=none) ->
   codeAny (model P w) callerA (.call (.ref fa) ⟨[.ref a],[]⟩) (fun r s'=>r=.ok (.ret (.bool true))/\OldK s₁.heap s'.heap/\s'.os=s₁.os/\AllBare s'.gens) s₁:=by
  intro H hO hS hok hA hK;have base_of:∀ {b:Addr} {o:Obj},s₁.heap.get? b=some o->H b=none->(nq s₁.heap H).get? b=some o:=fun e n=>lJ e n
  have noA:∀ {b:Addr} {o:Obj} {es:Array DictEntry} {ep:Nat},s₁.heap.get? b=some o->o.data=.dict es ep->H b=none:=fun {b o es ep} e d=>by
   cases q:H b with
   | none=>rfl
   | some u =>
    have e':b=a:=hA b (by rw[q];simp)
    subst e';rw[ha] at e;cases e;have d':Data.seq vs.toArray _=Data.dict es ep:=d;cases d'
  have nsK:∀ {b:Addr} {m:Str->Option Value},s₁.heap.Ns b m->(nq s₁.heap H).Ns b m:=fun {b m} ⟨o,es,ep,e,d,r⟩=>⟨o,es,ep,base_of e (noA e d),d,r⟩
  have hKb:K.In (nq s₁.heap H):=fun b o e=>base_of (KX b o e) (by
   cases q:H b with
   | none=>rfl
   | some u =>
    have e':b=a:=hA b (by rw[q];simp)
    subst e'
    rw[hK (by rw[q];simp)] at e;cases e)
  have hM:Mod K mg (nq s₁.heap H):=⟨hKb,nsK hns,⟨mb,nsK hb,hbb⟩,let ⟨mc,h1,h2⟩:=hlim;⟨mc,nsK h1,h2⟩⟩
  have e0:Env0 P w K mg (nq s₁.heap H) callerA [] s₁ H:=⟨rfl,hM,fun b o e=>oY e,Nat.le_of_eq (ju _ _),trivial,fun b hb=>absurd (show b∈([]:List Addr) from hb) (by simp),hok,.of_eq hg⟩;refine J4z ((F _ hKb (nsK hns)).run callerA [] s₁ H ⟨[.ref a],[]⟩ [.ref a] [.ref a] _ _ hr e0 (hbind s₁ (.ref a)) (.cons rfl .nil) (hsp H hO hS)) fun r s' h=>?_
  cases r with
  | error e=>exact(hCX H e s' h).elim
  | ok fl =>
   cases fl with
   | next=>exact False.elim h
   | brk=>exact False.elim h
   | cont=>exact False.elim h
   | ret u =>
    obtain⟨v,H',os,bare,un,hok',r',q⟩:=h;have q':v=.bl true:=q;subst q';obtain rfl:u=Value.bool true:=r';refine⟨rfl,OldK.of_keep fun b o e=>?_,os,bare⟩
    cases q:H b with
    | none=>exact un.keep b o e q (by intro z;exact absurd (show b∈([]:List Addr) from z) (by simp)) (by simp)
    | some u =>
     rcases hO b with z | ⟨ob,xs,z⟩
     ·rw[q] at z;cases z
     ·have z2:=un.frzs b ob _ z
      obtain⟨e1,_⟩:=hok b _ z;obtain⟨e2,_⟩:=hok' b _ z2;rw[e] at e1;cases e1;exact e2
 cases hk:K.lookup a with
 | some o =>
  have e:=KX a o hk;rw[ha] at e;cases e;refine core (fun _=>none) (fun _=>.inl rfl) (.inr ⟨_,vs.toArray,_,hk,rfl,rfl,rfl,by rw[D2z,lenV];exact hl,by simpa using rv⟩) (fun b u z=>by have z':(none:Option HO)=some u:=z;cases z') (fun b z=>absurd rfl z) fun z=>absurd rfl z
 | none =>
  refine core (fun b=>if b=a then some (.frz { cls:=.type "list",data:=.seq vs.toArray } (.lst (ns.map V.int))) else none) (fun b=>?_) (.inl (.inr ⟨{ cls:=.type "list",data:=.seq vs.toArray },D5z rfl⟩)) (fun b u z=>?_) (fun b z=>?_) fun _=>hk
  ·by_cases hb:b=a
   ·exact .inr ⟨_,_,D5z hb⟩
   ·exact .inl (E5z hb)
  ·by_cases hb:b=a
   ·have z':=(D5z hb).symm.trans z
    cases z';subst hb;exact⟨ha,by rw[D3z];exact hl,vs,_,rv,ha⟩
   ·have z':=(E5z hb).symm.trans z
    cases z'
  ·by_cases hb:b=a
   ·exact hb
   ·exact absurd (E5z hb) z
theorem Ca{l:PySem.W.OpenLaw}{n k:Nat}{q:Program}{loose:List Str}{XP:(Str->Option Value)->Heap->Prop}{YP:World->Heap->Prop}{d:DefRec}{K:Params->Zf}{CX:World->CXT}{sp:World->Sp}{x:Str}
    (hn:l.most=some n) (hn2:n<=sizeLine) (hdf:d.params.defaults=[]) (hr:Room k callerA)
    (hY:∀ (w:World) (h:Heap),YP w h->(K w.params).In h)
    (F:∀ (w:World) (mg:Str->Option Value) (fa:Addr) (h:Heap),(K w.params).In h->h.Ns mainGlobals mg->mg d.name=some (.ref fa) ->
      ∃ fd : FuncData, (∀ (s : Shared) (u : Value), BindsTo s fd ⟨[u], []⟩ [(x, u)]) /\
        ∀ base:Heap,(K w.params).In base->base.Ns mainGlobals mg->FnOk l.prog w (K w.params) mg base (CX w) k fa fd [x] (sp w))
    (hsp:∀ (w:World) (H:Hp) (a:Addr) (ns:List Int),ns.length<=n->Only H->SqL (K w.params) H a (ns.map V.int)->sp w [.ref a] H (fun v _=>v=.bl true) fun _ _ _=>False)
    (hCX:∀ (w:World) (H:Hp) (s:Shared) (e:Value) (s':Shared),CX w [] H s (fun _ _ _=>False) e s'->False) :
    PySem.W.WalkO q loose XP YP l.row.toRowW d [] (fun f vs=>PySem.call f vs):=by
  refine Att.jD hn hdf fun w s₀ s₁ mg mb fa o pm cd doc a vs ns G Y ho hd hcd hmg hobj hints hlen hg=>?_
  have KX:=hY w _ Y
  obtain⟨fd,hb,hF⟩:=F w mg fa _ KX G.T.g hmg
  exact zG KX G.T.g G.T.b G.T.builtins G.T.nolimit hg hobj hints (G4z hlen hn2) hr hF hb (fun H hO hS=>hsp w H a ns hlen hO hS) fun H e s'=>hCX w H s₁ e s'
def inClass(s:Stmt)(j:Nat):Stmt:=match s with
 | .ClassDef _ _ _ body _ _ _ _ _ _ _=>body.getD j (.Pass ⟨0,0,0,0⟩)
 | _=>.Pass ⟨0,0,0,0⟩
def cu(s:Stmt):Arguments:=match s with
 | .FunctionDef _ a _ _ _ _ _ _ _ _=>a
 | _=>{ posonlyargs:=[],args:=[],vararg:=none,kwonlyargs:=[],kw_defaults:=[],kwarg:=none,defaults:=[] }
def aR(s:Stmt):List Stmt:=match s with
 | .FunctionDef _ _ b _ _ _ _ _ _ _=>b
 | _=>[]
def aA(s:Stmt):Scope:=match s with
 | .FunctionDef _ _ _ _ _ _ sc _ _ _=>sc
 | _=>{ kind:=.function,names:=[],isGenerator:=false,isCoroutine:=false }
abbrev CX0:CXT:=fun _ _ _ _ _ _=>False
abbrev E0:XK:=fun _ _ _=>False
structure Fun (K:Zf) (x qual:Str) (st:Stmt) (f:Addr) (fd:FuncData):Prop where
 ex:∃ (oc:Value) (od:Option Addr) (kV doc pm:Value) (an:Option Addr) (cdv ct:Value) (osl:Array (Option Value)),
  fd=PySem.W.fnOf x qual (cu st) (aR st) (aA st) .none kV doc pm an cdv ct/\K.lookup f=some ⟨oc,od,.func fd,osl⟩/\PySem.W.codeIn K cdv qual=true
 kp:PySem.W.keepIn K (.ref f)=true
section
variable {P:Program} {w:World} {K:Zf} {mg:Str->Option Value} {base:Heap}
theorem Fun.binds{x qual:Str}{st:Stmt}{f:Addr}{fd:FuncData}{ps:List Str}(F:Fun K x qual st f fd)
  (h:∀ (kV doc pm:Value) (an:Option Addr) (cdv ct:Value) (us:List Value),us.length=ps.length->bindArgs (PySem.W.fnOf x qual (cu st) (aR st) (aA st) .none kV doc pm an cdv ct) ⟨us,[]⟩=pure (ps.zip us)):Binds K fd ps []:=by
 obtain⟨oc,od,kV,doc,pm,an,cdv,ct,osl,rfl,lk,hcd⟩:=F.ex;exact .all (h kV doc pm an cdv ct)
theorem fun_mk{x qual:Str}{st:Stmt}{f:Addr}{oc:Value}{od an:Option Addr}{osl:Array (Option Value)}{kV doc pm cdv ct:Value}(l:K.lookup f=some ⟨oc,od,.func (PySem.W.fnOf x qual (cu st) (aR st) (aA st) .none kV doc pm an cdv ct),osl⟩)
  (c:PySem.W.codeIn K cdv qual=true) (k:PySem.W.keepIn K (.ref f)=true):Fun K x qual st f (PySem.W.fnOf x qual (cu st) (aR st) (aA st) .none kV doc pm an cdv ct):=⟨⟨oc,od,kV,doc,pm,an,cdv,ct,osl,rfl,l,c⟩,k⟩
end
theorem zO{A:Around}{k:Nat}(hr:Room k A):A.units+1<cLine:=V1z (Nat.add_le_add_left (by decide:1<=64) _) hr.units
section
variable {X:Cx}
theorem pv(i:Nat){x:Str}{pos:Pos}(hN:X.N[i]?=some x:=by rfl)(hv:Vis X.env.scope x:=by first | exact Or.inl rfl | exact Or.inr (Or.inl rfl) | exact Or.inr (Or.inr rfl))(hd:(x==("__debug__":Str))=false:=by decide)
  (hcd:(x==("__classdict__":Str))=false:=by decide):PE X (.Name x pos) (G3 i):=eO hN hv hd hcd
end
theorem jL{A B:Prop}(h:B):if false=true then A else B:=by
 rw[E5z Q1z];exact h
theorem jZ{A B:Prop}(h:A):if true=true then A else B:=by
 rw[D5z rfl];exact h
def Same(H H':Hp):Prop:=∀ b o,H b=some o->H' b=some o
theorem Same.refl(H:Hp):Same H H:=fun _ _ h=>h
theorem Same.trans{H H1 H2:Hp}(a:Same H H1)(b:Same H1 H2):Same H H2:=fun c o h=>b c o (a c o h)
theorem Same.free{H H':Hp}(e:Same H H'){l:Addr}(h:H' l=Option.none):H l=Option.none:=by
 cases q:H l with
 | none=>rfl
 | some o =>
  rw[e l o q] at h;cases h
theorem Same.seq{K:Zf}{H H':Hp}{a:Addr}{xs:List V}(e:Same H H')(h:SqL K H a xs):SqL K H' a xs:=by
 rcases h with(h | ⟨o,h⟩) | h
 ·exact .inl (.inl (e _ _ h))
 ·exact .inl (.inr ⟨o,e _ _ h⟩)
 ·exact .inr h
def fP(cells:List (Str×Addr)):List (Str×NameKind)->List (Str×Addr)->List (Str×Addr)
 | [],acc=>acc
 | (x,k)::r,acc=>if k==.free then fP cells r ((x,(cells.lookup x).getD 0)::acc) else fP cells r acc
theorem lM{env:Env}(f:Str×NameKind->List (Str×Addr)->Sem (ForInStep (List (Str×Addr))))
  (hf:∀ name kind cs,f (name,kind) cs=if kind==.free then(do let a <- cellOf env name;pure (.yield ((name,a)::cs))) else pure (.yield cs)) :
  ∀ (l:List (Str×NameKind)) (acc:List (Str×Addr)),(∀ x,(x,NameKind.free)∈l->∃ c,env.cells.lookup x=some c)->(forIn l acc f:Sem (List (Str×Addr)))=pure (fP env.cells l acc)
 | [],acc,_=>by rw[List.forIn_nil];rfl
 | (x,k)::r,acc,h=>by
  rw[List.forIn_cons,hf];unfold fP
  cases hk:k==NameKind.free with
  | false =>
   simp only[W1z,A5z];show(forIn r acc f:Sem _)=_;exact lM f hf r acc fun y hy=>h y (W0z _ hy)
  | true =>
   simp only[C5z]
   have ek:k=.free:=by simpa using hk
   obtain⟨c,hc⟩:=h x (by rw[ek];exact O1z)
   have e1:cellOf env x=pure c:=by unfold cellOf;rw[hc]
   rw[e1,hc];show(forIn r ((x,c)::acc) f:Sem _)=_;exact lM f hf r _ fun y hy=>h y (W0z _ hy)
theorem cX{env:Env}{scope:Scope}(h:∀ x,(x,NameKind.free)∈scope.names->∃ c,env.cells.lookup x=some c):closureFor scope env=pure (fP env.cells scope.names []):=by
 simp only[closureFor];rw[lM (env:=env) _ (fun name kind cs=>by cases hk:kind==NameKind.free<;>simp[hk]) scope.names [] h];rfl
theorem oZ{M:Model}{A:Around}{E:Value->Shared->Prop}{s:Shared}{scope:Scope}{globals:Addr}{closure:List (Str×Addr)}{qual:Str}{outer:Env}{Q:Env->Shared->Prop}
  (hQ:Q (newEnv scope s.heap.objs.size globals (cellsFrom (s.heap.objs.size+1) scope.names closure) qual none .none (some outer) builtinsNs) { s with heap:=pushCells (s.heap.push { cls:=.type "dict",data:=.dict #[] }) scope.names }) :
  wpAny M A (newFunctionEnv scope globals closure [] qual none .none (some outer)) Q E s:=by
 simp only[newFunctionEnv,Option.isSome_some,C5z];refine S4z (wpAny_alloc ?_);refine S4z (wpAny_layCells _ (fun name kind cells=>by cases hkc:kind==NameKind.cell<;>simp[hkc]) _ _ _ _ ?_);rw[show({ s with heap:=s.heap.push { cls:=.type "dict",data:=.dict #[] } }:Shared).heap.objs.size=s.heap.objs.size+1 from R3z ..];rw[List.forIn_nil];exact S4z (T4z (T4z hQ))
theorem f9{α:Type}:∀ {l:List (Str×α)} {x:Str} {c:α},(x,c)∈l->∃ d,l.lookup x=some d
 | (y,d)::r,x,c,h=>by
  rw[R2z]
  cases hb:x==y with
  | true=>exact⟨d,rfl⟩
  | false =>
   rcases List.mem_cons.mp h with e | h
   ·cases e;simp at hb
   ·exact f9 h
theorem bC{α:Type}:∀ {l:List (Str×α)} {x:Str} {c:α},(l.map (·.1)).Nodup->(x,c)∈l->l.lookup x=some c
 | (y,d)::r,x,c,hn,h=>by
  rw[Z3z,I3z] at hn;rw[R2z];rcases List.mem_cons.mp h with e | h'
  ·cases e;simp
  ·have hne:(x==y)=false:=by
    rw[J1z];intro exy;exact hn.1 (List.mem_map.mpr ⟨(x,c),h',exy⟩)
   rw[hne];exact bC hn.2 h'
theorem cQ{x:Str}{c:Addr}:∀ (names:List (Str×NameKind)) (n:Nat) (acc:List (Str×Addr)),(cellsFrom n names acc).lookup x=some c ->
  ((x,NameKind.cell)∈names/\n<=c)\/((x,NameKind.cell)∉names/\acc.lookup x=some c)
 | [],_,_,h=>.inr ⟨by simp,h⟩
 | (y,k)::r,n,acc,h=>by
  unfold cellsFrom at h
  cases hk:k==NameKind.cell with
  | true =>
   have ek:k=.cell:=by simpa using hk
   subst ek;rw[D5z (show(NameKind.cell==NameKind.cell)=true from rfl)] at h;rcases cQ r _ _ h with⟨h1,h2⟩ | ⟨h1,h2⟩
   ·exact .inl ⟨W0z _ h1,by omega⟩
   ·rw[R2z] at h2
    cases hb:x==y with
    | true =>
     rw[hb] at h2;cases h2
     have:x=y:=by simpa using hb
     subst this;exact .inl ⟨O1z,M4z _⟩
    | false =>
     rw[hb] at h2;refine .inr ⟨fun hm=>?_,h2⟩;rcases List.mem_cons.mp hm with e | hm
     ·cases e;simp at hb
     ·exact h1 hm
  | false =>
   rw[hk] at h;simp only[W1z,A5z] at h;rcases cQ r _ _ h with⟨h1,h2⟩ | ⟨h1,h2⟩
   ·exact .inl ⟨W0z _ h1,h2⟩
   ·refine .inr ⟨fun hm=>?_,h2⟩
    rcases List.mem_cons.mp hm with e | hm
    ·cases e;simp at hk
    ·exact h1 hm
theorem cY:∀ (names:List (Str×NameKind)) (n:Nat) (acc:List (Str×Addr)),(acc.Pairwise fun x y=>x.2≠y.2)->(∀ p∈acc,p.2<n)->(cellsFrom n names acc).Pairwise fun x y=>x.2≠y.2
 | [],_,_,h,_=>h
 | (y,k)::r,n,acc,h,hl=>by
  unfold cellsFrom;split
  ·refine cY r _ _ (List.pairwise_cons.mpr ⟨fun p hp e=>?_,h⟩) fun p hp=>?_
   ·have e':n=p.2:=e
    have q:=hl p hp;rw[<- e'] at q;exact W3z _ q
   ·rcases List.mem_cons.mp hp with e | hp
    ·subst e;exact P2z _
    ·exact F2z (hl p hp)
  ·exact cY r _ _ h hl
theorem lX{cells:List (Str×Addr)}(inj:∀ x y c,cells.lookup x=some c->cells.lookup y=some c->x=y):∀ (names:List (Str×NameKind)) (acc:List (Str×Addr)),(names.map (·.1)).Nodup->(∀ x,(x,NameKind.free)∈names->∃ c,cells.lookup x=some c) ->
  (acc.Pairwise fun x y=>x.2≠y.2)->(∀ p∈acc,cells.lookup p.1=some p.2/\p.1∉names.map (·.1))->((fP cells names acc).Pairwise fun x y=>x.2≠y.2)/\∀ p∈fP cells names acc,cells.lookup p.1=some p.2
 | [],acc,_,_,h1,h2=>⟨h1,fun p hp=>(h2 p hp).1⟩
 | (y,k)::r,acc,hn,hf,h1,h2=>by
  rw[Z3z,I3z] at hn;have hf':∀ x,(x,NameKind.free)∈r->∃ c,cells.lookup x=some c:=fun x hx=>hf x (W0z _ hx);unfold fP;split
  ·rename_i hk
   have ek:k=.free:=by simpa using hk
   subst ek;obtain⟨c,hc⟩:=hf y O1z;rw[hc];refine lX inj r _ hn.2 hf' (List.pairwise_cons.mpr ⟨fun p hp e=>?_,h1⟩) fun p hp=>?_
   ·have e':c=p.2:=e
    obtain⟨a1,a2⟩:=h2 p hp;rw[<- e'] at a1;have:=inj _ _ _ a1 hc;exact a2 (by rw[this];simp)
   ·rcases List.mem_cons.mp hp with e | hp
    ·subst e;exact⟨hc,hn.1⟩
    ·exact⟨(h2 p hp).1,fun z=>(h2 p hp).2 (W0z _ z)⟩
  ·exact lX inj r _ hn.2 hf' h1 fun p hp=>⟨(h2 p hp).1,fun z=>(h2 p hp).2 (W0z _ z)⟩
theorem lY{cells:List (Str×Addr)}{p:Str×Addr}:∀ (names:List (Str×NameKind)) (acc:List (Str×Addr)),p∈acc->p∈fP cells names acc
 | [],_,h=>h
 | (y,k)::r,acc,h=>by
  unfold fP;split
  ·exact lY r _ (W0z _ h)
  ·exact lY r _ h
theorem iI{cells:List (Str×Addr)}{x:Str}:∀ (names:List (Str×NameKind)) (acc:List (Str×Addr)),(x,NameKind.free)∈names->∃ c,(x,c)∈fP cells names acc
 | (y,k)::r,acc,h=>by
  unfold fP;rcases List.mem_cons.mp h with e | h
  ·cases e
   rw[D5z (show(NameKind.free==NameKind.free)=true from rfl)];exact⟨_,lY r _ O1z⟩
  ·split
   ·exact iI r _ h
   ·exact iI r _ h
theorem dG{env:Env}{x:Str}:∀ (names:List (Str×NameKind)),
  (names.map fun (n, k) => if (k == NameKind.free && env.scope.kind == .function && env.kindOf n == some .cell) then (n, NameKind.cell) else (n, k)).lookup x =
   (names.lookup x).map fun k=>if(k==NameKind.free&&env.scope.kind==.function&&env.kindOf x==some .cell) then NameKind.cell else k
 | []=>rfl
 | (y,k)::r=>by
  have ih:=dG (x:=x) (env:=env) r
  by_cases hx:x=y
  ·subst hx
   cases hc:(k==NameKind.free&&env.scope.kind==.function&&env.kindOf x==some .cell)<;>simp only[Z3z,hc,R2z,beq_self_eq_true,J3z,C5z,A5z,W1z]
  ·have hb:(x==y)=false:=by simpa using hx
   cases hc:(k==NameKind.free&&env.scope.kind==.function&&env.kindOf y==some .cell)<;>simp only[Z3z,hc,R2z,hb,C5z,A5z,W1z]<;>exact ih
def qj(N:List Str)(σ:St)(x:Str):Option V:=match N.idxOf? x with
 | some j=>(σ[j]?).getD none
 | none=>none
def tM(N:List Str)(names:List (Str×NameKind))(σ:St):St:=names.map fun p=>if p.2==.free then qj N σ p.1 else none
def qT(scope:Scope)(cells:List (Str×Addr))(C:Addr)(env:Env):Env :=
 { scope:=relabel scope env,locals:=C,globals:=env.globals,cells:=cells,qual:=env.qual,func:=none,code:=env.code,frame:=env.frame,builtins:=env.builtins }
structure CompOf (X:Cx) (scope:Scope) (Xc:Cx):Prop where
 prog:Xc.prog=X.prog
 w:Xc.w=X.w
 K:Xc.K=X.K
 mg:Xc.mg=X.mg
 base:Xc.base=X.base
 A:Xc.A=X.A
 N:Xc.N=scope.names.map (·.1)
 sc:Xc.env.scope=relabel scope X.env
 calm:Xc.calm=true
 fn:Xc.fn=fun x=>scope.names.lookup x==some .cell
 xe:Xc.xe=fun _ _=>False
def nO(X:Cx)(scope:Scope)(cells:List (Str×Addr))(C:Addr)(s:Shared)(H:Hp)(fp:List Addr):Cx where
 prog:=X.prog
 w:=X.w
 K:=X.K
 mg:=X.mg
 base:=X.base
 A:=X.A
 N:=scope.names.map (·.1)
 s₀:=s
 H₀:=H
 env:=qT scope cells C X.env
 outer:=X.stack
 stack:=X.stack
 ex:=fp
 fn:=fun x=>scope.names.lookup x==some .cell
 calm:=true
 pn:=[]
 xe:=fun _ _=>False
def yc(X:Cx)(ifs:List Expr)(t:TT):Prop :=
  ∀ (z0 : List (Addr × Obj)) (s : Shared) (σ : St) (H : Hp) (Q : Bool -> Hp -> Prop), Inv X z0 σ H s -> t σ H Q ->
    wpAny (model X.prog X.w) X.A (forIn ifs true fun c r=>if r=true then do let ok <- isTrue c X.env (eval c X.env);pure (ForInStep.yield ok) else pure (ForInStep.yield r)) (TP X z0 σ Q) X.xe s
theorem yI{X:Cx}:yc X [] (fun _ H Q=>Q true H):=fun _ _ _ H _ I h=>wpAny_tests_nil ⟨H,I,h⟩
theorem yH{X:Cx}{c:Expr}{t:TT}(h:PT X c t):yc X [c] t:=fun z0 s σ H Q I hw=>wpAny_tests_one (h z0 s σ H Q I hw)
def uD(X:Cx)(scope:Scope)(wi:TI)(mk:St->St)(g:Cx->TG)(tc:Cx->TT)(te:Cx->TE):TE:=fun σ H Q=>wi σ H fun J H1=>∀ acc,H1 acc=none->∀ Xc,CompOf X scope Xc ->
  ∃ W : Nat -> Nat -> St -> Hp -> Prop, (∃ m, W 0 m (mk σ) (upd H1 acc (.lst []))) /\ ∀ i m σc H, W i m σc H ->
    (J.stop i H/\Q (.ref acc) H)\/(J.go i H/\∃ N:St->Hp->Prop,(∀ σ' H',N σ' H'->∃ m',m'<m/\W (i+1) m' σ' H')/\∀ x H',J.yld i H x H' ->
      g Xc x σc H' fun σ2 H2=>tc Xc σ2 H2 fun b H3=>if b=true then te Xc σ2 H3 fun v H4=>∃ ys,H4 acc=some (.lst ys)/\ys.length<sizeLine/\N σ2 (upd H4 acc (.lst (ys++[v]))) else N σ2 H3)
theorem fH{prog:Program}{w:World}{A:Around}{R:Result->Shared->Prop}{s:Shared}{elt target iter:Expr}{ifs:List Expr}{scope:Scope}{pos:Pos}{it acc:Value}{env:Env}(I:Nat->Shared->Prop)
  (turn:∀ n s,I n s->wpAny (model prog w) A (pyNext it) (fun r s₁=>match r with
   | none=>R (.ok .next) s₁
   | some v=>wpAny (model prog w) A (letOwnedTupleGo target it v) (fun _ s₁'=>wpAny (model prog w) A (assign target env v) (fun _ s₂ =>
     wpAny (model prog w) A (forIn ifs true fun c r=>if r=true then do let ok <- isTrue c env (eval c env);pure (ForInStep.yield ok) else pure (ForInStep.yield r)) (fun ok s₃ =>
      if ok=true then wpAny (model prog w) A (eval elt env) (fun x s₄ =>
       wpAny (model prog w) A (call (.builtin "list.append") [acc,x]) (fun _ s₅=>∃ m,m<n/\I m s₅) (fun _ _=>False) s₄) (fun _ _=>False) s₃
      else ∃ m,m<n/\I m s₃) (fun _ _=>False) s₂) (fun _ _=>False) s₁') (fun _ _=>False) s₁) (fun _ _=>False) s)
  (n:Nat) (h:I n s) :
  codeAny (model prog w) A (.compLoop (.ListComp elt [⟨target,iter,ifs,0⟩] scope pos) 0 it acc env) R s:=by
 refine codeAny_loop rfl I (fun n s hI=>?_) n h;show wpAny _ A ((compTurn (.ListComp elt [⟨target,iter,ifs,0⟩] scope pos) 0 it acc env).onRaise (fun x=>do noteFrame x env;theTreesLotGoes x)) _ _ s;refine wpAny_noted ?_;rw[compTurn_list];refine S4z (Y3z (S4z (R4z (turn n s hI) (fun r s₁ h₁=>?_) fun _ _ h'=>h'.elim)))
 cases r with
 | none=>exact T4z h₁
 | some v =>
  refine S4z (R4z h₁ (fun _ s₁' h₁'=>?_) fun _ _ h'=>h'.elim);refine S4z (R4z h₁' (fun _ s₂ h₂=>S4z (R4z h₂ (fun ok s₃ h₃=>?_) fun _ _ h'=>h'.elim)) fun _ _ h'=>h'.elim)
  cases ok with
  | false=>exact T4z ⟨rfl,h₃⟩
  | true =>
   exact S4z (S4z (R4z h₃ (fun x s₄ h₄=>S4z (R4z h₄ (fun _ s₅ h₅=>T4z (T4z ⟨rfl,h₅⟩)) fun _ _ h'=>h'.elim)) fun _ _ h'=>h'.elim))
section
variable {X:Cx}
theorem gP{z0:List (Addr×Obj)}{σ:St}{H:Hp}{s:Shared}{scope:Scope}(I:Inv X z0 σ H s)(hnd:(scope.names.map (·.1)).Nodup)
  (hcap:∀ x,(x,NameKind.free)∈scope.names->X.env.kindOf x=some .cell\/X.env.kindOf x=some .free) :
  (∀ x,(x,NameKind.free)∈scope.names->∃ c,X.env.cells.lookup x=some c) /\
  ((cellsFrom (s.heap.objs.size+1) scope.names (fP X.env.cells scope.names [])).Pairwise fun x y=>x.2≠y.2) /\
  (∀ x c,(cellsFrom (s.heap.objs.size+1) scope.names (fP X.env.cells scope.names [])).lookup x=some c->((x,NameKind.cell)∈scope.names/\s.heap.objs.size+1<=c)\/((x,NameKind.cell)∉scope.names/\X.env.cells.lookup x=some c/\c<s.heap.objs.size)) /\
  (∀ x,(x,NameKind.free)∈scope.names->(cellsFrom (s.heap.objs.size+1) scope.names (fP X.env.cells scope.names [])).lookup x=X.env.cells.lookup x):=by
 have hf:∀ x,(x,NameKind.free)∈scope.names->∃ c,X.env.cells.lookup x=some c:=fun x hx=>I.ok.has x (hcap x hx);have ok:=lX I.ok.inj scope.names [] hnd hf List.Pairwise.nil (fun p hp=>absurd hp (by simp))
 have small:∀ x c,X.env.cells.lookup x=some c->c<s.heap.objs.size:=fun x c e=>by
  obtain⟨v,z⟩:=I.cell x c e;exact z.lt
 refine⟨hf,cY _ _ _ ok.1 fun p hp=>F2z (small p.1 p.2 (ok.2 p hp)),fun x c e=>?_,fun x hx=>?_⟩
 ·rcases cQ _ _ _ e with h | ⟨h1,h2⟩
  ·exact .inl h
  ·have h3:=ok.2 _ (H1z h2)
   exact .inr ⟨h1,h3,small _ _ h3⟩
 ·obtain⟨c,hc⟩:=hf x hx
  have nc:(x,NameKind.cell)∉scope.names:=fun z=>by
   have e1:=bC hnd z;rw[bC hnd hx] at e1;cases e1
  obtain⟨d,hd⟩:=iI (cells:=X.env.cells) scope.names [] hx;obtain⟨d',hd'⟩:=f9 hd;have hs:((cellsFrom (s.heap.objs.size+1) scope.names (fP X.env.cells scope.names [])).lookup x).isSome=true:=N0z _ _ _ (.inr (by rw[hd'];rfl));obtain⟨c',hc'⟩:=Option.isSome_iff_exists.mp hs;rcases cQ _ _ _ hc' with⟨h,_⟩ | ⟨_,h2⟩
  ·exact absurd h nc
  ·rw[hc',ok.2 _ (H1z h2)]
theorem Dq:∀ (names:List (Str×NameKind)) (h:Heap) (acc:List (Str×Addr)) {x:Str} {c:Addr},(cellsFrom h.objs.size names acc).lookup x=some c->(x,NameKind.cell)∈names->(pushCells h names).IsCell c none:=by
 intro names
 induction names with
 | nil=>intro h acc x c e hx;cases hx
 | cons p r ih =>
  obtain⟨y,k⟩:=p;intro h acc x c e hx;unfold cellsFrom at e;unfold pushCells
  by_cases hin:(x,NameKind.cell)∈r
  ·split at e
   ·rename_i hk
    rw[D5z hk];refine ih (h.push { cls:=.type "cell",data:=.cell none }) ((y,h.objs.size)::acc) ?_ hin;rw[R3z];exact e
   ·rename_i hk
    rw[E5z hk];exact ih h acc e hin
  ·rcases List.mem_cons.mp hx with ex | hx
   ·cases ex
    rw[D5z (show(NameKind.cell==NameKind.cell)=true from rfl)] at e ⊢;rcases cQ _ _ _ e with⟨h1,_⟩ | ⟨_,h2⟩
    ·exact absurd h1 hin
    ·rw[R2z] at h2
     simp at h2;subst h2;exact⟨_,K3z _ _ _ _ (Heap.get?_push_size _ rfl),rfl⟩
   ·exact absurd hx hin
theorem Ad{z0:List (Addr×Obj)}{σ:St}{H:Hp}{s:Shared}{scope:Scope}{fp:List Addr}(I:Inv X z0 σ H s)(hc:X.calm=true)(hk:scope.kind=.function)(hnd:(scope.names.map (·.1)).Nodup)
  (hcap:∀ x,(x,NameKind.free)∈scope.names->X.env.kindOf x=some .cell\/X.env.kindOf x=some .free) (hfp:∀ b∈fp,rm X z0 H b) (hlt:∀ b∈fp,b<s.heap.objs.size) :
  Inv (nO X scope (cellsFrom (s.heap.objs.size+1) scope.names (fP X.env.cells scope.names [])) s.heap.objs.size s H fp) [] (tM X.N scope.names σ) H { s with heap:=pushCells (s.heap.push { cls:=.type "dict",data:=.dict #[] }) scope.names }:=by
 obtain⟨hf,apart,look,same⟩:=gP I hnd hcap;have keep:∀ b o,s.heap.get? b=some o->(pushCells (s.heap.push { cls:=.type "dict",data:=.dict #[] }) scope.names).get? b=some o:=fun b o e=>K3z _ _ b o (Heap.get?_push_of_some _ e);have ckd:=cellsFrom_ok scope.names (s.heap.push { cls:=.type "dict",data:=.dict #[] }) (s.heap.objs.size+1) [] ⟨fun _ _ hm=>(nomatch hm),List.Pairwise.nil⟩ (by rw[R3z];exact M4z _);rw[R3z] at ckd;have own:∀ x c,(cellsFrom (s.heap.objs.size+1) scope.names (fP X.env.cells scope.names [])).lookup x=some c->(x,NameKind.cell)∈scope.names->(pushCells (s.heap.push { cls:=.type "dict",data:=.dict #[] }) scope.names).IsCell c none:=fun x c e hx=>Dq scope.names (s.heap.push { cls:=.type "dict",data:=.dict #[] }) _ (by rw[R3z];exact e) hx;have kinds:∀ x,(nO X scope (cellsFrom (s.heap.objs.size+1) scope.names (fP X.env.cells scope.names [])) s.heap.objs.size s H fp).env.kindOf x=(scope.names.lookup x).map fun k=>if(k==NameKind.free&&X.env.scope.kind==.function&&X.env.kindOf x==some .cell) then NameKind.cell else k:=fun x=>dG scope.names;have fresh:∀ {b:Addr},s.heap.objs.size<=b->H b=none:=fun hb=>I.hok.fresh hb
 refine⟨⟨I.ok.mod,hk,I.ok.glob,I.ok.blt,M4z _,fun x y c e1 e2=>name_of_addr apart (H1z e1) (H1z e2),fun x hx=>?_,fun x c hx e=>?_,fun _=>I.ok.hd hc,I.ok.frames,.inl rfl,fun b hb=>⟨F4z (hlt b hb),fun x c e=>?_⟩,I.bs,G4z I.ok.bsz I.sz,fun b o e hb=>?_,fun b hb z=>?_,I.stack,I.stkFree⟩,
  rfl,I.bare,Un.kept keep,⟨fun _=>none,?_,fun i x v e1 e2 e3=>?_⟩,fun x c e=>?_,fresh (M4z _),fun x c e=>?_,fun p hp=>absurd (show p∈([]:List (Addr×Obj)) from hp) (by simp),I.hok.kept keep,?_⟩
 ·
  rw[kinds x] at hx
  cases hl:scope.names.lookup x with
  | none=>rw[hl] at hx;rcases hx with h | h<;>cases h
  | some k =>
   rw[hl] at hx;have hm:=H1z hl
   cases k with
   | cell=>exact Option.isSome_iff_exists.mp (N0z _ _ _ (.inl hl))
   | free =>
    obtain⟨c,h⟩:=hf x hm;exact⟨c,(same x hm).trans h⟩
   | _=>simp at hx
 ·have hm:(x,NameKind.cell)∈scope.names:=H1z (by simpa[nO] using hx)
  rcases look x c e with⟨_,h⟩ | ⟨h,_⟩
  ·exact G2z h
  ·exact absurd hm h
 ·rcases look x c e with⟨_,h⟩ | ⟨_,h,_⟩
  ·exact I4z (M1z (hlt b hb) (G2z h))
  ·exact(hfp b hb).2.2.2.2.1 x c h
 ·rcases(hfp b hb).2.2.2.1 with z | z
  ·exact I.ok.noex b o e z
  ·exact absurd (M1z (E4z e) (G4z I.ok.bsz z)) (W3z _)
 ·rcases List.mem_cons.mp (I.stkSub b z) with h | h
  ·exact(hfp b hb).2.1 h
  ·exact(hfp b hb).2.2.1 h
 ·exact(Heap.Ns.new s.heap (.type "dict")).keeps (K3z _ _)
 ·
  have e1':(scope.names.map (·.1))[i]?=some x:=e1;rw[List.getElem?_map] at e1';unfold tM at e2;rw[List.getElem?_map] at e2
  cases hp:scope.names[i]? with
  | none=>rw[hp] at e2;cases e2
  | some p =>
   rw[hp] at e1' e2;have ex:p.1=x:=B3z e1';have e2':(if p.2==.free then qj X.N σ p.1 else none)=some v:=B3z e2
   cases hk2:p.2==NameKind.free with
   | false=>rw[hk2] at e2';simp at e2'
   | true =>
    rw[hk2] at e2';simp only[C5z] at e2'
    have ek:p.2=.free:=by simpa using hk2
    have hm:(x,NameKind.free)∈scope.names:=by
     have:=List.mem_of_getElem? hp;rw[<- ex,<- ek];exact this
    unfold qj at e2';rw[ex] at e2'
    cases hj:X.N.idxOf? x with
    | none=>rw[hj] at e2';cases e2'
    | some j =>
     rw[hj] at e2';have e3:(σ[j]?).getD none=some v:=e2'
     have hσ:σ[j]?=some (some v):=by
      cases q:σ[j]? with
      | none=>rw[q] at e3;simp at e3
      | some o=>rw[q] at e3;simp at e3;rw[e3]
     have hN:X.N[j]?=some x:=by
      rw[List.idxOf?,List.findIdx?_eq_some_iff_getElem] at hj;obtain⟨h1,h2,_⟩:=hj;rw[List.getElem?_eq_getElem h1];simpa using h2
     obtain⟨m,hn,hl⟩:=I.loc;have kx:=hcap x hm;obtain⟨u,r,l⟩:=hl j x v hN hσ (by rcases kx with k | k;exact .inr (.inl k);exact .inr (.inr k));refine⟨u,r,.inr ⟨?_,?_⟩⟩
     ·rw[kinds x,bC hnd hm]
      simp only[J3z];split
      ·exact .inl rfl
      ·exact .inr rfl
     ·rcases l with⟨k,_⟩ | ⟨_,c,hc',z⟩
      ·rcases kx with k' | k'<;>(rw[k'] at k;cases k)
      ·exact⟨c,(same x hm).trans hc',z.keeps keep⟩
 ·rcases look x c e with⟨h,_⟩ | ⟨_,h,_⟩
  ·exact⟨_,own x c e h⟩
  ·obtain⟨v,z⟩:=I.cell x c h
   exact⟨v,z.keeps keep⟩
 ·rcases look x c e with⟨_,h⟩ | ⟨_,h,_⟩
  ·exact fresh (G2z h)
  ·exact I.freeC x c h
 ·show(tM X.N scope.names σ).length=(scope.names.map (·.1)).length
  unfold tM;rw[D3z,D3z]
structure Blk (X:Cx) (z0:List (Addr×Obj)) (H:Hp) (s:Shared) (C:Addr):Prop where
 ns:∃ m,s.heap.Ns C m
 free:H C=none
 loc:C≠X.env.locals
 abv:X.s₀.heap.objs.size<=C
 cel:∀ x c,X.env.cells.lookup x=some c->c≠C
 pin:∀ p∈X.pn++z0,p.1≠C
theorem nR{elt tg iter:Expr}{ifs:List Expr}{scope:Scope}{pos:Pos}{wi:TI}{g:Cx->TG}{tc:Cx->TT}{te:Cx->TE}(hc:X.calm=true)(hk:scope.kind=.function)(hnd:(scope.names.map (·.1)).Nodup)
  (hcap:∀ x,(x,NameKind.free)∈scope.names->X.env.kindOf x=some .cell\/X.env.kindOf x=some .free) (hi:PI X tg iter wi)
  (hin:∀ Xc:Cx,CompOf X scope Xc->PG Xc tg (g Xc)/\yc Xc ifs (tc Xc)/\PE Xc elt (te Xc)) {z0:List (Addr×Obj)} {s:Shared} {σ:St} {H:Hp} {Q:VK} (I:Inv X z0 σ H s) (h:uD X scope wi (tM X.N scope.names) g tc te σ H Q) {R:Value->Addr->Result->Shared->Prop}
  (fin:∀ acc C H' s',Inv X z0 σ H' s'->Blk X z0 H' s' C->Q (.ref acc) H'->R (.ref acc) C (.ok .next) s') :
  wpAny (model X.prog X.w) X.A (eval iter X.env) (fun x s₁=>wpAny (model X.prog X.w) X.A (pyIter x) (fun it s₂=>wpAny (model X.prog X.w) X.A (newList []) (fun acc s₃ =>
   wpAny (model X.prog X.w) X.A (newFunctionEnv scope X.env.globals (fP X.env.cells scope.names []) [] X.env.qual none .none (some X.env)) (fun cenv s₄ =>
    codeAny (model X.prog X.w) X.A (.compStart (.ListComp elt [⟨tg,iter,ifs,0⟩] scope pos) 0 it acc { cenv with scope:=relabel scope X.env }) (R acc cenv.locals) s₄) X.xe s₃) X.xe s₂) X.xe s₁) X.xe s:=by
 refine thn (hi z0 s σ H _ I h) fun v s1 h1=>thn h1 fun itv s2 h2=>?_;obtain⟨it,fp,tn,J,H2,rfl,I2,T,st2,f2,q2⟩:=h2;refine B2z ?_;have hf:H2 s2.heap.objs.size=none:=I2.hok.fresh (M4z _);have I3:=I2.lnew (ys:=[]) (its:=[]) (t':=s2.toks) .nil (O4z _);generalize hs3:({ s2 with heap:=s2.heap.push { cls:=.type "list",data:=.seq ([]:List Value).toArray },toks:=s2.toks }:Shared)=s3 at I3
 have lt2:∀ b∈fp,b<s2.heap.objs.size:=fun b hb=>by
  obtain⟨o,e,_⟩:=T.obj _ _ st2 b hb;exact E4z e
 have f3:∀ b∈fp,rm X z0 (upd H2 s2.heap.objs.size (.lst [])) b:=fun b hb=>⟨by rw[ak (F4z (lt2 b hb))];exact(f2 b hb).1,(f2 b hb).2⟩
 have sz3:s3.heap.objs.size=s2.heap.objs.size+1:=by rw[<- hs3];exact R3z ..
 have lt3:∀ b∈fp,b<s3.heap.objs.size:=fun b hb=>by rw[sz3];exact F2z (lt2 b hb)
 have st3:tn 0 s3.heap:=T.keep _ _ _ st2 fun b hb o e=>by rw[<- hs3];exact Heap.get?_push_of_some _ e
 have J0:=Ad I3 hc hk hnd hcap f3 lt3;have cO:CompOf X scope (nO X scope (cellsFrom (s3.heap.objs.size+1) scope.names (fP X.env.cells scope.names [])) s3.heap.objs.size s3 (upd H2 s2.heap.objs.size (.lst [])) fp):=⟨rfl,rfl,rfl,rfl,rfl,rfl,rfl,rfl,rfl,rfl,rfl⟩;obtain⟨hg,hif,he⟩:=hin _ cO;obtain⟨W,⟨m0,w0⟩,turn⟩:=q2 s2.heap.objs.size hf _ cO;refine oZ ?_;have st4:tn 0 (pushCells (s3.heap.push { cls:=.type "dict",data:=.dict #[] }) scope.names):=T.keep _ _ _ st3 fun b _ o e=>K3z _ _ b o (Heap.get?_push_of_some _ e);generalize hXc:nO X scope (cellsFrom (s3.heap.objs.size+1) scope.names (fP X.env.cells scope.names [])) s3.heap.objs.size s3 (upd H2 s2.heap.objs.size (.lst [])) fp=Xc at J0 hg hif he turn
 have hprog:Xc.prog=X.prog:=by rw[<- hXc];rfl
 have hw:Xc.w=X.w:=by rw[<- hXc];rfl
 have hK:Xc.K=X.K:=by rw[<- hXc];rfl
 have hA:Xc.A=X.A:=by rw[<- hXc];rfl
 have hcm:Xc.calm=true:=by rw[<- hXc];rfl
 have hxe:Xc.xe=fun _ _=>False:=by rw[<- hXc];rfl
 have hen:Xc.env=qT scope (cellsFrom (s3.heap.objs.size+1) scope.names (fP X.env.cells scope.names [])) s3.heap.objs.size X.env:=by rw[<- hXc];rfl
 have hex:Xc.ex=fp:=by rw[<- hXc];rfl
 have hfs:Xc.fs=frs X.stack:=by rw[<- hXc];rfl
 have hs0:Xc.s₀=s3:=by rw[<- hXc];rfl
 have hH0:Xc.H₀=upd H2 s2.heap.objs.size (.lst []):=by rw[<- hXc];rfl
 have hpn:Xc.pn=[]:=by rw[<- hXc];rfl
 have stat:∀ {H':Hp},(∀ b∈fp,H' b=none)->∀ b∈fp,rm Xc [] H' b:=fun {H'} hn b hb=>by
  refine⟨hn b hb,(J0.ok.exf b (by rw[hex];exact hb)).1,fun z=>J0.ok.exfs b (by rw[hex];exact hb) z,.inl (by rw[hex];exact hb),(J0.ok.exf b (by rw[hex];exact hb)).2,fun p hp=>?_⟩
  rw[hpn] at hp;exact absurd hp (by simp)
 have loop:codeAny (model X.prog X.w) X.A (.compLoop (.ListComp elt [⟨tg,iter,ifs,0⟩] scope pos) 0 (.ref it) (.ref s2.heap.objs.size) Xc.env)
   (R (.ref s2.heap.objs.size) s3.heap.objs.size) { s3 with heap:=pushCells (s3.heap.push { cls:=.type "dict",data:=.dict #[] }) scope.names }:=by
  refine fH (fun n s'=>∃ i σ' H',Inv Xc [] σ' H' s'/\tn i s'.heap/\(∀ b∈fp,H' b=none)/\W i n σ' H') ?_ m0 ⟨0,_,_,J0,st4,fun b hb=>(f3 b hb).1,w0⟩;rintro n s5 ⟨i,σ5,H5,I5,st5,fr5,w5⟩;rcases turn i n σ5 H5 w5 with⟨stop,qn⟩ | ⟨go,N,hN,step⟩
  ·have q:=T.done Xc hprog hw hK hcm i [] s5 σ5 H5 (fun _ _=>False) I5 (stat fr5) st5 stop
   rw[hA] at q;refine thn q fun r s6 ⟨hr,I6⟩=>?_;subst hr
   have hL:Xc.env.locals=s3.heap.objs.size:=by rw[hen];rfl
   have ub:=I6.base;rw[hfs,hex,hH0,hs0] at ub
   have IX:Inv X z0 σ H5 s6:=by
    refine I3.call' (ch:=fp) ?_ ub ?_ I6.bare fun b hb=>⟨(f3 b hb).2.2.2.1,(f3 b hb).2.1,(f3 b hb).2.2.2.2.1,(f3 b hb).2.2.2.2.2⟩
    ·have:=I6.os
     rw[hs0] at this;exact this
    ·have hok:=I6.hok
     rw[hprog,hw] at hok;exact hok
   refine fin _ _ _ _ IX ⟨?_,?_,I4z I3.lt,I3.sz,fun x c e=>?_,fun p hp=>?_⟩ qn
   ·obtain⟨m,hn,_⟩:=I6.loc
    rw[hL] at hn;exact⟨m,hn⟩
   ·have:=I6.free
    rw[hL] at this;exact this
   ·obtain⟨v,z⟩:=I3.cell x c e
    exact F4z z.lt
   ·exact F4z (E4z (I3.pin p hp).1)
  ·have q:=T.item Xc hprog hw hK hcm i [] s5 σ5 H5 (fun _ _=>False) I5 (stat fr5) st5 go
   rw[hA] at q;refine thn q fun r s6 ⟨u,hr,h6⟩=>?_;subst hr;refine thn h6 fun _ s7 ⟨x,H7,I7,r7,y7,st7,fr7⟩=>?_;have I7':=I7.pinned (stat fr7) (T.obj _ _ st7);have q8:=hg _ s7 σ5 H7 x u _ I7' r7 (step x H7 y7);rw[hprog,hw,hA,hxe] at q8;refine thn q8 fun _ s8 ⟨σ8,H8,I8,z8⟩=>?_;have q9:=hif _ s8 σ8 H8 _ I8 z8;rw[hprog,hw,hA,hxe] at q9;refine thn q9 fun ok s9 ⟨H9,I9,z9⟩=>?_
   have again:∀ {s':Shared} {σ':St} {H':Hp},Inv Xc ([]++m7 fp s7.heap) σ' H' s'->N σ' H'->∃ m,m<n/\∃ i σ' H',Inv Xc [] σ' H' s'/\tn i s'.heap/\(∀ b∈fp,H' b=none)/\W i m σ' H':=fun {s' σ' H'} I' n'=>by
    obtain⟨m',hm,w'⟩:=hN σ' H' n';refine⟨m',hm,i+1,σ',H',I'.unpinned,T.keep _ _ _ st7 fun b hb o e=>(I'.pin (b,o) (S0z _ (S0z _ (fC hb e)))).1,fun b hb=>?_,w'⟩;obtain⟨o,e,d⟩:=T.obj _ _ st7 b hb;exact(I'.pin (b,o) (S0z _ (S0z _ (fC hb e)))).2.1
   cases ok with
   | false =>
    rw[E5z Q1z] at z9 ⊢;exact again I9 z9
   | true =>
    rw[D5z rfl] at z9 ⊢;have q10:=he _ s9 σ8 H9 _ I9 z9;rw[hprog,hw,hA,hxe] at q10;refine thn q10 fun uv s10 ⟨v,H10,I10,r10,ys,hy,hz,z10⟩=>?_;have q11:=dR (X:=Xc) _ s10 σ8 H10 (.ref s2.heap.objs.size) [v] (.ref s2.heap.objs.size) [uv] (fun _ H'=>N σ8 H') I10 rfl (.cons r10 .nil) ⟨_,ys,v,rfl,rfl,hy,hz,z10⟩;rw[hprog,hw,hA,hxe] at q11;exact thn q11 fun _ s11 ⟨_,H11,I11,_,z11⟩=>again I11 z11
 have eenv:({ (newEnv scope s3.heap.objs.size X.env.globals (cellsFrom (s3.heap.objs.size+1) scope.names (fP X.env.cells scope.names [])) X.env.qual none .none (some X.env) builtinsNs) with scope:=relabel scope X.env }:Env)=Xc.env:=by rw[hen];rfl
 rw[eenv];exact codeAny_compStart_list loop (T.self X.A 0 _ _ _ st4 loop)
theorem Blk.gone{z0:List (Addr×Obj)}{σ:St}{H:Hp}{s:Shared}{C:Addr}{h':Heap}(b:Blk X z0 H s C)(I:Inv X z0 σ H s)(hs:Heap.SameBut C s.heap h'):Inv X z0 σ H { s with heap:=h' } :=
 I.turned (t':=s.toks) (fun c o hc e=>(hs.2 c hc).trans e) b.free b.loc (.inr b.abv) b.cel b.pin
theorem lB{elt tg iter:Expr}{ifs:List Expr}{scope:Scope}{pos:Pos}{wi:TI}{g:Cx->TG}{tc:Cx->TT}{te:Cx->TE}(hc:X.calm=true)(hk:scope.kind=.function)(hnd:(scope.names.map (·.1)).Nodup)
  (hcap:∀ x,(x,NameKind.free)∈scope.names->X.env.kindOf x=some .cell\/X.env.kindOf x=some .free) (hi:PI X tg iter wi)
  (hin:∀ Xc:Cx,CompOf X scope Xc->PG Xc tg (g Xc)/\yc Xc ifs (tc Xc)/\PE Xc elt (te Xc)) (hs:∀ x,foldedSetIterable iter X.env x=pure x) :
  PE X (.ListComp elt [⟨tg,iter,ifs,0⟩] scope pos) (uD X scope wi (tM X.N scope.names) g tc te):=by
 intro z0 s σ H Q I h;rw[eval_ListComp];refine wpAny_comprehension_free (use:=none) (cl:=fP X.env.cells scope.names []) rfl hs (cX (gP I hnd hcap).1) hk (fun x hx hl=>bC hnd (by rw[<- hl];exact hx)) ?_;refine nR hc hk hnd hcap hi hin I h fun acc C H' s' I' b q=>?_;obtain⟨m,hn⟩:=b.ns;exact⟨m,hn,fun h' hsb=>⟨.ref acc,H',b.gone I' hsb,rfl,q⟩⟩
theorem Dd{i:Nat}{x:Str}{elt tg iter:Expr}{ifs:List Expr}{scope:Scope}{pos pos' spos:Pos}{wi:TI}{g:Cx->TG}{tc:Cx->TT}{te:Cx->TE}(hN:X.N.Nodup)(hix:X.N[i]?=some x)(hx:X.env.scope.names.lookup x=some .local)
  (hc:X.calm=true) (hk:scope.kind=.function) (hnd:(scope.names.map (·.1)).Nodup)
  (hcap:∀ x,(x,NameKind.free)∈scope.names->X.env.kindOf x=some .cell\/X.env.kindOf x=some .free) (hi:PI X tg iter wi)
  (hin:∀ Xc:Cx,CompOf X scope Xc->PG Xc tg (g Xc)/\yc Xc ifs (tc Xc)/\PE Xc elt (te Xc)) (hs:∀ x,foldedSetIterable iter X.env x=pure x)
  (hsw:swapsWith (.ListComp elt [⟨tg,iter,ifs,0⟩] scope pos) (some (.Name x pos')) spos.line X.env=pure true) :
  PS X (.Assign [.Name x pos'] (.ListComp elt [⟨tg,iter,ifs,0⟩] scope pos) spos) (Kg (uD X scope wi (tM X.N scope.names) g tc te) (Eu i)):=by
 intro z0 s σ H D I h;rw[exec_Assign_Name_used _ _ _ _ hsw];refine S4z (Y3z (S4z ?_));show wpAny _ X.A (do let _ <- comprehension (.ListComp elt [⟨tg,iter,ifs,0⟩] scope pos) scope X.env _ (newList []) false (eval iter X.env) (some (assign (.Name x pos') X.env))) _ _ s
 refine S4z (thn (wpAny_comprehension_free (use:=some (assign (.Name x pos') X.env)) (Q:=fun _ s'=>SP X z0 D .next s') (cl:=fP X.env.cells scope.names []) rfl hs (cX (gP I hnd hcap).1) hk (fun x hx hl=>bC hnd (by rw[<- hl];exact hx))
  (nR hc hk hnd hcap hi hin I h fun acc C H' s' I' b q=>?_)) fun _ s' hq=>T4z (T4z hq))
 show wpAny _ X.A (assign (.Name x pos') X.env (.ref acc)) _ _ s';refine wpAny_assign_Name (mU I' hN hix (.inl hx) (v:=.ref acc) rfl (fun s'' I'' ⟨a,hsb,ha⟩=>?_) (.inr hx));obtain⟨m,hn⟩:=b.ns
 have hCa:C≠a:=by
  rcases ha with ha | ha
  ·rw[ha];exact b.loc
  ·exact(b.cel x a ha).symm
 have b2:Blk X z0 H' s'' C:=⟨⟨m,hn.sameBut hsb hCa⟩,b.free,b.loc,b.abv,b.cel,b.pin⟩;exact⟨m,hn.sameBut hsb hCa,fun h' hsb'=>⟨_,H',b2.gone I'' hsb',q⟩⟩
end
def Its(x:Str):It:=⟨fun i _=>i<x.cps.size,fun i H v H'=>H'=H/\∃ c,x.cps[i]?=some c/\v=.str ⟨#[c]⟩,fun i _=>x.cps.size<=i⟩
theorem yh{P:Program}{w:World}{K:Zf}{tg:Expr}(it:Addr)(x:Str)(t:Tok):Turn P w K tg (Its x) [it] it (fun i h=>h.IsStrIter it "str_ascii_iterator" x t i) where
 mem:=by simp
 obj:=fun i h st b hb=>by
  have e:b=it:=by simpa using hb
  subst e;obtain⟨o,e,c,d⟩:=st;exact⟨o,e,fun v z=>by rw[d] at z;cases z⟩
 keep:=fun i h h' st k=>let ⟨o,ho,r⟩:=st;⟨o,k it (by simp) o ho,r⟩
 item:=by
  intro X hP hw hK hc i z0 s σ H E I hf st hg;subst hP hw hK;obtain⟨f0,f1,f2,f3,f4,f5⟩:=hf it (by simp);have hg':i<x.cps.size:=hg;refine wpAny_pyNext_ascii_item st (c:=x.cps[i]) (by simp[hg']) fun h' st' sb=>?_;have I1:Inv X z0 σ H { s with heap:=h',toks:=s.toks+1 }:=I.turned (fun b o hb e=>(sb.2 b hb).trans e) f0 f1 f3 f4 f5;obtain⟨o,e,c,d⟩:=id st';exact⟨_,rfl,sS (s:={ s with heap:=h',toks:=s.toks+1 }) e c d (by decide) ⟨.str ⟨#[x.cps[i]]⟩,H,I1,⟨_,rfl⟩,⟨rfl,x.cps[i],by simp[hg'],rfl⟩,st',fun b hb=>(hf b hb).1⟩⟩
 done:=by
  intro X hP hw hK hc i z0 s σ H E I hf st hg;subst hP hw hK;obtain⟨f0,f1,f2,f3,f4,f5⟩:=hf it (by simp);exact wpAny_pyNext_ascii_end (I.ok.hd hc) st (by have:x.cps.size<=i:=hg;simp[this]) fun h' eb=>⟨rfl,I.turned (t':=s.toks) (fun b o hb e=>eb b o hb e) f0 f1 f3 f4 f5⟩
 self:=fun _ _ _ _ _ st h=>wpAny_pyIter_striter_ascii st h
section
variable {X:Cx} {tg:Expr}
def VB(tl:TE):TI:=fun σ H R=>tl σ H fun v H1=>∃ x,v=.str x/\x.cps.all (· < 128)=true/\R (Its x) H1
theorem HB{l:Expr}{tl:TE}(hl:PE X l tl):PI X tg l (VB tl):=by
 intro z0 s σ H R I h;refine thn (hl z0 s σ H _ I h) fun v s1 ⟨x,H1,I1,r1,q1⟩=>?_;obtain⟨y,e,ha,q⟩:=q1;subst e;obtain⟨t,rfl⟩:=r1;refine wpAny_pyIter_ascii ha ?_;refine⟨s1.heap.objs.size,[s1.heap.objs.size],_,_,H1,rfl,I1.kept (t':=s1.toks) fun b o e=>Heap.get?_push_of_some _ e,yh _ y t,⟨_,Heap.get?_push_size _ rfl,rfl,rfl⟩,fun b hb=>?_,q⟩
 have e:b=s1.heap.objs.size:=by simpa using hb
 subst e;exact I1.fpOk (M4z _) (I1.hok.fresh (M4z _))
end
section
variable {prog:Program} {w:World} {A:Around} {E:Value->Shared->Prop} {s:Shared}
theorem Aa{it t:Addr}{i:Nat}{its:Array Value}{Q:Value->Shared->Prop}(hh:A.handled=none)(hit:s.heap.IsTupleIter it t i)(ht:s.heap.IsTuple t its)
  (hs:∀ x h',its[i]?=some x->h'.IsTupleIter it t (i+1)->Heap.SameBut it s.heap h'->Q x { s with heap:=h' })
  (he:∀ h' e,its[i]?=none->Heap.ExtBut it s.heap h'->(∃ o,h'.get? e=some o/\o.cls=.type "StopIteration")->E (.ref e) { s with heap:=h' }) :
  wpAny (model prog w) A (Builtin.SmallTypes.nextOf (.ref it)) Q E s:=by
 obtain⟨oi,hoi,hci,hdi⟩:=id hit;obtain⟨ot,hot,_,nt,hdt⟩:=ht;unfold Builtin.SmallTypes.nextOf;refine S4z (wpAny_callSpecial?_slot (name:=Str.ofString "__next__") hit.typeIs F.slot_tuple_iterator_next (S2z F.slot_tuple_iterator_next hit.typeIs F.entry_tuple_iterator_next ?_ (F.args_tuple_iterator_next_1 _)));show wpAny _ _ (field (.ref it) 0 >>=_) _ _ s;refine S4z (P4z hoi hdi (x:=.ref t) rfl ?_);have nn:¬ ((Value.ref t==Value.none)=true):=Q1z;show wpAny _ _ (if(Value.ref t==Value.none)=true then _ else _) _ _ s;rw[E5z nn];show wpAny _ _ (field (.ref it) 1 >>=_) _ _ s;refine S4z (P4z hoi hdi (x:=.int i 0) rfl ?_);show wpAny _ _ (seqItems? (.ref t) >>=_) _ _ s;refine S4z (T3z hot hdt ?_)
 cases hx:its[i]? with
 | some x =>
  simp only[Int.toNat_natCast,hx];have fin:(s.heap.update it fun o=>o.mapFields (·.setIfInBounds 1 (rawInt ((i:Int)+1)))).IsTupleIter it t (i+1):=⟨_,Heap.get?_update_self _ hoi (Obj.isFreed_of_fields (Obj.data_mapFields hdi _)),(Obj.cls_mapFields ..).trans hci,by rw[Obj.data_mapFields hdi];simp[rawInt]⟩;exact S4z (wpAny_setField hoi hdi (by simp) (T4z ⟨x,rfl,T4z (hs x _ hx fin (Heap.SameBut.update ..))⟩))
 | none =>
  simp only[Int.toNat_natCast,hx];refine S4z (wpAny_rule (S4z (wpAny_setField hoi hdi (by simp) (S4z (m:=newExc (.type "StopIteration") []) ?_))));simp only[newExc,newTuple];refine S4z (B2z (S4z (m:=firstArgMember _ _) (Q4z (a:=Value.none) (by first | rfl | (simp only[firstArgMember];rfl)) (B2z ?_ (by size_fits)))) (by size_fits));simp only[raiseNew];refine S4z (wpAny_handled ?_)
  first | rw[show A.in1.handled=none from hh] | rw[hh]
  exact S4z (T4z (wpAny_throw (he _ _ hx (((Heap.SameBut.update ..).extBut.push _).push _) ⟨_,Heap.get?_push_size _ rfl,rfl⟩)))
structure ZT (h:Heap) (z ti to i1 i2 t1 t2:Addr) (k:Nat) (f:Value):Prop where
 hz:IsZip h z ti to f
 hi:IsPair h ti (.ref i1) (.ref i2)
 ho:∃ a b,IsPair h to a b
 h1:h.IsTupleIter i1 t1 k
 h2:h.IsTupleIter i2 t2 k
theorem ZT.keep{h h':Heap}{z ti to i1 i2 t1 t2:Addr}{k:Nat}{f:Value}(x:ZT h z ti to i1 i2 t1 t2 k f)(kp:∀ b∈[z,ti,to,i1,i2],∀ o,h.get? b=some o->h'.get? b=some o):ZT h' z ti to i1 i2 t1 t2 k f :=
 ⟨kp z (by simp) _ x.hz,kp ti (by simp) _ x.hi,let ⟨a,b,e⟩:=x.ho;⟨a,b,kp to (by simp) _ e⟩,x.h1.at fun o e=>kp i1 (by simp) o e,x.h2.at fun o e=>kp i2 (by simp) o e⟩
theorem tQ{z ti to i1 i2 t1 t2:Addr}{k:Nat}{xs ys:Array Value}{Q:Fin->Shared->Prop}(hh:A.handled=none)(D:ZipApart z ti to i1 i2 t1 t2)(hZ:ZT s.heap z ti to i1 i2 t1 t2 k .none)
  (ht1:s.heap.IsTuple t1 xs) (ht2:s.heap.IsTuple t2 ys)
  (hs : ∀ x y h', xs[k]? = some x -> ys[k]? = some y -> ZT h' z ti to i1 i2 t1 t2 (k + 1) (rawInt s.heap.objs.size) -> IsPair h' s.heap.objs.size x y -> h'.objs.size = s.heap.objs.size + 1 ->
   (∀ c o,c∉[z,to,i1,i2]->s.heap.get? c=some o->h'.get? c=some o)->Q (.done (.ret (.ref s.heap.objs.size))) { s with heap:=h' })
  (he:∀ h' e,(xs[k]?=none\/ys[k]?=none)->(∀ c o,c∉[z,to,i1,i2]->s.heap.get? c=some o->h'.get? c=some o)->(∃ o,h'.get? e=some o/\o.cls=.type "StopIteration")->E (.ref e) { s with heap:=h' }) :
  wpAny (model prog w) A (Builtin.«zip.__next__» ⟨[.ref z],[]⟩) Q E s:=by
 obtain⟨hz,hi,⟨a,b,ho⟩,h1,h2⟩:=hZ;show wpAny _ _ (field (.ref z) 2 >>=_) _ _ _;refine S4z (P4z hz rfl (x:=.bool false) rfl ?_);show wpAny _ _ (field (.ref z) 3 >>=_) _ _ _;refine S4z (P4z hz rfl (x:=.ref ti) rfl (S4z (T3z hi rfl ?_)));show wpAny _ _ (Builtin.SmallTypes.ownedTupleIsFree (.ref z) >>=_) _ _ _;unfold Builtin.SmallTypes.ownedTupleIsFree;refine S4z (S4z (P4z hz rfl (x:=.none) rfl (T4z ?_)));simp only[C5z];refine S4z (wpAny_rule (S4z (P4z hz rfl (x:=.ref to) rfl (S4z (X1z hz (by simp) fun ha za sa=>?_)))))
 replace za:IsZip ha z ti to .ellipsis:=za
 refine S4z ?_;simp only[List.zipIdx_cons,List.zipIdx_nil,List.forIn_cons,List.forIn_nil];refine S4z (S4z (wpAny_onRaise ?_))
 have ne4:∀ {c:Addr},c∉[z,to,i1,i2]->c≠z/\c≠to/\c≠i1/\c≠i2:=fun hc=>by simpa using hc
 show wpAny _ _ (Builtin.SmallTypes.nextOf (.ref i1) >>=_) _ _ _;refine S4z (Aa hh (h1.extBut sa.extBut D.i1z) (ht1.extBut sa.extBut D.l1z) (fun x hb hx itb sb=>T4z ?_) fun hb e hx eb ⟨oe,oe1,oe2⟩=>?_)
 ·have tob:IsPair hb to a b:=sb.extBut _ _ D.TOi1 (sa.extBut _ _ D.TOz ho)
  refine S4z (T3z tob rfl (S4z (wpAny_updateSeq_pair tob fun hc toc sc=>S4z (wpAny_letGo (T4z ?_)))))
  replace toc:IsPair hc to x b:=toc
  refine S4z (S4z (wpAny_onRaise ?_));have h2c:hc.IsTupleIter i2 t2 k:=((h2.extBut sa.extBut D.i2z).extBut sb.extBut D.i12.symm).extBut sc.extBut D.TOi2.symm;have t2c:hc.IsTuple t2 ys:=((ht2.extBut sa.extBut D.l2z).extBut sb.extBut D.l2i1).extBut sc.extBut D.l2TO;show wpAny _ _ (Builtin.SmallTypes.nextOf (.ref i2) >>=_) _ _ _;refine S4z (Aa hh h2c t2c (fun y hd hy itd sd=>T4z ?_) fun hd e hy ed ⟨oe,oe1,oe2⟩=>?_)
  ·have tod:IsPair hd to x b:=sd.extBut _ _ D.TOi2 toc
   refine S4z (T3z tod rfl (S4z (wpAny_updateSeq_pair tod fun hf tof sf=>S4z (wpAny_letGo (T4z (T4z ?_))))))
   replace tof:IsPair hf to x y:=tof
   refine S4z (T3z tof rfl (S4z (wpAny_newTuple ?_)))
   have szf:hf.objs.size=s.heap.objs.size:=by rw[sf.1,sd.1,sc.1,sb.1,sa.1]
   have zf:IsZip hf z ti to .ellipsis:=sf.extBut _ _ D.TOz.symm (sd.extBut _ _ D.i2z.symm (sc.extBut _ _ D.TOz.symm (sb.extBut _ _ D.i1z.symm za)))
   have kf:∀ c o,c∉[z,to,i1,i2]->s.heap.get? c=some o->hf.get? c=some o:=fun c o hc' e=>by
    obtain⟨c1,c2,c3,c4⟩:=ne4 hc';exact sf.extBut _ _ c2 (sd.extBut _ _ c4 (sc.extBut _ _ c2 (sb.extBut _ _ c3 (sa.extBut _ _ c1 e))))
   have i1f:hf.IsTupleIter i1 t1 (k+1):=((itb.extBut sc.extBut D.TOi1.symm).extBut sd.extBut D.i12).extBut sf.extBut D.TOi1.symm;have i2f:hf.IsTupleIter i2 t2 (k+1):=itd.extBut sf.extBut D.TOi2.symm;have tif:IsPair hf ti (.ref i1) (.ref i2):=sf.extBut _ _ D.TITO (sd.extBut _ _ D.TIi2 (sc.extBut _ _ D.TITO (sb.extBut _ _ D.TIi1 (sa.extBut _ _ D.TIz hi))));have zlt:z<hf.objs.size:=E4z zf;show wpAny _ _ (Builtin.SmallTypes.ownedTupleHandOut (.ref z) (.ref hf.objs.size) >>=_) _ _ _;unfold Builtin.SmallTypes.ownedTupleHandOut;have zg:IsZip (hf.push { cls:=.type "tuple",data:=.seq #[x,y] }) z ti to .ellipsis:=Heap.get?_push_of_some _ zf;refine S4z (S4z (X1z zg (by simp) fun hk zk sk=>X1z (show IsZip hk z ti to (rawInt hf.objs.size) from zk) (by simp) fun hm zm sm=>T4z ?_))
   replace zm:IsZip hm z ti to (rawInt hf.objs.size):=zm
   have up:∀ c o,c≠z->hf.get? c=some o->hm.get? c=some o:=fun c o c1 e=>sm.extBut _ _ c1 (sk.extBut _ _ c1 (Heap.get?_push_of_some _ e));have new:IsPair hm hf.objs.size x y:=sm.extBut _ _ (I4z zlt) (sk.extBut _ _ (I4z zlt) (Heap.get?_push_size _ rfl))
   have szm:hm.objs.size=hf.objs.size+1:=by rw[sm.1,sk.1,R3z]
   have q:=hs x y hm hx hy ⟨by rw[<- szf];exact zm,up _ _ D.TIz tif,⟨x,y,up _ _ D.TOz tof⟩,i1f.at fun o e=>up _ o D.i1z e,i2f.at fun o e=>up _ o D.i2z e⟩ (by rw[<- szf];exact new) (by rw[szm,szf]) fun c o hc' e=>up c o (ne4 hc').1 (kf c o hc' e)
   rw[<- szf] at q;exact q
  ·have zd:IsZip hd z ti to .ellipsis:=ed _ _ D.i2z.symm (sc.extBut _ _ D.TOz.symm (sb.extBut _ _ D.i1z.symm za))
   have ez:e≠z:=fun q=>by subst q;rw[zd] at oe1;cases oe1;simp at oe2
   refine X1z zd (by simp) fun hf _ sf=>he hf e (.inr hy) (fun c o hc' q=>?_) ⟨oe,sf.extBut _ _ ez oe1,oe2⟩;obtain⟨c1,c2,c3,c4⟩:=ne4 hc';exact sf.extBut _ _ c1 (ed _ _ c4 (sc.extBut _ _ c2 (sb.extBut _ _ c3 (sa.extBut _ _ c1 q))))
 ·have zb:IsZip hb z ti to .ellipsis:=eb _ _ D.i1z.symm za
  have ez:e≠z:=fun q=>by subst q;rw[zb] at oe1;cases oe1;simp at oe2
  refine X1z zb (by simp) fun hf _ sf=>he hf e (.inl hx) (fun c o hc' q=>?_) ⟨oe,sf.extBut _ _ ez oe1,oe2⟩;obtain⟨c1,c2,c3,c4⟩:=ne4 hc';exact sf.extBut _ _ c1 (eb _ _ c3 (sa.extBut _ _ c1 q))
theorem jd{z ti to i1 i2 t1 t2:Addr}{k:Nat}{xs ys:Array Value}{Q:Option Value->Shared->Prop}(hh:A.handled=none)(D:ZipApart z ti to i1 i2 t1 t2)(hZ:ZT s.heap z ti to i1 i2 t1 t2 k .none)
  (ht1:s.heap.IsTuple t1 xs) (ht2:s.heap.IsTuple t2 ys)
  (hs : ∀ x y h', xs[k]? = some x -> ys[k]? = some y -> ZT h' z ti to i1 i2 t1 t2 (k + 1) (rawInt s.heap.objs.size) -> IsPair h' s.heap.objs.size x y -> h'.objs.size = s.heap.objs.size + 1 ->
   (∀ c o,c∉[z,to,i1,i2]->s.heap.get? c=some o->h'.get? c=some o)->Q (some (.ref s.heap.objs.size)) { s with heap:=h' })
  (he:∀ h',(xs[k]?=none\/ys[k]?=none)->(∀ c o,c∉[z,to,i1,i2]->s.heap.get? c=some o->h'.get? c=some o)->Q none { s with heap:=h' }) :
  wpAny (model prog w) A (pyNext (.ref z)) Q E s:=by
 have hT:s.TypeIs (.ref z) "zip":=⟨_,hZ.hz,rfl⟩;unfold pyNext
 refine S4z (A4z (wpAny_callSpecial?_slot (name:=Str.ofString "__next__") hT F.slot_zip_next (S2z F.slot_zip_next hT F.entry_zip_next
  (tQ hh D hZ ht1 ht2 (fun x y h' a1 a2 a3 a4 a5 a6=>⟨_,rfl,T4z (hs x y h' a1 a2 a3 a4 a5 a6)⟩) fun h' e a1 a2 ⟨o,e1,e2⟩=>?_) (F.args_zip_next_1 _))))
 exact S4z (wpAny_isInstance (T:="StopIteration") (b:=true) ⟨o,e1,e2⟩ isSubtype_stop (T4z (he h' a1 a2)))
abbrev itT(t:Addr):Obj:={ cls:=.type "tuple_iterator",data:=.fields #[.ref t,.int 0 0] }
theorem BW(hp H1 H2 H3 H4 H5:Heap)(t1 t2:Addr)(e1:H1=hp.push (itT t1))(e2:H2=H1.push (itT t2))(e3:H3=H2.push { cls:=.type "tuple",data:=.seq #[.ref hp.objs.size,.ref H1.objs.size] })(e4:H4=H3.push { cls:=.type "tuple",data:=.seq #[.none,.none] })
  (e5:H5=H4.push { cls:=.type "zip",data:=.fields #[.none,.bool false,.bool false,.ref H2.objs.size,.ref H3.objs.size] }) :
  H4.objs.size=hp.objs.size+4/\H5.objs.size=hp.objs.size+5/\(∀ c o,hp.get? c=some o->H5.get? c=some o)/\ZT H5 (hp.objs.size+4) (hp.objs.size+2) (hp.objs.size+3) hp.objs.size (hp.objs.size+1) t1 t2 0 .none:=by
 have z1:H1.objs.size=hp.objs.size+1:=by rw[e1,R3z]
 have z2:H2.objs.size=hp.objs.size+2:=by rw[e2,R3z,z1]
 have z3:H3.objs.size=hp.objs.size+3:=by rw[e3,R3z,z2]
 have z4:H4.objs.size=hp.objs.size+4:=by rw[e4,R3z,z3]
 have z5:H5.objs.size=hp.objs.size+5:=by rw[e5,R3z,z4]
 have k5:∀ c o,H4.get? c=some o->H5.get? c=some o:=fun c o e=>by rw[e5];exact Heap.get?_push_of_some _ e
 have k4:∀ c o,H3.get? c=some o->H5.get? c=some o:=fun c o e=>k5 c o (by rw[e4];exact Heap.get?_push_of_some _ e)
 have k3:∀ c o,H2.get? c=some o->H5.get? c=some o:=fun c o e=>k4 c o (by rw[e3];exact Heap.get?_push_of_some _ e)
 have k2:∀ c o,H1.get? c=some o->H5.get? c=some o:=fun c o e=>k3 c o (by rw[e2];exact Heap.get?_push_of_some _ e)
 have k1:∀ c o,hp.get? c=some o->H5.get? c=some o:=fun c o e=>k2 c o (by rw[e1];exact Heap.get?_push_of_some _ e)
 refine⟨z4,z5,k1,?_,?_,⟨.none,.none,?_⟩,⟨_,k2 _ _ (by rw[e1];exact Heap.get?_push_size _ rfl),rfl,rfl⟩,⟨_,k3 _ _ (by rw[e2,<- z1];exact Heap.get?_push_size _ rfl),rfl,rfl⟩⟩
 ·have q:H5.get? H4.objs.size=some { cls:=.type "zip",data:=.fields #[.none,.bool false,.bool false,.ref H2.objs.size,.ref H3.objs.size] }:=by rw[e5];exact Heap.get?_push_size _ rfl
  rw[z2,z3,z4] at q;exact q
 ·have q:H5.get? H2.objs.size=some { cls:=.type "tuple",data:=.seq #[.ref hp.objs.size,.ref H1.objs.size] }:=k4 _ _ (by rw[e3];exact Heap.get?_push_size _ rfl)
  rw[z1,z2] at q;exact q
 ·have q:H5.get? H3.objs.size=some { cls:=.type "tuple",data:=.seq #[.none,.none] }:=k5 _ _ (by rw[e4];exact Heap.get?_push_size _ rfl)
  rw[z3] at q;exact q
theorem yd(t1 t2:Addr)(xs ys:Array Value) :
    Meets (Builtin.«zip.__new__» ⟨[.type "zip",.ref t1,.ref t2],[]⟩) (fun _ R s=>s.heap.IsTuple t1 xs/\s.heap.IsTuple t2 ys /\
      ∀ h', (∀ c o, s.heap.get? c = some o -> h'.get? c = some o) -> h'.objs.size = s.heap.objs.size + 5 -> ZT h' (s.heap.objs.size + 4) (s.heap.objs.size + 2) (s.heap.objs.size + 3) s.heap.objs.size (s.heap.objs.size + 1) t1 t2 0 .none ->
        R (.ok (.ret (.ref (s.heap.objs.size+4)))) { s with heap:=h' }) :=
  .of_wp fun prog w A R s h=>by
    obtain⟨hp,g,d,tk,os⟩:=s;obtain⟨hl1,hl2,h⟩:=h
    have hsub:=sub_zip
    have hL1:Heap.IsTuple (Shared.heap ⟨hp,g,d,tk,os⟩) t1 xs:=hl1
    have hL2:Heap.IsTuple (Shared.heap ⟨hp.push (itT t1),g,d,tk,os⟩) t2 ys:=let ⟨o,e,r⟩:=hl2;⟨o,Heap.get?_push_of_some _ e,r⟩
    wp_walk using P1z hL1,P1z hL2
    refine⟨_,rfl,?_⟩
    obtain⟨z4,z5,kp,Z⟩:=BW hp _ _ _ _ _ t1 t2 rfl rfl rfl rfl rfl
    have q:=h _ kp z5 Z
    rw[<- z4] at q
    exact q
theorem xg{t1 t2:Addr}{xs ys:Array Value}{Q:Value->Shared->Prop}(hl1:s.heap.IsTuple t1 xs)(hl2:s.heap.IsTuple t2 ys)
  (h : ∀ h', (∀ c o, s.heap.get? c = some o -> h'.get? c = some o) -> h'.objs.size = s.heap.objs.size + 5 -> ZT h' (s.heap.objs.size + 4) (s.heap.objs.size + 2) (s.heap.objs.size + 3) s.heap.objs.size (s.heap.objs.size + 1) t1 t2 0 .none ->
   Q (.ref (s.heap.objs.size+4)) { s with heap:=h' }):wpAny (model prog w) A (call (.type "zip") [.ref t1,.ref t2]) Q E s:=by
 refine callType_new F.called_zip (by decide) (F.typeCall_zip_2 _ _) (F.newCall_zip_2 _ _) (fun obj=>F.args_object_init_3 obj _ _) F.entry_zip_new (yd t1 t2 xs ys) ⟨hl1,hl2,fun h' kp z5 Z=>?_⟩;exact⟨⟨_,Z.hz,rfl⟩,h h' kp z5 Z⟩
end
namespace RF
theorem slot_next:Slot "reversed" "__next__" "reversed.__next__":=.of (owner:="reversed") (n:="__next__") (by rw[L3z,T0z];rfl') (by decide +kernel) (by decide +kernel) (by decide +kernel) (by first | exact .inl (by decide +kernel) | exact .inr (by decide +kernel)) (by rw[U3z];rfl')
theorem mW:Slot "reversed" "__iter__" "reversed.__iter__":=.of (owner:="reversed") (n:="__iter__") (by rw[L3z,T0z];rfl') (by decide +kernel) (by decide +kernel) (by decide +kernel) (by first | exact .inl (by decide +kernel) | exact .inr (by decide +kernel)) (by rw[U3z];rfl')
theorem uL:Slot "reversed" "__init__" "object.__init__":=.of (owner:="object") (n:="__init__") (by rw[L3z,T0z];rfl') (by decide +kernel) (by decide +kernel) (by decide +kernel) (by first | exact .inl (by decide +kernel) | exact .inr (by decide +kernel)) (by rw[U3z];rfl')
theorem iW:Slot "reversed" "__length_hint__" "reversed.__length_hint__":=.of (owner:="reversed") (n:="__length_hint__") (by rw[L3z,T0z];rfl') (by decide +kernel) (by decide +kernel) (by decide +kernel) (by first | exact .inl (by decide +kernel) | exact .inr (by decide +kernel)) (by rw[U3z];rfl')
theorem Iz:typeLookup (.type "reversed") "__len__"=pure none:=by rw[L3z,T0z];rfl'
theorem entry_next:entryFor table "reversed.__next__"=some Builtin.«reversed.__next__» :=entryFor_of_tree (by rfl')
theorem tD:entryFor table "reversed.__length_hint__"=some Builtin.«reversed.__length_hint__» :=entryFor_of_tree (by rfl')
theorem wR:entryFor table "reversed.__new__"=some Builtin.«reversed.__new__» :=entryFor_of_tree (by rfl')
theorem sZ:entryFor table "reversed.__iter__"=some Builtin.«dict_keyiterator.__iter__» :=entryFor_alias (id':="dict_keyiterator.__iter__") (by rfl') (by first | rfl | decide +kernel | (unfold String.splitOn;simp +decide [String.splitOnAux])) (by decide +kernel) (by rfl')
theorem owner:Manifest.owners.lookup (String.ofList ['d','e','s','r','e','v','e','r'].reverse)=some Manifest.sig_reversed:=by rfl'
theorem args_next(a:Value):argsOk "reversed.__next__" ⟨[a],[]⟩:=by unfold argsOk;rw[signature?_of (id:="reversed.__next__") (n:=['_','_','t','x','e','n','_','_']) (o:=['d','e','s','r','e','v','e','r']) (by rfl') owner];rfl'
theorem xU(a:Value):argsOk "reversed.__iter__" ⟨[a],[]⟩:=by unfold argsOk;rw[signature?_of (id:="reversed.__iter__") (n:=['_','_','r','e','t','i','_','_']) (o:=['d','e','s','r','e','v','e','r']) (by rfl') owner];rfl'
theorem xV(a:Value):argsOk "reversed.__length_hint__" ⟨[a],[]⟩:=by unfold argsOk;rw[signature?_of (id:="reversed.__length_hint__") (n:=['_','_','t','n','i','h','_','h','t','g','n','e','l','_','_']) (o:=['d','e','s','r','e','v','e','r']) (by rfl') owner];rfl'
theorem mro:mroOf (.type "reversed")=pure [.type "reversed",.type "object"]:=by rw[mroOf_type];rfl'
theorem zB:typeLookup (.type "reversed") "__new__"=pure (some (.builtin "reversed.__new__")):=by rw[L3z,T0z];rfl'
theorem called:TypeCalled "reversed" "reversed.__new__" "object.__init__":=⟨by decide +kernel,by decide +kernel,⟨_,_,mro⟩,madeBy_type mro zB (by decide +kernel),by decide +kernel,by rw[U3z];rfl',uL⟩
theorem J7(a:Value):checkTypeCall "reversed" ⟨[a],[]⟩=pure ():=by rfl'
theorem QJ(a:Value):checkBuiltinCall "reversed.__new__" ⟨[.type "reversed",a],[]⟩=pure ():=by rfl'
theorem sub_self:isSubtype (.type "reversed") (.type "reversed")=pure true:=by rw[U3z];rfl'
theorem um:typeLookup (.type "tuple") "__reversed__"=pure none:=by rw[L3z,T0z];rfl'
end RF
theorem IK(a:Value):Builtin.SmallTypes.newClass "reversed" ⟨[.type "reversed",a],[]⟩=pure (.type "reversed",[a]):=by
 unfold Builtin.SmallTypes.newClass;simp only[isType,RF.sub_self,pure_bind,Bool.not_true,W1z,A5z]
abbrev yF(t:Addr)(i:Int):Obj:={ cls:=.type "reversed",data:=.fields #[.ref t,rawInt i] }
theorem yD(t:Addr)(its:Array Value) :
    Meets (Builtin.«reversed.__new__» ⟨[.type "reversed",.ref t],[]⟩) (fun _ R s=>IsTup s.heap t its/\its.size<=sizeLine/\∀ tk,R (.ok (.ret (.ref s.heap.objs.size))) { s with heap:=s.heap.push (yF t ((its.size:Int)-1)),toks:=tk }) :=
  .of_wp fun prog w A R s h=>by
    obtain⟨ht,hz,h⟩:=h
    have hT:s.TypeIs (.ref t) "tuple":=Heap.IsTuple.typeIs (show s.heap.IsTuple t its from ht)
    unfold Builtin.«reversed.__new__»
    refine S4z (Q4z (IK _) ?_)
    try dsimp only
    refine S4z (Q4z (a:=()) (by first | rfl | rfl') (S4z (Q4z (a:=()) (by first | rfl | rfl') ?_)))
    try dsimp only
    refine S4z (M3z hT RF.um ?_)
    try dsimp only
    have lk:typeLookup (.type "tuple") "__getitem__"=pure (some (.builtin "tuple.__getitem__")):=by rw[L3z,T0z];rfl'
    have sd:isSubtype (.type "tuple") (.type "dict")=pure false:=by rw[U3z];rfl'
    have fit : (its.size : Int) < 2 ^ 63 := by have : sizeLine < 2 ^ 63 := by (rw [N4z]; decide)
                                               omega
    wp_walk using M3z hT lk,Q4z sd,PyProof.Rows.len_tuple ht fit
    exact⟨_,rfl,h _⟩
section
variable {prog:Program} {w:World} {A:Around} {E:Value->Shared->Prop} {s:Shared}
theorem n6{t:Addr}{its:Array Value}{Q:Value->Shared->Prop}(ht:IsTup s.heap t its)(hz:its.size<=sizeLine)(h:∀ tk,Q (.ref s.heap.objs.size) { s with heap:=s.heap.push (yF t ((its.size:Int)-1)),toks:=tk }) :
  wpAny (model prog w) A (call (.type "reversed") [.ref t]) Q E s :=
 callType_new RF.called (by decide) (RF.J7 _) (RF.QJ _) (fun obj=>B1z obj _) RF.wR (yD t its) ⟨ht,hz,fun tk=>⟨⟨_,Heap.get?_push_size _ rfl,rfl⟩,h tk⟩⟩
abbrev cZ(h:Heap)(r t:Addr)(i:Int):Prop:=h.get? r=some (yF t i)
theorem uW{r t:Addr}{i:Nat}{its:Array Value}{x:Value}{Q:Fin->Shared->Prop}(hr:cZ s.heap r t (i:Int))(ht:IsTup s.heap t its)(hx:its[i]?=some x)(hz:its.size<=sizeLine)
    (hQ:∀ h' tk,cZ h' r t ((i:Int)-1)->Heap.SameBut r s.heap h'->Q (.done (.ret x)) { s with heap:=h',toks:=tk }):wpAny (model prog w) A (Builtin.«reversed.__next__» ⟨[.ref r],[]⟩) Q E s:=by
  have hT:s.TypeIs (.ref t) "tuple":=Heap.IsTuple.typeIs (show s.heap.IsTuple t its from ht)
  have lk:typeLookup (.type "tuple") "__getitem__"=pure (some (.builtin "tuple.__getitem__")):=by rw[L3z,T0z];rfl'
  unfold Builtin.«reversed.__next__»
  refine S4z (Q4z (a:=(Value.ref r,[])) rfl ?_)
  refine S4z (P4z hr rfl (x:=.ref t) rfl (S4z (P4z hr rfl (x:=rawInt (i:Int)) rfl ?_)))
  show wpAny _ _ (if(i:Int)<0 then _ else _) _ _ s
  rw[E5z (by omega)]
  have hi:i<its.size:=(Array.getElem?_eq_some_iff.mp hx).1
  have fit : (its.size : Int) < 2 ^ 63 := by have : sizeLine < 2 ^ 63 := by (rw [N4z]; decide)
                                             omega
  have sq:seqIndex? (i:Int) its.size=some i:=by
    unfold seqIndex?
    simp
    omega
  refine S4z (M3z hT lk ?_)
  show wpAny _ _ (mkInt (i:Int) >>=_) Q E s
  refine S4z (wpAny_mkInt ?_)
  refine S4z (A4z (PyProof.Rows.getItem_tuple (s:={ s with toks:=s.toks+1 }) ht (by omega) (by omega) sq hx ?_))
  refine S4z (P4z (s:={ s with toks:=s.toks+1 }) hr rfl (x:=rawInt (i:Int)) rfl ?_)
  refine S4z (X1z (s:={ s with toks:=s.toks+1 }) hr (by simp) fun h' hr' hs'=>T4z (hQ h' _ ?_ hs'))
  exact hr'
theorem yE{r t:Addr}{Q:Fin->Shared->Prop}(hh:A.handled=none)(hr:cZ s.heap r t (-1))
  (hE:∀ h' e,Heap.ExtBut r s.heap h'->(∃ o,h'.get? e=some o/\o.cls=.type "StopIteration")->E (.ref e) { s with heap:=h' }):wpAny (model prog w) A (Builtin.«reversed.__next__» ⟨[.ref r],[]⟩) Q E s:=by
 unfold Builtin.«reversed.__next__»;refine S4z (Q4z (a:=(Value.ref r,[])) rfl ?_);refine S4z (P4z hr rfl (x:=.ref t) rfl (S4z (P4z hr rfl (x:=rawInt (-1)) rfl ?_)));show wpAny _ _ (if(-1:Int)<0 then _ else _) _ _ s;rw[D5z (by decide)]
 wp_walk using X1z hr (by simp)
 intro h1 e1 s1;refine X1z e1 (by simp) fun h2 e2 s2=>?_;refine S4z ?_;unfold Builtin.SmallTypes.stopIteration;refine S4z ?_;simp only[newExc,newTuple];refine S4z (B2z (S4z (m:=firstArgMember _ _) (Q4z (a:=Value.none) (by first | rfl | (simp only[firstArgMember];rfl)) (B2z ?_ (by size_fits)))) (by size_fits));simp only[raiseNew];refine S4z (wpAny_handled ?_)
 first | rw[show A.in1.handled=none from hh] | rw[hh]
 exact S4z (T4z (wpAny_throw (hE _ _ (((s1.trans s2).extBut.push _).push _) ⟨_,Heap.get?_push_size _ rfl,rfl⟩)))
theorem je{r t:Addr}{i:Nat}{its:Array Value}{x:Value}{Q:Option Value->Shared->Prop}(hr:cZ s.heap r t (i:Int))(ht:IsTup s.heap t its)(hx:its[i]?=some x)(hz:its.size<=sizeLine)
  (hQ:∀ h' tk,cZ h' r t ((i:Int)-1)->Heap.SameBut r s.heap h'->Q (some x) { s with heap:=h',toks:=tk }):wpAny (model prog w) A (pyNext (.ref r)) Q E s:=by
 have hT:s.TypeIs (.ref r) "reversed":=⟨_,hr,rfl⟩;unfold pyNext
 exact S4z (A4z (wpAny_callSpecial?_slot (name:=Str.ofString "__next__") hT RF.slot_next (S2z RF.slot_next hT RF.entry_next
  (uW hr ht hx hz fun h' tk a b=>⟨_,rfl,T4z (hQ h' tk a b)⟩) (RF.args_next _))))
theorem eG{r t:Addr}{Q:Option Value->Shared->Prop}(hh:A.handled=none)(hr:cZ s.heap r t (-1))(hQ:∀ h',Heap.ExtBut r s.heap h'->Q none { s with heap:=h' }):wpAny (model prog w) A (pyNext (.ref r)) Q E s:=by
 have hT:s.TypeIs (.ref r) "reversed":=⟨_,hr,rfl⟩;unfold pyNext
 refine S4z (A4z (wpAny_callSpecial?_slot (name:=Str.ofString "__next__") hT RF.slot_next (S2z RF.slot_next hT RF.entry_next
  (yE hh hr fun h' e a ⟨o,e1,e2⟩=>S4z (wpAny_isInstance (T:="StopIteration") (b:=true) ⟨o,e1,e2⟩ isSubtype_stop (T4z (hQ h' a)))) (RF.args_next _))))
theorem dY{r t:Addr}{i:Int}{Q:Value->Shared->Prop}(hr:cZ s.heap r t i)(h:Q (.ref r) s):wpAny (model prog w) A (pyIter (.ref r)) Q E s:=by
 have hT:s.TypeIs (.ref r) "reversed":=⟨_,hr,rfl⟩;refine wpAny_pyIter_slot hT RF.mW (S2z RF.mW hT RF.sZ (show wpAny _ _ (ret (.ref r)) _ _ s from T4z ⟨_,rfl,"reversed",_,hT,RF.slot_next.lookup,h⟩) (RF.xU _))
theorem wz{r t:Addr}{i:Int}{its:Array Value}{Q:Value->Shared->Prop}(hr:cZ s.heap r t i)(ht:IsTup s.heap t its)(hz:its.size<=sizeLine)(hi:i+1<=its.size)
    (hQ:∀ tk tk',s.toks<=tk'->Q (.int (i+1) tk) { s with toks:=tk' }):wpAny (model prog w) A (call (.builtin "reversed.__length_hint__") [.ref r]) Q E s:=by
  have hT:s.TypeIs (.ref r) "reversed":=⟨_,hr,rfl⟩
  have fit : (its.size : Int) < 2 ^ 63 := by have : sizeLine < 2 ^ 63 := by (rw [N4z]; decide)
                                             omega
  refine S2z RF.iW hT RF.tD ?_ (RF.xV _)
  unfold Builtin.«reversed.__length_hint__»
  refine S4z (Q4z (a:=Value.ref r) rfl ?_)
  refine S4z (P4z hr rfl (x:=.ref t) rfl ?_)
  have nn:¬ ((Value.ref t==Value.none)=true):=Q1z
  show wpAny _ _ (if(Value.ref t==Value.none)=true then _ else _) _ _ s;rw[E5z nn]
  refine S4z (PyProof.Rows.len_tuple ht fit (S4z (Q4z (a:=some (its.size:Int)) rfl ?_)))
  refine S4z (P4z (s:={ s with toks:=s.toks+1+1 }) hr rfl (x:=rawInt i) rfl ?_)
  show wpAny _ _ (if(its.size:Int)<i+1 then _ else _) _ _ _
  rw[E5z (by omega)]
  exact S4z (wpAny_mkInt (T4z ⟨_,rfl,hQ _ _ (by show s.toks<=s.toks+1+1+1;omega)⟩))
theorem tW(hh:A.handled=none)(r t:Addr)(hne:t≠r)(its:Array Value)(hz:its.size<=sizeLine) :
  Walks prog w A r [r,t] [r] its.size (fun i v=>its[its.size-1-i]?=some v) (fun i h=>i<=its.size/\cZ h r t ((its.size:Int)-1-(i:Int))/\IsTup h t its) where
 sub:=fun b hb=>by simp at hb;simp[hb]
 frame:=fun _ _ _ x hk=>⟨x.1,hk r (by simp) _ x.2.1,let ⟨o,e,q⟩:=x.2.2;⟨o,hk t (by simp) o e,q⟩⟩
 item:=fun i s Q E hi x hQ=>by
  have e1:(its.size:Int)-1-(i:Int)=((its.size-1-i:Nat):Int):=by omega
  have hr:=x.2.1;rw[e1] at hr;have hx:its[its.size-1-i]?=some (its[its.size-1-i]'(by omega)):=Array.getElem?_eq_getElem (by omega);refine je hr x.2.2 hx hz fun h' tk hr' hs'=>?_
  have e2:((its.size-1-i:Nat):Int)-1=(its.size:Int)-1-((i+1:Nat):Int):=by omega
  rw[e2] at hr';exact hQ _ h' tk hx ⟨hi,hr',let ⟨o,e,q⟩:=x.2.2;⟨o,(hs'.2 t hne).trans e,q⟩⟩ fun b o hb eo=>hs'.extBut b o (fun h=>hb (by simp[h])) eo
 done:=fun s Q E x hQ=>by
  have e1:(its.size:Int)-1-(its.size:Int)=-1:=by omega
  have hr:=x.2.1;rw[e1] at hr;exact eG hh hr fun h' he'=>hQ h' s.toks fun b o hb eo=>he' b o (fun h=>hb (by simp[h])) eo
 self:=fun _ _ _ _ x hQ=>dY x.2.1 hQ
theorem nW{r t:Addr}{its:Array Value}{Q:List Value->Shared->Prop}(hh:A.handled=none)(hr:cZ s.heap r t ((its.size:Int)-1))(ht:IsTup s.heap t its)(hz:its.size<=sizeLine)
  (hQ:∀ s' acc,Moved [r] (fun a b=>b=a) s s'->ItemsOf (fun i v=>its[its.size-1-i]?=some v) acc its.size->Q acc.toList s'):wpAny (model prog w) A (collect (.ref r)) Q E s:=by
 have hne:t≠r:=fun e=>by
  obtain⟨o,e1,e2,_⟩:=ht;rw[e,hr] at e1;have e3:=congrArg Obj.cls (B3z e1);have e4:Value.type "reversed"=Value.type "tuple":=e3.trans e2;exact absurd e4 (by decide)
 have W:=(tW (prog:=prog) (w:=w) (A:=A.in1.in1) hh r t hne its hz).toS
 have fresh:∀ b∈[r,t],b<s.heap.objs.size:=fun b hb=>by
  simp at hb;rcases hb with rfl | rfl
  ·exact E4z hr
  ·exact ht.lt
 have nf:s.heap.objs.size∉[r,t]:=fun hm=>W3z _ (fresh _ hm);have nr:s.heap.objs.size≠r:=fun e=>nf (by simp[e]);have hT:s.TypeIs (.ref r) "reversed":=⟨_,hr,rfl⟩;unfold collect;refine S4z (wpAny_runValue (N3z F.entry_proto_collect ?_));rw[C1z F.plain_proto_collect _];show wpAny _ A.in1 (newList [] >>=fun l=>again (.builtin "list.__iadd__" ⟨[l,.ref r],[]⟩)) _ _ s;refine S4z (B2z (T4z ⟨B4z F.plain_list_iadd _,N3z F.entry_list_iadd ?_⟩));rw[C1z F.plain_list_iadd _];have hS₁:(s.heap.push { cls:=.type "list",data:=.seq ([]:List Value).toArray }).get? s.heap.objs.size=some { cls:=.type "list",data:=.seq ([]:List Value).toArray }:=Heap.get?_push_size _ rfl;have hr₁:cZ (s.heap.push { cls:=.type "list",data:=.seq ([]:List Value).toArray }) r t ((its.size:Int)-1):=Heap.get?_push_of_some _ hr;have ht₁:IsTup (s.heap.push { cls:=.type "list",data:=.seq ([]:List Value).toArray }) t its:=let ⟨o,e,q⟩:=ht;⟨o,Heap.get?_push_of_some _ e,q⟩;show wpAny _ A.in1 (Builtin.List.listExtendWith (.ref s.heap.objs.size) (.ref r) (.ref s.heap.objs.size)) _ _ _;have hT₁:({ s with heap:=s.heap.push { cls:=.type "list",data:=.seq ([]:List Value).toArray } }:Shared).TypeIs (.ref r) "reversed":=⟨_,hr₁,rfl⟩
 have h1:Builtin.List.listSameRef (.ref s.heap.objs.size) (.ref r)=false:=by simp[Builtin.List.listSameRef,nr]
 unfold Builtin.List.listExtendWith;refine S4z (wpAny_typeOf hT₁ ?_);rw[E5z (by rw[h1];decide)];refine S4z (dY hr₁ ?_);refine S4z (X3z ?_);unfold Builtin.List.listLengthHint;refine S4z (M3z hT₁ RF.Iz ?_);refine S4z (m:=specialOf (Value.ref r) (Str.ofString "__length_hint__")) (M3z hT₁ RF.iW.lookup ?_)
 have sp:splitId "reversed.__length_hint__"=some ("reversed","__length_hint__"):=by decide +kernel
 dsimp only;rw[sp];dsimp only;refine S4z (wpAny_isInstance (b:=true) hT₁ RF.sub_self ?_);rw[E5z (by decide),E5z (by decide +kernel)];refine S4z (wpAny_rule (S4z (Q4z (RF.iW.bind _) ?_)));dsimp only;refine S4z (A4z (wz hr₁ ht₁ hz (by omega) fun tk tk' htk=>?_));dsimp only;refine S4z (Q4z (a:=some (((its.size:Int)-1)+1)) rfl ?_);dsimp only
 have fit:sizeLine<2^62:=by rw[N4z];decide
 have f1:Builtin.List.listFitsIndex ((its.size:Int)-1+1)=true:=by
  unfold Builtin.List.listFitsIndex;simp;omega
 have f2:Builtin.List.listTooLong ((its.size:Int)-1+1).toNat=false:=by
  unfold Builtin.List.listTooLong;simp;omega
 rw[E5z (by rw[f1];decide),E5z (by omega),E5z (by rw[f2];decide)]
 refine T4z ?_
 have loop:∀ h':Heap,(∀ b o,b≠s.heap.objs.size->(s.heap.push { cls:=.type "list",data:=.seq ([]:List Value).toArray }).get? b=some o->h'.get? b=some o)->(∃ c,h'.get? s.heap.objs.size=some { cls:=.type "list",dict:=none,data:=.seq #[] c,slots := #[] }) ->
   ∀ tk,s.toks<=tk->codeAny (model prog w) A (.builtin "list.extend.loop" ⟨[.ref s.heap.objs.size,.ref r,.ref s.heap.objs.size],[]⟩) (fun r s'=>match r with
    | .ok (.ret v)=>wpAny (model prog w) A (match v with | .ref a=>do (match (<- load a).data with | .seq xs _=>pure xs.toList | _=>unsupported "internal:collect") | _=>unsupported "internal:collect") Q E s'
    | .ok _=>False
    | .error e=>E e s') { s with heap:=h',toks:=tk }:=by
  intro h' kp ⟨c,hS⟩ tk htk;have kp':∀ b o,s.heap.get? b=some o->h'.get? b=some o:=fun b o e=>kp b o (F4z (E4z e)) (Heap.get?_push_of_some _ e);refine codeAny_extend_loopS W.of_in1 hz _ nf _ its.size 0 _ #[] c rfl (O4z _) ⟨O4z _,by simpa using kp' _ _ hr,let ⟨o,e,q⟩:=ht;⟨o,kp' _ o e,q⟩⟩ hS (ItemsOf.nil _) fun s' acc' c' hm hS' hacc=>?_;show wpAny _ A (load s.heap.objs.size >>=_) _ _ s';refine S4z (wpAny_load hS' (T4z (hQ s' acc' ⟨fun b o hb e=>?_,hm.gens,hm.drawn,hm.os,G4z htk hm.toks⟩ hacc)));exact hm.heap b o (by simp at hb ⊢;exact⟨F4z (E4z e),hb⟩) (kp' b o e)
 refine wpAny_ite_split (fun _=>?_) (fun _=>T4z ⟨B4z F.plain_extend_loop _,loop _ (fun b o _ e=>e) ⟨_,hS₁⟩ tk' htk⟩);refine S4z (wpAny_rule (S4z ?_));show wpAny _ A.in1 (updateSeq s.heap.objs.size (·.push .none) >>=fun _=>updateSeq s.heap.objs.size (·.pop)) _ _ _;refine S4z (O3z (s:={ s with heap:=s.heap.push { cls:=.type "list",data:=.seq ([]:List Value).toArray },toks:=tk' }) hS₁ rfl ?_);have hS₂:=Heap.get?_update_self (Obj.mapSeq (·.push Value.none)) hS₁ rfl;refine O3z hS₂ rfl (T4z ⟨B4z F.plain_extend_loop _,loop _ (fun b o hb e=>?_) ⟨_,Heap.get?_update_self (Obj.mapSeq (·.pop)) hS₂ rfl⟩ tk' htk⟩);exact(Heap.get?_update_other _ _ (B5z hb)).trans ((Heap.get?_update_other _ _ (B5z hb)).trans e)
theorem jz{r t:Addr}{its:Array Value}{Q:Value->Shared->Prop}(hh:A.handled=none)(hr:cZ s.heap r t ((its.size:Int)-1))(ht:IsTup s.heap t its)(hz:its.size<=sizeLine)
  (hQ:∀ s' acc,Moved [r] (fun a b=>b=a) s s'->ItemsOf (fun i v=>its[its.size-1-i]?=some v) acc its.size->Q (.ref s'.heap.objs.size) { s' with heap:=s'.heap.push { cls:=.type "tuple",data:=.seq acc } }) :
  wpAny (model prog w) A (call (.type "tuple") [.ref r]) Q E s:=by
 have hT:s.TypeIs (.ref r) "reversed":=⟨_,hr,rfl⟩
 refine callType_codes (Q₁:=fun obj s₁=>s₁.TypeIs obj "tuple"/\Q obj s₁) F.called_tuple (F.typeCall_tuple_1 _) F.entry_object_init (codeAny_of_tree ?_) fun obj s₁ h₁ =>
  ⟨h₁.1,B1z obj _,object_init_meets F.called_tuple.init.lookup F.called_tuple.made (by decide) prog w A.in1 _ s₁ ⟨h₁.1,rfl,h₁.2⟩⟩
 show wpAny _ A.in1.in1 (do checkBuiltinCall "tuple.__new__" ⟨[.type "tuple",.ref r],[]⟩;again (.builtin "tuple.__new__" ⟨[.type "tuple",.ref r],[]⟩)) _ _ s
 refine S4z (Q4z (F.newCall_tuple_1 _) (T4z ⟨B4z F.plain_tuple_new _,N3z F.entry_tuple_new ?_⟩));rw[C1z F.plain_tuple_new _];have hsub:=sub_tuple_self;have hinit:=init_tuple_lookup;have hmh:=madeHere_tuple
 wp_walk using wpAny_typeOf hT,nW (A:=A.in1.in1) hh hr ht hz
 intro s' acc hm hacc;show wpAny _ _ (Builtin.Tuple.tupleExact acc.toList.toArray >>=fun v=>ret v) _ _ _;unfold Builtin.Tuple.tupleExact
 have e:acc.toList.toArray=acc:=by simp
 rw[e];exact S4z (B2z (T4z ⟨⟨_,Heap.get?_push_size _ rfl,rfl⟩,hQ s' acc hm hacc⟩) (by show acc.size<=sizeLine;rw[hacc.1];exact hz))
end
end L2
namespace L2
open PySem PySem.Spec PyProof.Rows PySem.SeqAt
section
variable {prog:Program} {w:World} {A:Around} {E:Value->Shared->Prop} {s:Shared}
end
end L2
namespace L2
open PySem PySem.Spec PyProof.Rows
def Itv(K:Zf)(t:Addr)(n:Nat):It :=
 ⟨fun i H=>∃ ys,SqT K H t ys/\ys.length=n/\i<n,fun i H x H'=>H'=H/\∀ ys,SqT K H t ys->ys[n-1-i]?=some x,fun i _=>i=n⟩
theorem yj{P:Program}{w:World}{K:Zf}{tg:Expr}(t r:Addr)(n:Nat)(hz:n<=sizeLine):Turn P w K tg (Itv K t n) [r] r (fun i h=>cZ h r t ((n:Int)-1-(i:Int))) where
 mem:=by simp
 obj:=fun i h st b hb=>by
  have e:b=r:=by simpa using hb
  subst e
  exact⟨_,st,fun v z=>by
   have z':Data.fields _=Data.cell v:=z
   cases z'⟩
 keep:=fun i h h' st k=>k r (by simp) _ st
 item:=by
  intro X hP hw hK hc i z0 s σ H E I hf st hg;subst hP hw hK;obtain⟨ys,hq,hl,hi⟩:=hg;obtain⟨its,rv,p,hz'⟩:=I.tuple hq
  have hn:its.length=n:=by rw[<- rv.length,hl]
  obtain⟨f0,f1,f2,f3,f4,f5⟩:=hf r (by simp)
  have e1:(n:Int)-1-(i:Int)=((n-1-i:Nat):Int):=by omega
  have st':=st;rw[e1] at st'
  have hlt:n-1-i<its.length:=by omega
  obtain⟨x,hx,rx⟩:∃ x,ys[n-1-i]?=some x/\RelV x its[n-1-i]:=by
   have hly:n-1-i<ys.length:=by omega
   obtain⟨u,hu,ru⟩:=rv.get (i:=n-1-i) (x:=ys[n-1-i]) (by simp);rw[List.getElem?_eq_getElem hlt] at hu;cases hu;exact⟨_,by simp,ru⟩
  refine je st' p (x:=its[n-1-i]) (by simp[hlt]) (by simp;omega) fun h' tk st2 sb=>?_
  have I1:Inv X z0 σ H { s with heap:=h',toks:=tk }:=I.turned (fun b o hb e=>(sb.2 b hb).trans e) f0 f1 f3 f4 f5
  have e2:((n-1-i:Nat):Int)-1=(n:Int)-1-((i+1:Nat):Int):=by omega
  rw[e2] at st2;exact⟨_,rfl,sS (s:={ s with heap:=h',toks:=tk }) (n:="reversed") st2 rfl rfl (by decide) ⟨x,H,I1,rx,⟨rfl,fun zs hy=>by rw[I.tuple_inj hy hq];exact hx⟩,st2,fun b hb=>(hf b hb).1⟩⟩
 done:=by
  intro X hP hw hK hc i z0 s σ H E I hf st hg;subst hP hw hK;obtain⟨f0,f1,f2,f3,f4,f5⟩:=hf r (by simp);have hg':i=n:=hg
  have e1:(n:Int)-1-(i:Int)=-1:=by omega
  rw[e1] at st;exact eG (I.ok.hd hc) st fun h' eb=>⟨rfl,I.turned (t':=s.toks) (fun b o hb e=>eb b o hb e) f0 f1 f3 f4 f5⟩
 self:=fun _ _ _ _ _ st h=>dY st h
def Itz(K:Zf)(t1 t2:Addr):It :=
  ⟨fun i H=>∃ xs ys x y,SqT K H t1 xs/\SqT K H t2 ys/\xs[i]?=some x/\ys[i]?=some y,
   fun i H v H'=>∃ p,H p=none/\v=.ref p/\∀ xs ys x y,SqT K H t1 xs->SqT K H t2 ys->xs[i]?=some x->ys[i]?=some y->H'=upd H p (.tup [x,y]),
   fun i H=>∃ xs ys,SqT K H t1 xs/\SqT K H t2 ys/\(xs.length<=i\/ys.length<=i)⟩
theorem Inv.turnedNew{X:Cx}{z0:List (Addr×Obj)}{σ:St}{H:Hp}{s:Shared}{h':Heap}{ch:List Addr}{o:HO}{t':Nat}(I:Inv X z0 σ H s)(hf:∀ b∈ch,rm X z0 H b)(k:∀ b u,b∉ch->s.heap.get? b=some u->h'.get? b=some u)
  (new:cg X.prog X.w (upd H s.heap.objs.size o) h' s.heap.objs.size o):Inv X z0 σ (upd H s.heap.objs.size o) { s with heap:=h',toks:=t' }:=by
 have hn:H s.heap.objs.size=none:=I.hok.fresh (M4z _);refine I.call' (s':={ s with heap:=h',toks:=t' }) (ch:=ch) rfl ?_ ?_ I.bare fun b hb=>⟨(hf b hb).2.2.2.1,(hf b hb).2.1,(hf b hb).2.2.2.2.1,(hf b hb).2.2.2.2.2⟩
 ·refine⟨fun b u e _ _ hc=>k b u hc e,fun b u e _ _ hc=>⟨u.slots,k b u hc e⟩,fun b u e n hc=>?_,fun b u e hc=>⟨u,k b u hc e⟩,fun b xs e=>?_,fun b u xs e=>?_,fun b ps e=>⟨#[],?_⟩⟩
  ·rw[ak (F4z (E4z e))];exact n
  ·rw[ak (aq e hn)];exact e
  ·rw[ak (aq e hn)];exact e
  ·rw[ak (aq e hn),e];simp
 ·intro b u e
  by_cases hb:b=s.heap.objs.size
  ·subst hb;rw[aB] at e;cases e;exact new
  ·rw[ak hb] at e
   refine(I.hok b u e).stay (fun c v hc q=>k c v (fun z=>?_) q) (fun c q=>by rw[ak (aq q hn)];exact q) fun c xs q=>by rw[ak (aq q hn)];exact q
   have zn:=(hf c z).1;rcases hc with rfl | hc
   ·rw[zn] at e;cases e
   ·rw[zn] at hc;cases hc
theorem Inv.turnedAll{X:Cx}{z0:List (Addr×Obj)}{σ:St}{H:Hp}{s:Shared}{h':Heap}{ch:List Addr}{t':Nat}(I:Inv X z0 σ H s)(hf:∀ b∈ch,rm X z0 H b)(k:∀ b u,b∉ch->s.heap.get? b=some u->h'.get? b=some u) :
  Inv X z0 σ H { s with heap:=h',toks:=t' }:=by
 refine I.call' (s':={ s with heap:=h',toks:=t' }) (ch:=ch) rfl ?_ ?_ I.bare fun b hb=>⟨(hf b hb).2.2.2.1,(hf b hb).2.1,(hf b hb).2.2.2.2.1,(hf b hb).2.2.2.2.2⟩
 ·exact⟨fun b u e _ _ hc=>k b u hc e,fun b u e _ _ hc=>⟨u.slots,k b u hc e⟩,fun b u e n hc=>n,fun b u e hc=>⟨u,k b u hc e⟩,fun b xs e=>e,fun b u xs e=>e,fun b ps e=>⟨#[],by rw[e];simp⟩⟩
 ·intro b u e
  refine(I.hok b u e).stay (fun c v hc q=>k c v (fun z=>?_) q) (fun c q=>q) fun c xs q=>q;have zn:=(hf c z).1;rcases hc with rfl | hc
  ·rw[zn] at e;cases e
  ·rw[zn] at hc;cases hc
theorem yg{P:Program}{w:World}{K:Zf}{es:List Expr}{kt:Nat}{pt:Pos}{z ti to i1 i2 t1 t2:Addr}(D:ZipApart z ti to i1 i2 t1 t2) :
    Turn P w K (.Tuple es kt pt) (Itz K t1 t2) [z,ti,to,i1,i2] z (fun i h=>ZT h z ti to i1 i2 t1 t2 i .none) where
  mem:=by simp
  obj:=fun i h st b hb=>by
    simp at hb
    rcases hb with rfl | rfl | rfl | rfl | rfl
    · exact⟨_,st.hz,fun v q=>by have q':Data.fields _=Data.cell v:=q;cases q'⟩
    · exact⟨_,st.hi,fun v q=>by have q':Data.seq _ _=Data.cell v:=q;cases q'⟩
    · obtain⟨a,c,e⟩:=st.ho
      exact⟨_,e,fun v q=>by have q':Data.seq _ _=Data.cell v:=q;cases q'⟩
    · obtain⟨o,e,_,d⟩:=st.h1
      exact⟨o,e,fun v q=>by rw[d] at q;cases q⟩
    · obtain⟨o,e,_,d⟩:=st.h2
      exact⟨o,e,fun v q=>by rw[d] at q;cases q⟩
  keep:=fun i h h' st k=>st.keep k
  item:=by
    intro X hP hw hK hc i z0 s σ H E I hf st hg
    subst hP hw hK
    obtain⟨xs,ys,x,y,hq1,hq2,hx,hy⟩:=hg
    obtain⟨its1,rv1,p1,_⟩:=I.tuple hq1
    obtain⟨its2,rv2,p2,_⟩:=I.tuple hq2
    obtain⟨u1,hu1,ru1⟩:=rv1.get hx
    obtain⟨u2,hu2,ru2⟩:=rv2.get hy
    refine jd (I.ok.hd hc) D st (show s.heap.IsTuple t1 its1.toArray from p1) (show s.heap.IsTuple t2 its2.toArray from p2) (fun a b h' ha hb Z pr sz kp=>?_) fun h' hn _=>?_
    · have ea : a = u1 := by have : its1[i]? = some a := by simpa using ha
                             rw[hu1] at this;exact(B3z this).symm
      have eb : b = u2 := by have : its2[i]? = some b := by simpa using hb
                             rw[hu2] at this;exact(B3z this).symm
      subst ea eb
      have szl:2<=sizeLine:=by decide
      have hf4:∀ c∈[z,to,i1,i2],rm X z0 H c:=fun c hc'=>hf c (by simp at hc' ⊢;rcases hc' with h | h | h | h<;>simp[h])
      have I1:Inv X z0 σ (upd H s.heap.objs.size (.tup [x,y])) { s with heap:=h',toks:=s.toks }:=I.turnedNew hf4 kp ⟨szl,[a,b],.cons ru1 (.cons ru2 .nil),⟨_,pr,rfl,_,rfl⟩⟩
      have fresh:H s.heap.objs.size=none:=I.hok.fresh (M4z _)
      have ltf:∀ c∈[z,ti,to,i1,i2],c≠s.heap.objs.size:=fun c hc' e=>by
        have:H c=none:=(hf c hc').1
        simp at hc'
        have lt:c<s.heap.objs.size:=by
          rcases hc' with rfl | rfl | rfl | rfl | rfl
          · exact E4z st.hz
          · exact E4z st.hi
          · obtain⟨_,_,e'⟩:=st.ho;exact E4z e'
          · obtain⟨o,e',_⟩:=st.h1;exact E4z e'
          · obtain⟨o,e',_⟩:=st.h2;exact E4z e'
        exact F4z lt e
      refine⟨_,rfl,wpAny_letOwnedTupleGo_zip (s:={ s with heap:=h' }) Z.hz fun h2 z2 sb=>?_⟩
      have fz:=hf z (by simp)
      have I2:Inv X z0 σ (upd H s.heap.objs.size (.tup [x,y])) { s with heap:=h2 }:=I1.turned (t':=s.toks) (fun c o hc' e=>(sb.2 c hc').trans e) (by rw[ak (ltf z (by simp))];exact fz.1) fz.2.1 fz.2.2.2.1 fz.2.2.2.2.1 fz.2.2.2.2.2
      refine⟨.ref s.heap.objs.size,_,I2,rfl,⟨_,fresh,rfl,fun xs' ys' x' y' a1 a2 a3 a4=>?_⟩,?_,fun c hc'=>by rw[ak (ltf c hc')];exact(hf c hc').1⟩
      · have e1:=I.tuple_inj a1 hq1
        have e2:=I.tuple_inj a2 hq2
        subst e1 e2
        rw[hx] at a3;rw[hy] at a4
        cases a3;cases a4
        rfl
      · obtain⟨a',b',e'⟩:=Z.ho
        exact⟨z2,(sb.2 ti D.TIz).trans Z.hi,⟨a',b',(sb.2 to D.TOz).trans e'⟩,Z.h1.at fun o e=>(sb.2 i1 D.i1z).trans e,Z.h2.at fun o e=>(sb.2 i2 D.i2z).trans e⟩
    · rcases hn with hn | hn
      · have:its1[i]?=none:=by simpa using hn
        rw[hu1] at this;cases this
      · have:its2[i]?=none:=by simpa using hn
        rw[hu2] at this;cases this
  done:=by
    intro X hP hw hK hc i z0 s σ H E I hf st hg
    subst hP hw hK
    obtain⟨xs,ys,hq1,hq2,hl⟩:=hg
    obtain⟨its1,rv1,p1,_⟩:=I.tuple hq1
    obtain⟨its2,rv2,p2,_⟩:=I.tuple hq2
    have l1:=rv1.length
    have l2:=rv2.length
    refine jd (I.ok.hd hc) D st (show s.heap.IsTuple t1 its1.toArray from p1) (show s.heap.IsTuple t2 its2.toArray from p2) (fun a b h' ha hb Z pr sz kp=>?_) fun h' _ kp=>⟨rfl,?_⟩
    · exfalso
      have h1 : i < its1.length := by have : its1[i]? = some a := by simpa using ha
                                      exact(List.getElem?_eq_some_iff.mp this).1
      have h2 : i < its2.length := by have : its2[i]? = some b := by simpa using hb
                                      exact(List.getElem?_eq_some_iff.mp this).1
      omega
    · have hf4:∀ c∈[z,to,i1,i2],rm X z0 H c:=fun c hc'=>hf c (by simp at hc' ⊢;rcases hc' with h | h | h | h<;>simp[h])
      exact I.turnedAll (t':=s.toks) hf4 kp
  self:=fun _ _ _ _ _ st h=>wpAny_pyIter_zip st.hz h
section
variable {X:Cx}
def Vy(K:Zf)(ta:TA):TI:=fun σ H R=>ta σ H fun vs H1=>∃ a b,vs=[.ref a,.ref b]/\(∃ xs,SqT K H1 a xs)/\(∃ ys,SqT K H1 b ys)/\R (Itz K a b) H1
theorem Hy{a b:Expr}{ta:TA}{p pos pt:Pos}{es:List Expr}{kt:Nat}(hg:Gl X "zip")(hm:X.mg "zip"=none)(ha:PA X [a,b] ta)(hs:starEach [a,b] X.env=[(false,eval a X.env),(false,eval b X.env)])(hs2:starEach [b] X.env=[(false,eval b X.env)]) :
  PI X (.Tuple es kt pt) (.Call (.Name "zip" p) [a,b] [] pos) (Vy X.K ta):=by
 intro z0 s σ H R I h;refine Call_ (d8 I hg hm boot_zip (B0z (thn (ha pos z0 s σ H _ I h) fun us s1 ⟨vs,H1,I1,r1,q1⟩=>?_) (by rw[hs,hs2]) (by rw[hs2];rfl)));obtain⟨a1,b1,e,⟨xs,hx⟩,⟨ys,hy⟩,q⟩:=q1;subst e
 cases r1 with
 | cons r rr =>
  cases rr with
  | cons r' rr =>
   cases rr;cases (show _=Value.ref a1 from r);cases (show _=Value.ref b1 from r');obtain⟨its1,_,p1,_⟩:=I1.tuple hx;obtain⟨its2,_,p2,_⟩:=I1.tuple hy;refine xg (show s1.heap.IsTuple a1 its1.toArray from p1) (show s1.heap.IsTuple b1 its2.toArray from p2) fun h' kp sz Z=>?_;refine wpAny_pyIter_zip (s:={ s1 with heap:=h' }) Z.hz ?_;have I2:Inv X z0 σ H1 { s1 with heap:=h' }:=I1.kept (t':=s1.toks) kp;refine⟨s1.heap.objs.size+4,_,_,_,H1,rfl,I2,yg (zipApart_new p1.lt p2.lt),Z,fun c hc=>?_,q⟩
   have hc':s1.heap.objs.size<=c:=by
    simp at hc
    rcases hc with h | h | h | h | h<;>rw[h]<;>first | exact M4z _ | exact T2z _ _
   exact I1.fpOk hc' (I1.hok.fresh hc')
def VD(K:Zf)(ta:TA):TI:=fun σ H R=>ta σ H fun vs H1=>∃ a xs,vs=[.ref a]/\SqT K H1 a xs/\R (Itv K a xs.length) H1
theorem HD{a:Expr}{ta:TA}{p pos:Pos}{tg:Expr}(hg:Gl X "reversed")(hm:X.mg "reversed"=none)(ha:PA X [a] ta)(hs:starEach [a] X.env=[(false,eval a X.env)]) :
  PI X tg (.Call (.Name "reversed" p) [a] [] pos) (VD X.K ta):=by
 intro z0 s σ H R I h;refine Call_ (d8 I hg hm boot_reversed (B0z (thn (ha pos z0 s σ H _ I h) fun us s1 ⟨vs,H1,I1,r1,q1⟩=>?_) hs rfl));obtain⟨a1,xs,e,hx,q⟩:=q1;subst e
 cases r1 with
 | cons r rr =>
  cases rr;cases (show _=Value.ref a1 from r);obtain⟨its1,rv,p1,hz⟩:=I1.tuple hx;have hl:=rv.length;refine n6 p1 (by simp;omega) fun tk=>?_
  have st:cZ (s1.heap.push (yF a1 ((its1.toArray.size:Int)-1))) s1.heap.objs.size a1 ((xs.length:Int)-1-((0:Nat):Int)):=by
   have e0:((xs.length:Int)-1-((0:Nat):Int))=(its1.toArray.size:Int)-1:=by rw[D2z];omega
   rw[e0];exact Heap.get?_push_size _ rfl
  refine dY (s:={ s1 with heap:=s1.heap.push (yF a1 ((its1.toArray.size:Int)-1)),toks:=tk }) st ?_;refine⟨s1.heap.objs.size,_,_,_,H1,rfl,I1.kept (t':=tk) fun b o e=>Heap.get?_push_of_some _ e,yj a1 _ xs.length hz,st,fun c hc=>?_,q⟩
  have hc':c=s1.heap.objs.size:=by simpa using hc
  subst hc';exact I1.fpOk (M4z _) (I1.hok.fresh (M4z _))
end
def Ul(K:Zf)(t:Addr)(n:Nat):It :=
 ⟨fun i H=>∃ ys,SqL K H t ys/\ys.length=n/\i<n,fun i H x H'=>H'=H/\∀ ys,SqL K H t ys->ys[n-1-i]?=some x,fun i _=>i=n⟩
theorem uf{P:Program}{w:World}{K:Zf}{tg:Expr}(t r:Addr)(n:Nat):Turn P w K tg (Ul K t n) [r] r (fun i h=>h.IsRevIter r t ((n:Int)-1-(i:Int))) where
 mem:=by simp
 obj:=fun i h st b hb=>by
  have e:b=r:=by simpa using hb
  subst e;obtain⟨o,h1,h2,h3⟩:=st;exact⟨o,h1,fun v z=>by rw[h3] at z;cases z⟩
 keep:=fun i h h' st k=>st.at fun o e=>k r (by simp) o e
 item:=by
  intro X hP hw hK hc i z0 s σ H E I hf st hg;subst hP hw hK;obtain⟨ys,hq,hl,hi⟩:=hg;obtain⟨its,rv,p0,_⟩:=I.list hq;have p:=p0.isList
  have hn:its.length=n:=by rw[<- rv.length,hl]
  obtain⟨f0,f1,f2,f3,f4,f5⟩:=hf r (by simp)
  have e1:(n:Int)-1-(i:Int)=((n-1-i:Nat):Int):=by omega
  have st':=st;rw[e1] at st'
  have hlt:n-1-i<its.length:=by omega
  obtain⟨x,hx,rx⟩:∃ x,ys[n-1-i]?=some x/\RelV x its[n-1-i]:=by
   have hly:n-1-i<ys.length:=by omega
   obtain⟨u,hu,ru⟩:=rv.get (i:=n-1-i) (x:=ys[n-1-i]) (by simp);rw[List.getElem?_eq_getElem hlt] at hu;cases hu;exact⟨_,by simp,ru⟩
  refine wpAny_pyNext_rev_item st' p (x:=its[n-1-i]) (by simp[hlt]) fun h' st2 sb=>?_;have I1:Inv X z0 σ H { s with heap:=h' }:=I.turned (t':=s.toks) (fun b o hb e=>(sb.2 b hb).trans e) f0 f1 f3 f4 f5
  have e2:((n-1-i:Nat):Int)-1=(n:Int)-1-((i+1:Nat):Int):=by omega
  rw[e2] at st2;obtain⟨o,g1,g2,g3⟩:=st2;exact⟨_,rfl,sS (s:={ s with heap:=h' }) (n:="list_reverseiterator") g1 g2 g3 (by decide) ⟨x,H,I1,rx,⟨rfl,fun zs hy=>by rw[I.list_inj hy hq];exact hx⟩,⟨o,g1,g2,g3⟩,fun b hb=>(hf b hb).1⟩⟩
 done:=by
  intro X hP hw hK hc i z0 s σ H E I hf st hg;subst hP hw hK;obtain⟨f0,f1,f2,f3,f4,f5⟩:=hf r (by simp);have hg':i=n:=hg
  have e1:(n:Int)-1-(i:Int)=-1:=by omega
  rw[e1] at st;exact wpAny_pyNext_rev_end (I.ok.hd hc) st fun h' eb=>⟨rfl,I.turned (t':=s.toks) (fun b o hb e=>eb b o hb e) f0 f1 f3 f4 f5⟩
 self:=fun _ _ _ _ _ st h=>wpAny_pyIter_revIter st h
section
variable {X:Cx}
def QT(K:Zf)(ta:TA):TI:=fun σ H R=>ta σ H fun vs H1=>∃ a xs,vs=[.ref a]/\SqL K H1 a xs/\R (Ul K a xs.length) H1
theorem yJ{a:Expr}{ta:TA}{p pos:Pos}{tg:Expr}(hg:Gl X "reversed")(hm:X.mg "reversed"=none)(ha:PA X [a] ta)(hs:starEach [a] X.env=[(false,eval a X.env)]) :
  PI X tg (.Call (.Name "reversed" p) [a] [] pos) (QT X.K ta):=by
 intro z0 s σ H R I h;refine Call_ (d8 I hg hm boot_reversed (B0z (thn (ha pos z0 s σ H _ I h) fun us s1 ⟨vs,H1,I1,r1,q1⟩=>?_) hs rfl));obtain⟨a1,xs,e,hx,q⟩:=q1;subst e
 cases r1 with
 | cons r rr =>
  cases rr;cases (show _=Value.ref a1 from r);obtain⟨its1,rv,p0,_⟩:=I1.list hx;have p1:=p0.isList;have hl:=rv.length;refine call_reversed_list p1 ?_
  have st:(s1.heap.push (revObj a1 ((its1.toArray.size:Int)-1))).IsRevIter s1.heap.objs.size a1 ((xs.length:Int)-1-((0:Nat):Int)):=by
   have e0:((xs.length:Int)-1-((0:Nat):Int))=(its1.toArray.size:Int)-1:=by rw[D2z];omega
   rw[e0];exact⟨_,Heap.get?_push_size _ rfl,rfl,rfl⟩
  refine wpAny_pyIter_revIter (s:={ s1 with heap:=s1.heap.push (revObj a1 ((its1.toArray.size:Int)-1)) }) st ?_;refine⟨s1.heap.objs.size,_,_,_,H1,rfl,I1.kept (t':=s1.toks) fun b o e=>Heap.get?_push_of_some _ e,uf a1 _ xs.length,st,fun c hc=>?_,q⟩
  have hc':c=s1.heap.objs.size:=by simpa using hc
  subst hc';exact I1.fpOk (M4z _) (I1.hok.fresh (M4z _))
end
section
variable {X:Cx} {tg:Expr}
end
section
variable {prog:Program} {w:World} {A:Around} {E:Value->Shared->Prop} {s:Shared}
theorem Bx(hh:A.handled=none)(it t:Addr)(ap:t≠it)(its:Array Value):Draws prog w A it [it,t] its.size (fun k v=>its[k]?=some v) (fun k h=>h.IsTupleIter it t k/\h.IsTuple t its) where
 live:=fun _ _ q=>by obtain⟨⟨o,e,_⟩,_⟩:=q;exact⟨o,e⟩
 frame:=fun _ _ _ q kp=>by
  obtain⟨⟨o,e,r⟩,⟨o2,e2,r2⟩⟩:=q;exact⟨⟨o,kp it (by simp) o e,r⟩,⟨o2,kp t (by simp) o2 e2,r2⟩⟩
 item:=fun k s Q E lt q fin=>Aa hh q.1 q.2 (fun x h' hx a sb=>fin x h' s.toks hx ⟨a,by obtain⟨o2,e2,r2⟩:=q.2;exact⟨o2,(sb.2 t ap).trans e2,r2⟩⟩ sb) fun h' e hx _ _=>by
  have:its[k]?=some its[k]:=by simp[lt]
  rw[this] at hx;cases hx
 done:=fun s Q E q fin=>Aa hh q.1 q.2 (fun x h' hx _ _=>by simp at hx) fun h' e _ a b=>fin h' e a b
set_option maxHeartbeats 1000000 in
theorem wQ(t:Addr)(its:Array Value)(n:Nat)(dd:Option Addr)(sl:Array (Option Value)) :
  Meets (Builtin.«enumerate.__new__» ⟨[.type "enumerate",.ref t],[]⟩) (fun _ R s=>s.heap.get? t=some { cls:=.type "tuple",dict:=dd,data:=.seq its n,slots:=sl } /\
   R (.ok (.ret (.ref (s.heap.push (itT t)).objs.size))) { s with heap:=(s.heap.push (itT t)).push { cls:=.type "enumerate",data:=.fields #[.none,.bool false,.ref s.heap.objs.size,rawInt 0,.none,.none] } }) :=
 .of_wp fun prog w A R s h=>by
  obtain⟨hp,g,d,tk,os⟩:=s;obtain⟨hl,h⟩:=h
  have hsub:=sub_enumerate;have hL:Heap.IsTuple (Shared.heap ⟨hp,g,d,tk,os⟩) t its:=⟨_,hl,rfl,n,rfl⟩
  wp_walk using F0z hl
  refine wpAny_stack_any fun fr=>T4z ?_;split
  ·rename_i c _ _ _ _ _
   cases (c==Value.type "enumerate")<;>(wp_walk using F0z hl,P1z hL;exact⟨_,rfl,h⟩)
  ·wp_walk using F0z hl,P1z hL;exact⟨_,rfl,h⟩
theorem tG{t:Addr}{its:Array Value}{Q:Value->Shared->Prop}(ht:s.heap.IsTuple t its)
  (q:∀ h',IsEnum h' (s.heap.objs.size+1) s.heap.objs.size 0 .none->h'.IsTupleIter s.heap.objs.size t 0->(∀ b o,s.heap.get? b=some o->h'.get? b=some o)->Q (.ref (s.heap.objs.size+1)) { s with heap:=h' }) :
  wpAny (model prog w) A (call (.type "enumerate") [.ref t]) Q E s:=by
 obtain⟨⟨c,dd,dt,sl⟩,e,hc,n,hd⟩:=ht;cases (show c=.type "tuple" from hc);cases (show dt=.seq its n from hd);refine callType_new F.called_enumerate (by decide) (F.typeCall_enumerate_1 _) (F.newCall_enumerate_1 _) (fun obj=>B1z obj _) F.entry_enumerate_new (wQ t its n dd sl) ⟨e,?_⟩;have z:(s.heap.push (itT t)).objs.size=s.heap.objs.size+1:=R3z ..;have en:=Heap.get?_push_size (s.heap.push (itT t)) (o:={ cls:=.type "enumerate",data:=.fields #[.none,.bool false,.ref s.heap.objs.size,rawInt 0,.none,.none] }) rfl;rw[z] at en;show _/\_;rw[z];exact⟨⟨_,en,rfl⟩,q _ en ⟨_,Heap.get?_push_of_some _ (Heap.get?_push_size _ rfl),rfl,rfl⟩ fun b o x=>Heap.get?_push_of_some _ (Heap.get?_push_of_some _ x)⟩
end
def Ite(K:Zf)(t:Addr):It :=
 ⟨fun i H=>∃ xs x,SqT K H t xs/\xs[i]?=some x,fun i H v H'=>∃ p,H p=none/\v=.ref p/\∀ xs x,SqT K H t xs->xs[i]?=some x->H'=upd H p (.tup [.int i,x]),fun i H=>∃ xs,SqT K H t xs/\xs.length=i⟩
theorem uh{P:Program}{w:World}{K:Zf}{es:List Expr}{kt:Nat}{pt:Pos}{e it t:Addr}(d1:e≠it)(d2:e≠t)(d3:t≠it) :
  Turn P w K (.Tuple es kt pt) (Ite K t) [e,it] e (fun i h=>(∃ old,IsEnum h e it (i:Int) old)/\h.IsTupleIter it t i) where
 mem:=by simp
 obj:=fun i h q b hb=>by
  obtain⟨⟨old,q1⟩,o2,q2,_,q3⟩:=q;simp at hb;rcases hb with rfl | rfl
  ·exact⟨_,q1,fun v z=>by have z':Data.fields _=Data.cell v:=z;cases z'⟩
  ·exact⟨o2,q2,fun v z=>by rw[q3] at z;cases z⟩
 keep:=fun i h h' q kp=>by
  obtain⟨⟨old,q1⟩,o2,q2,q3⟩:=q;exact⟨⟨old,kp e (by simp) _ q1⟩,o2,kp it (by simp) _ q2,q3⟩
 item:=by
  intro X hP hw hK hc i z0 s σ H E I hf q hg;subst hP hw hK;obtain⟨xs,x,hq,hx⟩:=hg;obtain⟨⟨old,q1⟩,q2⟩:=q;obtain⟨its,rv,p,hz⟩:=I.tuple hq;obtain⟨u,hu,ru⟩:=rv.get hx
  have hi:i<its.toArray.size:=by simpa using(List.getElem?_eq_some_iff.mp hu).1
  have D:=Bx (prog:=X.prog) (w:=X.w) (A:=X.A.in1) (I.ok.hd hc) it t d3 its.toArray;refine wpAny_pyNext_enum_itemD D q1 ⟨q2,(show s.heap.IsTuple t its.toArray from p)⟩ hi d1 (by simp;exact⟨d1,d2⟩) fun y h' tk hy eo st' new sz kp=>?_
  have ey:y=u:=by
   have:its[i]?=some y:=by simpa using hy
   rw[hu] at this;exact(B3z this).symm
  subst ey
  have szl:2<=sizeLine:=by decide
  have hlt:∀ c∈[e,it],c<s.heap.objs.size:=fun c hc'=>by
   simp at hc';rcases hc' with rfl | rfl
   ·exact E4z q1
   ·obtain⟨o2,q2,_⟩:=q2;exact E4z q2
  have I1:Inv X z0 σ (upd H s.heap.objs.size (.tup [.int i,x])) { s with heap:=h',toks:=tk+1 }:=I.turnedNew (ch:=[e,it]) hf (fun b o hb z=>kp b o (fun q=>hb (by simp[q])) (fun q=>hb (by simp[q])) z) ⟨szl,[.int i tk,y],.cons ⟨tk,rfl⟩ (.cons ru .nil),⟨_,new,rfl,_,rfl⟩⟩;refine⟨_,rfl,wpAny_letOwnedTupleGo_enum (s:={ s with heap:=h',toks:=tk+1 }) eo fun h2 e2 sb=>?_⟩;obtain⟨f0,f1,f2,f3,f4,f5⟩:=hf e (by simp);have I2:Inv X z0 σ (upd H s.heap.objs.size (.tup [.int i,x])) { s with heap:=h2,toks:=tk+1 }:=I1.turned (t':=tk+1) (fun c o hc' z=>(sb.2 c hc').trans z) (by rw[ak (F4z (hlt e (by simp)))];exact f0) f1 f3 f4 f5;refine⟨.ref s.heap.objs.size,_,I2,rfl,⟨_,I.hok.fresh (M4z _),rfl,fun xs' x' a1 a2=>?_⟩,⟨⟨y,by simpa using e2⟩,?_⟩,fun b hb=>by rw[ak (F4z (hlt b hb))];exact(hf b hb).1⟩
  ·have e1:=I.tuple_inj a1 hq
   subst e1;rw[hx] at a2;cases a2;rfl
  ·obtain⟨o3,g1,g2⟩:=st'.1
   exact⟨o3,(sb.2 it d1.symm).trans g1,g2⟩
 done:=by
  intro X hP hw hK hc i z0 s σ H E I hf q hg;subst hP hw hK;obtain⟨xs,hq,hl⟩:=hg;obtain⟨⟨old,q1⟩,q2⟩:=q;obtain⟨its,rv,p,hz⟩:=I.tuple hq
  have hn:its.toArray.size=i:=by rw[D2z,<- rv.length,hl]
  have D:=Bx (prog:=X.prog) (w:=X.w) (A:=X.A.in1) (I.ok.hd hc) it t d3 its.toArray;refine wpAny_pyNext_enum_endD D q1 ⟨by rw[hn];exact q2,(show s.heap.IsTuple t its.toArray from p)⟩ fun h' eb=>⟨rfl,?_⟩;obtain⟨f0,f1,f2,f3,f4,f5⟩:=hf it (by simp);exact I.turned (t':=s.toks) (fun b o hb z=>eb b o hb z) f0 f1 f3 f4 f5
 self:=fun _ _ _ _ _ q h=>by obtain⟨⟨old,q1⟩,_⟩:=q;exact wpAny_pyIter_enum q1 h
section
variable {X:Cx}
def QW(K:Zf)(ta:TA):TI:=fun σ H R=>ta σ H fun vs H1=>∃ a,vs=[.ref a]/\(∃ xs,SqT K H1 a xs)/\R (Ite K a) H1
theorem Dj{a:Expr}{ta:TA}{p pos pt:Pos}{es:List Expr}{kt:Nat}(hg:Gl X "enumerate")(hm:X.mg "enumerate"=none)(ha:PA X [a] ta)(hs:starEach [a] X.env=[(false,eval a X.env)]) :
  PI X (.Tuple es kt pt) (.Call (.Name "enumerate" p) [a] [] pos) (QW X.K ta):=by
 intro z0 s σ H R I h;refine Call_ (d8 I hg hm (show bootBuiltins "enumerate"=some (.type "enumerate") by decide +kernel) (B0z (thn (ha pos z0 s σ H _ I h) fun us s1 ⟨vs,H1,I1,r1,q1⟩=>?_) hs rfl));obtain⟨a1,e,⟨xs,hx⟩,q⟩:=q1;subst e
 cases r1 with
 | cons r rr =>
  cases rr;cases (show _=Value.ref a1 from r);obtain⟨its1,rv,p1,hz⟩:=I1.tuple hx;refine tG (show s1.heap.IsTuple a1 its1.toArray from p1) fun h' en ti kp=>?_;refine wpAny_pyIter_enum (s:={ s1 with heap:=h' }) en ?_;have I2:Inv X z0 σ H1 { s1 with heap:=h' }:=I1.kept (t':=s1.toks) kp;have lt1:a1<s1.heap.objs.size:=p1.lt;refine⟨s1.heap.objs.size+1,_,_,_,H1,rfl,I2,uh (Nat.succ_ne_self _) (I4z (F2z lt1)) (F4z lt1),⟨⟨_,en⟩,ti⟩,fun c hc=>?_,q⟩
  have hc':s1.heap.objs.size<=c:=by
   simp at hc
   rcases hc with h | h<;>rw[h]<;>first | exact M4z _ | exact T2z _ _
  exact I1.fpOk hc' (I1.hok.fresh hc')
end
section
variable {X:Cx}
end
section
variable {prog:Program} {w:World} {A:Around} {E:Value->Shared->Prop} {s:Shared}
end
section
variable {X:Cx}
end
section
variable {prog:Program} {w:World} {A:Around} {E:Value->Shared->Prop} {s:Shared}
end
section
variable {X:Cx}
end
section
variable {X:Cx}
end
theorem iw:fillsNumberSlot (.type "tuple") "mul"=pure false :=
 PySem.fillsNumberSlot_seq (id:="tuple.__mul__") (r:=some (.builtin "tuple.__rmul__")) R0z.lookup (by decide +kernel) PySem.F.slot_tuple_rmul.lookup (by decide +kernel)
theorem mY:seqRepeat? (.type "tuple")=pure (some (.builtin "tuple.__mul__")):=by
 unfold seqRepeat?;rw[PySem.seqSlot_of (T:="tuple") (name:="__mul__") (id:="tuple.__mul__") R0z.lookup (by decide +kernel),PySem.seqSlot_of (T:="tuple") (name:="__rmul__") (id:="tuple.__rmul__") PySem.F.slot_tuple_rmul.lookup (by decide +kernel)];rfl
theorem jM(a:Int)(t:Tok)(l:Addr)(items:Array Value)(n:Nat)(dd:Option Addr)(sl:Array (Option Value)) :
  Meets (Builtin.«int.__rmul__» ⟨[.int a t,.ref l],[]⟩) (fun _ R s=>s.heap.get? l=some { cls:=.type "tuple",dict:=dd,data:=.seq items n,slots:=sl }/\R (.ok (.ret Value.notImplemented)) s) :=
 .of_wp fun prog w A R s h=>by obtain⟨hp,g,d,tk,os⟩:=s;obtain⟨hl,h⟩:=h;wp_walk;exact⟨_,rfl,h⟩
theorem rG(l:Addr)(items:Array Value)(n:Nat)(dd:Option Addr)(sl:Array (Option Value))(t:Tok) :
  Meets (Builtin.«tuple.__mul__» ⟨[.ref l,.int 1 t],[]⟩) (fun _ R s=>s.heap.get? l=some { cls:=.type "tuple",dict:=dd,data:=.seq items n,slots:=sl }/\R (.ok (.ret (Value.ref l))) { s with heap:=s.heap,toks:=s.toks }) :=
 .of_wp fun prog w A R s h=>by obtain⟨hp,g,d,tk,os⟩:=s;obtain⟨hl,h⟩:=h;have f1:=U2z;have f2:=G0z;wp_walk using G3z hl;exact⟨_,rfl,h⟩
theorem rF(l:Addr)(x:Value)(n:Nat)(dd:Option Addr)(sl:Array (Option Value))(t:Tok) :
  Meets (Builtin.«tuple.__mul__» ⟨[.ref l,.int 2 t],[]⟩) (fun _ R s=>s.heap.get? l=some { cls:=.type "tuple",dict:=dd,data:=.seq #[x] n,slots:=sl }/\R (.ok (.ret (Value.ref s.heap.objs.size))) { s with heap:=s.heap.push { cls:=Value.type "tuple",data:=Data.seq #[x,x] },toks:=s.toks }) :=
 .of_wp fun prog w A R s h=>by obtain⟨hp,g,d,tk,os⟩:=s;obtain⟨hl,h⟩:=h;have f1:=U2z;have f2:=G0z;wp_walk using G3z hl;exact⟨_,rfl,h⟩
theorem rE(l:Addr)(x:Value)(n:Nat)(dd:Option Addr)(sl:Array (Option Value))(t:Tok) :
  Meets (Builtin.«tuple.__mul__» ⟨[.ref l,.int 3 t],[]⟩) (fun _ R s=>s.heap.get? l=some { cls:=.type "tuple",dict:=dd,data:=.seq #[x] n,slots:=sl }/\R (.ok (.ret (Value.ref s.heap.objs.size))) { s with heap:=s.heap.push { cls:=Value.type "tuple",data:=Data.seq #[x,x,x] },toks:=s.toks }) :=
 .of_wp fun prog w A R s h=>by obtain⟨hp,g,d,tk,os⟩:=s;obtain⟨hl,h⟩:=h;have f1:=U2z;have f2:=G0z;wp_walk using G3z hl;exact⟨_,rfl,h⟩
theorem rD(l:Addr)(x:Value)(n:Nat)(dd:Option Addr)(sl:Array (Option Value))(t:Tok) :
  Meets (Builtin.«tuple.__mul__» ⟨[.ref l,.int 4 t],[]⟩) (fun _ R s=>s.heap.get? l=some { cls:=.type "tuple",dict:=dd,data:=.seq #[x] n,slots:=sl }/\R (.ok (.ret (Value.ref s.heap.objs.size))) { s with heap:=s.heap.push { cls:=Value.type "tuple",data:=Data.seq #[x,x,x,x] },toks:=s.toks }) :=
 .of_wp fun prog w A R s h=>by obtain⟨hp,g,d,tk,os⟩:=s;obtain⟨hl,h⟩:=h;have f1:=U2z;have f2:=G0z;wp_walk using G3z hl;exact⟨_,rfl,h⟩
theorem rC(l:Addr)(x:Value)(n:Nat)(dd:Option Addr)(sl:Array (Option Value))(t:Tok) :
  Meets (Builtin.«tuple.__mul__» ⟨[.ref l,.int 5 t],[]⟩) (fun _ R s=>s.heap.get? l=some { cls:=.type "tuple",dict:=dd,data:=.seq #[x] n,slots:=sl }/\R (.ok (.ret (Value.ref s.heap.objs.size))) { s with heap:=s.heap.push { cls:=Value.type "tuple",data:=Data.seq #[x,x,x,x,x] },toks:=s.toks }) :=
 .of_wp fun prog w A R s h=>by obtain⟨hp,g,d,tk,os⟩:=s;obtain⟨hl,h⟩:=h;have f1:=U2z;have f2:=G0z;wp_walk using G3z hl;exact⟨_,rfl,h⟩
theorem rH(l:Addr)(x:Value)(n:Nat)(dd:Option Addr)(sl:Array (Option Value))(t:Tok) :
  Meets (Builtin.«tuple.__mul__» ⟨[.ref l,.int 0 t],[]⟩) (fun _ R s=>s.heap.get? l=some { cls:=.type "tuple",dict:=dd,data:=.seq #[x] n,slots:=sl }/\R (.ok (.ret (Value.ref s.heap.objs.size))) { s with heap:=s.heap.push { cls:=.type "tuple",data:=.seq #[] },toks:=s.toks }) :=
 .of_wp fun prog w A R s h=>by obtain⟨hp,g,d,tk,os⟩:=s;obtain⟨hl,h⟩:=h;have f1:=U2z;have f2:=G0z;wp_walk using G3z hl;exact⟨_,rfl,h⟩
end L2
namespace L2
open PySem PySem.Spec PyProof.Rows PySem.SeqAt
section
variable {X:Cx}
def KD(K:Zf):R2:=fun x y H Q=>∃ l b us zs,x=.ref l/\y=.ref b/\SqL K H l us/\SqL K H b zs/\us.length+zs.length<=sizeLine/\∀ p,H p=none->Q (.ref p) (upd H p (.lst (us++zs)))
theorem Dy:OpR X (binaryOp .Add) (KD X.K):=by
 intro z0 s σ H x y v u Q I rx ry h;obtain⟨l,b,us,zs,rfl,rfl,hH,hB,hz,q⟩:=h;cases (show v=Value.ref l from rx);cases (show u=Value.ref b from ry);obtain⟨its,r,pl,z1⟩:=I.list hH;obtain⟨its2,r2,pl2,z2⟩:=I.list hB;have e1:=r.length;have e2:=r2.length;obtain⟨⟨c1,d1,w1,t1⟩,n1,o1,hc1,hd1,hs1⟩:=pl;obtain⟨⟨c2,d2,w2,t2⟩,n2,o2,hc2,hd2,hs2⟩:=pl2;simp only at hc1 hs1 hc2 hs2;subst hc1 hs1 hc2 hs2;refine concat_meets ⟨_,o1,rfl⟩ ⟨_,o2,rfl⟩ noFill_list_add seq_list_add PySem.F.slot_list_add PySem.F.entry_list_add (PySem.F.args_list_add_2 _ _) (list_addW l b its.toArray its2.toArray n1 n2 d1 d2 t1 t2 (by rw[D2z,D2z];omega)) ⟨o1,o2,?_⟩;rw[show its.toArray++its2.toArray=(its++its2).toArray by simp];exact⟨.ref _,_,I.lnew (t':=s.toks) (r.append r2) (by rw[U1z];omega),rfl,q _ I.fresh⟩
def Kv(K:Zf):R2:=fun x y H Q=>∃ l k us,x=.ref l/\y=.int k/\SqL K H l us /\ -(2^63)<=k/\k<2^63/\us.length*k.toNat<=sizeLine /\
 ∀ p,H p=none->Q (.ref p) (upd H p (.lst (List.replicate k.toNat us).flatten))
theorem vp:OpR X (binaryOp .Mult) (Kv X.K):=by
 intro z0 s σ H x y v u Q I rx ry h;obtain⟨l,k,us,rfl,rfl,hH,h1,h2,hz,q⟩:=h;cases (show v=Value.ref l from rx);obtain⟨t,rfl⟩:=ry;obtain⟨its,r,pl,z1⟩:=I.list hH;have hl:=r.length;obtain⟨⟨c1,d1,w1,t1⟩,n1,e,hc1,hd1,hs1⟩:=pl;simp only at hc1 hs1;subst hc1 hs1
 have a1:its.toArray.size*k.toNat<=sizeLine:=by rw[D2z,<- hl];exact hz
 have a2:¬ its.toArray.size*k.toNat>(2^63-1) / 8:=by
  have:(sizeLine:Nat)<=(2^63-1) / 8:=by decide
  omega
 have a3:¬ (!Builtin.List.listFitsIndex k)=true:=by rw[fitsIndex_both h1 h2];exact Q1z
 have a4:¬ Builtin.List.listTooLong (its.toArray.size*k.toNat)=true:=by rw[lD a1];exact Q1z
 have a5:List.foldl (fun x1 x2=>x1++x2) #[] (List.replicate (if its.toArray.isEmpty=true then 0 else k.toNat) its.toArray)=(List.replicate k.toNat its).flatten.toArray:=by
  have f0:∀ m:Nat,List.foldl (fun x1 x2=>x1++x2) #[] (List.replicate m its.toArray)=(List.replicate m its).flatten.toArray:=fun m=>(foldl_rep its m []).trans (by rw[List.nil_append]);rw[f0]
  cases its with
  | nil=>simp
  | cons a r'=>rw[E5z (by simp)]
 refine wpAny_binaryOp_repeat_ref (T:="list") (U:="int") (by decide) ⟨_,e,rfl⟩ (fun s'=>typeIs_int s' k t) noFill_list_mul F.fills_int_mul F.slot_int_rmul repeat_list F.slot_int_index.lookup ?_;refine U4z F.slot_int_rmul (typeIs_int s k t) F.entry_int_rmul (F.args_int_rmul_2 _ _) (lm_int_rmul_list_any k t l its.toArray n1 d1 t1) ⟨e,rfl,⟨_,e,rfl⟩,?_⟩;refine U4z F.slot_list_mul ⟨_,e,rfl⟩ F.entry_list_mul (F.args_list_mul_2 _ _) (lm_list_mul_any l its.toArray n1 d1 t1 k t a3 a2 a4) ⟨e,?_⟩;rw[a5];exact⟨.ref _,_,I.lnew (t':=s.toks) (r.rep k.toNat) (by rw[len_rep,Nat.mul_comm];exact hz),rfl,q _ I.fresh⟩
end
section
variable {X:Cx}
end
section
variable {prog:Program} {w:World} {A:Around} {E:Value->Shared->Prop} {s:Shared}
end
section
variable {X:Cx}
end
end L2
namespace HT
open PySem PySem.Spec PyProof.Rows PySem.SeqAt L2
section
variable {prog:Program} {w:World} {A:Around} {E:Value->Shared->Prop} {s:Shared}
end
end HT
namespace L2
open PySem PyProof.Rows
section
variable {X:Cx}
end
end L2
namespace DE
open PySem
inductive D where
 | non | bl (b:Bool) | int (i:Int) | str (x:Str) | tup (xs:List D) | lst (xs:List D)
 | exc (c:Str)
 | dic (ks:List (Sum Int Str)) (xs:List D)
 | obj (a:Nat)
 deriving Inhabited
inductive Sl where
 | no | sh (d:D) | ow (ds:List D) | oo (dss:List (List D))
 deriving Inhabited
noncomputable abbrev Rho:=List (Str×Sl)
inductive Fl where
 | nxt (ρ:Rho) | ret (d:D)
 deriving Inhabited
def b2i(b:Bool):Int:=if b then 1 else 0
mutual
def deq:D->D->Bool
 | .non,.non=>true
 | .bl a,.bl b=>a==b
 | .bl a,.int j=>b2i a==j
 | .int i,.bl b=>i==b2i b
 | .int i,.int j=>i==j
 | .str x,.str y=>x==y
 | .tup xs,.tup ys=>nM xs ys
 | .lst xs,.lst ys=>nM xs ys
 | _,_=>false
def nM:List D->List D->Bool
 | [],[]=>true
 | x::xs,y::ys=>deq x y&&nM xs ys
 | _,_=>false
end
mutual
def dep:D->Nat
 | .tup xs=>deps xs+1
 | .lst xs=>deps xs+1
 | .exc _=>1000
 | .dic _ _=>1000
 | .obj _=>1000
 | _=>0
def deps:List D->Nat
 | []=>0
 | x::xs=>max (dep x) (deps xs)
end
def asB:D->Option Bool
 | .bl b=>some b
 | _=>none
def asI:D->Option Int
 | .int i=>some i
 | _=>none
def items:D->Option (List D)
 | .tup xs=>some xs
 | .lst xs=>some xs
 | _=>none
def tupI:D->Option (List D)
 | .tup xs=>some xs
 | _=>none
def oH:List D->Option (List Int)
 | []=>some []
 | .int i::r=>(oH r).map (i::·)
 | _=>none
def qY:List D->Option (List Bool)
 | []=>some []
 | .bl i::r=>(qY r).map (i::·)
 | _=>none
def small(i:Int):Bool:=decide (-(2^64)<i)&&decide (i<2^64)
def mid(i:Int):Bool:=decide (i.natAbs.log2<10000)
def szl(n:Nat):Bool:=decide (n<=100000)
def Ho:List D->Int->Option D
 | [x],j=>if decide (0<=j)&&decide (j<=5) then some (.tup (List.replicate j.toNat x)) else none
 | _,_=>none
def binop:Operator->D->D->Option D
 | .Add,.int i,.int j=>some (.int (i+j))
 | .Add,.tup xs,.tup ys=>if szl (xs.length+ys.length) then some (.tup (xs++ys)) else none
 | .Add,.lst xs,.lst ys=>if szl (xs.length+ys.length) then some (.lst (xs++ys)) else none
 | .Sub,.int i,.int j=>some (.int (i-j))
 | .Mult,.int i,.int j=>if small i||small j||(mid i&&mid j) then some (.int (i*j)) else none
 | .Mult,.lst xs,.int j=>if decide (j<=1000)&&decide (-1000<=j)&&szl (xs.length*j.toNat) then some (.lst (List.replicate j.toNat xs).flatten) else none
 | .Mult,.tup xs,.int j=>Ho xs j
 | .FloorDiv,.int i,.int j=>if decide (0<j)&&decide (j<1073741824) then some (.int (i / j)) else if decide (j≠0)&&decide (j.natAbs.log2<9000) then some (.int (i.fdiv j)) else none
 | .Mod,.int i,.int j=>if decide (0<j) then some (.int (i%j)) else if decide (j≠0) then some (.int (i.fmod j)) else none
 | _,_,_=>none
def oK:List D->Option (List Str)
 | []=>some []
 | .str i::r=>(oK r).map (i::·)
 | _=>none
def inS(x:D)(ys:List D):Option Bool:=(oK ys).bind fun ss=>if decide (dep x<=50) then some (ss.any fun t=>deq (.str t) x) else none
def inT(x:D)(ys:List D):Option Bool:=match asI x,oH ys with
 | some i,some ns=>some (ns.any (· ==i))
 | _,_=>inS x ys
def J1:D->Option (Sum Int Str)
 | .int i=>some (.inl i)
 | .str x=>some (.inr x)
 | _=>none
def Gn(ks:List (Sum Int Str))(ds:List D)(k:Sum Int Str):Option D:=((ks.zip ds).find? fun q=>decide (q.1=k)).map (·.2)
def zM:D->Bool
 | .non=>true
 | _=>false
def cmpop:CmpOp->D->D->Option D
 | .Eq,x,y=>if decide (dep x<=50)&&decide (dep y<=50) then some (.bl (deq x y)) else none
 | .NotEq,x,y=>if decide (dep x<=50)&&decide (dep y<=50) then some (.bl (!deq x y)) else none
 | .Lt,.int i,.int j=>some (.bl (decide (i<j)))
 | .LtE,.int i,.int j=>some (.bl (decide (i<=j)))
 | .Gt,.int i,.int j=>some (.bl (decide (j<i)))
 | .GtE,.int i,.int j=>some (.bl (decide (j<=i)))
 | .Is,x,.non=>some (.bl (zM x))
 | .IsNot,x,.non=>some (.bl (!zM x))
 | .In,x,.tup ys=>(inT x ys).map fun b=>.bl b
 | .NotIn,x,.tup ys=>(inT x ys).map fun b=>.bl (!b)
 | .In,.str x,.str y=>some (.bl (!(Builtin.Str.occurrences y x 0 y.length 1).isEmpty))
 | _,_,_=>none
def ixD(n:Nat)(i:Int):Option Nat:=if 0<=i then(if i<n then some i.toNat else none) else if -(n:Int)<=i then some (i+n).toNat else none
def atD(xs:List D)(i:Int):Option D:=(ixD xs.length i).bind fun j=>xs[j]?
def JM:D->D->Option D
 | .tup xs,.int i=>atD xs i
 | .lst xs,.int i=>atD xs i
 | .dic ks ds,y=>(J1 y).bind (Gn ks ds)
 | _,_=>none
def scD:D->Bool
 | .non=>true
 | .bl _=>true
 | .int _=>true
 | .str _=>true
 | _=>false
mutual
def gn:D->Bool
 | .non=>true
 | .bl _=>true
 | .int _=>true
 | .str _=>true
 | .tup ds=>qM ds
 | _=>false
def qM:List D->Bool
 | []=>true
 | d::r=>gn d&&qM r
end
def J2:String->D->Bool
 | "int",.int _=>true
 | "int",.bl _=>true
 | "bool",.bl _=>true
 | "tuple",.tup _=>true
 | "list",.lst _=>true
 | "str",.str _=>true
 | _,_=>false
def VR:Expr->Option Int
 | .Constant (.int c) _ _=>some c
 | _=>none
def QL(k:Keyword):Option Int:=if k.arg==some "default" then VR k.value else none
def blt:String->List D->Option D
 | "len",[.str x]=>if szl x.length then some (.int x.length) else none
 | "len",[d]=>do let l <- items d;some (.int l.length)
 | "all",[.lst xs]=>do let bs <- qY xs;some (.bl (bs.all id))
 | "sum",[.lst xs]=>do let is <- oH xs;some (.int is.sum)
 | "tuple",[d]=>do let l <- items d;some (.tup l)
 | "list",[d]=>do let l <- items d;some (.lst l)
 | "min",[.int i,.int j]=>some (.int (if j<i then j else i))
 | "max",[.int i,.int j]=>some (.int (if j>i then j else i))
 | "abs",[.int i]=>some (.int (if i<0 then -i else i))
 | "int",[.bl b]=>some (.int (b2i b))
 | "int",[.int i]=>some (.int i)
 | _,_=>none
structure Cxt where
 cst:List (Str×D)
 blt:List (Str×String)
 fns:List Str
 exs:List Str
 top:Str
 rs:Bool
 call:Str->List D->Option D
 callx:Str->List D->Option Str
def isExc:D->Bool
 | .exc _=>true
 | .dic _ _=>true
 | .obj _=>true
 | _=>false
def tR(top c c':Str):Bool:=c==c'||c'==top
noncomputable def oW(scope sc:Scope):Scope :=
 { scope with names:=scope.names.map fun(n,k)=>if(k==.free&&sc.kind==.function&&sc.names.lookup n==some .cell) then(n,.cell) else(n,k) }
def Gp:Option Sl->Sl
 | some (.sh d)=>.sh d
 | _=>.no
def cI(scope:Scope)(ρ:Rho):Rho:=scope.names.map fun p=>(p.1,if p.2==.free then Gp (ρ.lookup p.1) else .no)
def ji:List Str->Bool
 | []=>true
 | x::r => !r.contains x&&ji r
def gW(sc scope:Scope):Bool :=
 scope.kind==.function&&ji (scope.names.map (·.1))&&scope.names.all fun p=>p.2 !=.free||sc.names.lookup p.1==some .cell||sc.names.lookup p.1==some .free
def cT:Rho->Str->Sl->Rho
 | [],_,_=>[]
 | (y,s)::r,x,v=>if x==y then(y,v)::r else(y,s)::cT r x v
def aD(x:Str):Bool:=x !="__debug__"&&x !="__classdict__"
def ownIn(scope:Scope)(x:Str):Bool:=scope.names.lookup x==some .local||scope.names.lookup x==some .cell
def bindNames(scope:Scope):List Expr->List D->Rho->Option Rho
 | [],[],ρ=>some ρ
 | .Name x _::es,d::ds,ρ=>if ownIn scope x&&(ρ.map (·.1)).contains x then bindNames scope es ds (cT ρ x (.sh d)) else none
 | _,_,_=>none
def iz(scope:Scope):Expr->D->Rho->Option Rho
 | .Name x _,d,ρ=>if ownIn scope x&&(ρ.map (·.1)).contains x then some (cT ρ x (.sh d)) else none
 | .Tuple es _ _,.tup ds,ρ=>bindNames scope es ds ρ
 | _,_,_=>none
def pB(cx:Cxt)(sc:Scope)(x:Str):Bool:=sc.names.lookup x==some .globalImplicit
def aU(cx:Cxt)(sc:Scope)(x:Str):Option String:=if pB cx sc x then cx.blt.lookup x else none
def dw(f:D->Option (Option D)):List D->Option (List D)
 | []=>some []
 | x::r=>do
  match <- f x with
  | some v=>(dw f r).map (v::·)
  | none=>dw f r
def eE(lo hi:Int):List D:=(List.range (hi-lo).toNat).map fun(k:Nat)=>.int (lo+(k:Int))
def jH(f:Expr->Option D):List Expr->Option (List D)
 | []=>some []
 | e::r=>do let d <- f e;let ds <- jH f r;some (d::ds)
def gD(op:BoolOp)(f:Expr->Option D):List Expr->Option D
 | []=>none
 | [e]=>f e
 | e::e'::r=>do
  let d <- f e
  let b <- asB d
  match op with
  | .And=>if b then gD op f (e'::r) else some (.bl false)
  | .Or=>if b then some (.bl true) else gD op f (e'::r)
def ig(i:Int):Bool:=decide (-(2^62)<=i)&&decide (i<2^62)
def eY:Expr->Bool
 | .Tuple .. =>true
 | _=>false
inductive Wk where
 | r1 (a:Expr) | r2 (a b:Expr) | r3 (a b c:Expr) | zp (a b:Expr) | rv (a:Expr) | en (a:Expr) | sq
def BZ(cx:Cxt)(sc:Scope):Expr->Wk
 | .Call (.Name x _) args [] _=>(match aU cx sc x with
  | some "range"=>(match args with | [a]=>.r1 a | [a,b]=>.r2 a b | [a,b,c]=>.r3 a b c | _=>.sq)
  | some "zip"=>(match args with | [a,b]=>.zp a b | _=>.sq)
  | some "reversed"=>(match args with | [a]=>.rv a | _=>.sq)
  | some "enumerate"=>(match args with | [a]=>.en a | _=>.sq)
  | _=>.sq)
 | _=>.sq
def enD(xs:List D):List D:=xs.zipIdx.map fun q=>.tup [.int (q.2:Int),q.1]
def JG:D->D->Option (List D)
 | .tup xs,.tup ys=>some ((xs.zip ys).map fun q=>.tup [q.1,q.2])
 | .lst xs,.lst ys=>if true then none else none
 | .lst xs,.tup ys=>if true then none else none
 | .tup xs,.lst ys=>if true then none else none
 | _,_=>none
def qK:D->Option (List D)
 | .str x=>if x.cps.all (· < 128) then some (x.cps.toList.map fun c=>.str ⟨#[c]⟩) else none
 | d=>items d
def evI(cx:Cxt)(tup:Bool)(f:Expr->Option D)(sc:Scope)(e:Expr):Option (List D):=match BZ cx sc e with
 | .r1 a=>do let j <- (f a).bind asI;if ig j then some (eE 0 j) else none
 | .r2 a b=>do let i <- (f a).bind asI;let j <- (f b).bind asI;if ig i&&ig j then some (eE i j) else none
 | .r3 a b c=>if true then none else none
 | .zp a b=>do let x <- f a;let y <- f b;if tup then JG x y else none
 | .rv a=>do let xs <- (f a).bind items;some xs.reverse
 | .en a=>do let x <- f a;if tup then(tupI x).map enD else none
 | .sq=>(f e).bind qK
inductive Wc where
 | lr1 (a:Expr) | lr2 (a b:Expr) | tv (a:Expr) | ls (a:Expr) | tr1 (a:Expr) | al
def Rj(cx:Cxt)(sc:Scope):Expr->Option Expr
 | .Call (.Name y _) [a] [] _=>if aU cx sc y==some "set" then some a else none
 | _=>none
def TY:D->Option (List D)
 | .lst xs=>some xs
 | _=>none
def Al(cx:Cxt)(sc:Scope)(b:String)(args:List Expr):Wc:=match args with
 | [e]=>(match b,BZ cx sc e with
  | "list",.r1 a=>.lr1 a
  | "list",.r2 a b=>.lr2 a b
  | "tuple",.rv a=>.tv a
  | "tuple",.r1 a=>.tr1 a
  | "len",.sq=>(match Rj cx sc e with | some a=>.ls a | none=>.al)
  | _,_=>.al)
 | _=>.al
def iT:String->Bool
 | "int"=>true
 | "bool"=>true
 | "tuple"=>true
 | "list"=>true
 | "str"=>true
 | _=>false
def tyOf(cx:Cxt)(sc:Scope):Expr->Option String
 | .Name x _=>aU cx sc x
 | _=>none
def xOf(cx:Cxt)(sc:Scope):Expr->Option Str
 | .Name x _=>if pB cx sc x&&(cx.exs.contains x||x==cx.top)&&aD x then some x else none
 | _=>none
def cntB(b:Bool)(bs:List Bool):Nat:=(bs.filter (· ==b)).length
def sJ(f:Expr->Option D):List Expr->Option Bool
 | []=>some true
 | [c]=>(f c).bind asB
 | _=>none
def lG(m:Str):D->D->Option D
 | .lst xs,.bl b=>do
  let bs <- qY xs
  if m=="count" then some (.int (cntB b bs)) else if m=="index"&&bs.contains b then some (.int (bs.idxOf b)) else none
 | .lst xs,.int i=>do
  let ns <- oH xs
  if m=="count" then some (.int ((ns.filter (· ==i)).length:Nat)) else none
 | _,_=>none
def aF:Expr->Bool
 | .Starred .. =>false
 | .Set .. =>false
 | .Slice .. =>false
 | _=>true
def ev(cx:Cxt):Nat->Scope->Rho->Expr->Option D
 | 0,_,_,_=>none
 | n+1,sc,ρ,e=>match e with
  | .Name x _=>if aD x then(match sc.names.lookup x with
    | some .local=>(match ρ.lookup x with | some (.sh d)=>some d | _=>none)
    | some .cell=>(match ρ.lookup x with | some (.sh d)=>some d | _=>none)
    | some .free=>(match ρ.lookup x with | some (.sh d)=>some d | _=>none)
    | some .globalImplicit=>cx.cst.lookup x
    | _=>none) else none
  | .Constant c _ _=>(match c with
    | .none=>some .non
    | .bool b=>some (.bl b)
    | .int i=>some (.int i)
    | .str x=>some (.str x)
    | _=>none)
  | .BinOp a op b _=>do let x <- ev cx n sc ρ a;let y <- ev cx n sc ρ b;binop op x y
  | .UnaryOp op a _=>do
    let x <- ev cx n sc ρ a
    match op with
    | .USub=>(asI x).map fun i=>.int (-i)
    | .Not=>(asB x).map fun b=>.bl (!b)
    | _=>none
  | .BoolOp op es _=>gD op (ev cx n sc ρ) es
  | .Compare a ops bs _=>(match ops,bs with
    | [op],[b]=>do let x <- ev cx n sc ρ a;let y <- ev cx n sc ρ b;cmpop op x y
    | [op,op'],[b,c]=>if !aF c then none else do
     let x <- ev cx n sc ρ a
     let y <- ev cx n sc ρ b
     let k <- (cmpop op x y).bind asB
     if k then do let z <- ev cx n sc ρ c;cmpop op' y z else some (.bl false)
    | _,_=>none)
  | .IfExp c a b _=>do
    let k <- (ev cx n sc ρ c).bind asB
    if k then ev cx n sc ρ a else ev cx n sc ρ b
  | .Tuple es _ _=>do let ds <- jH (ev cx n sc ρ) es;if szl ds.length then some (.tup ds) else none
  | .List es _=>do let ds <- jH (ev cx n sc ρ) es;if szl ds.length then some (.lst ds) else none
  | .Subscript a b _=>do
    let x <- ev cx n sc ρ a
    match b with
    | .Slice .. =>if true then none else none
    | b=>do
     let y <- ev cx n sc ρ b
     JM x y
  | .Call f args kws p=>(match f,kws with
    | .Name x _,[] =>
     if pB cx sc x then
      match cx.blt.lookup x with
      | some "isinstance"=>(match args with
       | [a,t]=>do
        let d <- ev cx n sc ρ a
        match xOf cx sc t with
        | some c'=>(match d with | .exc c=>if cx.exs.contains c then some (.bl (tR cx.top c c')) else none | _=>none)
        | none=>do
         let ty <- tyOf cx sc t
         match d with
         | .exc c=>if cx.exs.contains c&&ty=="ValueError" then some (.bl true) else none
         | .dic _ _=>none
         | .obj _=>none
         | d=>if iT ty then some (.bl (J2 ty d)) else none
       | _=>none)
      | some b=>(match Al cx sc b args with
       | .lr1 a=>if true then none else none
       | .lr2 a a'=>if true then none else none
       | .tr1 a=>if true then none else none
       | .tv a=>do let xs <- (ev cx n sc ρ a).bind tupI;some (.tup xs.reverse)
       | .ls a=>if true then none else none
       | .al=>if args.isEmpty then none else do let ds <- jH (ev cx n sc ρ) args;blt b ds)
      | none=>if cx.fns.contains x && !args.isEmpty then do let ds <- jH (ev cx n sc ρ) args;cx.call x ds else none
     else none
    | .Name x _,[k]=>(match args with
     | [a]=>if aU cx sc x==some "max" then none else none
     | _=>none)
    | .Attribute (.Name y py) m ap,[]=>(match args with
     | [e]=>if ap.endLine==p.line then do
       let x <- ev cx n sc ρ (.Name y py)
       let z <- ev cx n sc ρ e
       lG m x z else none
     | _=>none)
    | .Attribute (.Dict ks vs dp) m ap,[]=>if true then none else none
    | .Subscript (.List es _) ix _,[]=>if true then none else none
    | _,_=>none)
  | .ListComp elt gens scope _=>(match gens with
    | [⟨tg,iter,ifs,a⟩]=>if a==0&&gW sc scope then do
      let l <- evI cx (eY tg) (ev cx n sc ρ) sc iter
      if szl l.length then do
       let out <- dw (fun d=>do
        let ρ1 <- iz scope tg d (cI scope ρ)
        let b <- sJ (ev cx n (oW scope sc) ρ1) ifs
        if b then(ev cx n (oW scope sc) ρ1 elt).map some else some none) l
       some (.lst out)
      else none
     else none
    | _=>none)
  | _=>none
def xW(f:Expr->Option D)(g:Expr->Option Str):List Expr->Option Str
 | []=>none
 | e::r=>match f e with
  | some _=>xW f g r
  | none=>g e
def evx(cx:Cxt):Nat->Scope->Rho->Expr->Option Str
 | 0,_,_,_=>none
 | n+1,sc,ρ,e=>match e with
  | .Call (.Name x _) args [] _=>if pB cx sc x && !args.isEmpty&&args.all aF&&cx.fns.contains x then
    (match jH (ev cx n sc ρ) args with
    | some ds=>cx.callx x ds
    | none=>xW (ev cx n sc ρ) (evx cx n sc ρ) args)
   else none
  | .Call (.Subscript (.List es _) ix _) args [] _=>if true then none else none
  | .Call (.Name x _) [a] [k] _=>if aU cx sc x==some "max"&&(QL k).isSome&&aF a then evx cx n sc ρ a else none
  | .IfExp c a b _=>(match (ev cx n sc ρ c).bind asB with
   | some true=>evx cx n sc ρ a
   | some false=>evx cx n sc ρ b
   | none=>none)
  | .Compare a [_] [b] _=>if aF b then evx cx n sc ρ a else none
  | .ListComp _ [⟨_,iter,_,a⟩] scope _=>if a==0&&gW sc scope&&aF iter then evx cx n sc ρ iter else none
  | _=>none
def d9:Nat->Str->Expr->Bool
 | 0,_,_=>true
 | n+1,x,e=>match e with
  | .Name y _=>x==y
  | .Constant .. =>false
  | .BinOp a _ b _=>d9 n x a||d9 n x b
  | .UnaryOp _ a _=>d9 n x a
  | .BoolOp _ es _=>es.any (d9 n x)
  | .Compare a _ bs _=>d9 n x a||bs.any (d9 n x)
  | .IfExp c a b _=>d9 n x c||d9 n x a||d9 n x b
  | .Tuple es _ _=>es.any (d9 n x)
  | .List es _=>es.any (d9 n x)
  | .Subscript a b _=>d9 n x a||d9 n x b
  | .Slice lo hi st _=>(lo.map (d9 n x)).getD false||(hi.map (d9 n x)).getD false||(st.map (d9 n x)).getD false
  | .Call f args kws _=>d9 n x f||args.any (d9 n x) || !kws.isEmpty
  | .ListComp elt gens _ _=>d9 n x elt||gens.any fun g=>d9 n x g.iter||g.ifs.any (d9 n x)
  | _=>true
def frz(n:Nat)(e:Expr)(ρ:Rho):Rho:=ρ.map fun p=>match p.2 with
 | .ow ds=>if d9 n p.1 e then(p.1,.sh (.lst ds)) else p
 | .oo dss=>if d9 n p.1 e then(p.1,.sh (.lst (dss.map .lst))) else p
 | _=>p
noncomputable def isL:Expr->Bool
 | .List .. =>true
 | _=>false
def Uc:Operator->Bool
 | .Mult=>true
 | _=>false
def aX:Expr->Bool
 | .List .. =>true
 | .ListComp .. =>true
 | .BinOp a op _ _=>isL a&&Uc op
 | _=>false
def Gf:Sl->Bool
 | .no=>true
 | .sh _=>true
 | _=>false
def Vx:Sl->Bool
 | .oo _=>true
 | _=>false
def Il(ρ:Rho)(x:Str):Bool:=ρ.all fun p=>p.1==x||Gf p.2
def xZ(ρ:Rho)(x:Str):Bool:=ρ.all fun p=>p.1==x || !Vx p.2
def JZ(cx:Cxt)(sc:Scope):Expr->Bool
 | .Name y _=>aD y&&sc.names.lookup y==some .local
 | .Call (.Name f _) _ [] _=>pB cx sc f&&(cx.blt.lookup f).isNone
 | _=>false
def JV(cx:Cxt)(sc:Scope):Expr->Bool
 | .Call (.Name l _) [y] [] _=>aU cx sc l==some "list"&&JZ cx sc y
 | .ListComp .. =>true
 | _=>false
def Gq(cx:Cxt)(sc:Scope):Expr->Bool
 | .Call (.Name l _) [y] [] _=>aU cx sc l==some "list"&&JZ cx sc y
 | _=>false
def ooE(cx:Cxt)(sc:Scope):Expr->Bool
 | .ListComp elt [⟨.Name _ _,_,[],_⟩] scope _=>JV cx (oW scope sc) elt
 | _=>false
def Q9(x:Str):Expr->Option (Expr×Expr)
 | .BinOp (.Subscript (.Name y _) i _) .Add e _=>if x==y then some (i,e) else none
 | _=>none
def mX(e:Expr)(d:D):Sl:=match d with
 | .lst ds=>if aX e then .ow ds else .sh (.lst ds)
 | d=>.sh d
def nc0:Expr->Bool
 | .Call .. =>true
 | .Name x _=>x !="__debug__"
 | .IfExp .. =>true
 | .ListComp .. =>true
 | .Compare .. =>true
 | _=>false
def nc1:Expr->Bool
 | .Subscript v _ _=>nc0 v
 | e=>nc0 e
def nc:Expr->Bool
 | .Subscript v i _=>nc0 v||nc0 i
 | .BinOp l _ r _=>nc1 l||nc1 r
 | e=>nc0 e
def zN:Expr->Bool
 | .Constant .. =>true
 | _=>false
def swp(sc:Scope)(ts:List Expr)(value:Expr):Option Bool:=match value with
 | .Tuple vs _ _=>(match ts,vs with
  | [.Name x px,.Name y py],[a,b] =>
   if sc.names.lookup x==some .local&&sc.names.lookup y==some .local then
    (if px.line==py.line&&x !=y&&(nc a||nc b)&&aF a&&aF b then some true else if zN a&&zN b then some false else none)
   else some false
  | [.Name x _,.Name y _,.Name z _],[_,_,_]=>if sc.names.lookup x==some .cell&&sc.names.lookup y==some .cell&&sc.names.lookup z==some .cell then some false else none
  | _,_=>none)
 | _=>some false
def rdA:Expr->Bool
 | .Call (.Name _ _) [.Subscript _ _ _,.Subscript _ _ _] [] _=>true
 | _=>false
def nF(f:D->Rho->Option Fl):List D->Rho->Option Fl
 | [],ρ=>some (.nxt ρ)
 | x::r,ρ=>do
  match <- f x ρ with
  | .ret d=>some (.ret d)
  | .nxt ρ'=>nF f r ρ'
def iD(f:Rho->Stmt->Option Fl):List Stmt->Rho->Option Fl
 | [],ρ=>some (.nxt ρ)
 | s::r,ρ=>do
  match <- f ρ s with
  | .ret d=>some (.ret d)
  | .nxt ρ'=>iD f r ρ'
def vG:Expr->Option Expr
 | .UnaryOp .Not (.Call f as ks p) _=>some (.Call f as ks p)
 | _=>none
def oR(f:Rho->Stmt->Option Fl)(g:Rho->Stmt->Option (Str×Rho)):List Stmt->Rho->Option (Str×Rho)
 | [],_=>none
 | s::r,ρ=>match f ρ s with
  | some (.nxt ρ')=>oR f g r ρ'
  | some (.ret _)=>none
  | none=>g ρ s
mutual
def st(cx:Cxt)(F:Nat):Nat->Scope->Rho->Stmt->Option Fl
 | 0,_,_,_=>none
 | n+1,sc,ρ,s=>match s with
  | .Pass _=>some (.nxt ρ)
  | .Return v _=>(match v with
    | none=>some (.ret .non)
    | some e=>(ev cx F sc (frz F e ρ) e).map .ret)
  | .Assign tgs e _=>(match tgs with
    | [.Name x _]=>if ownIn sc x&&(ρ.map (·.1)).contains x then
      (if ooE cx sc e&&Il (frz F e ρ) x then none
      else if Gq cx sc e&&xZ (frz F e ρ) x then(ev cx F sc (frz F e ρ) e).bind fun d=>(TY d).map fun ds=>.nxt (cT (frz F e ρ) x (.ow ds))
      else if aX e && !xZ (frz F e ρ) x then(if xZ (frz F e (frz 0 e ρ)) x then(ev cx F sc (frz F e (frz 0 e ρ)) e).map fun d=>.nxt (cT (frz F e (frz 0 e ρ)) x (mX e d)) else none)
      else if rdA e then(ev cx F sc (frz F e ρ) e).bind fun d=>if gn d then some (.nxt (cT ρ x (.sh d))) else none
      else(ev cx F sc (frz F e ρ) e).map fun d=>.nxt (cT (frz F e ρ) x (mX e d))) else none
    | [.Tuple es _ _]=>if(swp sc es e).isSome||false then do
      let d <- ev cx F sc (frz F e ρ) e
      let l <- items d
      (bindNames sc es l (frz F e ρ)).map .nxt
     else none
    | [.Subscript t ie _]=>(match t with
     | .Name x _=>(match Q9 x e with
      | some (i2,e2)=>if true then none else none
      | none=>(match (frz F ie (frz F e ρ)).lookup x with
       | some (.ow ds)=>if ownIn sc x&&aD x && !aX e then do
         let d <- ev cx F sc (frz F ie (frz F e ρ)) e
         let j <- (ev cx F sc (frz F ie (frz F e ρ)) ie).bind asI
         let n <- ixD ds.length j
         some (.nxt (cT (frz F ie (frz F e ρ)) x (.ow (ds.set n d))))
        else none
       | some (.sh _)=>(match ρ.lookup x with
        | some (.ow ds)=>if ownIn sc x&&aD x && !aX e then do
          let d <- ev cx F sc (frz F e ρ) e
          let j <- (ev cx F sc (frz F e ρ) ie).bind asI
          let n <- ixD ds.length j
          if gn d then some (.nxt (cT ρ x (.ow (ds.set n d)))) else none
         else none
        | _=>none)
       | _=>none))
     | _=>none)
    | _=>none)
  | .Expr v _=>(match v with
    | .Call (.Attribute (.Name x _) m ap) [e] [] cp=>(match (frz F e ρ).lookup x with
      | some (.ow ds)=>if ownIn sc x&&aD x&&ap.endLine==cp.line then
        if m=="append"&&szl (ds.length+1) then(ev cx F sc (frz F e ρ) e).map fun d=>.nxt (cT (frz F e ρ) x (.ow (ds++[d])))
        else if m=="extend" then do
         let d <- ev cx F sc (frz F e ρ) e
         (match d with
         | .lst zs=>if szl (ds.length+zs.length) then some (.nxt (cT (frz F e ρ) x (.ow (ds++zs)))) else none
         | .tup zs=>if szl (ds.length+zs.length) then some (.nxt (cT (frz F e ρ) x (.ow (ds++zs)))) else none
         | _=>none)
        else none
       else none
      | some (.sh _)=>(match ρ.lookup x with
       | some (.ow ds)=>if ownIn sc x&&aD x&&ap.endLine==cp.line&&(m=="append"&&szl (ds.length+1)) then do
         let d <- ev cx F sc (frz F e ρ) e
         if gn d then some (.nxt (cT ρ x (.ow (ds++[d])))) else none
        else none
       | _=>none)
      | _=>none)
    | .ListComp .. =>none
    | .Constant .. =>none
    | e=>(ev cx F sc (frz F e ρ) e).map fun _=>.nxt (frz F e ρ))
  | .If c a b _=>do
    let k <- (ev cx F sc (frz F c ρ) c).bind asB
    if k then iD (fun ρ s=>st cx F n sc ρ s) a ρ else iD (fun ρ s=>st cx F n sc ρ s) b ρ
  | .For tg iter body orelse _=>(match orelse with
    | []=>do
     let l <- evI cx (eY tg) (ev cx F sc (frz F iter ρ)) sc iter
     nF (fun d ρ=>do let ρ1 <- iz sc tg d ρ;iD (fun ρ s=>st cx F n sc ρ s) body ρ1) l (frz F iter ρ)
    | _=>none)
  | .While c body orelse _=>(match orelse with
    | []=>if true then none else none
    | _=>none)
  | _=>none
def stx(cx:Cxt)(F:Nat):Nat->Scope->Rho->Stmt->Option (Str×Rho)
 | 0,_,_,_=>none
 | n+1,sc,ρ,s=>match s with
  | .Raise (some (.Call (.Name c _) [.Constant (.str _) _ _] [] _)) none _=>if cx.rs&&pB cx sc c&&cx.exs.contains c&&aD c then some (c,ρ) else none
  | .Expr e _=>if aX e then none else(evx cx F sc (frz F e ρ) e).map fun c=>(c,frz F e ρ)
  | .Return (some e) _=>(evx cx F sc (frz F e ρ) e).map fun c=>(c,frz F e ρ)
  | .Assign [.Name _ _] e _=>if aX e then none else(evx cx F sc (frz F e ρ) e).map fun c=>(c,frz F e ρ)
  | .If c a b _=>(match (ev cx F sc (frz F c ρ) c).bind asB with
    | some k=>oR (fun ρ s=>st cx F n sc ρ s) (fun ρ s=>stx cx F n sc ρ s) (if k then a else b) (frz F c ρ)
    | none=>(match vG c with
     | some e=>(evx cx F sc (frz F c ρ) e).map fun x=>(x,frz F c ρ)
     | none=>none))
  | .For _ iter _ [] _=>if aF iter then(evx cx F sc (frz F iter ρ) iter).map fun c=>(c,frz F iter ρ) else none
  | _=>none
end
structure Fd where
 ps:List Str
 N:List Str
 sc:Scope
 body:List Stmt
def bY(fd:Fd)(ds:List D):Rho:=(fd.ps.zip (ds.map Sl.sh))++(fd.N.drop fd.ps.length).map fun x=>(x,.no)
structure Pg where
 cst:List (Str×D)
 blt:List (Str×String)
 defs:List (Str×Fd)
 exs:List Str:=[]
 top:Str:="MinorError"
inductive Rs where
 | val (d:D) | exc (c:Str)
def Rs.val?:Option Rs->Option D
 | some (.val d)=>some d
 | _=>none
def Rs.exc?:Option Rs->Option Str
 | some (.exc c)=>some c
 | _=>none
def Pg.cx(P:Pg)(c:Str->List D->Option Rs):Cxt:=⟨P.cst,P.blt,P.defs.map (·.1),P.exs,P.top,true,fun f ds=>Rs.val? (c f ds),fun f ds=>Rs.exc? (c f ds)⟩
def tH(cx:Cxt)(F:Nat)(sc:Scope)(body:List Stmt)(ρ:Rho):Option Rs:=match iD (fun ρ s=>st cx F F sc ρ s) body ρ with
 | some (.ret d)=>some (.val d)
 | some (.nxt _)=>some (.val .non)
 | none=>(match oR (fun ρ s=>st cx F F sc ρ s) (fun ρ s=>stx cx F F sc ρ s) body ρ with
  | some (c,_)=>some (.exc c)
  | none=>none)
@[irreducible] def aZ (P:Pg) (F:Nat):Nat->Str->List D->Option Rs
 | 0,_,_=>none
 | k+1,f,ds=>match P.defs.lookup f with
  | none=>none
  | some fd=>if ds.length==fd.ps.length then tH (P.cx (aZ P F k)) F fd.sc fd.body (bY fd ds) else none
theorem pP{P:Pg}{F:Nat}{f:Str}{ds:List D}:aZ P F 0 f ds=none:=by with_unfolding_all rfl
theorem pO{P:Pg}{F k:Nat}{f:Str}{ds:List D}:aZ P F (k+1) f ds=(match P.defs.lookup f with
  | none=>none
  | some fd=>if ds.length==fd.ps.length then tH (P.cx (aZ P F k)) F fd.sc fd.body (bY fd ds) else none):=by with_unfolding_all rfl
@[irreducible] def oA (P:Pg) (F k:Nat) (f:Str) (ds:List D):Option D:=Rs.val? (aZ P F k f ds)
theorem mj{P:Pg}{F k:Nat}{f:Str}{ds:List D}:oA P F k f ds=Rs.val? (aZ P F k f ds):=by with_unfolding_all rfl
@[irreducible] def Gh (P:Pg) (F k:Nat) (f:Str) (ds:List D):Option Str:=Rs.exc? (aZ P F k f ds)
theorem Ag{P:Pg}{F k:Nat}{f:Str}{ds:List D}:Gh P F k f ds=Rs.exc? (aZ P F k f ds):=by with_unfolding_all rfl
end DE
namespace L2
open PySem PySem.Spec PyProof.Rows PySem.SeqAt
section
variable {prog:Program} {w:World} {A:Around} {I:Addr} {fp wr:List Addr} {n:Nat} {P:Nat->Value->Prop} {St:Nat->Heap->Prop}
end
end L2
namespace L2
open PySem PySem.Spec PyProof.Rows
section
variable (P:Program) (w:World)
end
section
variable {P:Program} {w:World} {H H':Hp} {h h':Heap} {a:Addr} {o:HO}
end
section
variable {P:Program} {w:World} {H:Hp} {h h':Heap} {x e:Addr} {o':HO}
end
section
variable {fs fs' ex ex':List Addr} {H H1 H2:Hp} {h h1 h2 h':Heap} {a x e:Addr} {o:HO}
end
section
variable {X:Cx} {z0:List (Addr×Obj)} {σ:List (Option V)} {H H':Hp} {s:Shared} {h':Heap}
end
section
variable {X:Cx}
variable {a b:Expr} {ta tb:TE} {pos:Pos}
variable {tA tB':TT} {rest:List Expr}
end
section
variable {X:Cx} {z0:List (Addr×Obj)} {σ:St} {H:Hp} {s:Shared} {a:Addr} {xs ys:List V}
end
section
variable {X:Cx} {z0:List (Addr×Obj)} {σ:St} {H:Hp} {s:Shared} {E:Value->Shared->Prop}
end
section
variable {X:Cx} {st:Stmt} {rest:List Stmt} {t u:TS} {e:Expr} {te:TE} {pos:Pos}
end
section
variable {X:Cx} {pos:Pos}
end
section
variable {X:Cx} {pos:Pos}
end
section
variable {X:Cx} {tg:Expr}
end
section
variable {X:Cx} {a b c:Expr} {ta tb tc:TE} {pos:Pos}
end
section
variable {X:Cx} {a b c:Expr} {ta tb tc:TE} {pos:Pos}
end
section
variable {prog:Program} {w:World} {A:Around} {E:Value->Shared->Prop} {s:Shared} {K:Zf} {x dx C f:Addr} {mA:Str->Option Value} {name:Str} {v:Value}
end
section
variable {P:Program} {w:World} {H H':Hp} {h h':Heap} {a C dx:Addr} {fs fs':List (Str×V)}
end
section
variable {X:Cx} {z0:List (Addr×Obj)} {σ:St} {H:Hp} {s:Shared} {a C dx:Addr} {fs:List (Str×V)} {f:Str} {v:V} {A:Around} {E:Value->Shared->Prop}
end
section
variable {X:Cx} {o e value:Expr} {f:Str} {pos pos' tpos:Pos} {ta tv:TE}
end
section
variable {X:Cx} {z0:List (Addr×Obj)} {σ:St} {H:Hp} {s:Shared} {A:Around} {E:Value->Shared->Prop} {Q:Value->Shared->Prop} {c:Value} {b:Bool}
end
section
variable {X:Cx} {e:Expr} {es:List Expr} {te:TE} {t:TA} {pos:Pos}
end
section
variable {X:Cx} {z0:List (Addr×Obj)} {σ:St} {H:Hp} {s s':Shared}
end
section
variable {X:Cx} {CX:CXT} {k:Nat} {f C:Addr} {fd:FuncData} {ps:List Str} {sp:Sp} {dvs:List V} {ds:List Value} {E:XK} {x m:Str} {p pos apos:Pos} {e o:Expr} {es:List Expr} {ta:TE} {t:TA}
end
section
variable {X:Cx} {CX:CXT} {k:Nat} {f C:Addr} {fd:FuncData} {ps ks:List Str} {sp:Sp} {E:XK} {x m:Str} {p pos apos kpos:Pos} {e o:Expr} {es:List Expr} {kws:List Keyword} {te ta:TE} {t tk:TA} {nm:Option Str}
variable {g:List Value->List Value->List Value} {gV:List V->List V->List V}
end
section
variable {X:Cx} {x:Str} {p pos:Pos} {e:Expr} {es:List Expr} {t:TA} {id T:String} {r:List V->Hp->VK->Prop}
end
section
variable {κ:Type} [DecidableEq κ]
def jG(kvs:List (κ×V))(k:κ):Option V:=(kvs.find? fun kv=>decide (kv.1=k)).map (·.2)
noncomputable def putK(kvs:List (κ×V))(k:κ)(v:V):List (κ×V) :=
 if(kvs.any fun kv=>decide (kv.1=k))=true then kvs.map (fun kv=>if kv.1=k then(kv.1,v) else kv) else kvs++[(k,v)]
def pH(kvs:List (κ×V))(k:κ):List (κ×V):=kvs.filter fun kv=>decide (kv.1≠k)
theorem iB{p:κ×V}{r:List (κ×V)}{k:κ}(e:p.1=k):jG (p::r) k=some p.2:=by simp[jG,List.find?_cons,e]
theorem iC{p:κ×V}{r:List (κ×V)}{k:κ}(e:¬ p.1=k):jG (p::r) k=jG r k:=by simp[jG,List.find?_cons,e]
theorem pW(k:κ):∀ kvs:List (κ×V),(kvs.any fun kv=>decide (kv.1=k))=(jG kvs k).isSome
 | []=>rfl
 | p::r=>by
  rw[C4z]
  by_cases e:p.1=k
  ·simp only[iB e,S3z e,Bool.true_or,Option.isSome_some]
  ·rw[iC e,A3z e,Bool.false_or];exact pW k r
theorem jl(kvs:List (κ×V))(k:κ)(v:V):(putK kvs k v).length<=kvs.length+1:=by
 unfold putK;split
 ·rw[D3z];omega
 ·rw[U1z,O2z,List.length_nil];omega
theorem j7.isSome_eq{o:Option V}{u:Option Value}(r:j7 o u):o.isSome=u.isSome:=by
 cases o with
 | none=>cases u with
  | none=>rfl
  | some _=>exact(show False from r).elim
 | some _=>cases u with
  | none=>exact(show False from r).elim
  | some _=>rfl
theorem j7.getD{o:Option V}{u:Option Value}{d:V}{d':Value}(r:j7 o u)(rd:RelV d d'):RelV (o.getD d) (u.getD d'):=by
 cases o with
 | none=>cases u with
  | none=>exact rd
  | some _=>exact(show False from r).elim
 | some _=>cases u with
  | none=>exact(show False from r).elim
  | some _=>exact r
theorem KV.val{kvs:List (κ×V)}{vs:List (κ×Value)}(r:KV kvs vs)(k:κ):j7 (jG kvs k) (valueAt vs k):=by
 unfold KV at r
 induction r with
 | nil=>exact True.intro
 | @cons p q ps qs h t ih =>
  obtain⟨h1,h2⟩:=h
  by_cases e:p.1=k
  ·have e':q.1=k:=h1.symm.trans e
   have b:valueAt (q::qs) k=some q.2:=by simp[valueAt,List.find?_cons,e']
   rw[iB e,b];exact h2
  ·have e':¬ q.1=k:=fun z=>e (h1.trans z)
   have b:valueAt (q::qs) k=valueAt qs k:=by simp[valueAt,List.find?_cons,e']
   rw[iC e,b];exact ih
theorem KV.any{kvs:List (κ×V)}{vs:List (κ×Value)}(r:KV kvs vs)(k:κ):(kvs.any fun kv=>decide (kv.1=k))=vs.any fun kv=>decide (kv.1=k):=by
 unfold KV at r
 induction r with
 | nil=>rfl
 | cons h t ih=>rw[C4z,C4z,ih,h.1]
theorem KV.repl{kvs:List (κ×V)}{vs:List (κ×Value)}(r:KV kvs vs)(k:κ){y:V}{u:Value}(ry:RelV y u) :
  KV (kvs.map fun kv=>if kv.1=k then(kv.1,y) else kv) (vs.map fun kv=>if kv.1=k then(kv.1,u) else kv):=by
 unfold KV at r ⊢
 induction r with
 | nil=>exact .nil
 | @cons p q ps qs h t ih =>
  rw[Z3z,Z3z];refine .cons ?_ ih;obtain⟨h1,h2⟩:=h
  by_cases e:p.1=k
  ·rw[D5z e,D5z (h1.symm.trans e)];exact⟨h1,ry⟩
  ·rw[E5z e,E5z (fun z=>e (h1.trans z))];exact⟨h1,h2⟩
theorem KV.put{kvs:List (κ×V)}{vs:List (κ×Value)}(r:KV kvs vs)(k:κ){y:V}{u:Value}(ry:RelV y u):KV (putK kvs k y) (stored vs k u):=by
 unfold putK stored;rw[r.any k]
 by_cases e:(vs.any fun kv=>decide (kv.1=k))=true
 ·rw[D5z e,D5z e];exact r.repl k ry
 ·rw[E5z e,E5z e];exact Paired.snoc r ⟨rfl,ry⟩
theorem KV.drop{kvs:List (κ×V)}{vs:List (κ×Value)}(r:KV kvs vs)(k:κ):KV (pH kvs k) (without vs k):=by
 unfold KV at r ⊢;unfold pH without
 induction r with
 | nil=>exact .nil
 | @cons p q ps qs h t ih =>
  obtain⟨h1,h2⟩:=h;rw[V2z,V2z]
  by_cases e:p.1=k
  ·have a:¬ decide (p.1≠k)=true:=by simp[e]
   have b:¬ decide (q.1≠k)=true:=by simp[h1.symm.trans e]
   rw[E5z a,E5z b];exact ih
  ·have e':¬ q.1=k:=fun z=>e (h1.trans z)
   have a:decide (p.1≠k)=true:=by simp[e]
   have b:decide (q.1≠k)=true:=by simp[e']
   rw[D5z a,D5z b];exact .cons ⟨h1,h2⟩ ih
theorem KV.length{kvs:List (κ×V)}{vs:List (κ×Value)}(r:KV kvs vs):kvs.length=vs.length:=Paired.length r
theorem z7(kvs:List (κ×V))(k:κ):(pH kvs k).length<=kvs.length:=List.length_filter_le _ _
end
theorem m9{P:Program}{w:World}{k:Key}{u:Value}(r:RelV (kV k) u):(aW P w).is k u=true:=by
 cases k with
 | inl i=>obtain⟨t,e⟩:=(show ∃ t,u=Value.int i t from r);subst e;exact o8 P w i t
 | inr x=>obtain⟨t,e⟩:=(show ∃ t,u=Value.str x t from r);subst e;exact o7 P w x t
theorem ni{P:Program}{w:World}:∀ {ks:List Key} {us:List Value},Vals (ks.map kV) us->ItemsAre (aW P w) ks us
 | [],_,r=>by rw[K4z] at r;cases r;exact .nil
 | k::ks,_,r=>by
  rw[Z3z] at r
  cases r with
  | cons h t=>exact .cons (m9 h) (ni t)
abbrev KT(H:Hp):List (List Key×V)->List (List Key×Addr×Value)->Prop:=Paired fun p q=>p.1=q.1/\H q.2.1=some (.tup (p.1.map kV))/\RelV p.2 q.2.2
theorem KT.val{H:Hp}{kvs:List (List Key×V)}{xs:List (List Key×Addr×Value)}(r:KT H kvs xs)(k:List Key):j7 (jG kvs k) ((atKey xs k).map (·.2)):=by
 induction r with
 | nil=>exact True.intro
 | @cons p q ps qs h t ih =>
  obtain⟨h1,_,h2⟩:=h
  by_cases e:p.1=k
  ·have e':q.1=k:=h1.symm.trans e
   have b:atKey (q::qs) k=some q.2:=by simp[atKey,List.find?_cons,e']
   rw[iB e,b];exact h2
  ·have e':¬ q.1=k:=fun z=>e (h1.trans z)
   have b:atKey (q::qs) k=atKey qs k:=by simp[atKey,List.find?_cons,e']
   rw[iC e,b];exact ih
theorem KT.repl{H:Hp}{kvs:List (List Key×V)}{xs:List (List Key×Addr×Value)}(r:KT H kvs xs)(k:List Key){y:V}{u:Value}(ry:RelV y u) :
  KT H (kvs.map fun kv=>if kv.1=k then(kv.1,y) else kv) (xs.map (putAt k u)):=by
 induction r with
 | nil=>exact .nil
 | @cons p q ps qs h t ih =>
  rw[Z3z,Z3z];refine .cons ?_ ih;obtain⟨h1,h2,h3⟩:=h;unfold putAt
  by_cases e:p.1=k
  ·rw[D5z e,D5z (h1.symm.trans e)];exact⟨h1,h2,ry⟩
  ·rw[E5z e,E5z (fun z=>e (h1.trans z))];exact⟨h1,h2,h3⟩
theorem KT.put{H:Hp}{kvs:List (List Key×V)}{xs:List (List Key×Addr×Value)}(r:KT H kvs xs)(k:List Key){b:Addr}{y:V}{u:Value}(hb:H b=some (.tup (k.map kV)))(ry:RelV y u) :
  KT H (putK kvs k y) (storedH xs k b u):=by
 have e:(kvs.any fun kv=>decide (kv.1=k))=(atKey xs k).isSome:=by
  rw[pW,(r.val k).isSome_eq,H2z]
 unfold putK storedH;rw[e]
 by_cases q:(atKey xs k).isSome=true
 ·rw[D5z q,D5z q];exact r.repl k ry
 ·rw[E5z q,E5z q];exact Paired.snoc r ⟨rfl,hb,ry⟩
theorem KT.keeps{H H':Hp}{kvs:List (List Key×V)}{xs:List (List Key×Addr×Value)}(r:KT H kvs xs)(ht:∀ b ys,H b=some (.tup ys)->H' b=some (.tup ys)):KT H' kvs xs :=
 Paired.mapP r fun _ _ z=>⟨z.1,ht _ _ z.2.1,z.2.2⟩
section
variable {P:Program} {w:World} {H:Hp} {h:Heap} {a:Addr}
theorem Ht{u:HO}(ok:HOk P w H h)(e:Rd H a u):cg P w H h a u:=e.ok ok
theorem nJ{kvs:List (Key×V)}(ok:HOk P w H h)(e:Rd H a (.dK kvs)):kvs.length<=sizeLine/\(a==sysModules)=false/\∃ vs,KV kvs vs/\h.DictOf (aW P w) a vs :=
 show cg P w H h a (.dK kvs) from Ht ok e
theorem Jt{kvs:List (Key×V)}(ok:HOk P w H h)(e:H a=some (.dK kvs)):kvs.length<=sizeLine/\(a==sysModules)=false/\∃ vs,KV kvs vs/\h.DictOf (aW P w) a vs:=nJ ok (.inl e)
theorem jY{ks:List Key}(ok:HOk P w H h)(e:H a=some (.tup (ks.map kV))):(tupleKind (aW P w)).is h ks a:=by
 obtain⟨_,its,r,o,h1,h2,n,h3⟩:=(show cg P w H h a (.tup (ks.map kV)) from ok a _ e);exact⟨o,its.toArray,n,h1,h2,h3,by simpa using ni r⟩
theorem pG{kvs:List (List Key×V)}(ok:HOk P w H h)(e:Rd H a (.dT kvs)):kvs.length<=sizeLine/\(a==sysModules)=false /\
  ∃ xs,KT H kvs xs/\h.DictOfH (tupleKind (aW P w)) a xs:=by
 obtain⟨z,y,xs,r,o,es,ep,h1,h2,h3,h4,h5⟩:=(show cg P w H h a (.dT kvs) from Ht ok e);refine⟨z,y,xs,r,o,es,ep,h1,h2,h3,h4,fun x hx=>?_,h5⟩
 have all:∀ {l:List (List Key×V)} {m:List (List Key×Addr×Value)},KT H l m->∀ x∈m,(tupleKind (aW P w)).is h x.1 x.2.1:=by
  intro l m q
  induction q with
  | nil=>intro x hx;exact nomatch hx
  | @cons p q ps qs hq t ih =>
   intro x hx;rcases List.mem_cons.mp hx with e | hx
   ·subst e
    exact jY ok (by rw[<- hq.1];exact hq.2.1)
   ·exact ih x hx
 exact all r x hx
theorem Q0{kvs:List (List Key×V)}(ok:HOk P w H h)(e:H a=some (.dT kvs)):kvs.length<=sizeLine/\(a==sysModules)=false /\
  ∃ xs,KT H kvs xs/\h.DictOfH (tupleKind (aW P w)) a xs:=pG ok (.inl e)
end
def pU(H:Hp)(a:Addr)(y:V)(r:Option V):Prop :=
 (∃ kvs k,Rd H a (.dK kvs)/\y=kV k/\r=jG kvs k)\/∃ kvs k b,Rd H a (.dT kvs)/\y=.ref b/\H b=some (.tup (k.map kV))/\r=jG kvs k
def JD(H:Hp)(a:Addr)(y v:V)(H':Hp):Prop :=
 (∃ kvs k,H a=some (.dK kvs)/\y=kV k/\kvs.length<sizeLine/\H'=upd H a (.dK (putK kvs k v))) \/
 ∃ kvs k b,H a=some (.dT kvs)/\y=.ref b/\H b=some (.tup (k.map kV))/\kvs.length<sizeLine/\H'=upd H a (.dT (putK kvs k v))
theorem pU.k{H:Hp}{a:Addr}{kvs:List (Key×V)}{k:Key}(e:H a=some (.dK kvs)):pU H a (kV k) (jG kvs k):=.inl ⟨kvs,k,.inl e,rfl,rfl⟩
theorem JD.k{H:Hp}{a:Addr}{kvs:List (Key×V)}{k:Key}{v:V}(e:H a=some (.dK kvs))(hl:kvs.length<sizeLine):JD H a (kV k) v (upd H a (.dK (putK kvs k v))):=.inl ⟨kvs,k,e,rfl,hl,rfl⟩
section
variable {X:Cx} {z0:List (Addr×Obj)} {σ:St} {H:Hp} {s:Shared} {a:Addr} {y v:V} {u r:Value} {o:Option V} {A:Around} {E:Value->Shared->Prop}
theorem Inv.big(I:Inv X z0 σ H s):sysModules<s.heap.objs.size:=by
 have h:mainGlobals<s.heap.objs.size:=(I.mod.glob.keeps I.bk).lt;exact Nat.lt_trans (by decide) h
theorem wY{Q:Value->Shared->Prop}(hu:A.units+1<cLine)(I:Inv X z0 σ H s)(g:pU H a y (some v))(ry:RelV y u)(h:∀ w' s',Inv X z0 σ H s'->RelV v w'->Q w' s') :
  wpAny (model X.prog X.w) A (getItem (.ref a) u) Q E s:=by
 rcases g with⟨kvs,k,e,ey,l⟩ | ⟨kvs,k,b,e,ey,eb,l⟩
 ·subst ey
  obtain⟨z,hd,vs,rel,dd⟩:=nJ I.hok e;obtain⟨w',hw,rw'⟩:=j7.some_of (v:=v) (o:=valueAt vs k) (by rw[l];exact rel.val k);exact wpAny_getItem_of (m9 ry) dd.mapOf hw (h w' _ (I.tok _) rw')
 ·subst ey
  cases (show u=Value.ref b from ry);obtain⟨z,hd,xs,rel,dd⟩:=pG I.hok e;obtain⟨w',hw,rw'⟩:=j7.some_of (v:=v) (o:=(atKey xs k).map (·.2)) (by rw[l];exact rel.val k);obtain⟨p,hp,hp2⟩:=Q0z.mp hw;refine wpAny_getItem_heap (Y1z hu) (jY I.hok eb) dd hp ?_;rw[hp2];exact h w' _ (I.tok _) rw'
theorem VP{Q:Value->Shared->Prop}(hu:A.units+1<cLine)(I:Inv X z0 σ H s)(g:pU H a y o)(ry:RelV y u)(h:∀ s',Inv X z0 σ H s'->Q (.bool o.isSome) s') :
  wpAny (model X.prog X.w) A (compareOp .In u (.ref a)) Q E s:=by
 rcases g with⟨kvs,k,e,ey,l⟩ | ⟨kvs,k,b,e,ey,eb,l⟩
 ·subst ey
  obtain⟨z,hd,vs,rel,dd⟩:=nJ I.hok e;refine wpAny_in_of (m9 ry) hd dd.mapOf ?_;rw[<- (rel.val k).isSome_eq,<- l];exact h _ (I.tok _)
 ·subst ey
  cases (show u=Value.ref b from ry);obtain⟨z,hd,xs,rel,dd⟩:=pG I.hok e;refine wpAny_in_heap (Y1z hu) (jY I.hok eb) hd dd ?_;have q:=(rel.val k).isSome_eq;rw[H2z] at q;rw[<- q,<- l];exact h _ (I.tok _)
theorem Ga{Q:Value->Shared->Prop}(hu:A.units+1<cLine)(I:Inv X z0 σ H s)(g:pU H a y o)(ry:RelV y u)(h:∀ s',Inv X z0 σ H s'->Q (.bool (!o.isSome)) s') :
  wpAny (model X.prog X.w) A (compareOp .NotIn u (.ref a)) Q E s:=by
 rcases g with⟨kvs,k,e,ey,l⟩ | ⟨kvs,k,b,e,ey,eb,l⟩
 ·subst ey
  obtain⟨z,hd,vs,rel,dd⟩:=nJ I.hok e;refine wpAny_notIn_of (m9 ry) hd dd.mapOf ?_;rw[<- (rel.val k).isSome_eq,<- l];exact h _ (I.tok _)
 ·subst ey
  cases (show u=Value.ref b from ry);obtain⟨z,hd,xs,rel,dd⟩:=pG I.hok e;refine wpAny_notIn_heap (Y1z hu) (jY I.hok eb) hd dd ?_;have q:=(rel.val k).isSome_eq;rw[H2z] at q;rw[<- q,<- l];exact h _ (I.tok _)
theorem pJ{h':Heap}{t':Nat}{ob:HO}(I:Inv X z0 σ H s)(mu:Mut (H a))(hs:Heap.SameBut a s.heap h')(he:∃ q,h'.get? a=some q)(new:cg X.prog X.w (upd H a ob) h' a ob) :
  Inv X z0 σ (upd H a ob) { s with heap:=h',toks:=t' } :=
 I.write (x:=a) (e:=a) mu (.inl rfl) (fun b q hb z=>(hs.2 b hb).trans z) he new
theorem BJ{P:Program}{w:World}{H':Hp}{h':Heap}{kvs:List (Key×V)}{vs:List (Key×Value)}(z:kvs.length<=sizeLine)(hd:(a==sysModules)=false)(rel:KV kvs vs)(dd:h'.DictOf (aW P w) a vs) :
  cg P w H' h' a (.dK kvs):=⟨z,hd,vs,rel,dd⟩
theorem wX{H':Hp}{Q:Unit->Shared->Prop}(hu:A.units+1<cLine)(I:Inv X z0 σ H s)(g:JD H a y v H')(ry:RelV y u)(rv:RelV v r)(h:∀ s',Inv X z0 σ H' s'->Q () s') :
  wpAny (model X.prog X.w) A (setItem (.ref a) u r) Q E s:=by
 rcases g with⟨kvs,k,e,ey,l,eH⟩ | ⟨kvs,k,b,e,ey,eb,l,eH⟩
 ·subst ey eH
  obtain⟨z,hd,vs,rel,dd⟩:=Jt I.hok e
  have hz:vs.length<=sizeLine:=by rw[<- rel.length];exact z
  have hl:(putK kvs k v).length<=sizeLine:=by have:=jl kvs k v;omega
  refine wpAny_setItem_pairs (hsz:=hz) (m9 ry) dd fun h' dd' hs=>h _ ?_;have he:∃ q,h'.get? a=some q:=let ⟨q,_,_,hq,_⟩:=dd';⟨q,hq⟩;exact pJ I (by rw[e];exact True.intro) hs he (BJ hl hd (rel.put k rv) dd')
 ·subst ey eH
  cases (show u=Value.ref b from ry);obtain⟨z,hd,xs,rel,dd⟩:=Q0 I.hok e
  have hz:xs.length<=sizeLine:=by rw[<- Paired.length rel];exact z
  have hl:(putK kvs k v).length<=sizeLine:=by have:=jl kvs k v;omega
  refine wpAny_setItem_heap (hsz:=hz) (Y1z hu) (jY I.hok eb) dd fun h' dd' hs=>h _ ?_;obtain⟨q,es,ep,hq,h2,h3,h4,_,h5⟩:=dd';refine pJ I (by rw[e];exact True.intro) hs ⟨q,hq⟩ ⟨hl,hd,_,(rel.put k eb rv).keeps fun c ys ec=>?_,q,es,ep,hq,h2,h3,h4,h5⟩;rw[ak (m8 ec e (fun z=>nomatch z))];exact ec
end
section
variable {X:Cx} {z0:List (Addr×Obj)} {σ:St} {H:Hp} {s:Shared} {a:Addr} {kvs:List (Key×V)} {k:Key} {u:Value} {A:Around} {E:Value->Shared->Prop}
theorem Q5{v:V}{more:List Value}{Q:Value->Shared->Prop}(I:Inv X z0 σ H s)(e:H a=some (.dK kvs))(ry:RelV (kV k) u)(l:jG kvs k=some v)(hm:more=[]\/∃ x,more=[x])
  (h:∀ w' s',Inv X z0 σ (upd H a (.dK (pH kvs k))) s'->RelV v w'->Q w' s'):wpAny (model X.prog X.w) A (call (.builtin "dict.pop") (.ref a::u::more)) Q E s:=by
 obtain⟨z,hd,vs,rel,dd⟩:=Jt I.hok e;obtain⟨w',hw,rw'⟩:=j7.some_of (v:=v) (o:=valueAt vs k) (by rw[<- l];exact rel.val k)
 have hp:(keyPart u).isSome=true:=by
  cases k with
  | inl i=>obtain⟨t,q⟩:=(show ∃ t,u=Value.int i t from ry);subst q;rfl
  | inr x=>obtain⟨t,q⟩:=(show ∃ t,u=Value.str x t from ry);subst q;rfl
 have ha:argsOk "dict.pop" ⟨.ref a::u::more,[]⟩:=by
  rcases hm with q | ⟨x,q⟩
  ·subst q;exact PySem.F.args_dict_pop_2 _ _
  ·subst q;exact PySem.F.args_dict_pop_3 _ _ _
 refine call_meetsIn PySem.F.slot_dict_pop dd.typeIs PySem.F.entry_dict_pop ha (meets_dict_pop_there (aW X.prog X.w) a (m9 ry) more hm hp)
  ⟨vs,w',dd,by rw[<- rel.length];exact z,hw,fun h' dd' hs=>h w' _ ?_ rw'⟩
 have he:∃ q,h'.get? a=some q:=let ⟨q,_,_,hq,_⟩:=dd';⟨q,hq⟩
 exact pJ I (by rw[e];exact True.intro) hs he (BJ (G4z (z7 kvs k) z) hd (rel.drop k) dd')
end
def Rc(i:Expr):Prop:=∀ ov iv,subscripted i false ov iv=operate [ov,iv] (getItem ov iv)
theorem uF{prog:Program}{w:World}{A:Around}{E:Value->Shared->Prop}{s:Shared}{env:Env}{value slice:Expr}{pos:Pos}{T id:String}{Q:Value->Shared->Prop}
  (hl:typeLookup (.type T) "__getitem__"=pure (some (.builtin id))) (hs:Rc slice)
  (h:wpAny (model prog w) A (eval value env) (fun o s₁=>wpAny (model prog w) A (eval slice env) (fun i s₂=>s₂.TypeIs o T/\wpAny (model prog w) A (getItem o i) Q E s₂) E s₁) E s) :
  wpAny (model prog w) A (eval (.Subscript value slice pos) env) Q E s:=by
 refine Subscript_ (R4z h (fun o s₁ h₁=>R4z h₁ (fun i s₂ h₂=>?_) fun _ _ x=>x) fun _ _ x=>x);obtain⟨hT,h₂⟩:=h₂;unfold subscriptTail;refine S4z ?_;rw[getitemInPython_of_ne hT.not_modules];refine S4z (M3z hT hl ?_)
 have fin:wpAny (model prog w) A (subscripted slice false o i) (fun r s₃=>wpAny (model prog w) A (letTemporaryGo value o r >>=fun _=>pure r) Q E s₃) E s₂:=by
  rw[hs o i];exact wpAny_operating (R4z h₂ (fun r s₃ h₃=>S4z (wpAny_letTemporaryGo (T4z h₃))) fun _ _ x=>x)
 first
  | exact T4z (S4z fin)
  | exact S4z (T4z (S4z fin))
  | exact S4z fin
theorem pI{X:Cx}{z0:List (Addr×Obj)}{σ:St}{H:Hp}{s:Shared}{a:Addr}{y:V}{o:Option V}(I:Inv X z0 σ H s)(g:pU H a y o):s.TypeIs (.ref a) "dict":=by
 rcases g with⟨kvs,k,e,_,_⟩ | ⟨kvs,k,b,e,_,_,_⟩
 ·obtain⟨_,_,vs,_,dd⟩:=nJ I.hok e
  exact dd.typeIs
 ·obtain⟨_,_,xs,_,dd⟩:=pG I.hok e
  exact dd.typeIs
def Ke(td ty:TE):TE:=fun σ H Q=>td σ H fun x H1=>ty σ H1 fun y H2=>∃ a v,x=.ref a/\pU H2 a y (some v)/\Q v H2
def UL(ty td:TE):TE:=fun σ H Q=>ty σ H fun y H1=>td σ H1 fun x H2=>∃ a o,x=.ref a/\pU H2 a y o/\Q (.bl o.isSome) H2
def Cg(ty td:TE):TE:=fun σ H Q=>ty σ H fun y H1=>td σ H1 fun x H2=>∃ a o,x=.ref a/\pU H2 a y o/\Q (.bl (!o.isSome)) H2
def Kp(td ty tv:TE):TS:=fun D σ H=>tv σ H fun v H1=>td σ H1 fun x H2=>ty σ H2 fun y H3=>∃ a H4,x=.ref a/\JD H3 a y v H4/\D.nx σ H4
section
variable {X:Cx} {o i e value:Expr} {pos pos' tpos:Pos} {td ty tv:TE}
theorem Dn(hu:X.A.units+1<cLine)(ho:PE X o td)(hi:PE X i ty)(hs:Rc i):PE X (.Subscript o i pos) (Ke td ty):=by
 intro z0 s σ H Q I h;refine uF PySem.F.slot_dict_getitem.lookup hs (thn (ho z0 s σ H _ I h) fun u s1 ⟨x,H1,I1,rx,q1⟩=>thn (hi z0 s1 σ H1 _ I1 q1) fun iv s2 ⟨y,H2,I2,ry,a,v,ex,g,q2⟩=>?_);subst ex;obtain rfl:u=Value.ref a:=rx;exact⟨pI I2 g,wY hu I2 g ry fun w' s3 I3 rw'=>⟨v,H2,I3,rw',q2⟩⟩
theorem Ie(hu:X.A.units+1<cLine)(hi:PE X i ty)(ho:PE X o td):PC X .In i o (UL ty td):=by
 intro z0 s σ H Q I h;refine thn (hi z0 s σ H _ I h) fun iv s1 ⟨y,H1,I1,ry,q1⟩=>thn (ho z0 s1 σ H1 _ I1 q1) fun u s2 ⟨x,H2,I2,rx,a,ov,ex,g,q2⟩=>?_;subst ex;obtain rfl:u=Value.ref a:=rx;exact VP hu I2 g ry fun s3 I3=>⟨.bl ov.isSome,H2,I3,rfl,q2⟩
theorem vm(hu:X.A.units+1<cLine)(hi:PE X i ty)(ho:PE X o td):PC X .NotIn i o (Cg ty td):=by
 intro z0 s σ H Q I h;refine thn (hi z0 s σ H _ I h) fun iv s1 ⟨y,H1,I1,ry,q1⟩=>thn (ho z0 s1 σ H1 _ I1 q1) fun u s2 ⟨x,H2,I2,rx,a,ov,ex,g,q2⟩=>?_;subst ex;obtain rfl:u=Value.ref a:=rx;exact Ga hu I2 g ry fun s3 I3=>⟨.bl (!ov.isSome),H2,I3,rfl,q2⟩
theorem Dh(hu:X.A.units+1<cLine)(ho:PE X o td)(hi:PE X i ty)(hv:PE X value tv)(hs:swapsWith value (some (.Subscript o i pos')) pos.line X.env=pure false) :
  PS X (.Assign [.Subscript o i pos'] value pos) (Kp td ty tv):=by
 intro z0 s σ H D I h;refine wpAny_Assign_Subscript (thn (hv z0 s σ H _ I h) fun r s1 ⟨v,H1,I1,rv,q1⟩=>thn (ho z0 s1 σ H1 _ I1 q1) fun u s2 ⟨x,H2,I2,rx,q2⟩=>thn (hi z0 s2 σ H2 _ I2 q2) fun iv s3 ⟨y,H3,I3,ry,a,H4,ex,g,q3⟩=>?_) hs;subst ex;obtain rfl:u=Value.ref a:=rx;exact wX hu I3 g ry rv fun s4 I4=>⟨σ,H4,I4,q3⟩
end
theorem Ab{P:Program}{w:World}{H:Hp}(h:Heap)(hb:sysModules<h.objs.size):cg P w H (h.push { cls:=.type "dict",data:=.dict #[] }) h.objs.size (.dK []) :=
 ⟨O4z _,J1z.mpr (B5z (F4z hb)),[],.nil,Heap.DictOf.new h⟩
def G9:TE:=fun _ H Q=>∀ p,H p=none->Q (.ref p) (upd H p (.dK []))
section
variable {X:Cx} {pos:Pos}
theorem yO:PE X (.Dict [] [] pos) G9:=fun z0 s σ H Q I h =>
 wpAny_Dict_empty ⟨.ref s.heap.objs.size,_,I.laid (a:=s.heap.objs.size) (o:=.dK []) (t':=s.toks) (fun _ _ q=>Heap.get?_push_of_some _ q) (M4z _) (Ab s.heap I.big),rfl,h _ (I.hok.fresh (M4z _))⟩
end
structure M1 (X:Cx) (o:Expr) (m:Str) (apos:Pos) (e:Expr) (cpos:Pos):Prop where
 base:attributeBase o m X.env (eval o X.env)=eval o X.env
 few:((backTo cpos (starEach [e] X.env)).all (fun x => !x.1)&&(backToKw cpos (keywordEach [] X.env)).all (fun x=>x.1.isSome)
  && decide (([e]:List Expr).length+([]:List Keyword).length+(if([]:List Keyword).isEmpty then 0 else 1)<30))=true
 line:(apos.endLine==cpos.line)=true
 trees:backTo cpos (starEach [e] X.env)=[(false,eval e X.env)]
structure M2 (X:Cx) (o:Expr) (m:Str) (apos:Pos) (e f:Expr) (cpos:Pos):Prop where
 base:attributeBase o m X.env (eval o X.env)=eval o X.env
 few:((backTo cpos (starEach [e,f] X.env)).all (fun x => !x.1)&&(backToKw cpos (keywordEach [] X.env)).all (fun x=>x.1.isSome)
  && decide (([e,f]:List Expr).length+([]:List Keyword).length+(if([]:List Keyword).isEmpty then 0 else 1)<30))=true
 line:(apos.endLine==cpos.line)=true
 trees:backTo cpos (starEach [e,f] X.env)=[(false,eval e X.env),(false,eval f X.env)]
def IsD(H:Hp)(a:Addr):Prop:=(∃ kvs,Rd H a (.dK kvs))\/∃ kvs,Rd H a (.dT kvs)
theorem Bq{X:Cx}{z0:List (Addr×Obj)}{σ:St}{H:Hp}{s:Shared}{a:Addr}(I:Inv X z0 σ H s)(d:IsD H a) :
  s.TypeIs (.ref a) "dict"/\(∀ b,Value.ref a=.ref b->∃ ob,s.heap.get? b=some ob/\ob.dict=none)/\(a==sysModules)=false:=by
 rcases d with⟨kvs,e⟩ | ⟨kvs,e⟩
 ·obtain⟨_,hd,vs,_,dd⟩:=nJ I.hok e
  refine⟨dd.typeIs,fun b q=>?_,hd⟩;cases q;obtain⟨ob,_,_,h1,h2,_⟩:=dd;exact⟨ob,h1,h2.2.1⟩
 ·obtain⟨_,hd,xs,_,dd⟩:=pG I.hok e
  refine⟨dd.typeIs,fun b q=>?_,hd⟩;cases q;obtain⟨ob,_,_,h1,h2,_⟩:=dd;exact⟨ob,h1,h2.2.1⟩
section
variable {X:Cx} {z0:List (Addr×Obj)} {σ:St} {H:Hp} {s:Shared} {a:Addr} {y d:V} {u r:Value} {o:Option V} {A:Around} {E:Value->Shared->Prop}
theorem Ju{Q:Value->Shared->Prop}(hu:A.units+1<cLine)(I:Inv X z0 σ H s)(g:pU H a y o)(ry:RelV y u)(h:∀ w' s',Inv X z0 σ H s'->RelV (o.getD .non) w'->Q w' s') :
  wpAny (model X.prog X.w) A (call (.builtin "dict.get") [.ref a,u]) Q E s:=by
 rcases g with⟨kvs,k,e,ey,l⟩ | ⟨kvs,k,b,e,ey,eb,l⟩
 ·subst ey
  obtain⟨z,hd,vs,rel,dd⟩:=nJ I.hok e;refine call_meetsIn U0z dd.typeIs PySem.F.entry_dict_get (PySem.F.args_dict_get_2 _ _) (meets_dict_get (aW X.prog X.w) a (m9 ry) hd) ⟨_,dd.mapOf,h _ _ (I.tok _) ?_⟩;rw[l];exact(rel.val k).getD rfl
 ·subst ey
  cases (show u=Value.ref b from ry);obtain⟨z,hd,xs,rel,dd⟩:=pG I.hok e;refine call_meetsIn U0z dd.typeIs PySem.F.entry_dict_get (PySem.F.args_dict_get_2 _ _) (meetsH_dict_get (tupleKind (aW X.prog X.w)) a b hd) ⟨Y1z hu,k,xs,jY I.hok eb,dd,h _ _ (I.tok _) ?_⟩;rw[l];exact(rel.val k).getD rfl
end
def Hf(td ty:TE):TE:=fun σ H Q=>td σ H fun x H1=>∃ a,x=.ref a/\IsD H1 a/\ty σ H1 fun y H2=>∃ o,pU H2 a y o/\Q (o.getD .non) H2
def G8(td ty:TE):TE:=fun σ H Q=>td σ H fun x H1=>∃ a,x=.ref a/\IsD H1 a/\ty σ H1 fun y H2=>∃ kvs k v,H2 a=some (.dK kvs)/\y=kV k/\jG kvs k=some v/\Q v (upd H2 a (.dK (pH kvs k)))
section
variable {X:Cx} {o e f:Expr} {apos cpos:Pos} {td ty tx:TE}
theorem yP(hu:X.A.units+1<cLine)(ho:PE X o td)(he:PE X e ty)(m:M1 X o "get" apos e cpos):PE X (.Call (.Attribute o "get" apos) [e] [] cpos) (Hf td ty):=by
 intro z0 s σ H Q I h;refine wpAny_Call_method m.base m.few m.line PySem.F.plainAttrs_dict U0z PySem.F.type_dict_get (thn (ho z0 s σ H _ I h) fun u s1 ⟨x,H1,I1,rx,a,ex,d,q1⟩=>?_);subst ex;obtain rfl:u=Value.ref a:=rx;obtain⟨t1,t2,_⟩:=Bq I1 d;refine⟨t1,t2,?_⟩;rw[m.trees];refine P0z rfl (A1z (R1z (thn (he z0 s1 σ H1 _ I1 q1) fun iv s2 ⟨y,H2,I2,ry,ov,g,q2⟩=>C2z ?_)));exact Ju hu I2 g ry fun w' s3 I3 rw'=>⟨_,H2,I3,rw',q2⟩
theorem yN(ho:PE X o td)(he:PE X e ty)(m:M1 X o "pop" apos e cpos):PE X (.Call (.Attribute o "pop" apos) [e] [] cpos) (G8 td ty):=by
 intro z0 s σ H Q I h;refine wpAny_Call_method m.base m.few m.line PySem.F.plainAttrs_dict PySem.F.slot_dict_pop PySem.F.type_dict_pop (thn (ho z0 s σ H _ I h) fun u s1 ⟨x,H1,I1,rx,a,ex,d,q1⟩=>?_);subst ex;obtain rfl:u=Value.ref a:=rx;obtain⟨t1,t2,_⟩:=Bq I1 d;refine⟨t1,t2,?_⟩;rw[m.trees];refine P0z rfl (A1z (R1z (thn (he z0 s1 σ H1 _ I1 q1) fun iv s2 ⟨y,H2,I2,ry,kvs,k,v,ea,ey,l,q2⟩=>C2z ?_)));subst ey;exact Q5 I2 ea ry l (.inl rfl) fun w' s3 I3 rw'=>⟨v,_,I3,rw',q2⟩
end
section
variable {X:Cx} {z0:List (Addr×Obj)} {σ:St} {H:Hp} {s:Shared} {a:Addr} {kvs:List (Key×V)} {A:Around} {E:Value->Shared->Prop}
end
section
variable {X:Cx} {z0:List (Addr×Obj)} {σ:St} {H:Hp} {s:Shared} {a:Addr} {y:V} {u:Value} {A:Around} {E:Value->Shared->Prop}
end
end L2
namespace Att
open PySem PySem.W PySem.Calls PyProof.Rows
section
variable {prog:Program} {w:World} {A:Around} {E:Value->Shared->Prop} {s:Shared} {K:Frag}
end
end Att
namespace L2
open PySem PySem.Spec PyProof.Rows
section
variable {P:Program} {w:World} {K:Zf} {mg:Str->Option Value} {base:Heap}
end
section
variable {X:Cx}
end
section
variable {κ:Type} [DecidableEq κ]
end
def KDc(K:Zf)(a:Addr)(kvs:List (Key×V)):Prop:=∃ (o:Obj) (es:Array DictEntry) (n:Nat),K.lookup a=some o/\o.ExactDict/\o.data=.dict es n/\(a==sysModules)=false/\(kvs.map (·.1)).Nodup/\Paired (fun(p:Key×V) (e:DictEntry)=>(∃ x t,p.1=.inr x/\e.key=.str x t)/\RelV p.2 e.val) kvs es.toList
def hsO(o:Obj):List Int:=match o.data with | .dict es _=>es.toList.map (·.hash) | _=>[]
def hsX(w:World)(o:Obj):List Int:=match o.data with | .dict es _=>es.toList.map (fun e=>match e.key with | .str x _=>hashStr w x | _=>e.hash) | _=>[]
def KnW(K:Zf)(w:World):Prop:=K.map (fun p=>hsO p.2)=K.map (fun p=>hsX w p.2)
theorem lookup_mem{α:Type}:∀ {l:List (Addr×α)} {a:Addr} {o:α},l.lookup a=some o->(a,o)∈l
 | (b,u)::r,a,o,h=>by
  rw[R2z] at h
  cases hb:a==b with
  | true =>
   rw[hb] at h
   have e1:a=b:=by simpa using hb
   cases h;subst e1;exact O1z
  | false =>
   rw[hb] at h;exact W0z _ (lookup_mem h)
theorem KnW.at{K:Zf}{w:World}{a:Addr}{o:Obj}{es:Array DictEntry}{n:Nat}(kw:KnW K w)(h:K.lookup a=some o)(hd:o.data=.dict es n):∀ e∈es.toList,∀ x t,e.key=.str x t->e.hash=hashStr w x:=by
 have:=List.map_inj_left.mp kw (a,o) (lookup_mem h);simp only[hsO,hsX,hd] at this;intro e he x t hk;have q:=List.map_inj_left.mp this e he;rw[hk] at q;exact q
theorem vZ{P:Program}{w:World}{kvs:List (Key×V)}{es:List DictEntry}(p:Paired (fun(p:Key×V) (e:DictEntry)=>(∃ x t,p.1=.inr x/\e.key=.str x t)/\RelV p.2 e.val) kvs es)(hh:∀ e∈es,∀ x t,e.key=.str x t->e.hash=hashStr w x) :
  ∃ vs:List (Key×Value),KV kvs vs/\Pairs (aW P w) es vs/\vs.map (·.1)=kvs.map (·.1)/\∀ e∈es,∃ k,(aW P w).is k e.key=true/\e.hash=(aW P w).hash k:=by
 induction p with
 | nil=>exact⟨[],.nil,.nil,rfl,fun e he=>nomatch he⟩
 | @cons q e kvs es h t ih =>
  obtain⟨vs,h1,h2,h3,h4⟩:=ih fun e he=>hh e (W0z _ he);obtain⟨⟨x,tk,g1,g2⟩,g3⟩:=h
  have gi:(aW P w).is q.1 e.key=true:=by
   rw[g1,g2];show Value.isStrOf x (.str x tk)=true;simp[Value.isStrOf]
  refine⟨(q.1,e.val)::vs,.cons ⟨rfl,g3⟩ h1,.cons gi rfl h2,by simp[h3],fun e' he=>?_⟩;rcases List.mem_cons.mp he with r | r
  ·subst r
   refine⟨q.1,gi,?_⟩;rw[hh _ O1z x tk g2,g1];rfl
  ·exact h4 e' r
def DAt(K:Zf)(H:Hp)(a:Addr)(kvs:List (Key×V)):Prop:=Rd H a (.dK kvs)\/KDc K a kvs
section
variable {X:Cx} {z0:List (Addr×Obj)} {σ:St} {H:Hp} {s:Shared} {a:Addr} {kvs:List (Key×V)} {k:Key} {v d:V} {u r:Value} {A:Around} {E:Value->Shared->Prop} {o i e f:Expr} {td ty tx:TE} {pos apos cpos:Pos}
theorem Ac(I:Inv X z0 σ H s)(kw:KnW X.K X.w)(g:DAt X.K H a kvs):(a==sysModules)=false/\∃ vs,KV kvs vs/\s.heap.DictOf (aW X.prog X.w) a vs:=by
 rcases g with g | ⟨o,es,n,h1,h2,h3,h4,h5,h6⟩
 ·exact(nJ I.hok g).2
 ·obtain⟨vs,g1,g2,g3,g4⟩:=vZ (P:=X.prog) h6 (kw.at h1 h3)
  exact⟨h4,vs,g1,o,es,n,I.kIn a o h1,h2,h3,fun e he=>g4 e (by simpa using he),g2,by rw[g3];exact h5⟩
theorem v7{Q:Value->Shared->Prop}(I:Inv X z0 σ H s)(kw:KnW X.K X.w)(g:DAt X.K H a kvs)(l:some v=jG kvs k)(ry:RelV (kV k) u)(h:∀ w' s',Inv X z0 σ H s'->RelV v w'->Q w' s') :
  s.TypeIs (.ref a) "dict"/\wpAny (model X.prog X.w) A (getItem (.ref a) u) Q E s:=by
 obtain⟨hd,vs,rel,dd⟩:=Ac I kw g;obtain⟨w',hw,rw'⟩:=j7.some_of (v:=v) (o:=valueAt vs k) (by rw[l];exact rel.val k);exact⟨dd.typeIs,wpAny_getItem_of (m9 ry) dd.mapOf hw (h w' _ (I.tok _) rw')⟩
def Kc(K:Zf)(td ty:TE):TE:=fun σ H Q=>td σ H fun x H1=>ty σ H1 fun y H2=>∃ a v kvs k,x=.ref a/\DAt K H2 a kvs/\y=kV k/\some v=jG kvs k/\Q v H2
theorem Dm(kw:KnW X.K X.w)(ho:PE X o td)(hi:PE X i ty)(hs:Rc i):PE X (.Subscript o i pos) (Kc X.K td ty):=by
 intro z0 s σ H Q I h;refine uF PySem.F.slot_dict_getitem.lookup hs (thn (ho z0 s σ H _ I h) fun u s1 ⟨x,H1,I1,rx,q1⟩=>thn (hi z0 s1 σ H1 _ I1 q1) fun iv s2 ⟨y,H2,I2,ry,a,v,kvs,k,ex,g,ey,l,q2⟩=>?_);subst ex;subst ey;obtain rfl:u=Value.ref a:=rx;exact v7 I2 kw g l ry fun w' s3 I3 rw'=>⟨v,H2,I3,rw',q2⟩
end
end L2
namespace L2
open PySem PySem.Spec PySem.Calls PyProof.Rows
theorem yX{P:Program}{w:World}{H:Hp}{h:Heap}{a:Addr}{o:HO}(x:cg P w H h a o):∃ u,h.get? a=some u:=by
 cases o with
 | lst xs=>obtain⟨_,_,_,_,e⟩:=x;exact⟨_,e⟩
 | tup xs=>obtain⟨_,_,_,p⟩:=x;obtain⟨o,e,_⟩:=p;exact⟨_,e⟩
 | dK kvs=>obtain⟨_,_,_,_,o,_,_,e,_⟩:=x;exact⟨_,e⟩
 | dT kvs=>obtain⟨_,_,_,_,o,_,_,e,_⟩:=x;exact⟨_,e⟩
 | set S n=>obtain⟨o,_,_,_,e,_⟩:=x;exact⟨_,e⟩
 | ins C dx fs=>obtain⟨_,_,_,e,_⟩:=x;exact⟨_,e⟩
 | own y=>obtain⟨_,e⟩:=x;exact⟨_,e⟩
 | xd fs=>obtain⟨_,⟨_,_,_,e,_⟩,_⟩:=x;exact⟨_,e⟩
 | rng lo hi=>obtain⟨_,_,_,e⟩:=x;exact⟨_,e⟩
 | frz ob u=>obtain⟨e,_⟩:=x;exact⟨_,e⟩
 | tbl ps=>exact⟨_,x⟩
 | met f y=>exact⟨_,x⟩
 | ext φ=>obtain⟨_,⟨_,e⟩,_⟩:=x;exact⟨_,e⟩
theorem Inv.laidAt{X:Cx}{z0:List (Addr×Obj)}{σ:St}{H:Hp}{s:Shared}{h':Heap}{a:Addr}{o:HO}{t':Nat}(I:Inv X z0 σ H s)(k:∀ b u,s.heap.get? b=some u->h'.get? b=some u)(hn:s.heap.get? a=none)(new:cg X.prog X.w (upd H a o) h' a o) :
  H a=none/\Inv X z0 σ (upd H a o) { s with heap:=h',toks:=t' }:=by
 have hH:H a=none:=by
  cases q:H a with
  | none=>rfl
  | some u =>
   obtain⟨z,e⟩:=yX (I.hok a u q);rw[hn] at e;cases e
 refine⟨hH,I.un ⟨fun b u q _ _ _=>k b u q,fun b u q _ _ _=>⟨u.slots,k b u q⟩,fun b u q n _=>?_,fun b u q _=>⟨u,k b u q⟩,fun b xs q=>by rw[ak (aq q hH)];exact q,fun b u xs q=>by rw[ak (aq q hH)];exact q,fun b ps q=>⟨#[],by rw[ak (aq q hH),q];simp⟩⟩ fun b u e=>?_⟩
 ·rw[ak (fun z=>by rw[z,hn] at q;cases q)];exact n
 ·by_cases hb:b=a
  ·subst hb;rw[aB] at e;cases e;exact new
  ·rw[ak hb] at e
   exact(I.hok b u e).stay (fun c v _ q=>k c v q) (fun c q=>by rw[ak (aq q hH)];exact q) fun c xs q=>by rw[ak (aq q hH)];exact q
section
variable {X:Cx}
theorem uG:∀ (l:List Value) (ks:List Str),l.length=ks.length->(∀ (i:Nat) (x:Value),l[i]?=some x->∃ k t,ks[i]?=some k/\x=.str k t)->StrsAre l ks
 | [],[],_,_=>.nil
 | x::l,k::ks,h,f=>by
  obtain⟨k',t,e1,rfl⟩:=f 0 x rfl;cases (show k=k' by simpa using e1);exact .cons k t (uG l ks (by simpa using h) fun i y e=>f (i+1) y e)
 | [],_::_,h,_=>by simp at h
 | _::_,[],h,_=>by simp at h
theorem mQ:∀ {l:List Value} {ks:List Str},StrsAre l ks->Vals (ks.map V.str) l
 | _,_,.nil=>.nil
 | _,_,.cons k t r=>.cons ⟨t,rfl⟩ (mQ r)
theorem vW{κ:Type}:∀ {kvs:List (κ×V)} {ws:List (κ×Value)},KV kvs ws->ws.map (·.1)=kvs.map (·.1)
 | _,_,.nil=>rfl
 | _,_,.cons h r=>by rw[Z3z,Z3z,vW r,h.1]
theorem nZ(hc:X.calm=true):cB X (.builtin "sorted") (fun xs H Q=>∃ (d:Addr) (kvs:List (Key×V)) (ks:List Str),xs=[.ref d]/\H d=some (.dK kvs)/\kvs.map (·.1)=ks.map Sum.inr/\ks.length<64/\∀ a ss,H a=none->ss.Perm ks->sortedS ss=true->Q (.ref a) (upd H a (.lst (ss.map V.str)))):=by
 intro z0 s σ H vs us Q I r h;obtain⟨d,kvs,ks,rfl,hd,hks,h64,q⟩:=h
 obtain⟨u,rfl,rfl⟩:∃ u,us=[u]/\u=Value.ref d:=by
  cases r with
  | cons r1 r2=>cases r2;exact⟨_,rfl,r1⟩
 obtain⟨_,lo,ws,kv,hD⟩:=I.hok d _ hd;obtain⟨ep,hat⟩:=hD.dictAt;have hkw:ws.map (·.1)=ks.map Sum.inr:=(vW kv).trans hks
 have hlw:ws.length=ks.length:=by simpa using congrArg List.length hkw
 have h64s:(64:Nat)<=sizeLine:=by decide
 refine call_function_entry kind_sorted plain_sorted entry_sorted (args_sorted1 _) ?_;unfold Builtin.«sorted»;refine S4z (m:=checkCount "sorted" 1 1 _) (T4z ?_);refine S4z (PySem.W.kdu_collect (A:=X.A.in1) (PySem.W.kdl_dict (knd:=aW X.prog X.w) (kvs:=ws) (ep:=ep) lo) (I.ok.hd hc) hat (by show ws.length<=sizeLine;omega) fun h' tk acc hk hacc=>?_)
 have hl:acc.toList.length=ks.length:=by rw[F1z,<- hlw];exact hacc.1
 have hS:StrsAre acc.toList ks:=uG _ _ hl fun i x e=>by
  obtain⟨k',y,e1,e2⟩:=hacc.2 i x (by rw[<- Array.getElem?_toList];exact e)
  have e3:(ws.map (·.1))[i]?=some k':=by rw[List.getElem?_map,e1];rfl
  rw[hkw,List.getElem?_map,Q0z] at e3;obtain⟨k,e3,rfl⟩:=e3;rw[rY] at e2;rcases bw e2 with⟨i,t,e4,_⟩ | ⟨z,t,e4,e5⟩
  ·cases e4
  ·cases e4;exact⟨_,t,e3,e5⟩
 generalize acc.toList=al at hl hS;refine S4z (wpAny_newList ?_ (by show al.toArray.size<=sizeLine;rw[D2z];omega));have hoL:(h'.push { cls:=.type "list",data:=.seq al.toArray }).get? h'.objs.size=some (seqObj "list" al.toArray 0):=Heap.get?_push_size _ rfl;refine S4z (X3z (S2z slot_list_sort ⟨_,hoL,rfl⟩ entry_list_sort ?body (args_list_sort _)))
 case body =>
  refine list_sort_treeK (s:={ s with heap:=h'.push { cls:=.type "list",data:=.seq al.toArray },toks:=tk }) strKind_oneLt hoL hS.keysOf (fun v1 v2 rest e=>keyKind_strs (by rw[<- e];exact hS)) (by omega) fun st' hp hs=>?_
  obtain⟨ss,g1,g2,g3⟩:=sorted_out_str hS hp hs;generalize (arrOf st').map (·.2)=out at g1;refine⟨_,rfl,T4z ⟨_,rfl,?_⟩⟩
  have hn:s.heap.get? h'.objs.size=none:=by
   cases e:s.heap.get? h'.objs.size with
   | none=>rfl
   | some o=>exact absurd (E4z (hk _ _ e)) (W3z _)
  obtain⟨ep',hat'⟩:=sortedHeap_at (out:=out) hoL
  obtain⟨hH,J⟩:=I.laidAt (a:=h'.objs.size) (o:=.lst (ss.map V.str)) (t':=tk) (h':=sortedHeap (h'.push { cls:=.type "list",data:=.seq al.toArray }) h'.objs.size al out) (fun b u e=>by
   have e':=hk b u e;have hb:b≠h'.objs.size:=F4z (E4z e');rw[sortedHeap_old hb (by rw[R3z];exact F2z (E4z e'))]
   exact Heap.get?_push_of_some _ e') hn ⟨by show(ss.map V.str).length<=sizeLine;rw[D3z,g2.length_eq];omega,out.toList,ep',mQ g1,hat'⟩
  exact⟨V.ref h'.objs.size,_,J,rfl,q _ _ hH g2 g3⟩
end
end L2
namespace L2
open PySem PySem.Spec PyProof.Rows
section
variable {P:Program} {w:World} {H H':Hp} {h h':Heap} {a:Addr} {o:HO}
theorem cg.there(x:cg P w H h a o):∃ ob,h.get? a=some ob:=by
 cases o with
 | lst xs=>obtain⟨_,_,_,_,e⟩:=x;exact⟨_,e⟩
 | tup xs=>obtain⟨_,_,_,ob,e,_⟩:=x;exact⟨_,e⟩
 | dK kvs=>obtain⟨_,_,_,_,o,_,_,e,_⟩:=x;exact⟨_,e⟩
 | dT kvs=>obtain⟨_,_,_,_,o,_,_,e,_⟩:=x;exact⟨_,e⟩
 | set S n=>obtain⟨o,_,_,_,e,_⟩:=x;exact⟨_,e⟩
 | ins C dx fs=>obtain⟨_,_,_,e,_⟩:=x;exact⟨_,e⟩
 | own y=>exact x
 | xd fs=>obtain⟨_,⟨_,_,_,e,_⟩,_⟩:=x;exact⟨_,e⟩
 | rng lo hi=>obtain⟨_,_,_,e⟩:=x;exact⟨_,e⟩
 | frz ob u=>obtain⟨e,_⟩:=x;exact⟨_,e⟩
 | tbl ps=>exact⟨_,(show h.get? a=some _ from x)⟩
 | met f y=>exact⟨_,(show h.get? a=some _ from x)⟩
 | ext φ=>exact x.2.1
theorem HOk.none_of(x:HOk P w H h)(e:h.get? a=none):H a=none:=by
 cases q:H a with
 | none=>rfl
 | some u =>
  obtain⟨ob,r⟩:=(x a u q).there;rw[e] at r;cases r
theorem HOk.part{B:Heap}(x:HOk P w H h)(k:∀ b u ob,H b=some u->h.get? b=some ob->B.get? b=some ob):HOk P w H B:=fun b u e=>by
 refine(x b u e).stay (fun c v hc q=>?_) (fun _ q=>q) fun _ _ q=>q;rcases hc with rfl | hc
 ·exact k _ _ _ e q
 ·exact k _ _ _ hc q
end
section
variable {fs fs' ex:List Addr} {H H':Hp} {h h1 h2 B:Heap}
theorem Un.fly(U:Un fs [] H H' h h1)(kB:∀ b o,h.get? b=some o->H b=none->b∉fs->B.get? b=some o)(tB:∀ b o,h.get? b=some o->b∉fs->∃ o',B.get? b=some o')(st:B.StaysIn h2)
  (nf:∀ b∈fs,∀ o,h1.get? b=some o->∀ vs,o.data≠.fields vs) (up:h1.UpToSlots h2):Un fs [] H H' h h2 where
 keep:=fun b o q n hb _=>st b o (kB b o q n hb)
 slot:=fun b o q n hb hx=>by
  obtain⟨sl,e⟩:=U.slot b o q n hb hx;obtain⟨sl',e'⟩:=up b _ e (nf b hb _ e);exact⟨sl',e'⟩
 free:=U.free
 there:=fun b o q hx=>by
  by_cases hb:b∈fs
  ·obtain⟨o',e⟩:=U.there b o q hx
   obtain⟨sl,e'⟩:=up b _ e (nf b hb _ e);exact⟨_,e'⟩
  ·obtain⟨o',e⟩:=tB b o q hb
   exact⟨o',st b o' e⟩
 tups:=U.tups
 frzs:=U.frzs
 tbls:=U.tbls
theorem Un.restrict(U:Un fs' ex H H' h h1)(hs:∀ b o,b∈fs'->h.get? b=some o->b∈fs):Un fs ex H H' h h1 where
 keep:=fun b o q n hb hx=>U.keep b o q n (fun z=>hb (hs b o z q)) hx
 slot:=fun b o q n _ hx=>U.any q n hx
 free:=U.free
 there:=U.there
 tups:=U.tups
 frzs:=U.frzs
 tbls:=U.tbls
end
structure Fly (P:Program) (w:World) (outer:List Env) (H:Hp) (s:Shared) (H':Hp) (ea:Addr) (cls:Value) (s':Shared):Prop where
 os:s'.os=s.os
 bare:AllBare s'.gens
 un:Un (frs outer) [] H H' s.heap s'.heap
 fly:∃ B a0,Heap.FlyingW B outer ea cls a0 s'.heap/\HOk P w H' B/\(∀ b o,s.heap.get? b=some o->H b=none->b∉frs outer->B.get? b=some o)/\(∀ b o,s.heap.get? b=some o->b∉frs outer->∃ o',B.get? b=some o')
 fresh:s.heap.get? ea=none
def CX1(P:Program)(w:World):CXT:=fun outer H s E e s'=>∃ ea cls H',e=.ref ea/\Fly P w outer H s H' ea cls s'/\H' ea=none/\E cls none H'
theorem vo{P:Program}{w:World}{X:Cx}:Passes (CX1 P w) X E0:=fun _ _ _ _ _ _ _ h=>by obtain⟨_,_,_,_,_,_,z⟩:=h;exact z.elim
theorem vH{B h:Heap}{l:List Env}(f:h.FunFrames B l):∀ b∈frs l,∀ o,h.get? b=some o->∀ vs,o.data≠.fields vs:=fun b hb o e=>by
 obtain⟨_,o',e',hd⟩:=f.mem hb;rw[e] at e';cases e';exact hd
section
variable {P:Program} {w:World} {K:Zf} {mg:Str->Option Value} {base:Heap} {N:List Str} {qual:Str} {scope:Scope} {f:Addr} {cd:Value} {A:Around} {outer:List Env} {s:Shared} {H:Hp} {E:XK}
theorem lK{env:Env}{L:Addr}(hf:env.frame=some L):frs (env::outer)=L::frs outer:=by
 unfold frs;rw[E1z,hf]
theorem aP:Passes (CX1 P w) (dW (CX1 P w) P w K mg base N qual scope f cd A outer s H E) E:=by
 intro z0 σ H1 s1 e s' I h;obtain⟨ea,cls,H',rfl,Fl,hn,hE⟩:=h;obtain⟨B,a0,fl,hokB,kB,tB⟩:=Fl.fly;have hfr:frs (dW (CX1 P w) P w K mg base N qual scope f cd A outer s H E).stack=s.heap.objs.size::frs outer:=lK rfl;have nL:∀ b o,s.heap.get? b=some o->b≠s.heap.objs.size:=fun b o q=>F4z (E4z q)
 have nin:∀ b o,s.heap.get? b=some o->b∉frs outer->b∉frs (dW (CX1 P w) P w K mg base N qual scope f cd A outer s H E).stack:=fun b o q hb z=>by
  rw[hfr] at z;rcases List.mem_cons.mp z with z | z
  ·exact nL b o q z
  ·exact hb z
 have noex:∀ b:Addr,b∉(dW (CX1 P w) P w K mg base N qual scope f cd A outer s H E).ex:=fun b z=>absurd (show b∈([]:List Addr) from z) (by simp);show wpAny _ _ (leaving _ (.ref ea)) _ _ _;refine wpAny_leaves_onW I.ok.frames rfl fl fun h2 fl2 up=>?_;refine⟨ea,cls,H',rfl,⟨Fl.os.trans I.os,Fl.bare,?_,⟨B,a0,fl2,hokB,fun b o q n hb=>?_,fun b o q hb=>?_⟩,?_⟩,hn,hE⟩
 ·have U1:=Un.fly Fl.un kB tB fl2.1 (vH fl.2.2.1) up
  have U0:Un (frs (dW (CX1 P w) P w K mg base N qual scope f cd A outer s H E).stack) [] H H1 s.heap s1.heap:=I.base.mono (fun b hb=>by rw[hfr];exact W0z _ hb) (fun b hb=>hb)
  exact(U0.trans U1).restrict fun b o hb q=>by
   rw[hfr] at hb;rcases List.mem_cons.mp hb with z | z
   ·exact absurd z (nL b o q)
   ·exact z
 ·exact kB b o (I.base.keep b o q n hb (noex b)) (I.base.free b o q n (noex b)) (nin b o q hb)
 ·obtain⟨o1,q1⟩:=I.base.there b o q (noex b)
  exact tB b o1 q1 (nin b o q hb)
 ·cases q:s.heap.get? ea with
  | none=>rfl
  | some o =>
   obtain⟨o1,q1⟩:=I.base.there ea o q (noex ea);rw[Fl.fresh] at q1;cases q1
theorem jO{z0:List (Addr×Obj)}{σ:St}{H1:Hp}{s1:Shared}{C e:Addr}{h':Heap}{args:List Value}(I:Inv (dW (CX1 P w) P w K mg base N qual scope f cd A outer s H E) z0 σ H1 s1)(hx:Heap.MadeExcOf s1.heap h' e (.ref C) args)(hE:E (.ref C) none H1) :
  (dW (CX1 P w) P w K mg base N qual scope f cd A outer s H E).xe (.ref e) { s1 with heap:=h' }:=by
 have hfr:frs (dW (CX1 P w) P w K mg base N qual scope f cd A outer s H E).stack=s.heap.objs.size::frs outer:=lK rfl;have nL:∀ b o,s.heap.get? b=some o->b≠s.heap.objs.size:=fun b o q=>F4z (E4z q)
 have nin:∀ b o,s.heap.get? b=some o->b∉frs outer->b∉frs (dW (CX1 P w) P w K mg base N qual scope f cd A outer s H E).stack:=fun b o q hb z=>by
  rw[hfr] at z;rcases List.mem_cons.mp z with z | z
  ·exact nL b o q z
  ·exact hb z
 have noex:∀ b:Addr,b∉(dW (CX1 P w) P w K mg base N qual scope f cd A outer s H E).ex:=fun b z=>absurd (show b∈([]:List Addr) from z) (by simp);have hin:∀ env∈(dW (CX1 P w) P w K mg base N qual scope f cd A outer s H E).stack,∀ b,env.frame=some b->b∈frs (dW (CX1 P w) P w K mg base N qual scope f cd A outer s H E).stack:=fun env he b hb=>List.mem_filterMap.mpr ⟨env,he,hb⟩;show wpAny _ _ (leaving _ (.ref e)) _ _ _;have kB:∀ b o,s1.heap.get? b=some o->b∉frs (dW (CX1 P w) P w K mg base N qual scope f cd A outer s H E).stack->(PySem.W.hideAll s1.heap (frs (dW (CX1 P w) P w K mg base N qual scope f cd A outer s H E).stack)).get? b=some o:=fun b o q hb=>D1z _ q hb;refine wpAny_leaves_madeW I.ok.frames rfl (fun b o q=>N1z _ q) (PySem.W.funFrames_hide I.stack hin) hx fun h2 t x1 x2 x3 x4=>?_;have up:s1.heap.UpToSlots h2:=(Heap.UpToSlots.of_keeps hx.keeps).trans x4
 have hok:HOk P w H1 (PySem.W.hideAll s1.heap (frs (dW (CX1 P w) P w K mg base N qual scope f cd A outer s H E).stack)):=HOk.part I.hok fun b u ob hu q=>kB b ob q fun z=>by
  rw[I.stkFree b z] at hu;cases hu
 have hn:H1 e=none:=HOk.none_of I.hok hx.new;refine⟨e,.ref C,H1,rfl,⟨I.os,I.bare,?_,⟨_,_,x1,hok,fun b o q n hb=>?_,fun b o q hb=>?_⟩,?_⟩,hn,hE⟩
 ·have U1:Un (frs (dW (CX1 P w) P w K mg base N qual scope f cd A outer s H E).stack) [] H1 H1 s1.heap h2:=Un.fly Un.refl (fun b o q _ hb=>kB b o q hb) (fun b o q hb=>⟨o,kB b o q hb⟩) x1.1 (vH I.stack) up
  have U0:Un (frs (dW (CX1 P w) P w K mg base N qual scope f cd A outer s H E).stack) [] H H1 s.heap s1.heap:=I.base.mono (fun b hb=>by rw[hfr];exact W0z _ hb) (fun b hb=>hb)
  exact(U0.trans U1).restrict fun b o hb q=>by
   rw[hfr] at hb;rcases List.mem_cons.mp hb with z | z
   ·exact absurd z (nL b o q)
   ·exact z
 ·exact kB b o (I.base.keep b o q n hb (noex b)) (nin b o q hb)
 ·obtain⟨o1,q1⟩:=I.base.there b o q (noex b)
  exact⟨o1,kB b o1 q1 (nin b o q hb)⟩
 ·cases q:s.heap.get? e with
  | none=>rfl
  | some o =>
   obtain⟨o1,q1⟩:=I.base.there e o q (noex e);have:=hx.new;rw[this] at q1;cases q1
end
def nsOk(K:Zf)(N:Addr):Bool:=match K.lookup N with
 | some ⟨_,_,.dict es _,_⟩=>es.toList.all (fun e=>match e.key with | .str _ _=>true | _=>false)&&(PySem.W.nsIn K N "__init__"==some none)
 | _=>false
def xIn(K:Zf)(C M:Addr):Bool:=match K.lookup C,K.lookup M with
 | some ⟨.type "type",_,.cls cd,sl⟩,some ⟨_,_,.cls cdM,_⟩ =>
  (match sl.toList with | [_,_,_,_,some (.builtin n),_]=>n=="ValueError.__new__" | _=>false)&&cd.mro==[.ref C,.ref M,.type "ValueError",.type "Exception",.type "BaseException",.type "object"] && !cd.hasDel&&nsOk K cd.ns&&nsOk K cdM.ns
 | _,_=>false
theorem vD{K:Zf}{N:Addr}(e:nsOk K N=true):∃ mN:Str->Option Value,mN "__init__"=none/\∀ h:Heap,K.In h->h.Ns N mN:=by
 unfold nsOk at e;split at e
 ·rename_i c d es n sl ho
  rw[W2z] at e;refine⟨nsFind es,?_,fun h X=>⟨_,es,n,X _ _ ho,rfl,fun en hen=>?_,fun _=>rfl⟩⟩
  ·have e2:PySem.W.nsIn K N "__init__"=some none:=by simpa using e.2
   unfold PySem.W.nsIn at e2;rw[ho] at e2;simp only at e2;unfold nsFind findBy;rw[<- Array.find?_toList];split at e2
   ·cases e2
   ·rename_i q
    rw[q];rfl
  ·have:=List.all_eq_true.mp e.1 en (by simpa using hen)
   split at this
   ·rename_i x t hk;exact⟨x,t,hk⟩
   ·cases this
 ·cases e
theorem Gw{K:Zf}{C M:Addr}(e:xIn K C M=true):∃ nm q N bs hdct sn sub ab col dd k0 k1 k2 k3 k5 mN,mN "__init__"=none/\∀ h:Heap,K.In h ->
  h.get? C=some (excClassObj nm q C N bs [.ref M,.type "ValueError",.type "Exception",.type "BaseException",.type "object"] hdct sn sub ab col dd k0 k1 k2 k3 k5 "ValueError.__new__")/\h.Ns N mN /\
   OwnTail h [.type "ValueError",.type "Exception",.type "BaseException",.type "object"] [.ref M,.type "ValueError",.type "Exception",.type "BaseException",.type "object"]:=by
 unfold xIn at e;split at e
 ·rename_i dd cd sl cM dM cdM slM hC hM
  simp only[W2z,I2z] at e;obtain⟨⟨⟨⟨e1,e2⟩,e3⟩,e4⟩,e5⟩:=e;split at e1
  ·rename_i k0 k1 k2 k3 n k5 hs
   have en:n="ValueError.__new__":=by simpa using e1
   subst en
   have hsl:sl = #[k0,k1,k2,k3,some (.builtin "ValueError.__new__"),k5]:=by
    obtain⟨l⟩:=sl;simp only at hs;rw[hs]
   have em:cd.mro=[.ref C,.ref M,.type "ValueError",.type "Exception",.type "BaseException",.type "object"]:=by simpa using e2
   obtain⟨nm,bs,mro,ns,qn,hd,sn,sub,ab,col,del⟩:=cd;simp only at em e3 e4;subst em e3 hsl;obtain⟨mN,n2,n1⟩:=vD e4;obtain⟨mM,m2,m1⟩:=vD e5;exact⟨_,_,_,_,_,_,_,_,_,_,_,_,_,_,_,mN,n2,fun h X=>⟨X _ _ hC,n1 h X,.own (X _ _ hM) (m1 h X) m2 .base⟩⟩
  ·cases e1
 ·cases e
section
variable {X:Cx}
theorem qu{x:Str}{C M:Addr}{np cpos pos:Pos}{txt:Str}{j:Nat}{p1:Pos}{Q:Flow->Shared->Prop}{z0:List (Addr×Obj)}{σ:St}{H:Hp}{s:Shared}(I:Inv X z0 σ H s)(hc:X.A.handled=none)(hg:Gl X x)(hm:X.mg x=some (.ref C))(hd:(x==("__debug__":Str))=false)(hx:xIn X.K C M=true)
  (k:∀ (s2:Shared) (h':Heap) (e:Addr) (args:List Value),Inv X z0 σ H s2->Heap.MadeExcOf s2.heap h' e (.ref C) args->X.xe (.ref e) { s2 with heap:=h' }) :
  wpAny (model X.prog X.w) X.A (exec (.Raise (some (.Call (.Name x np) [.Constant (.str txt) j p1] [] cpos)) none pos) X.env) Q X.xe s:=by
 obtain⟨nm,q,N,bs,hdct,sn,sub,ab,col,dd,k0,k1,k2,k3,k5,mN,hni,fx⟩:=Gw hx
 refine wpAny_Raise_call_subU (C:=C) (nm:=nm) (q:=q) (N:=N) (bs:=bs) (bm:=[.ref M,.type "ValueError",.type "Exception",.type "BaseException",.type "object"]) (hdct:=hdct) (sn:=sn) (sub:=sub) (ab:=ab) (col:=col) (dd:=dd) (k0:=k0) (k1:=k1) (k2:=k2) (k3:=k3) (k5:=k5)
  F.excBase_ValueError (by decide) F.excBase_ValueError (mN:=mN) ((fx _ I.kIn).2.2.hasType F.excBase_ValueError.hasBase) hc rfl hni (eX I hg hm ⟨rfl,?_⟩ hd)
 have ha:PA X [.Constant (.str txt) j p1] (Ci (tC (.str txt)) G5):=au jg aK;show wpAny _ _ (evalArgs (.ref C) true (backTo cpos ((false,eval (.Constant (.str txt) j p1) X.env)::starEach [] X.env)) []) _ _ _;refine A1z (R4z (ha cpos z0 s σ H (fun vs H1=>vs.length<=1/\H1=H) I ⟨M4z _,rfl⟩) (fun us s2 hq=>?_) fun _ _ y=>y);obtain⟨vs,H1,I1,r,q1,rfl⟩:=hq;obtain⟨f1,f2,f3⟩:=fx _ I1.kIn
 have h1:(1:Nat)<=sizeLine:=by decide
 have h2:=r.length;exact⟨rfl,(show us.length<=sizeLine by omega),f1,f2,f3,fun h' e hm'=>k s2 h' e us I1 hm'⟩
end
abbrev Cx.inSuite(X:Cx)(e:Value)(xe:Value->Shared->Prop):Cx:={ X with A:=X.A.mark (some e),calm:=false,xe:=xe }
section
variable {X:Cx} {z0:List (Addr×Obj)} {σ:St} {H H':Hp} {s s':Shared} {e:Value} {xe:Value->Shared->Prop}
theorem Inv.inSuite(I:Inv X z0 σ H s)(e:Value)(xe:Value->Shared->Prop):Inv (X.inSuite e xe) z0 σ H s :=
 ⟨⟨I.ok.mod,I.ok.kind,I.ok.glob,I.ok.blt,I.ok.above,I.ok.inj,I.ok.has,I.ok.cab,fun z=>(nomatch z),I.ok.frames,I.ok.stk,I.ok.exf,I.ok.bs,I.ok.bsz,I.ok.noex,I.ok.exfs,I.ok.funs,I.ok.frf⟩,I.os,I.bare,I.base,I.loc,I.cell,I.free,I.freeC,I.pin,I.hok,I.len⟩
theorem Inv.outSuite(ok:X.Ok)(I:Inv (X.inSuite e xe) z0 σ H s):Inv X z0 σ H s:=⟨ok,I.os,I.bare,I.base,I.loc,I.cell,I.free,I.freeC,I.pin,I.hok,I.len⟩
theorem Inv.unbound{i:Nat}{x:Str}{v:Option Value}{m:Str->Option Value}{h':Heap}{t':Nat}(I:Inv X z0 σ H s)(hN:X.N.Nodup)(hi:X.N[i]?=some x)(hm:s.heap.Ns X.env.locals m)(hn:h'.Ns X.env.locals (fun y=>if y=x then v else m y))(hs:Heap.SameBut X.env.locals s.heap h') :
  Inv X z0 (σ.set i none) H { s with heap:=h',toks:=t' }:=by
 have cne:=I.cne
 have hiσ:i<σ.length:=by rw[I.len];exact(List.getElem?_eq_some_iff.mp hi).1
 obtain⟨m0,hn0,hl⟩:=id I.loc
 have hmm:∀ y,m0 y=m y:=fun y=>by
  obtain⟨o1,es1,ep1,g1,g2,_,g3⟩:=hn0;obtain⟨o2,es2,ep2,f1,f2,_,f3⟩:=hm;rw[g1] at f1;cases f1;rw[g2] at f2;cases f2;rw[<- g3,<- f3]
 obtain⟨oL,_,_,hoL,_⟩:=id hn0
 have tracked:HOk X.prog X.w H h':=fun b ob e=>by
  refine(I.hok b ob e).stay (fun c w' hc q=>(hs.2 c ?_).trans q) (fun _ q=>q) fun _ _ q=>q;rintro rfl;rcases hc with rfl | hc
  ·rw[I.free] at e;cases e
  ·rw[I.free] at hc;cases hc
 refine⟨I.ok,I.os,I.bare,⟨fun b o e n hb hx=>?_,fun b o e n hb hx=>?_,I.base.free,fun b o e hx=>?_,I.base.tups,I.base.frzs,I.base.tbls⟩,⟨_,hn,fun j y v' e1 e2 e3=>?_⟩,fun y c e=>?_,I.free,I.freeC,fun p hp=>?_,tracked,by simpa using I.len⟩
 ·exact(hs.2 b (F4z (M1z (E4z e) I.ok.above))).trans (I.base.keep b o e n hb hx)
 ·obtain⟨sl,e1⟩:=I.base.slot b o e n hb hx
  exact⟨sl,(hs.2 b (F4z (M1z (E4z e) I.ok.above))).trans e1⟩
 ·obtain⟨o',e1⟩:=I.base.there b o e hx
  exact⟨o',(hs.2 b (F4z (M1z (E4z e) I.ok.above))).trans e1⟩
 ·by_cases hj:j=i
  ·subst hj
   rw[List.getElem?_set_self hiσ] at e2;cases e2
  ·rw[List.getElem?_set_ne (B5z hj)] at e2
   obtain⟨u',r',q⟩:=hl j y v' e1 e2 e3;refine⟨u',r',?_⟩;rcases q with⟨k,e⟩ | ⟨k,c,e,z⟩
   ·refine .inl ⟨k,?_⟩
    have:y≠x:=fun e=>hj (lE hN e1 (e▸hi));simp only[this,A5z];rw[<- hmm];exact e
   ·exact .inr ⟨k,c,e,z.sameBut hs (cne y c e)⟩
 ·obtain⟨w',z⟩:=I.cell y c e
  exact⟨w',z.sameBut hs (cne y c e)⟩
 ·obtain⟨e,n,ne,nf,d⟩:=I.pin p hp
  exact⟨(hs.2 p.1 ne).trans e,n,ne,nf,d⟩
end
def isX(a:Addr)(cls:Value)(h:Heap):Prop:=∃ o,h.get? a=some o/\o.cls=cls/\∃ vs,o.data=.fields vs
theorem Ji{P:Program}{w:World}{H:Hp}{h:Heap}{a:Addr}{cls:Value}(x:isX a cls h):cg P w H h a (.ext (isX a cls)) :=
 ⟨x,let ⟨o,e,_⟩:=x;⟨o,e⟩,fun _ _ ⟨o,e,r⟩ k=>⟨o,k o e,r⟩⟩
section
variable {X:Cx} {z0:List (Addr×Obj)} {σ:St} {H H':Hp} {s s':Shared} {ea:Addr} {cls:Value}
theorem Fly.lands{h2:Heap}{B:Heap}{t':Nat}(I:Inv X z0 σ H s)(Fl:Fly X.prog X.w X.stack H s H' ea cls s')(hokB:HOk X.prog X.w H' B)(U:Un (frs X.stack) [] H H' s.heap h2)(st:B.StaysIn h2):Inv X z0 σ H' { s' with heap:=h2,toks:=t' } :=
 I.call' (s':={ s' with heap:=h2,toks:=t' }) Fl.os U (hokB.kept st) Fl.bare (fun b z=>absurd z (by simp))
end
def j9(K:Zf)(C:Addr):Bool :=
 PySem.W.findIn K (.ref C) "__getattribute__"==some (some (.builtin "BaseException.__getattribute__"))&&PySem.W.findIn K (.ref C) "__getattr__"==some none&&PySem.W.findIn K (.ref C) "__class__"==some (some (.builtin "object.__class__")) &&
  PySem.W.mroIn K C (.type "object")==some true&&PySem.W.mroIn K C (.type "BaseException")==some true&&(PySem.W.clsIn K C).isSome
section
open PySem.Builtin PySem.Builtin.ObjectAttr PySem.Builtin.Getset_descriptor
variable {prog:Program} {w:World} {A:Around} {E:Value->Shared->Prop} {K:Zf} {h:Heap} {g:Array GenState} {d:Drawn} {t:Nat} {os:OsState} {a C:Addr} {o:Obj}
theorem xty{M:Model}(hx:h.get? a=some o)(hc:o.cls=.ref C):PySem.W.Looks M h (typeOf (.ref a)) (.ref C):=hc▸(PySem.W.Looks.ld hx).andThen .now
theorem rz{R:Result->Shared->Prop}(X:K.In h)(hx:h.get? a=some o)(hc:o.cls=.ref C)(hm:PySem.W.mroIn K C (.type "object")=some true)(hq:R (.ok (.ret (.ref C))) ⟨h,g,d,t,os⟩) :
  codeAny (model prog w) A (.call (.builtin "getset_descriptor.__get__") ⟨[.builtin "object.__class__",.ref a,.ref C],[]⟩) R ⟨h,g,d,t,os⟩:=by
 have hT5:(⟨h,g,d,t,os⟩:Shared).TypeIs (.builtin "object.__class__") "getset_descriptor":=V0z;have L0:=xty (M:=model prog w) hx hc;have L1:=PySem.W.looks_mroIn (M:=model prog w) X hm;refine codeAny_call_builtin PySem.W.KF.slot_gs.plain PySem.W.KF.entry_gs (PySem.W.KF.slot_gs.check _ _ _ _ _ _ _ _ PySem.W.KF.type_class (PySem.W.KF.args_gs _ _ _) ?_);unfold Builtin.«getset_descriptor.__get__» descrGet;rw[PySem.W.dga_obj];refine S4z (T4z ?_);unfold descrGetter descrCheckInstance descrNameAndClass isInstance;simp only[PySem.W.KF.owner_class]
 repeat lk
 refine⟨Code.quiet_builtin _ (by decide +kernel),N3z PySem.W.KF.entry_class ?_⟩;unfold Builtin.«object.__class__» shownTypeOf
 repeat lk
 exact hq
theorem mH{tk:Tok}{Q:Fin->Shared->Prop}(X:K.In h)(hx:h.get? a=some o)(hc:o.cls=.ref C)(hm:PySem.W.mroIn K C (.type "object")=some true)(hf:PySem.W.findIn K (.ref C) "__class__"=some (some (.builtin "object.__class__")))(hq:Q (.done (.ret (.ref C))) ⟨h,g,d,t,os⟩) :
  wpAny (model prog w) A (Builtin.«object.__getattribute__» ⟨[.ref a,.str "__class__" tk],[]⟩) Q E ⟨h,g,d,t,os⟩:=by
 have hT5:(⟨h,g,d,t,os⟩:Shared).TypeIs (.builtin "object.__class__") "getset_descriptor":=V0z;have f5:=V0z;have f6:=F.slot_gs_get.lookup;have f7:=F.slot_gs_set.lookup;have LF:=Y0z (M:=model prog w) X hf
 repeat (any_goals (first | assumption | (with_reducible refine wpAny_loadPart_at hx ?_;rw[hc]) | with_reducible refine LF.at ?_ | wp_step))
 refine rz X hx hc hm ?_
 repeat (any_goals (first | assumption | wp_step))
theorem mJ{M:Model}{nameV:Value}{Q:Unit->Shared->Prop}(X:K.In h)(hx:h.get? a=some o)(hc:o.cls=.ref C)(hm:PySem.W.mroIn K C (.type "BaseException")=some true)(hq:Q () ⟨h,g,d,t,os⟩):wpAny M A (checkBuiltinCall "BaseException.__getattribute__" ⟨[.ref a,nameV],[]⟩) Q E ⟨h,g,d,t,os⟩:=by
 have hk:builtinKind "BaseException.__getattribute__"=some .slot:=by decide +kernel
 have hsplit:splitId "BaseException.__getattribute__"=some ("BaseException","__getattribute__"):=by decide +kernel
 have ha:=F.args_bexc_ga (.ref a) nameV;have LM:=PySem.W.looks_mroIn (M:=M) X hm;simp only[checkBuiltinCall,hk,hsplit];refine S4z ?_
 ·unfold isInstance
  repeat (first | (with_reducible refine wpAny_loadPart_at hx ?_;rw[hc]) | with_reducible refine LM.at ?_ | wp_step)
  exact hq
theorem tU{tk:Tok}{fill expr:Bool}{Q:Value->Shared->Prop}(X:K.In h)(hx:h.get? a=some o)(hc:o.cls=.ref C)(hA:j9 K C=true)(hq:Q (.ref C) ⟨h,g,d,t,os⟩) :
  wpAny (model prog w) A (getAttrBy (.ref a) (.str "__class__" tk) fill expr) Q E ⟨h,g,d,t,os⟩:=by
 unfold j9 at hA;simp only[W2z,beq_iff_eq] at hA;obtain⟨⟨⟨⟨⟨g1,g2⟩,g3⟩,g4⟩,g5⟩,g6⟩:=hA;have f3:=F.excAttr_ValueError.ga.bind (.ref a)
 have hx0:(expr&&onTheHeap (Value.builtin "BaseException.__getattribute__"))=false:=by cases expr<;>rfl
 have hx2:(Value.builtin "BaseException.__getattribute__"==Value.builtin "object.__getattribute__")=false:=by decide +kernel
 have hx1:(onTheHeap (Value.ref C)&&Value.builtin "BaseException.__getattribute__"==Value.builtin "object.__getattribute__")=false:=by rw[hx2];rfl
 have L1:=Y0z (M:=model prog w) X g1;have L2':=Y0z (M:=model prog w) X g2
 repeat (any_goals (first | assumption | (with_reducible refine wpAny_loadPart_at hx ?_;rw[hc]) | with_reducible refine L1.at ?_ | with_reducible refine L2'.at ?_ | wp_step))
 refine codeAny_call_builtin F.excAttr_ValueError.ga.plain F.entry_bexc_ga (mJ X hx hc g5 (mH X hx hc g4 g3 ?_))
 repeat (any_goals (first | assumption | wp_step))
theorem Gv{Q:Option Value->Shared->Prop}(X:K.In h)(hx:h.get? a=some o)(hc:o.cls=.ref C)(hA:j9 K C=true)(hq:Q (some (.ref C)) ⟨h,g,d,t+1,os⟩) :
  wpAny (model prog w) A (getAttr? (.ref a) "__class__") Q E ⟨h,g,d,t,os⟩:=by
 unfold getAttr? getAttrBy?
 repeat (any_goals (first | assumption | with_reducible apply tU X hx hc hA | wp_step))
end
theorem zL{K:Zf}{a C:Addr}(hA:j9 K C=true):PySem.W.KitX K (.ref a) (.ref C) (isX a (.ref C)) where
 ty:=fun _ _ _ ⟨o,e,c,_⟩=>xty e c
 it:=fun _ _ X _=>by
  unfold j9 at hA;rw[W2z] at hA;obtain⟨cdD,hcD⟩:=Option.isSome_iff_exists.mp hA.2;unfold PySem.W.clsIn at hcD;split at hcD
  ·rename_i c' d' cd' sl' ho
   intro A' Q' E' s' k q;unfold isType loadHead;exact S4z (wpAny_loadPart (k _ _ (X _ _ ho)) (T4z q))
  ·cases hcD
 ne:=fun h tp dd its n sl X htp=>by
  unfold j9 at hA;rw[W2z] at hA;obtain⟨cdD,hcD⟩:=Option.isSome_iff_exists.mp hA.2;refine Bool.eq_false_iff.mpr fun q=>?_;have e:C=tp:=Value.ref.inj (beq_iff_eq.mp q);subst e;unfold PySem.W.clsIn at hcD;split at hcD
  ·rename_i c' d' cd' sl' ho
   have z:=(X _ _ ho).symm.trans htp;cases z
  ·cases hcD
 ca:=fun {prog w A E Q s} X p k=>by
  obtain⟨h,g,d,t,os⟩:=s;obtain⟨o,e,c,_⟩:=p;exact Gv X e c hA k
section
variable {X:Cx} {z0:List (Addr×Obj)} {σ:St} {H H':Hp} {s s':Shared} {ea C:Addr}
end
end L2
namespace L2
open PySem PySem.Spec PyProof.Rows DE PySem.SeqAt
theorem Same.tup{K:Zf}{H H':Hp}{a:Addr}{xs:List V}(e:Same H H')(h:SqT K H a xs):SqT K H' a xs:=by
 rcases h with(h | ⟨o,h⟩) | h
 ·exact .inl (.inl (e _ _ h))
 ·exact .inl (.inr ⟨o,e _ _ h⟩)
 ·exact .inr h
mutual
def Rep(K:Zf)(H:Hp):D->V->Prop
 | .non,v=>v=.non
 | .bl b,v=>v=.bl b
 | .int i,v=>v=.int i
 | .str x,v=>v=.str x
 | .tup ds,v=>∃ a vs,v=.ref a/\SqT K H a vs/\aH K H ds vs
 | .lst ds,v=>∃ a vs,v=.ref a/\SqL K H a vs/\aH K H ds vs
 | .obj a,v=>v=.ref a
 | .exc c,v=>∃ a C,v=.ref a/\PySem.W.nsIn K mainGlobals c=some (some (.ref C))/\H a=some (.ext (isX a (.ref C)))
 | .dic ks ds,v=>∃ (a:Addr) (kvs:List (Key×V)),v=.ref a/\DAt K H a kvs/\kvs.map (·.1)=ks/\aH K H ds (kvs.map (·.2))
def aH(K:Zf)(H:Hp):List D->List V->Prop
 | [],vs=>vs=[]
 | d::ds,vs=>∃ v r,vs=v::r/\Rep K H d v/\aH K H ds r
end
mutual
theorem Rep.same{K:Zf}{H H':Hp}(e:Same H H'):∀ (d:D) (v:V),Rep K H d v->Rep K H' d v
 | .non,v,h=>by simpa[Rep] using h
 | .bl b,v,h=>by simpa[Rep] using h
 | .int i,v,h=>by simpa[Rep] using h
 | .str x,v,h=>by simpa[Rep] using h
 | .tup ds,v,h=>by
  simp only[Rep] at h ⊢;obtain⟨a,vs,h1,h2,h3⟩:=h;exact⟨a,vs,h1,e.tup h2,aH.same e ds vs h3⟩
 | .lst ds,v,h=>by
  simp only[Rep] at h ⊢;obtain⟨a,vs,h1,h2,h3⟩:=h;exact⟨a,vs,h1,e.seq h2,aH.same e ds vs h3⟩
 | .obj a,v,h=>by simpa[Rep] using h
 | .exc c,v,h=>by
  simp only[Rep] at h ⊢;obtain⟨a,C,h1,h2,h3⟩:=h;exact⟨a,C,h1,h2,e _ _ h3⟩
 | .dic ks ds,v,h=>by
  simp only[Rep] at h ⊢;obtain⟨a,kvs,h1,h2,h3,h4⟩:=h;refine⟨a,kvs,h1,?_,h3,aH.same e ds _ h4⟩;rcases h2 with(h2 | ⟨o,h2⟩) | h2
  ·exact .inl (.inl (e _ _ h2))
  ·exact .inl (.inr ⟨o,e _ _ h2⟩)
  ·exact .inr h2
theorem aH.same{K:Zf}{H H':Hp}(e:Same H H'):∀ (ds:List D) (vs:List V),aH K H ds vs->aH K H' ds vs
 | [],vs,h=>by simpa[aH] using h
 | d::ds,vs,h=>by
  simp only[aH] at h ⊢;obtain⟨v,r,h1,h2,h3⟩:=h;exact⟨v,r,h1,Rep.same e d v h2,aH.same e ds r h3⟩
end
theorem aH.length{K:Zf}{H:Hp}:∀ {ds:List D} {vs:List V},aH K H ds vs->ds.length=vs.length
 | [],vs,h=>by simp only[aH] at h;subst h;rfl
 | d::ds,vs,h=>by
  simp only[aH] at h;obtain⟨v,r,rfl,_,h3⟩:=h;simp[h3.length]
theorem aH.nil{K:Zf}{H:Hp}:aH K H [] []:=by simp[aH]
theorem aH.cons{K:Zf}{H:Hp}{d:D}{ds:List D}{v:V}{vs:List V}(h:Rep K H d v)(r:aH K H ds vs):aH K H (d::ds) (v::vs):=by
 simp only[aH];exact⟨v,vs,rfl,h,r⟩
theorem aH.append{K:Zf}{H:Hp}:∀ {ds es:List D} {vs us:List V},aH K H ds vs->aH K H es us->aH K H (ds++es) (vs++us)
 | [],es,vs,us,h,h'=>by simp only[aH] at h;subst h;exact h'
 | d::ds,es,vs,us,h,h'=>by
  simp only[aH] at h;obtain⟨v,r,rfl,h2,h3⟩:=h;exact .cons h2 (h3.append h')
theorem aH.get{K:Zf}{H:Hp}:∀ {ds:List D} {vs:List V} {i:Nat} {d:D},aH K H ds vs->ds[i]?=some d->∃ v,vs[i]?=some v/\Rep K H d v
 | [],vs,i,d,_,e=>by simp at e
 | d'::ds,vs,0,d,h,e=>by
  simp only[aH] at h;obtain⟨v,r,rfl,h2,h3⟩:=h;simp at e;subst e;exact⟨v,rfl,h2⟩
 | d'::ds,vs,i+1,d,h,e=>by
  simp only[aH] at h;obtain⟨v,r,rfl,h2,h3⟩:=h;obtain⟨u,e1,e2⟩:=h3.get (i:=i) (d:=d) (by simpa using e);exact⟨u,by simpa using e1,e2⟩
theorem aH.take{K:Zf}{H:Hp}:∀ (n:Nat) {ds:List D} {vs:List V},aH K H ds vs->aH K H (ds.take n) (vs.take n)
 | 0,_,_,_=>by simpa using aH.nil
 | n+1,[],vs,h=>by simp only[aH] at h;subst h;simpa using aH.nil
 | n+1,d::ds,vs,h=>by
  simp only[aH] at h;obtain⟨v,r,rfl,h2,h3⟩:=h;simpa using aH.cons h2 (h3.take n)
theorem aH.drop{K:Zf}{H:Hp}:∀ (n:Nat) {ds:List D} {vs:List V},aH K H ds vs->aH K H (ds.drop n) (vs.drop n)
 | 0,_,_,h=>by simpa using h
 | n+1,[],vs,h=>by simp only[aH] at h;subst h;simpa using aH.nil
 | n+1,d::ds,vs,h=>by
  simp only[aH] at h;obtain⟨v,r,rfl,h2,h3⟩:=h;simpa using h3.drop n
theorem aH.reverse{K:Zf}{H:Hp}:∀ {ds:List D} {vs:List V},aH K H ds vs->aH K H ds.reverse vs.reverse
 | [],vs,h=>by simp only[aH] at h;subst h;simpa using aH.nil
 | d::ds,vs,h=>by
  simp only[aH] at h;obtain⟨v,r,rfl,h2,h3⟩:=h;simpa using h3.reverse.append (.cons h2 .nil)
structure Ext (Hs H Hs' H':Hp):Prop where
 vis:Same Hs Hs'
 all:Same H H'
 sub:Same Hs' H'
 hid:∀ b o,H b=some o->Hs b=none->Hs' b=none
theorem Ext.refl{Hs H:Hp}(h:Same Hs H):Ext Hs H Hs H:=⟨.refl _,.refl _,h,fun _ _ _ h=>h⟩
theorem Ext.trans{Hs H Hs1 H1 Hs2 H2:Hp}(a:Ext Hs H Hs1 H1)(b:Ext Hs1 H1 Hs2 H2):Ext Hs H Hs2 H2 :=
 ⟨a.vis.trans b.vis,a.all.trans b.all,b.sub,fun c o h1 h2=>b.hid c o (a.all c o h1) (a.hid c o h1 h2)⟩
theorem Ext.new{Hs H:Hp}(h:Same Hs H){p:Addr}(o:HO)(hp:H p=none):Ext Hs H (upd Hs p o) (upd H p o) where
 vis:=fun b u e=>by rw[ak (aq (h b u e) hp)];exact e
 all:=fun b u e=>by rw[ak (aq e hp)];exact e
 sub:=fun b u e=>by
  by_cases hb:b=p
  ·subst hb;rw[aB] at e ⊢;exact e
  ·rw[ak hb] at e ⊢;exact h b u e
 hid:=fun b u e n=>by rw[ak (aq e hp)];exact n
theorem isT{X:Cx}{z0:List (Addr×Obj)}{σ:St}{H:Hp}{s:Shared}{a:Addr}{vs:List V}(I:Inv X z0 σ H s)(h:SqT X.K H a vs):∃ its:List Value,Vals vs its/\s.heap.IsTuple a its.toArray:=by
 obtain⟨its,r,p,_⟩:=I.tuple h;exact⟨its,r,p⟩
theorem isL{X:Cx}{z0:List (Addr×Obj)}{σ:St}{H:Hp}{s:Shared}{a:Addr}{vs:List V}(I:Inv X z0 σ H s)(h:SqL X.K H a vs):∃ its:List Value,Vals vs its/\s.heap.IsList a its.toArray:=by
 obtain⟨its,r,p,_⟩:=I.list h;exact⟨its,r,p.isList⟩
mutual
theorem lR:∀ d:D,dep d<1000->deq d d=true
 | .non,_=>rfl
 | .bl b,_=>by simp[deq]
 | .int i,_=>by simp[deq]
 | .str x,_=>by simp[deq]
 | .tup xs,h=>by simp only[deq];exact jx xs (by simp only[dep] at h;omega)
 | .lst xs,h=>by simp only[deq];exact jx xs (by simp only[dep] at h;omega)
 | .exc c,h=>absurd h (by simp[dep])
 | .dic _ _,h=>absurd h (by simp[dep])
 | .obj _,h=>absurd h (by simp[dep])
theorem jx:∀ ds:List D,deps ds<1000->nM ds ds=true
 | [],_=>rfl
 | d::ds,h=>by
  simp only[deps] at h;simp only[nM,lR d (by omega),jx ds (by omega),Bool.and_self]
end
theorem qR:∀ {xs ys:List D} {e:Nat->Bool},(∀ (j:Nat) (x y:D),xs[j]?=some x->ys[j]?=some y->e j=deq x y)->((List.range (min xs.length ys.length)).all e&&xs.length==ys.length)=nM xs ys
 | [],[],_,_=>rfl
 | [],y::ys,_,_=>by simp[nM]
 | x::xs,[],_,_=>by simp[nM]
 | x::xs,y::ys,e,h=>by
  have ih:=qR (xs:=xs) (ys:=ys) (e:=fun j=>e (j+1)) fun j a b e1 e2=>h (j+1) a b (by simpa using e1) (by simpa using e2);have h0:=h 0 x y rfl rfl;simp only[nM,<- ih,<- h0,O2z];rw[show min (xs.length+1) (ys.length+1)=min xs.length ys.length+1 by omega,List.range_succ_eq_map,List.all_cons,List.all_map];rw[Bool.and_assoc];congr 1;congr 1;simp
section
variable {X:Cx} {z0:List (Addr×Obj)} {σ:St} {H:Hp} {s:Shared}
mutual
theorem Rep.inj(I:Inv X z0 σ H s):∀ (d d':D) (v:V),dep d<1000->dep d'<1000->Rep X.K H d v->Rep X.K H d' v->d=d'
 | .non,d',v,z,z',h,h'=>by simp only[Rep] at h;subst h;cases d'<;>simp[Rep] at h' ⊢
 | .bl b,d',v,z,z',h,h'=>by simp only[Rep] at h;subst h;cases d'<;>simp[Rep] at h' ⊢;exact h'
 | .int b,d',v,z,z',h,h'=>by simp only[Rep] at h;subst h;cases d'<;>simp[Rep] at h' ⊢;exact h'
 | .str b,d',v,z,z',h,h'=>by simp only[Rep] at h;subst h;cases d'<;>simp[Rep] at h' ⊢;exact h'
 | .tup ds,d',v,z,z',h,h'=>by
  simp only[Rep] at h;obtain⟨a,vs,rfl,h2,h3⟩:=h
  cases d' with
  | tup es =>
   simp only[Rep] at h';obtain⟨a',vs',e,h2',h3'⟩:=h';cases e;have:=I.tuple_inj h2 h2';subst this;rw[aH.inj I ds es vs (by simp only[dep] at z;omega) (by simp only[dep] at z';omega) h3 h3']
  | lst es =>
   simp only[Rep] at h';obtain⟨a',vs',e,h2',h3'⟩:=h';cases e;obtain⟨i1,_,p1⟩:=isT I h2;obtain⟨i2,_,p2⟩:=isL I h2';exact absurd rfl (ne_of_list_tuple p2 p1)
  | non=>simp[Rep] at h'
  | bl _=>simp[Rep] at h'
  | int _=>simp[Rep] at h'
  | str _=>simp[Rep] at h'
  | exc _=>exact absurd z' (by simp[dep])
  | dic _ _=>exact absurd z' (by simp[dep])
  | obj _=>exact absurd z' (by simp[dep])
 | .lst ds,d',v,z,z',h,h'=>by
  simp only[Rep] at h;obtain⟨a,vs,rfl,h2,h3⟩:=h
  cases d' with
  | lst es =>
   simp only[Rep] at h';obtain⟨a',vs',e,h2',h3'⟩:=h';cases e;have:=I.list_inj h2 h2';subst this;rw[aH.inj I ds es vs (by simp only[dep] at z;omega) (by simp only[dep] at z';omega) h3 h3']
  | tup es =>
   simp only[Rep] at h';obtain⟨a',vs',e,h2',h3'⟩:=h';cases e;obtain⟨i1,_,p1⟩:=isL I h2;obtain⟨i2,_,p2⟩:=isT I h2';exact absurd rfl (ne_of_list_tuple p1 p2)
  | non=>simp[Rep] at h'
  | bl _=>simp[Rep] at h'
  | int _=>simp[Rep] at h'
  | str _=>simp[Rep] at h'
  | exc _=>exact absurd z' (by simp[dep])
  | dic _ _=>exact absurd z' (by simp[dep])
  | obj _=>exact absurd z' (by simp[dep])
 | .exc c,d',v,z,z',h,h'=>absurd z (by simp[dep])
 | .dic _ _,d',v,z,z',h,h'=>absurd z (by simp[dep])
 | .obj _,d',v,z,z',h,h'=>absurd z (by simp[dep])
theorem aH.inj(I:Inv X z0 σ H s):∀ (ds es:List D) (vs:List V),deps ds<1000->deps es<1000->aH X.K H ds vs->aH X.K H es vs->ds=es
 | [],es,vs,z,z',h,h'=>by
  simp only[aH] at h;subst h
  cases es with
  | nil=>rfl
  | cons e es=>simp[aH] at h'
 | d::ds,es,vs,z,z',h,h'=>by
  simp only[aH] at h;obtain⟨v,r,rfl,h2,h3⟩:=h
  cases es with
  | nil=>simp[aH] at h'
  | cons e es =>
   simp only[aH] at h';obtain⟨v',r',e',h2',h3'⟩:=h';cases e';simp only[deps] at z z';rw[Rep.inj I d e v (by omega) (by omega) h2 h2',aH.inj I ds es r (by omega) (by omega) h3 h3']
end
def eJ(ds es:List D)(j:Nat):Bool:=match ds[j]?,es[j]? with
 | some x,some y=>deq x y
 | _,_=>true
theorem wV(ds es:List D):((List.range (min ds.length es.length)).all (eJ ds es)&&ds.length==es.length)=nM ds es :=
 qR fun j x y e1 e2=>by unfold eJ;rw[e1,e2]
theorem wU(ds es:List D)(h:ds.length=es.length):(List.range ds.length).all (eJ ds es)=nM ds es:=by
 rw[<- wV ds es,<- h];simp
theorem lQ:∀ {xs ys:List D},xs.length≠ys.length->nM xs ys=false
 | [],[],h=>absurd rfl h
 | [],_::_,_=>rfl
 | _::_,[],_=>rfl
 | x::xs,y::ys,h=>by
  simp only[nM,lQ (xs:=xs) (ys:=ys) (by intro e;exact h (by simp[e])),V3z]
theorem fQ{A:Around}:A.in1.units=A.units+1:=rfl
mutual
theorem wO(I:Inv X z0 σ H s):∀ (d d':D) (v v':V) (u u':Value) (A:Around),Rep X.K H d v->Rep X.K H d' v'->RelV v u->RelV v' u'->A.units+dep d<cLine->dep d<1000->dep d'<1000->EqAt A s u u' (deq d d')
 | .non,d',v,v',u,u',A,h,h',r,r',hu,z,z'=>by
  simp only[Rep] at h;subst h;cases (show u=Value.none from r)
  have hu0:A.units<cLine:=V1z (T2z _ _) hu
  cases d' with
  | exc _=>exact absurd z' (by simp[dep])
  | dic _ _=>exact absurd z' (by simp[dep])
  | obj _=>exact absurd z' (by simp[dep])
  | non=>simp only[Rep] at h';subst h';cases (show u'=Value.none from r');exact EqAt.same _
  | bl b=>simp only[Rep] at h';subst h';cases (show u'=Value.bool b from r');exact EqAt.none_bool b
  | int i=>simp only[Rep] at h';subst h';obtain⟨t,rfl⟩:=r';exact EqAt.none_int i t
  | str x=>simp only[Rep] at h';subst h';obtain⟨t,rfl⟩:=r';exact EqAt.none_str x t
  | tup es=>simp only[Rep] at h';obtain⟨a,vs,rfl,h2,h3⟩:=h';cases (show u'=Value.ref a from r');obtain⟨its,_,p⟩:=isT I h2;exact EqAt.none_tuple p hu0
  | lst es=>simp only[Rep] at h';obtain⟨a,vs,rfl,h2,h3⟩:=h';cases (show u'=Value.ref a from r');obtain⟨its,_,p⟩:=isL I h2;exact EqAt.none_list p hu0
 | .bl c,d',v,v',u,u',A,h,h',r,r',hu,z,z'=>by
  simp only[Rep] at h;subst h;cases (show u=Value.bool c from r)
  have hu0:A.units<cLine:=V1z (T2z _ _) hu
  cases d' with
  | exc _=>exact absurd z' (by simp[dep])
  | dic _ _=>exact absurd z' (by simp[dep])
  | obj _=>exact absurd z' (by simp[dep])
  | non=>simp only[Rep] at h';subst h';cases (show u'=Value.none from r');exact EqAt.bool_none c
  | bl b=>simp only[Rep] at h';subst h';cases (show u'=Value.bool b from r');exact EqAt.bool_bool c b
  | int i=>simp only[Rep] at h';subst h';obtain⟨t,rfl⟩:=r';exact EqAt.bool_int c i t
  | str x=>simp only[Rep] at h';subst h';obtain⟨t,rfl⟩:=r';exact EqAt.bool_str c x t
  | tup es=>simp only[Rep] at h';obtain⟨a,vs,rfl,h2,h3⟩:=h';cases (show u'=Value.ref a from r');obtain⟨its,_,p⟩:=isT I h2;exact EqAt.bool_tuple c p hu0
  | lst es=>simp only[Rep] at h';obtain⟨a,vs,rfl,h2,h3⟩:=h';cases (show u'=Value.ref a from r');obtain⟨its,_,p⟩:=isL I h2;exact EqAt.bool_list c p hu0
 | .int c,d',v,v',u,u',A,h,h',r,r',hu,z,z'=>by
  simp only[Rep] at h;subst h;obtain⟨t0,rfl⟩:=r
  have hu0:A.units<cLine:=V1z (T2z _ _) hu
  cases d' with
  | exc _=>exact absurd z' (by simp[dep])
  | dic _ _=>exact absurd z' (by simp[dep])
  | obj _=>exact absurd z' (by simp[dep])
  | non=>simp only[Rep] at h';subst h';cases (show u'=Value.none from r');exact EqAt.int_none c t0
  | bl b=>simp only[Rep] at h';subst h';cases (show u'=Value.bool b from r');exact EqAt.int_bool c t0 b
  | int i=>simp only[Rep] at h';subst h';obtain⟨t,rfl⟩:=r';exact EqAt.int_int c t0 i t
  | str x=>simp only[Rep] at h';subst h';obtain⟨t,rfl⟩:=r';exact EqAt.int_str c t0 x t
  | tup es=>simp only[Rep] at h';obtain⟨a,vs,rfl,h2,h3⟩:=h';cases (show u'=Value.ref a from r');obtain⟨its,_,p⟩:=isT I h2;exact EqAt.int_tuple c t0 p hu0
  | lst es=>simp only[Rep] at h';obtain⟨a,vs,rfl,h2,h3⟩:=h';cases (show u'=Value.ref a from r');obtain⟨its,_,p⟩:=isL I h2;exact EqAt.int_list c t0 p hu0
 | .str c,d',v,v',u,u',A,h,h',r,r',hu,z,z'=>by
  simp only[Rep] at h;subst h;obtain⟨t0,rfl⟩:=r
  have hu0:A.units<cLine:=V1z (T2z _ _) hu
  cases d' with
  | exc _=>exact absurd z' (by simp[dep])
  | dic _ _=>exact absurd z' (by simp[dep])
  | obj _=>exact absurd z' (by simp[dep])
  | non=>simp only[Rep] at h';subst h';cases (show u'=Value.none from r');exact EqAt.str_none c t0
  | bl b=>simp only[Rep] at h';subst h';cases (show u'=Value.bool b from r');exact EqAt.str_bool c t0 b
  | int i=>simp only[Rep] at h';subst h';obtain⟨t,rfl⟩:=r';exact EqAt.str_int c t0 i t
  | str x=>simp only[Rep] at h';subst h';obtain⟨t,rfl⟩:=r';exact EqAt.str_str c t0 x t
  | tup es=>simp only[Rep] at h';obtain⟨a,vs,rfl,h2,h3⟩:=h';cases (show u'=Value.ref a from r');obtain⟨its,_,p⟩:=isT I h2;exact EqAt.str_tuple c t0 p hu0
  | lst es=>simp only[Rep] at h';obtain⟨a,vs,rfl,h2,h3⟩:=h';cases (show u'=Value.ref a from r');obtain⟨its,_,p⟩:=isL I h2;exact EqAt.str_list c t0 p hu0
 | .tup ds,d',v,v',u,u',A,h,h',r,r',hu,z,z'=>by
  have hh:=h;simp only[Rep] at h;obtain⟨a,vs,rfl,h2,h3⟩:=h;cases (show u=Value.ref a from r);obtain⟨its,rv,p⟩:=isT I h2;have hu0:A.units<cLine:=V1z (T2z _ _) hu
  have hu1:A.in1.units+deps ds<cLine:=by have:dep (.tup ds)=deps ds+1:=rfl;rw[fQ];omega
  cases d' with
  | exc _=>exact absurd z' (by simp[dep])
  | dic _ _=>exact absurd z' (by simp[dep])
  | obj _=>exact absurd z' (by simp[dep])
  | non=>simp only[Rep] at h';subst h';cases (show u'=Value.none from r');exact EqAt.tuple_none p hu0
  | bl b=>simp only[Rep] at h';subst h';cases (show u'=Value.bool b from r');exact EqAt.tuple_bool b p hu0
  | int i=>simp only[Rep] at h';subst h';obtain⟨t,rfl⟩:=r';exact EqAt.tuple_int i t p hu0
  | str x=>simp only[Rep] at h';subst h';obtain⟨t,rfl⟩:=r';exact EqAt.tuple_str x t p hu0
  | tup es =>
   have hh':=h';simp only[Rep] at h';obtain⟨b,us,rfl,h2',h3'⟩:=h';cases (show u'=Value.ref b from r');obtain⟨its',rv',p'⟩:=isT I h2'
   by_cases hab:a=b
   ·subst hab
    have:=Rep.inj I _ _ _ z z' hh hh';rw[<- this,lR _ z];exact EqAt.same _
   ·have q:=RcAt.tuples p p' hu0 (e:=eJ ds es) fun j g1 g2=>gq I ds es vs us its its' A.in1 h3 h3' rv rv' hu1 (by simp only[dep] at z;omega) (by simp only[dep] at z';omega) j _ _ (by simp at g1 ⊢) (by simp at g2 ⊢)
    have l1:=h3.length;have l2:=rv.length;have l3:=h3'.length;have l4:=rv'.length
    rw[D2z,D2z,<- l2,<- l1,<- l4,<- l3,wV] at q;exact .of_refs hab q
  | lst es=>simp only[Rep] at h';obtain⟨a,vs,rfl,h2,h3⟩:=h';cases (show u'=Value.ref a from r');obtain⟨its,_,p'⟩:=isL I h2;exact EqAt.tuple_list p p' hu0
 | .lst ds,d',v,v',u,u',A,h,h',r,r',hu,z,z'=>by
  have hh:=h;simp only[Rep] at h;obtain⟨a,vs,rfl,h2,h3⟩:=h;cases (show u=Value.ref a from r);obtain⟨its,rv,p⟩:=isL I h2;have hu0:A.units<cLine:=V1z (T2z _ _) hu
  have hu1:A.in1.units+deps ds<cLine:=by have:dep (.lst ds)=deps ds+1:=rfl;rw[fQ];omega
  cases d' with
  | exc _=>exact absurd z' (by simp[dep])
  | dic _ _=>exact absurd z' (by simp[dep])
  | obj _=>exact absurd z' (by simp[dep])
  | non=>simp only[Rep] at h';subst h';cases (show u'=Value.none from r');exact EqAt.list_none p hu0
  | bl b=>simp only[Rep] at h';subst h';cases (show u'=Value.bool b from r');exact EqAt.list_bool b p hu0
  | int i=>simp only[Rep] at h';subst h';obtain⟨t,rfl⟩:=r';exact EqAt.list_int i t p hu0
  | str x=>simp only[Rep] at h';subst h';obtain⟨t,rfl⟩:=r';exact EqAt.list_str x t p hu0
  | lst es =>
   have hh':=h';simp only[Rep] at h';obtain⟨b,us,rfl,h2',h3'⟩:=h';cases (show u'=Value.ref b from r');obtain⟨its',rv',p'⟩:=isL I h2';have l1:=h3.length;have l2:=rv.length;have l3:=h3'.length;have l4:=rv'.length
   by_cases hab:a=b
   ·subst hab
    have:=Rep.inj I _ _ _ z z' hh hh';rw[<- this,lR _ z];exact EqAt.same _
   ·by_cases hl:ds.length=es.length
    ·have q:=RcAt.lists p p' (by simp;omega) hu0 (e:=eJ ds es) fun j g1 g2=>gq I ds es vs us its its' A.in1 h3 h3' rv rv' hu1 (by simp only[dep] at z;omega) (by simp only[dep] at z';omega) j _ _ (by simp at g1 ⊢) (by simp at g2 ⊢)
     rw[D2z,<- l2,<- l1,wU _ _ hl] at q;exact .of_refs hab q
    ·have q:=RcAt.lists_lengths p p' (by simp;omega) hu0
     rw[show deq (.lst ds) (.lst es)=nM ds es from rfl,lQ hl];exact .of_refs hab q
  | tup es=>simp only[Rep] at h';obtain⟨a,vs,rfl,h2,h3⟩:=h';cases (show u'=Value.ref a from r');obtain⟨its,_,p'⟩:=isT I h2;exact EqAt.list_tuple p p' hu0
 | .exc c,d',v,v',u,u',A,h,h',r,r',hu,z,z'=>absurd z (by simp[dep])
 | .dic _ _,d',v,v',u,u',A,h,h',r,r',hu,z,z'=>absurd z (by simp[dep])
 | .obj _,d',v,v',u,u',A,h,h',r,r',hu,z,z'=>absurd z (by simp[dep])
theorem gq(I:Inv X z0 σ H s):∀ (ds es:List D) (vs us:List V) (its its':List Value) (A:Around),aH X.K H ds vs->aH X.K H es us->Vals vs its->Vals us its'->A.units+deps ds<cLine->deps ds<1000->deps es<1000 ->
  ∀ (j:Nat) (u u':Value),its[j]?=some u->its'[j]?=some u'->EqAt A s u u' (eJ ds es j)
 | [],es,vs,us,its,its',A,h,h',r,r',hu,z,z',j,u,u',e1,e2=>by
  simp only[aH] at h;subst h;cases r;simp at e1
 | d::ds,es,vs,us,its,its',A,h,h',r,r',hu,z,z',j,u,u',e1,e2=>by
  simp only[aH] at h;obtain⟨v,vr,rfl,h2,h3⟩:=h
  cases r with
  | cons r rr =>
   cases es with
   | nil=>simp only[aH] at h';subst h';cases r';simp at e2
   | cons e es =>
    simp only[aH] at h';obtain⟨v',vr',rfl,h2',h3'⟩:=h'
    cases r' with
    | cons r' rr' =>
     have hd:dep d<=deps (d::ds):=Nat.le_max_left _ _;have hds:deps ds<=deps (d::ds):=Nat.le_max_right _ _
     cases j with
     | zero =>
      simp at e1 e2;subst e1 e2
      exact wO I d e v v' _ _ A h2 h2' r r' (by omega) (by simp only[deps] at z;omega) (by simp only[deps] at z';omega)
     | succ j =>
      have q:=gq I ds es vr vr' _ _ A h3 h3' rr rr' (by omega) (by simp only[deps] at z;omega) (by simp only[deps] at z';omega) j u u' (by simpa using e1) (by simpa using e2)
      simpa[eJ] using q
end
theorem lW(I:Inv X z0 σ H s){d d':D}{v v':V}{u u':Value}(A:Around)(h:Rep X.K H d v)(h':Rep X.K H d' v')(r:RelV v u)(r':RelV v' u')(hu:A.units+dep d<cLine)(z:dep d<1000)(z':dep d'<1000):RcAt A s u u' (deq d d')/\RcNeAt A s u u' (!deq d d'):=by
 have hu0:A.units<cLine:=V1z (T2z _ _) hu
 cases d with
 | exc _=>exact absurd z (by simp[dep])
 | dic _ _=>exact absurd z (by simp[dep])
 | obj _=>exact absurd z (by simp[dep])
 | non =>
  simp only[Rep] at h;subst h;cases (show u=Value.none from r)
  cases d' with
  | exc _=>exact absurd z' (by simp[dep])
  | dic _ _=>exact absurd z' (by simp[dep])
  | obj _=>exact absurd z' (by simp[dep])
  | non=>simp only[Rep] at h';subst h';cases (show u'=Value.none from r');exact⟨RcAt.none_none,RcNeAt.none_none⟩
  | bl b=>simp only[Rep] at h';subst h';cases (show u'=Value.bool b from r');exact⟨RcAt.none_bool b,RcNeAt.none_bool b⟩
  | int i=>simp only[Rep] at h';subst h';obtain⟨t,rfl⟩:=r';exact⟨RcAt.none_int i t,RcNeAt.none_int i t⟩
  | str x=>simp only[Rep] at h';subst h';obtain⟨t,rfl⟩:=r';exact⟨RcAt.none_str x t,RcNeAt.none_str x t⟩
  | tup es=>simp only[Rep] at h';obtain⟨a,vs,rfl,h2,h3⟩:=h';cases (show u'=Value.ref a from r');obtain⟨its,_,p⟩:=isT I h2;exact⟨RcAt.none_tuple p hu0,RcNeAt.none_tuple p hu0⟩
  | lst es=>simp only[Rep] at h';obtain⟨a,vs,rfl,h2,h3⟩:=h';cases (show u'=Value.ref a from r');obtain⟨its,_,p⟩:=isL I h2;exact⟨RcAt.none_list p hu0,RcNeAt.none_list p hu0⟩
 | bl c =>
  simp only[Rep] at h;subst h;cases (show u=Value.bool c from r)
  cases d' with
  | exc _=>exact absurd z' (by simp[dep])
  | dic _ _=>exact absurd z' (by simp[dep])
  | obj _=>exact absurd z' (by simp[dep])
  | non=>simp only[Rep] at h';subst h';cases (show u'=Value.none from r');exact⟨RcAt.bool_none c,RcNeAt.bool_none c⟩
  | bl b=>simp only[Rep] at h';subst h';cases (show u'=Value.bool b from r');exact⟨RcAt.bool_bool c b,RcNeAt.bool_bool c b⟩
  | int i=>simp only[Rep] at h';subst h';obtain⟨t,rfl⟩:=r';exact⟨RcAt.bool_int c i t,RcNeAt.bool_int c i t⟩
  | str x=>simp only[Rep] at h';subst h';obtain⟨t,rfl⟩:=r';exact⟨RcAt.bool_str c x t,RcNeAt.bool_str c x t⟩
  | tup es=>simp only[Rep] at h';obtain⟨a,vs,rfl,h2,h3⟩:=h';cases (show u'=Value.ref a from r');obtain⟨its,_,p⟩:=isT I h2;exact⟨RcAt.bool_tuple c p hu0,RcNeAt.bool_tuple c p hu0⟩
  | lst es=>simp only[Rep] at h';obtain⟨a,vs,rfl,h2,h3⟩:=h';cases (show u'=Value.ref a from r');obtain⟨its,_,p⟩:=isL I h2;exact⟨RcAt.bool_list c p hu0,RcNeAt.bool_list c p hu0⟩
 | int c =>
  simp only[Rep] at h;subst h;obtain⟨t0,rfl⟩:=r
  cases d' with
  | exc _=>exact absurd z' (by simp[dep])
  | dic _ _=>exact absurd z' (by simp[dep])
  | obj _=>exact absurd z' (by simp[dep])
  | non=>simp only[Rep] at h';subst h';cases (show u'=Value.none from r');exact⟨RcAt.int_none c t0,RcNeAt.int_none c t0⟩
  | bl b=>simp only[Rep] at h';subst h';cases (show u'=Value.bool b from r');exact⟨RcAt.int_bool c t0 b,RcNeAt.int_bool c t0 b⟩
  | int i=>simp only[Rep] at h';subst h';obtain⟨t,rfl⟩:=r';exact⟨RcAt.int_int c t0 i t,RcNeAt.int_int c t0 i t⟩
  | str x=>simp only[Rep] at h';subst h';obtain⟨t,rfl⟩:=r';exact⟨RcAt.int_str c t0 x t,RcNeAt.int_str c t0 x t⟩
  | tup es=>simp only[Rep] at h';obtain⟨a,vs,rfl,h2,h3⟩:=h';cases (show u'=Value.ref a from r');obtain⟨its,_,p⟩:=isT I h2;exact⟨RcAt.int_tuple c t0 p hu0,RcNeAt.int_tuple c t0 p hu0⟩
  | lst es=>simp only[Rep] at h';obtain⟨a,vs,rfl,h2,h3⟩:=h';cases (show u'=Value.ref a from r');obtain⟨its,_,p⟩:=isL I h2;exact⟨RcAt.int_list c t0 p hu0,RcNeAt.int_list c t0 p hu0⟩
 | str c =>
  simp only[Rep] at h;subst h;obtain⟨t0,rfl⟩:=r
  cases d' with
  | exc _=>exact absurd z' (by simp[dep])
  | dic _ _=>exact absurd z' (by simp[dep])
  | obj _=>exact absurd z' (by simp[dep])
  | non=>simp only[Rep] at h';subst h';cases (show u'=Value.none from r');exact⟨RcAt.str_none c t0,RcNeAt.str_none c t0⟩
  | bl b=>simp only[Rep] at h';subst h';cases (show u'=Value.bool b from r');exact⟨RcAt.str_bool c t0 b,RcNeAt.str_bool c t0 b⟩
  | int i=>simp only[Rep] at h';subst h';obtain⟨t,rfl⟩:=r';exact⟨RcAt.str_int c t0 i t,RcNeAt.str_int c t0 i t⟩
  | str x=>simp only[Rep] at h';subst h';obtain⟨t,rfl⟩:=r';exact⟨RcAt.str_str c t0 x t,RcNeAt.str_str c t0 x t⟩
  | tup es=>simp only[Rep] at h';obtain⟨a,vs,rfl,h2,h3⟩:=h';cases (show u'=Value.ref a from r');obtain⟨its,_,p⟩:=isT I h2;exact⟨RcAt.str_tuple c t0 p hu0,RcNeAt.str_tuple c t0 p hu0⟩
  | lst es=>simp only[Rep] at h';obtain⟨a,vs,rfl,h2,h3⟩:=h';cases (show u'=Value.ref a from r');obtain⟨its,_,p⟩:=isL I h2;exact⟨RcAt.str_list c t0 p hu0,RcNeAt.str_list c t0 p hu0⟩
 | tup ds =>
  simp only[Rep] at h;obtain⟨a,vs,rfl,h2,h3⟩:=h;cases (show u=Value.ref a from r);obtain⟨its,rv,p⟩:=isT I h2
  have hu1:A.in1.units+deps ds<cLine:=by have:dep (.tup ds)=deps ds+1:=rfl;rw[fQ];omega
  cases d' with
  | exc _=>exact absurd z' (by simp[dep])
  | dic _ _=>exact absurd z' (by simp[dep])
  | obj _=>exact absurd z' (by simp[dep])
  | non=>simp only[Rep] at h';subst h';cases (show u'=Value.none from r');exact⟨RcAt.tuple_none p hu0,RcNeAt.tuple_none p hu0⟩
  | bl b=>simp only[Rep] at h';subst h';cases (show u'=Value.bool b from r');exact⟨RcAt.tuple_bool b p hu0,RcNeAt.tuple_bool b p hu0⟩
  | int i=>simp only[Rep] at h';subst h';obtain⟨t,rfl⟩:=r';exact⟨RcAt.tuple_int i t p hu0,RcNeAt.tuple_int i t p hu0⟩
  | str x=>simp only[Rep] at h';subst h';obtain⟨t,rfl⟩:=r';exact⟨RcAt.tuple_str x t p hu0,RcNeAt.tuple_str x t p hu0⟩
  | tup es =>
   simp only[Rep] at h';obtain⟨b,us,rfl,h2',h3'⟩:=h';cases (show u'=Value.ref b from r');obtain⟨its',rv',p'⟩:=isT I h2'
   have l1:=h3.length;have l2:=rv.length;have l3:=h3'.length;have l4:=rv'.length
   have he:∀ j (g1:j<its.toArray.size) (g2:j<its'.toArray.size),EqAt A.in1 s its.toArray[j] its'.toArray[j] (eJ ds es j):=fun j g1 g2=>gq I ds es vs us its its' A.in1 h3 h3' rv rv' hu1 (by simp only[dep] at z;omega) (by simp only[dep] at z';omega) j _ _ (by simp at g1 ⊢) (by simp at g2 ⊢)
   have q:=RcAt.tuples p p' hu0 he;have q':=RcNeAt.tuples p p' hu0 he;rw[D2z,D2z,<- l2,<- l1,<- l4,<- l3,wV] at q q';exact⟨q,q'⟩
  | lst es=>simp only[Rep] at h';obtain⟨a,vs,rfl,h2,h3⟩:=h';cases (show u'=Value.ref a from r');obtain⟨its,_,p'⟩:=isL I h2;exact⟨RcAt.tuple_list p p' hu0,RcNeAt.tuple_list p p' hu0⟩
 | lst ds =>
  simp only[Rep] at h;obtain⟨a,vs,rfl,h2,h3⟩:=h;cases (show u=Value.ref a from r);obtain⟨its,rv,p⟩:=isL I h2
  have hu1:A.in1.units+deps ds<cLine:=by have:dep (.lst ds)=deps ds+1:=rfl;rw[fQ];omega
  cases d' with
  | exc _=>exact absurd z' (by simp[dep])
  | dic _ _=>exact absurd z' (by simp[dep])
  | obj _=>exact absurd z' (by simp[dep])
  | non=>simp only[Rep] at h';subst h';cases (show u'=Value.none from r');exact⟨RcAt.list_none p hu0,RcNeAt.list_none p hu0⟩
  | bl b=>simp only[Rep] at h';subst h';cases (show u'=Value.bool b from r');exact⟨RcAt.list_bool b p hu0,RcNeAt.list_bool b p hu0⟩
  | int i=>simp only[Rep] at h';subst h';obtain⟨t,rfl⟩:=r';exact⟨RcAt.list_int i t p hu0,RcNeAt.list_int i t p hu0⟩
  | str x=>simp only[Rep] at h';subst h';obtain⟨t,rfl⟩:=r';exact⟨RcAt.list_str x t p hu0,RcNeAt.list_str x t p hu0⟩
  | lst es =>
   simp only[Rep] at h';obtain⟨b,us,rfl,h2',h3'⟩:=h';cases (show u'=Value.ref b from r');obtain⟨its',rv',p'⟩:=isL I h2'
   have l1:=h3.length;have l2:=rv.length;have l3:=h3'.length;have l4:=rv'.length
   by_cases hl:ds.length=es.length
   ·have he:∀ j (g1:j<its.toArray.size) (g2:j<its'.toArray.size),EqAt A.in1 s its.toArray[j] its'.toArray[j] (eJ ds es j):=fun j g1 g2=>gq I ds es vs us its its' A.in1 h3 h3' rv rv' hu1 (by simp only[dep] at z;omega) (by simp only[dep] at z';omega) j _ _ (by simp at g1 ⊢) (by simp at g2 ⊢)
    have q:=RcAt.lists p p' (by simp;omega) hu0 he
    have q':=RcNeAt.lists p p' (by simp;omega) hu0 he
    rw[D2z,<- l2,<- l1,wU _ _ hl] at q q';exact⟨q,q'⟩
   ·rw[show deq (.lst ds) (.lst es)=nM ds es from rfl,lQ hl]
    exact⟨RcAt.lists_lengths p p' (by simp;omega) hu0,RcNeAt.lists_lengths p p' (by simp;omega) hu0⟩
  | tup es=>simp only[Rep] at h';obtain⟨a,vs,rfl,h2,h3⟩:=h';cases (show u'=Value.ref a from r');obtain⟨its,_,p'⟩:=isT I h2;exact⟨RcAt.list_tuple p p' hu0,RcNeAt.list_tuple p p' hu0⟩
end
def fU(X:Cx)(e:Expr):TE:=fun σ H Q=>∀ z0 s,Inv X z0 σ H s->wpAny (model X.prog X.w) X.A (eval e X.env) (EP X z0 σ Q) X.xe s
def kj(X:Cx)(e:Expr):TT:=fun σ H Q=>∀ z0 s,Inv X z0 σ H s->wpAny (model X.prog X.w) X.A (isTrue e X.env (eval e X.env)) (TP X z0 σ Q) X.xe s
def uz(X:Cx)(es:List Expr):TA:=fun σ H Q=>∀ pos z0 s,Inv X z0 σ H s->wpAny (model X.prog X.w) X.A (spliced (backTo pos (starEach es X.env))) (AP X z0 σ Q) X.xe s
def uy(X:Cx)(tg iter:Expr):TI:=fun σ H R=>∀ z0 s,Inv X z0 σ H s->wpAny (model X.prog X.w) X.A (eval iter X.env) (fun v s1=>wpAny (model X.prog X.w) X.A (pyIter v) (PIE X z0 σ tg R) X.xe s1) X.xe s
section
variable {X:Cx} {e:Expr}
theorem ao:PE X e (fU X e):=fun z0 s σ H Q I h=>h z0 s I
theorem cL:PT X e (kj X e):=fun z0 s σ H Q I h=>h z0 s I
theorem cG{es:List Expr}:PA X es (uz X es):=fun pos z0 s σ H Q I h=>h pos z0 s I
theorem jR{tg iter:Expr}:PI X tg iter (uy X tg iter):=fun z0 s σ H R I h=>h z0 s I
theorem PE.sem{t:TE}{σ:St}{H:Hp}{Q:VK}(h:PE X e t)(q:t σ H Q):fU X e σ H Q:=fun z0 s I=>h z0 s σ H Q I q
theorem PT.sem{t:TT}{σ:St}{H:Hp}{Q:Bool->Hp->Prop}(h:PT X e t)(q:t σ H Q):kj X e σ H Q:=fun z0 s I=>h z0 s σ H Q I q
theorem PA.sem{es:List Expr}{t:TA}{σ:St}{H:Hp}{Q:List V->Hp->Prop}(h:PA X es t)(q:t σ H Q):uz X es σ H Q:=fun pos z0 s I=>h pos z0 s σ H Q I q
theorem PI.sem{tg iter:Expr}{t:TI}{σ:St}{H:Hp}{R:It->Hp->Prop}(h:PI X tg iter t)(q:t σ H R):uy X tg iter σ H R:=fun z0 s I=>h z0 s σ H R I q
end
def bV(K:Zf)(Hs:Hp)(ρ:Rho)(σ:St):Prop:=∀ (i:Nat) (x:Str) (d:D),ρ[i]?=some (x,.sh d)->∃ v,σ[i]?=some (some v)/\Rep K Hs d v
theorem bV.same{K:Zf}{Hs Hs':Hp}{ρ:Rho}{σ:St}(h:bV K Hs ρ σ)(e:Same Hs Hs'):bV K Hs' ρ σ:=fun i x d q=>by
 obtain⟨v,e1,e2⟩:=h i x d q;exact⟨v,e1,Rep.same e d v e2⟩
def JC(K:Zf)(J:It)(Hs0:Hp)(ds:List D):Prop:=∀ Hs H,Same Hs0 Hs->Same Hs H->J.stop ds.length H/\∀ (i:Nat) (d:D),ds[i]?=some d->J.go i H/\∀ x H',J.yld i H x H'->∃ Hs',Ext Hs H Hs' H'/\Rep K Hs' d x
def Ev(X:Cx)(ρ:Rho)(e:Expr)(d:D):Prop:=∀ σ H Hs Q,Same Hs H->bV X.K Hs ρ σ->(∀ v H' Hs',Ext Hs H Hs' H'->Rep X.K Hs' d v->Q v H')->fU X e σ H Q
def EvT(X:Cx)(ρ:Rho)(e:Expr)(b:Bool):Prop:=∀ σ H Hs Q,Same Hs H->bV X.K Hs ρ σ->(∀ H' Hs',Ext Hs H Hs' H'->Q b H')->kj X e σ H Q
def EvA(X:Cx)(ρ:Rho)(es:List Expr)(ds:List D):Prop:=∀ σ H Hs Q,Same Hs H->bV X.K Hs ρ σ->(∀ vs H' Hs',Ext Hs H Hs' H'->aH X.K Hs' ds vs->Q vs H')->uz X es σ H Q
def EvI(X:Cx)(ρ:Rho)(tg iter:Expr)(ds:List D):Prop:=∀ σ H Hs R,Same Hs H->bV X.K Hs ρ σ->(∀ J H' Hs',Ext Hs H Hs' H'->JC X.K J Hs' ds->R J H')->uy X tg iter σ H R
def spX(K:Zf)(call:Str->List D->Option D)(callx:Str->List D->Option Str)(f:Str)(ps:List Str):Sp:=fun vs H Q E=>vs.length=ps.length/\∃ Hs ds,Same Hs H/\aH K Hs ds vs /\
 ((∃ d,call f ds=some d/\∀ v H' Hs',Ext Hs H Hs' H'->Rep K Hs' d v->Q v H')\/(∃ c,callx f ds=some c/\∀ C H' Hs',PySem.W.nsIn K mainGlobals c=some (some (.ref C))->Ext Hs H Hs' H'->E (.ref C) none H'))
def Aj(K:Zf)(exs:List Str)(top:Str):Bool:=match PySem.W.nsIn K mainGlobals top with
  | some (some (.ref M))=>exs.all fun c=>match PySem.W.nsIn K mainGlobals c with
    | some (some (.ref C)) => xIn K C M && j9 K C && PySem.W.exmOne K (.ref C) (.ref M) == some true && PySem.W.kitOne K (.ref C) (.ref M) == some true && PySem.W.kitOne K (.ref C) (.type "ValueError") == some true &&
      exs.all fun c'=>match PySem.W.nsIn K mainGlobals c' with
        | some (some (.ref C'))=>PySem.W.kitOne K (.ref C) (.ref C')==some (c==c')
        | _=>false
    | _=>false
  | _=>exs.isEmpty
structure XText (K:Zf) (mg:Str->Option Value) (exs:List Str) (top:Str):Prop where
 glob:∀ x v,PySem.W.nsIn K mainGlobals x=some (some v)->mg x=some v
 cls:∀ c,exs.contains c=true->∃ C M,PySem.W.nsIn K mainGlobals c=some (some (.ref C))/\PySem.W.nsIn K mainGlobals top=some (some (.ref M))/\xIn K C M=true/\j9 K C=true/\PySem.W.exmOne K (.ref C) (.ref M)=some true/\PySem.W.kitOne K (.ref C) (.ref M)=some true/\PySem.W.kitOne K (.ref C) (.type "ValueError")=some true
 sub:∀ c c',exs.contains c=true->exs.contains c'=true->∃ C C',PySem.W.nsIn K mainGlobals c=some (some (.ref C))/\PySem.W.nsIn K mainGlobals c'=some (some (.ref C'))/\PySem.W.kitOne K (.ref C) (.ref C')=some (c==c')
theorem XText.of{K:Zf}{mg:Str->Option Value}{exs:List Str}{top:Str}(hg:∀ x v,PySem.W.nsIn K mainGlobals x=some (some v)->mg x=some v)(h:Aj K exs top=true):XText K mg exs top:=by
 unfold Aj at h;split at h
 ·rename_i M hM
  have all:=fun c (hc:exs.contains c=true)=>List.all_eq_true.mp h c (by simpa using hc);refine⟨hg,fun c hc=>?_,fun c c' hc hc'=>?_⟩
  ·have q:=all c hc
   split at q
   ·rename_i C hC
    simp only[W2z,beq_iff_eq] at q;exact⟨C,M,hC,hM,q.1.1.1.1.1,q.1.1.1.1.2,q.1.1.1.2,q.1.1.2,q.1.2⟩
   ·cases q
  ·have q:=all c hc
   split at q
   ·rename_i C hC
    simp only[W2z] at q;have q2:=List.all_eq_true.mp q.2 c' (by simpa using hc');split at q2
    ·rename_i C' hC'
     exact⟨C,C',hC,hC',by simpa using q2⟩
    ·cases q2
   ·cases q
 ·have e:exs=[]:=by simpa using h
  subst e;exact⟨hg,fun c hc=>absurd hc (by simp),fun c c' hc=>absurd hc (by simp)⟩
structure Good (cx:Cxt) (k:Nat) (X:Cx) (sc:Scope):Prop where
 calm:X.calm=true
 room:Room k X.A
 sce:X.env.scope=sc
 kind:sc.kind=.function
 nd:X.N.Nodup
 cst:∀ x d,cx.cst.lookup x=some d->∃ v u,(∀ H,Rep X.K H d v)/\X.mg x=some u/\RelV v u
 blt:∀ x b,cx.blt.lookup x=some b->X.mg x=none/\x=Str.ofString b
 exs:XText X.K X.mg cx.exs cx.top
 fns:∀ f,cx.fns.contains f=true->(f==("__debug__":Str))=false/\∃ a fd ps,(∀ ds d,cx.call f ds=some d->ds.length=ps.length)/\(∀ ds c,cx.callx f ds=some c->ds.length=ps.length)/\X.mg f=some (.ref a)/\PySem.W.keepIn X.K (.ref a)=true/\Binds X.K fd ps []/\FnOk X.prog X.w X.K X.mg X.base (CX1 X.prog X.w) k a fd ps (spX X.K cx.call cx.callx f ps)
 kw:KnW X.K X.w
section
variable {X:Cx} {ρ:Rho} {cx:Cxt} {k:Nat} {sc:Scope}
theorem bR:∀ {ρ:Rho} {x:Str} {s:Sl},ρ.lookup x=some s->∃ i:Nat,ρ[i]?=some (x,s)/\(ρ.map (·.1)).idxOf? x=some i
 | (y,t)::r,x,s,h=>by
  rw[R2z] at h
  cases hb:x==y with
  | true =>
   rw[hb] at h;cases h
   have:x=y:=by simpa using hb
   subst this;exact⟨0,rfl,by simp[List.idxOf?,List.findIdx?_cons]⟩
  | false =>
   rw[hb] at h;obtain⟨i,h1,h2⟩:=bR h;refine⟨i+1,by simpa using h1,?_⟩
   have hy:(y==x)=false:=by
    rw[J1z] at hb ⊢;exact fun e=>hb e.symm
   simp only[Z3z,List.idxOf?,List.findIdx?_cons,hy,W1z,A5z];simp only[List.idxOf?] at h2;rw[h2];rfl
theorem wH{x:Str}{d:D}{pos:Pos}(hN:X.N=ρ.map (·.1))(hv:Vis X.env.scope x)(hp:aD x=true)(h:ρ.lookup x=some (.sh d)):Ev X ρ (.Name x pos) d:=by
 intro σ H Hs Q hs hr hq;obtain⟨i,h1,_⟩:=bR h;obtain⟨v,e1,e2⟩:=hr i x d h1;unfold aD at hp;rw[W2z,V4z,V4z] at hp;refine PE.sem (eO (i:=i) (by rw[hN,List.getElem?_map,h1];rfl) hv (by simpa using hp.1) (by simpa using hp.2)) ⟨v,e1,hq v H Hs (.refl hs) e2⟩
theorem Jr{x:Str}{d:D}{v:V}{u:Value}{pos:Pos}(hg:Gl X x)(hd:∀ H,Rep X.K H d v)(hm:X.mg x=some u)(r:RelV v u)(hp:aD x=true):Ev X ρ (.Name x pos) d:=by
 intro σ H Hs Q hs hr hq;unfold aD at hp;rw[W2z,V4z,V4z] at hp;exact PE.sem (jh hg hm r (by simpa using hp.1)) (hq _ H Hs (.refl hs) (hd Hs))
theorem qP{c:Const}{d:D}{j:Nat}{pos:Pos}(h:(match c with | .none=>some D.non | .bool b=>some (.bl b) | .int i=>some (.int i) | .str x=>some (.str x) | _=>none)=some d):Ev X ρ (.Constant c j pos) d:=by
 intro σ H Hs Q hs hr hq
 cases c<;>simp at h<;>subst h
 ·exact PE.sem Bg (hq _ H Hs (.refl hs) (by simp[Rep]))
 ·exact PE.sem KN (hq _ H Hs (.refl hs) (by simp[Rep]))
 ·exact PE.sem jU (hq _ H Hs (.refl hs) (by simp[Rep]))
 ·exact PE.sem jg (hq _ H Hs (.refl hs) (by simp[Rep]))
theorem cV{a b:Expr}{x y d:D}{r:R2}{e:Expr}(ha:Ev X ρ a x)(hb:Ev X ρ b y)(hp:PE X e (tOp r (fU X a) (fU X b)))
  (hr:∀ u v H Hs Q,Same Hs H->Rep X.K Hs x u->Rep X.K Hs y v->(∀ w H' Hs',Ext Hs H Hs' H'->Rep X.K Hs' d w->Q w H')->r u v H Q):Ev X ρ e d:=by
 intro σ H Hs Q hs hst hq;refine hp.sem (ha σ H Hs _ hs hst fun u H1 Hs1 E1 r1=>hb σ H1 Hs1 _ E1.sub (hst.same E1.vis) fun v H2 Hs2 E2 r2=>?_);exact hr u v H2 Hs2 Q E2.sub (Rep.same E2.vis x u r1) r2 fun w H' Hs' E3 r3=>hq w H' Hs' (E1.trans (E2.trans E3)) r3
theorem qg{i:Int}(h:small i=true):-(2^64)<i/\i<2^64:=by
 unfold small at h;rw[W2z,J2z,J2z] at h;exact h
theorem fJ{n:Nat}(h:szl n=true):n<=sizeLine:=by
 unfold szl at h;rw[J2z] at h;exact G4z h (by rw[N4z];decide)
theorem pY{n:Nat}(h:szl n=true):n<sizeLine:=by
 unfold szl at h;rw[J2z] at h;exact V1z h (by rw[N4z];decide)
theorem aG{K:Zf}{H:Hp}{i:Int}{v:V}(h:Rep K H (.int i) v):v=.int i:=by simpa[Rep] using h
theorem cC{K:Zf}{H:Hp}{i:Bool}{v:V}(h:Rep K H (.bl i) v):v=.bl i:=by simpa[Rep] using h
theorem bH{K:Zf}{H:Hp}{ds:List D}{v:V}(h:Rep K H (.tup ds) v):∃ a vs,v=.ref a/\SqT K H a vs/\aH K H ds vs:=by simpa[Rep] using h
theorem bM{K:Zf}{H:Hp}{ds:List D}{v:V}(h:Rep K H (.lst ds) v):∃ a vs,v=.ref a/\SqL K H a vs/\aH K H ds vs:=by simpa[Rep] using h
theorem gJ{Hs H:Hp}{ds:List D}{vs:List V}{p:Addr}{Q:VK}(hs:Same Hs H)(hr:aH X.K Hs ds vs)(hp:H p=none)(hq:∀ w H' Hs',Ext Hs H Hs' H'->Rep X.K Hs' (.tup ds) w->Q w H'):Q (.ref p) (upd H p (.tup vs)) :=
 hq _ _ _ (Ext.new hs (.tup vs) hp) (by simp only[Rep];exact⟨p,vs,rfl,.of aB,aH.same (Ext.new hs (.tup vs) hp).vis ds vs hr⟩)
theorem jj{Hs H:Hp}{ds:List D}{vs:List V}{p:Addr}{Q:VK}(hs:Same Hs H)(hr:aH X.K Hs ds vs)(hp:H p=none)(hq:∀ w H' Hs',Ext Hs H Hs' H'->Rep X.K Hs' (.lst ds) w->Q w H'):Q (.ref p) (upd H p (.lst vs)) :=
 hq _ _ _ (Ext.new hs (.lst vs) hp) (by simp only[Rep];exact⟨p,vs,rfl,.of aB,aH.same (Ext.new hs (.lst vs) hp).vis ds vs hr⟩)
def KH(K:Zf):R2:=fun x y H Q=>∃ a b xs ys,x=.ref a/\y=.ref b/\SqT K H a xs/\SqT K H b ys/\xs.length+ys.length<=sizeLine /\
 (xs=[]->Q (.ref b) H)/\(xs≠[]->ys=[]->Q (.ref a) H)/\(xs≠[]->ys≠[]->∀ p,H p=none->Q (.ref p) (upd H p (.tup (xs++ys))))
theorem Dz:OpR X (binaryOp .Add) (KH X.K):=by
 intro z0 s σ H x y v u Q I rx ry h;obtain⟨a,b,xs,ys,rfl,rfl,ha,hb,hz,q0,q1,q2⟩:=h
 by_cases hx:xs=[]
 ·subst hx
  cases (show v=Value.ref a from rx);cases (show u=Value.ref b from ry);obtain⟨its,r1,p1,_⟩:=I.tuple ha;obtain⟨its2,r2,p2,_⟩:=I.tuple hb;have e0:its=[]:=r1.nil_iff.mpr rfl;subst e0;obtain⟨⟨c,dd,data,sl⟩,ho,hc,n,hd⟩:=id p1;obtain⟨⟨c2,dd2,data2,sl2⟩,ho2,hc2,n2,hd2⟩:=id p2;simp only at hc hd hc2 hd2;subst hc hd hc2 hd2;exact concat_meets ⟨_,ho,rfl⟩ ⟨_,ho2,rfl⟩ noFill_tuple_add seq_tuple_add O0z K0z (E0z _ _) (tuple_addW0 a b _ its2.toArray n n2 dd dd2 sl sl2 rfl) ⟨ho,ho2,.ref b,H,I,rfl,q0 rfl⟩
 ·exact Dw z0 s σ H (.ref a) (.ref b) v u Q I rx ry ⟨a,b,xs,ys,rfl,rfl,ha,hb,hx,hz,q1 hx,q2 hx⟩
def Ku(K:Zf):R2:=fun x y H Q=>∃ a v k,x=.ref a/\y=.int k/\SqT K H a [v]/\0<=k/\k<=5/\(k=1->Q (.ref a) H)/\(k≠1->∀ p,H p=none->Q (.ref p) (upd H p (.tup (List.replicate k.toNat v))))
theorem Dr:OpR X (binaryOp .Mult) (Ku X.K):=by
 intro z0 s σ H x y v u Q I rx ry h;obtain⟨a,w,k,rfl,rfl,ha,k1,k4,q1,q2⟩:=h;cases (show v=Value.ref a from rx);obtain⟨t,e⟩:=(show ∃ t,u=Value.int k t from ry);subst e;obtain⟨its,r1,p1,_⟩:=I.tuple ha;obtain⟨u0,rfl,ru⟩:=vals1 r1;obtain⟨⟨c,dd,data,sl⟩,ho,hc,n,hd⟩:=id p1;simp only at hc hd;subst hc hd
 have new:∀ (vs:List V) (us:List Value),Vals vs us->vs.length<=5->(∀ p,H p=none->Q (.ref p) (upd H p (.tup vs)))->EP X z0 σ Q (Value.ref s.heap.objs.size) { s with heap:=s.heap.push { cls:=Value.type "tuple",data:=Data.seq us.toArray },toks:=s.toks }:=fun vs us r hl q =>
  ⟨.ref s.heap.objs.size,_,I.laid (t':=s.toks) (o:=.tup vs) (fun b ob q=>Heap.get?_push_of_some _ q) (M4z _) ⟨G4z hl (by decide),us,r,IsTup.new _ _⟩,rfl,q _ (I.hok.fresh (M4z _))⟩
 refine wpAny_binaryOp_repeat_ref (T:="tuple") (U:="int") (by decide) ⟨_,ho,rfl⟩ (fun s'=>typeIs_int s' k t) iw PySem.F.fills_int_mul PySem.F.slot_int_rmul mY PySem.F.slot_int_index.lookup
  (U4z PySem.F.slot_int_rmul (typeIs_int s k t) PySem.F.entry_int_rmul (PySem.F.args_int_rmul_2 _ _) (jM k t a _ n dd sl) ⟨ho,rfl,⟨_,ho,rfl⟩,?_⟩)
 have hk:k=0\/k=1\/k=2\/k=3\/k=4\/k=5:=by omega
 rcases hk with rfl | rfl | rfl | rfl | rfl | rfl
 ·exact U4z R0z ⟨_,ho,rfl⟩ L0z (H0z _ _) (rH a u0 n dd sl t) ⟨ho,new [] [] .nil (by simp) (q2 (by decide))⟩
 ·exact U4z R0z ⟨_,ho,rfl⟩ L0z (H0z _ _) (rG a _ n dd sl t) ⟨ho,.ref a,H,I,rfl,q1 rfl⟩
 ·exact U4z R0z ⟨_,ho,rfl⟩ L0z (H0z _ _) (rF a u0 n dd sl t) ⟨ho,new [w,w] [u0,u0] (.cons ru (.cons ru .nil)) (by simp) (q2 (by decide))⟩
 ·exact U4z R0z ⟨_,ho,rfl⟩ L0z (H0z _ _) (rE a u0 n dd sl t) ⟨ho,new [w,w,w] [u0,u0,u0] (.cons ru (.cons ru (.cons ru .nil))) (by simp) (q2 (by decide))⟩
 ·exact U4z R0z ⟨_,ho,rfl⟩ L0z (H0z _ _) (rD a u0 n dd sl t) ⟨ho,new [w,w,w,w] [u0,u0,u0,u0] (.cons ru (.cons ru (.cons ru (.cons ru .nil)))) (by simp) (q2 (by decide))⟩
 ·exact U4z R0z ⟨_,ho,rfl⟩ L0z (H0z _ _) (rC a u0 n dd sl t) ⟨ho,new [w,w,w,w,w] [u0,u0,u0,u0,u0] (.cons ru (.cons ru (.cons ru (.cons ru (.cons ru .nil))))) (by simp) (q2 (by decide))⟩
theorem qp{K:Zf}{H:Hp}{d:D}{v:V}(h:Rep K H d v):∀ n:Nat,aH K H (List.replicate n d) (List.replicate n v)
 | 0=>.nil
 | n+1=>.cons h (qp h n)
theorem aH.rep{K:Zf}{H:Hp}{ds:List D}{vs:List V}(h:aH K H ds vs):∀ n:Nat,aH K H (List.replicate n ds).flatten (List.replicate n vs).flatten
 | 0=>by simp[aH]
 | n+1=>by
  simp only[I1z,E2z];exact h.append (h.rep n)
theorem Fi{a b:Expr}{xs:List D}{j:Int}{d:D}{pos:Pos}(ha:Ev X ρ a (.tup xs))(hb:Ev X ρ b (.int j))(h:Ho xs j=some d):Ev X ρ (.BinOp a .Mult b pos) d:=by
 match xs,ha,h with
 | [],_,h=>exact absurd h (by simp[Ho])
 | _::_::_,_,h=>exact absurd h (by simp[Ho])
 | [x],ha,h =>
  simp only[Ho] at h;split at h
  ·rename_i hz
   rw[W2z,J2z,J2z] at hz;cases h;refine cV ha hb (iu Dr ao ao) fun u v H Hs Q hs r1 r2 hq=>?_;obtain⟨p,us,rfl,h1,h2⟩:=bH r1;simp only[aH] at h2;obtain⟨w,r,rfl,hw,hr⟩:=h2;subst hr;refine⟨p,w,j,rfl,aG r2,hs.tup h1,hz.1,hz.2,fun e=>?_,fun _ l hl=>gJ hs (qp hw _) hl hq⟩;subst e;exact hq _ H Hs (.refl hs) r1
  ·cases h
def JF(i j:Int):Prop:=Rf i j\/(i.natAbs.log2<10000/\j.natAbs.log2<10000)
theorem Bl{i:Int}(h:mid i=true):i.natAbs.log2<10000:=by unfold mid at h;simpa using h
theorem qW{i:Int}(h:i.natAbs.log2<10000):Builtin.Int.intBits i<=2^20:=by
 unfold Builtin.Int.intBits
 split<;>omega
theorem Dt:OpR X (binaryOp .Mult) (rI JF fun i j=>.int (i*j)):=opI fun _ _ _ _ _ _ _ hc q=>mul_int q (hc.elim (fun z=>z.ok) fun z=>.of_bits (qW z.1) (qW z.2))
def Rg(i j:Int):Prop:=j≠0/\j.natAbs.log2<9000
theorem yU:OpR X (binaryOp .FloorDiv) (rI Rg fun i j=>.int (i.fdiv j)):=opI fun _ _ _ _ _ _ _ hc q=>floordiv_int hc.1 q (.inl (PyProof.noPylong_of_log2 hc.2))
theorem qQ{a b:Expr}{op:Operator}{x y d:D}{pos:Pos}(ha:Ev X ρ a x)(hb:Ev X ρ b y)(h:binop op x y=some d):Ev X ρ (.BinOp a op b pos) d:=by
 unfold binop at h;split at h
 ·cases h
  exact cV ha hb (iu Ik ao ao) fun u v H Hs Q hs r1 r2 hq=>⟨_,_,aG r1,aG r2,hq _ H Hs (.refl hs) (by simp[Rep])⟩
 ·split at h
  ·rename_i hz
   cases h;refine cV ha hb (iu Dz ao ao) fun u v H Hs Q hs r1 r2 hq=>?_;obtain⟨p,us,rfl,h1,h2⟩:=bH r1;obtain⟨q,ws,rfl,h3,h4⟩:=bH r2;have l1:=h2.length;have l2:=h4.length
   have nil:∀ (l:List D),l.length=0->l=[]:=fun l hl=>by cases l<;>simp at hl ⊢
   refine⟨p,q,us,ws,rfl,rfl,hs.tup h1,hs.tup h3,by have:=fJ hz;omega,fun e=>?_,fun _ e=>?_,fun _ _ l hl=>gJ hs (h2.append h4) hl hq⟩
   ·subst e
    have e2:=nil _ l1;subst e2;exact hq _ H Hs (.refl hs) r2
   ·subst e
    have e2:=nil _ l2;subst e2;refine hq _ H Hs (.refl hs) ?_;rw[E3z];exact r1
  ·cases h
 ·split at h
  ·rename_i hz
   cases h;refine cV ha hb (iu Dy ao ao) fun u v H Hs Q hs r1 r2 hq=>?_;obtain⟨p,us,rfl,h1,h2⟩:=bM r1;obtain⟨q,ws,rfl,h3,h4⟩:=bM r2;have l1:=h2.length;have l2:=h4.length;exact⟨p,q,us,ws,rfl,rfl,hs.seq h1,hs.seq h3,by have:=fJ hz;omega,fun l hl=>jj hs (h2.append h4) hl hq⟩
  ·cases h
 ·cases h
  exact cV ha hb (iu Ih ao ao) fun u v H Hs Q hs r1 r2 hq=>⟨_,_,aG r1,aG r2,hq _ H Hs (.refl hs) (by simp[Rep])⟩
 ·split at h
  ·rename_i hz
   cases h;rw[P3z,P3z,W2z] at hz;have hz':JF _ _:=hz.elim (fun z=>z.elim (fun z=>.inl (.inl (qg z))) (fun z=>.inl (.inr (qg z)))) (fun z=>.inr ⟨Bl z.1,Bl z.2⟩);exact cV ha hb (iu Dt ao ao) fun u v H Hs Q hs r1 r2 hq=>⟨_,_,aG r1,aG r2,hz',hq _ H Hs (.refl hs) (by simp[Rep])⟩
  ·cases h
 ·split at h
  ·rename_i hz
   cases h;rw[W2z,W2z,J2z,J2z] at hz;refine cV ha hb (iu vp ao ao) fun u v H Hs Q hs r1 r2 hq=>?_;obtain⟨p,us,rfl,h1,h2⟩:=bM r1;have l1:=h2.length;exact⟨p,_,us,rfl,aG r2,hs.seq h1,by omega,by omega,by have:=fJ hz.2;rw[<- l1];exact this,fun l hl=>jj hs (h2.rep _) hl hq⟩
  ·cases h
 ·exact Fi ha hb h
 ·split at h
  ·rename_i hz
   cases h;rw[W2z,J2z,J2z] at hz;exact cV ha hb (iu Dv ao ao) fun u v H Hs Q hs r1 r2 hq=>⟨_,_,aG r1,aG r2,hz,hq _ H Hs (.refl hs) (by simp[Rep])⟩
  ·split at h
   ·rename_i hz
    cases h;rw[W2z,J2z,J2z] at hz;exact cV ha hb (iu yU ao ao) fun u v H Hs Q hs r1 r2 hq=>⟨_,_,aG r1,aG r2,hz,hq _ H Hs (.refl hs) (by simp[Rep])⟩
   ·cases h
 ·split at h
  ·rename_i hz
   cases h;rw[J2z] at hz;exact cV ha hb (iu Ii ao ao) fun u v H Hs Q hs r1 r2 hq=>⟨_,_,aG r1,aG r2,hz,hq _ H Hs (.refl hs) (by simp[Rep])⟩
  ·split at h
   ·rename_i hz
    cases h;rw[J2z] at hz;exact cV ha hb (iu Du ao ao) fun u v H Hs Q hs r1 r2 hq=>⟨_,_,aG r1,aG r2,hz,hq _ H Hs (.refl hs) (by simp[Rep])⟩
   ·cases h
 ·cases h
end
section
variable {X:Cx} {ρ:Rho} {cx:Cxt} {k:Nat} {sc:Scope}
theorem aj{e:Expr}{es:List Expr}{env:Env}(h:aF e=true):starEach (e::es) env=(false,eval e env)::starEach es env:=by
 cases e<;>first | rfl | (simp[aF] at h)
theorem lg{e:Expr}(h:aF e=true):xY e:=by
 intro o i
 cases e<;>first | rfl | (simp[aF] at h)
theorem dO{e:Expr}{env:Env}(h:aF e=true)(x:Value):foldedSetIterable e env x=pure x:=by
 cases e<;>first | rfl | (simp[aF] at h)
theorem bW{e:Expr}{op:CmpOp}(h:aF e=true):behindInMarks op e=false:=by
 cases e<;>first | rfl | (simp[aF] at h)
theorem dJ{env:Env}{pos:Pos}:∀ {es:List Expr},(∀ e∈es,aF e=true)->(backTo pos (starEach es env)).any (·.1)=false
 | [],_=>rfl
 | e::es,h=>by
  rw[aj (h e O1z)];have ih:=dJ (env:=env) (pos:=pos) fun e' he=>h e' (W0z _ he);show((false:Bool)||(backTo pos (starEach es env)).any (·.1))=false;rw[ih];rfl
theorem aQ:∀ {n:Nat} {ρ:Rho} {e:Expr} {d:D},ev cx n sc ρ e=some d->aF e=true
 | 0,_,_,_,h=>by simp[ev] at h
 | n+1,ρ,e,d,h=>by
  cases e<;>first | rfl | (exact nomatch (show(Option.none:Option D)=some d from h))
def oO(X:Cx)(e:Expr):TT:=fun σ H Q=>∀ whole z0 s,Inv X z0 σ H s->wpAny (model X.prog X.w) X.A (isTrue e X.env whole) (TP X z0 σ Q) X.xe s
def EvW(X:Cx)(ρ:Rho)(e:Expr)(b:Bool):Prop:=∀ σ H Hs Q,Same Hs H->bV X.K Hs ρ σ->(∀ H' Hs',Ext Hs H Hs' H'->Q b H')->oO X e σ H Q
theorem jP{e:Expr}:PW X e (oO X e):=fun whole z0 s σ H Q I h=>h whole z0 s I
theorem PW.sem{e:Expr}{t:TT}{σ:St}{H:Hp}{Q:Bool->Hp->Prop}(h:PW X e t)(q:t σ H Q):oO X e σ H Q:=fun whole z0 s I=>h whole z0 s σ H Q I q
theorem EvW.t{e:Expr}{b:Bool}(h:EvW X ρ e b):EvT X ρ e b:=fun σ H Hs Q hs hr hq z0 s I=>h σ H Hs Q hs hr hq _ z0 s I
theorem wK{e:Expr}{b:Bool}(h:Ev X ρ e (.bl b))(he:∀ whole,isTrue e X.env whole=(do let v <- whole;standAt e.pos;holding [v] (truthy v))):EvT X ρ e b:=fun σ H Hs Q hs hr hq =>
 (qw ao he).sem (h σ H Hs _ hs hr fun v H' Hs' E1 r1=>⟨b,cC r1,hq H' Hs' E1⟩)
theorem Bv{a:Expr}{b:Bool}{pos:Pos}(h:Ev X ρ a (.bl b)):Ev X ρ (.UnaryOp .Not a pos) (.bl (!b)):=fun σ H Hs Q hs hr hq =>
 (HN ao).sem (h σ H Hs _ hs hr fun v H' Hs' E1 r1=>⟨b,cC r1,hq _ H' Hs' E1 (by simp[Rep])⟩)
theorem wL{a:Expr}{b:Bool}{pos:Pos}(h:EvT X ρ a b):EvT X ρ (.UnaryOp .Not a pos) (!b):=fun σ H Hs Q hs hr hq =>
 (qx cL).sem (h σ H Hs _ hs hr fun H' Hs' E1=>hq H' Hs' E1)
theorem Jm{a:Expr}{i:Int}{pos:Pos}(h:Ev X ρ a (.int i)):Ev X ρ (.UnaryOp .USub a pos) (.int (-i)):=fun σ H Hs Q hs hr hq =>
 (KJ Gz ao).sem (h σ H Hs _ hs hr fun v H' Hs' E1 r1=>⟨i,aG r1,hq _ H' Hs' E1 (by simp[Rep])⟩)
theorem jw{op:BoolOp}{f:Expr->Option D}{pos:Pos}:∀ {es:List Expr} {d:D},(∀ e∈es,∀ d,f e=some d->Ev X ρ e d/\∀ b,d=.bl b->EvT X ρ e b)->gD op f es=some d ->
  Ev X ρ (.BoolOp op es pos) d/\∀ b,d=.bl b->EvW X ρ (.BoolOp op es pos) b
 | [],d,_,h=>by simp[gD] at h
 | [e],d,hf,h=>by
  obtain⟨h1,h2⟩:=hf e (by simp) d (by simpa[gD] using h);refine⟨fun σ H Hs Q hs hr hq=>(Bf ao).sem (h1 σ H Hs Q hs hr hq),fun b hb σ H Hs Q hs hr hq=>?_⟩
  cases op with
  | And=>exact(Dc cL).sem (h2 b hb σ H Hs Q hs hr hq)
  | Or=>exact(Ba cL).sem (h2 b hb σ H Hs Q hs hr hq)
 | e::e'::r,d,hf,h=>by
  simp only[gD] at h
  cases he:f e with
  | none=>rw[he] at h;simp at h
  | some x =>
   rw[he] at h
   cases x with
   | bl c =>
    obtain⟨h1,h2⟩:=hf e (by simp) _ he;have h2':=h2 c rfl;simp only[asB,X2z,Option.bind_eq_bind,bind,Option.bind] at h;have ih:=fun d' (q:gD op f (e'::r)=some d')=>jw (pos:=pos) (es:=e'::r) (fun a ha=>hf a (W0z _ ha)) q
    cases op with
    | And =>
     cases c with
     | true =>
      simp only[C5z] at h;obtain⟨i1,i2⟩:=ih d h;refine⟨fun σ H Hs Q hs hr hq=>(vh ao ao).sem (h1 σ H Hs _ hs hr fun v H' Hs' E1 r1=>⟨true,cC r1,jZ (i1 σ H' Hs' Q E1.sub (hr.same E1.vis) fun w H2 Hs2 E2 r2=>hq w H2 Hs2 (E1.trans E2) r2)⟩),fun b hb σ H Hs Q hs hr hq=>?_⟩;exact(Bb cL jP).sem (h2' σ H Hs _ hs hr fun H' Hs' E1=>jZ (i2 b hb σ H' Hs' Q E1.sub (hr.same E1.vis) fun H2 Hs2 E2=>hq H2 Hs2 (E1.trans E2)))
     | false =>
      simp only[W1z,A5z,K2z] at h;subst h;refine⟨fun σ H Hs Q hs hr hq=>(vh ao ao).sem (h1 σ H Hs _ hs hr fun v H' Hs' E1 r1=>⟨false,cC r1,jL (hq _ H' Hs' E1 (by simp[Rep]))⟩),fun b hb σ H Hs Q hs hr hq=>?_⟩;cases hb;exact(Bb cL jP).sem (h2' σ H Hs _ hs hr fun H' Hs' E1=>jL (hq H' Hs' E1))
    | Or =>
     cases c with
     | true =>
      simp only[C5z,K2z] at h;subst h;refine⟨fun σ H Hs Q hs hr hq=>(HJ ao ao).sem (h1 σ H Hs _ hs hr fun v H' Hs' E1 r1=>⟨true,cC r1,jZ (hq _ H' Hs' E1 (by simp[Rep]))⟩),fun b hb σ H Hs Q hs hr hq=>?_⟩;cases hb;exact(CZ cL jP).sem (h2' σ H Hs _ hs hr fun H' Hs' E1=>jZ (hq H' Hs' E1))
     | false =>
      simp only[W1z,A5z] at h;obtain⟨i1,i2⟩:=ih d h;refine⟨fun σ H Hs Q hs hr hq=>(HJ ao ao).sem (h1 σ H Hs _ hs hr fun v H' Hs' E1 r1=>⟨false,cC r1,jL (i1 σ H' Hs' Q E1.sub (hr.same E1.vis) fun w H2 Hs2 E2 r2=>hq w H2 Hs2 (E1.trans E2) r2)⟩),fun b hb σ H Hs Q hs hr hq=>?_⟩;exact(CZ cL jP).sem (h2' σ H Hs _ hs hr fun H' Hs' E1=>jL (i2 b hb σ H' Hs' Q E1.sub (hr.same E1.vis) fun H2 Hs2 E2=>hq H2 Hs2 (E1.trans E2)))
   | _=>simp[asB] at h
def JR(X:Cx)(op:CmpOp):R2:=fun u v H Q=>∃ Hs x y d,Same Hs H/\Rep X.K Hs x u/\Rep X.K Hs y v/\cmpop op x y=some d/\∃ b,d=.bl b/\Q (.bl b) H
theorem iZ{K:Zf}{H:Hp}{v:V}(h:Rep K H .non v):v=.non:=by simpa[Rep] using h
theorem lH{K:Zf}{H:Hp}{x:D}{v:V}(h:Rep K H x v):zM x=decide (v=V.non):=by
  cases x with
  | non=>rw[iZ h];rfl
  | bl b=>rw[cC h];rfl
  | int b=>rw[aG h];rfl
  | str b => have e : v = .str b := by simpa [Rep] using h
             rw[e];rfl
  | tup b=>obtain⟨a,vs,e,_⟩:=bH h;rw[e];rfl
  | lst b=>obtain⟨a,vs,e,_⟩:=bM h;rw[e];rfl
  | exc c=>simp only[Rep] at h;obtain⟨a,C,e,_⟩:=h;rw[e];rfl
  | dic k x=>simp only[Rep] at h;obtain⟨a,C,e,_⟩:=h;rw[e];rfl
  | obj a => have e : v = .ref a := by simpa [Rep] using h
             rw[e];rfl
theorem iK{K:Zf}{H:Hp}:∀ {ds:List D} {ns:List Int} {vs:List V},oH ds=some ns->aH K H ds vs->vs=ns.map V.int
 | [],ns,vs,h,r=>by
  simp only[oH,K2z] at h;subst h
  simpa[aH] using r
 | .int i::ds,ns,vs,h,r=>by
  simp only[oH,Q0z] at h;obtain⟨ms,h1,rfl⟩:=h;simp only[aH] at r;obtain⟨v,r',rfl,h2,h3⟩:=r;rw[aG h2,iK h1 h3];rfl
 | .non::ds,ns,vs,h,r=>by simp[oH] at h
 | .bl _::ds,ns,vs,h,r=>by simp[oH] at h
 | .str _::ds,ns,vs,h,r=>by simp[oH] at h
 | .tup _::ds,ns,vs,h,r=>by simp[oH] at h
 | .lst _::ds,ns,vs,h,r=>by simp[oH] at h
 | .exc _::ds,ns,vs,h,r=>by simp[oH] at h
 | .dic _ _::ds,ns,vs,h,r=>by simp[oH] at h
 | .obj _::ds,ns,vs,h,r=>by simp[oH] at h
theorem any_ints(i:Int):∀ {ns:List Int} {us:List Value},Vals (ns.map V.int) us->us.any (fun y=>match y with | .int j _=>j==i | _=>false)=ns.any (· ==i)
 | [],us,r=>by rw[K4z] at r;cases r;rfl
 | n::ns,us,r=>by
  rw[Z3z] at r
  cases r with
  | cons r1 r2 =>
   obtain⟨t,e⟩:=(show ∃ t,_=Value.int n t from r1);subst e;simp only[C4z,any_ints i r2]
theorem qF:∀ {ns:List Int} {us:List Value},Vals (ns.map V.int) us->∀ y∈us,∃ j t,y=Value.int j t
 | [],us,r,y,hy=>by rw[K4z] at r;cases r;simp at hy
 | n::ns,us,r,y,hy=>by
  rw[Z3z] at r
  cases r with
  | cons r1 r2 =>
   obtain⟨t,e⟩:=(show ∃ t,_=Value.int n t from r1);subst e;rcases List.mem_cons.mp hy with rfl | hy
   ·exact⟨n,t,rfl⟩
   ·exact qF r2 y hy
theorem Ep{z0:List (Addr×Obj)}{σ:St}{H:Hp}{s:Shared}{i:Int}{ys:List D}{ns:List Int}{u v:V}{w z:Value}(I:Inv X z0 σ H s)(A:Around)(hu:u=.int i)(hv:Rep X.K H (.tup ys) v)(hn:oH ys=some ns)(ru:RelV u w)(rv:RelV v z) :
  (∀ (Q:Value->Shared->Prop) (E:Value->Shared->Prop),Q (.bool (ns.any (· ==i))) s->wpAny (model X.prog X.w) A (compareOp .In w z) Q E s)/\(∀ (Q:Value->Shared->Prop) (E:Value->Shared->Prop),Q (.bool (!ns.any (· ==i))) s->wpAny (model X.prog X.w) A (compareOp .NotIn w z) Q E s):=by
 subst hu;obtain⟨t,e⟩:=(show ∃ t,w=Value.int i t from ru);subst e;obtain⟨a,vs,rfl,h1,h2⟩:=bH hv;cases (show z=Value.ref a from rv);have e:=iK hn h2;subst e;obtain⟨its,r,p⟩:=isT I h1
 have he:∀ y,y∈its.toArray->EqAt A.in1 s y (.int i t) (match y with | .int j _=>j==i | _=>false):=fun y hy=>by
  obtain⟨j,t',rfl⟩:=qF r y (by simpa using hy);exact fun P w Q E q=>wpAny_eqBool_int q
 have ea:its.toArray.any (fun y=>match y with | .int j _=>j==i | _=>false)=ns.any (· ==i):=by
  rw[List.any_toArray];exact any_ints i r
 refine⟨fun Q E q=>in_tupleAt _ p he (by rw[ea];exact q),fun Q E q=>notIn_tupleAt _ p he (by rw[ea];exact q)⟩
theorem qX{K:Zf}{H:Hp}:∀ {ds:List D} {ns:List Str} {vs:List V},oK ds=some ns->aH K H ds vs->vs=ns.map V.str
 | [],ns,vs,h,r=>by
  simp only[oK,K2z] at h;subst h
  simpa[aH] using r
 | .str i::ds,ns,vs,h,r=>by
  simp only[oK] at h;obtain⟨ms,h1,rfl⟩:=Q0z.mp h;simp only[aH] at r;obtain⟨v,rr,rfl,h2,h3⟩:=r
  have e:v=.str i:=by simpa[Rep] using h2
  rw[qX h1 h3,e];rfl
 | .non::ds,ns,vs,h,r=>by simp[oK] at h
 | .bl _::ds,ns,vs,h,r=>by simp[oK] at h
 | .int _::ds,ns,vs,h,r=>by simp[oK] at h
 | .tup _::ds,ns,vs,h,r=>by simp[oK] at h
 | .lst _::ds,ns,vs,h,r=>by simp[oK] at h
 | .exc _::ds,ns,vs,h,r=>by simp[oK] at h
 | .dic _ _::ds,ns,vs,h,r=>by simp[oK] at h
 | .obj _::ds,ns,vs,h,r=>by simp[oK] at h
def eS(x:D):Value->Bool
 | .str t _=>deq (.str t) x
 | _=>false
theorem qZ(x:D):∀ {ns:List Str} {us:List Value},Vals (ns.map V.str) us->us.any (eS x)=ns.any fun t=>deq (.str t) x
 | [],us,r=>by rw[K4z] at r;cases r;rfl
 | n::ns,us,r=>by
  rw[Z3z] at r
  cases r with
  | cons r1 r2 =>
   obtain⟨t,e⟩:=(show ∃ t,_=Value.str n t from r1);subst e;simp only[C4z,qZ x r2,eS]
theorem qD:∀ {ns:List Str} {us:List Value},Vals (ns.map V.str) us->∀ y∈us,∃ j t,y=Value.str j t
 | [],us,r,y,hy=>by rw[K4z] at r;cases r;simp at hy
 | n::ns,us,r,y,hy=>by
  rw[Z3z] at r
  cases r with
  | cons r1 r2 =>
   obtain⟨t,e⟩:=(show ∃ t,_=Value.str n t from r1);subst e;rcases List.mem_cons.mp hy with rfl | hy
   ·exact⟨n,t,rfl⟩
   ·exact qD r2 y hy
theorem Eo{z0:List (Addr×Obj)}{σ:St}{H:Hp}{s:Shared}{x:D}{ys:List D}{ns:List Str}{u v:V}{w z:Value}(I:Inv X z0 σ H s)(A:Around)(hA:A.units+2<cLine)(hx:Rep X.K H x u)(hd:dep x<=50)(hv:Rep X.K H (.tup ys) v)(hn:oK ys=some ns)(ru:RelV u w)(rv:RelV v z) :
  (∀ (Q:Value->Shared->Prop) (E:Value->Shared->Prop),Q (.bool (ns.any fun t=>deq (.str t) x)) s->wpAny (model X.prog X.w) A (compareOp .In w z) Q E s)/\(∀ (Q:Value->Shared->Prop) (E:Value->Shared->Prop),Q (.bool (!ns.any fun t=>deq (.str t) x)) s->wpAny (model X.prog X.w) A (compareOp .NotIn w z) Q E s):=by
 obtain⟨a,vs,rfl,h1,h2⟩:=bH hv;cases (show z=Value.ref a from rv);have e:=qX hn h2;subst e;obtain⟨its,r,p⟩:=isT I h1
 have he:∀ y,y∈its.toArray->EqAt A.in1 s y w (eS x y):=fun y hy=>by
  obtain⟨j,t',rfl⟩:=qD r y (by simpa using hy);exact wO I (.str j) x (.str j) u (.str j t') w A.in1 (by simp[Rep]) hx ⟨t',rfl⟩ ru (by rw[fQ];simp only[dep];omega) (by simp[dep]) (by omega)
 have ea:its.toArray.any (eS x)=ns.any fun t=>deq (.str t) x:=by
  rw[List.any_toArray];exact qZ x r
 refine⟨fun Q E q=>in_tupleAt _ p he (by rw[ea];exact q),fun Q E q=>notIn_tupleAt _ p he (by rw[ea];exact q)⟩
theorem Jj{x:D}{ys:List D}{b:Bool}(h:inT x ys=some b):(∃ i ns,x=.int i/\oH ys=some ns/\b=ns.any (· ==i))\/∃ ss,oK ys=some ss/\dep x<=50/\b=ss.any fun t=>deq (.str t) x:=by
 have hS:∀ {b},inS x ys=some b->∃ ss,oK ys=some ss/\dep x<=50/\b=ss.any fun t=>deq (.str t) x:=fun {b} h=>by
  unfold inS at h;obtain⟨ss,h1,h2⟩:=Option.bind_eq_some_iff.mp h;split at h2
  ·rename_i hd
   cases h2;exact⟨ss,h1,by simpa using hd,rfl⟩
  ·cases h2
 unfold inT at h;split at h
 ·rename_i i ns e1 e2
  cases x<;>simp[asI] at e1
  cases h;subst e1;exact .inl ⟨_,ns,rfl,e2,rfl⟩
 ·exact .inr (hS h)
theorem Br{z0:List (Addr×Obj)}{σ:St}{H:Hp}{s:Shared}{x:D}{ys:List D}{b:Bool}{u v:V}{w z:Value}(I:Inv X z0 σ H s)(A:Around)(hA:A.units+2<cLine)(hx:Rep X.K H x u)(hv:Rep X.K H (.tup ys) v)(h:inT x ys=some b)(ru:RelV u w)(rv:RelV v z) :
  (∀ (Q:Value->Shared->Prop) (E:Value->Shared->Prop),Q (.bool b) s->wpAny (model X.prog X.w) A (compareOp .In w z) Q E s)/\(∀ (Q:Value->Shared->Prop) (E:Value->Shared->Prop),Q (.bool (!b)) s->wpAny (model X.prog X.w) A (compareOp .NotIn w z) Q E s):=by
 rcases Jj h with⟨i,ns,rfl,e1,rfl⟩ | ⟨ss,e1,e2,rfl⟩
 ·exact Ep I A (aG hx) hv e1 ru rv
 ·exact Eo I A hA hx e2 hv e1 ru rv
theorem fK(hr:Room k X.A)(op:CmpOp):OpR X (compareOp op) (JR X op):=by
 intro z0 s σ H u v w z Q I ru rv h;obtain⟨Hs,x,y,d,hs,rx,ry,hc,b,rfl,q⟩:=h;have rx':=Rep.same hs x u rx;have ry':=Rep.same hs y v ry;unfold cmpop at hc;split at hc
 ·split at hc
  ·rename_i hd
   rw[W2z,J2z,J2z] at hd;cases hc;exact(lW I X.A rx' ry' ru rv (by have:=hr.un;omega) (by omega) (by omega)).1 _ _ _ _ ⟨.bl _,H,I,rfl,q⟩
  ·cases hc
 ·split at hc
  ·rename_i hd
   rw[W2z,J2z,J2z] at hd;cases hc;exact(lW I X.A rx' ry' ru rv (by have:=hr.un;omega) (by omega) (by omega)).2 _ _ _ _ ⟨.bl _,H,I,rfl,q⟩
  ·cases hc
 ·cases hc;exact KQ z0 s σ H u v w z Q I ru rv ⟨_,_,aG rx,aG ry,q⟩
 ·cases hc;exact KR z0 s σ H u v w z Q I ru rv ⟨_,_,aG rx,aG ry,q⟩
 ·cases hc;exact KY z0 s σ H u v w z Q I ru rv ⟨_,_,aG rx,aG ry,q⟩
 ·cases hc;exact KZ z0 s σ H u v w z Q I ru rv ⟨_,_,aG rx,aG ry,q⟩
 ·cases hc;rw[lH rx] at q;exact Ij z0 s σ H u v w z Q I ru rv ⟨iZ ry,q⟩
 ·cases hc;rw[lH rx] at q;exact Ds z0 s σ H u v w z Q I ru rv ⟨iZ ry,q⟩
 ·obtain⟨ns,hn,he⟩:=Q0z.mp hc
  cases he;exact(Br I X.A (by have:=hr.un;omega) rx' ry' hn ru rv).1 _ _ ⟨.bl _,H,I,rfl,q⟩
 ·obtain⟨ns,hn,he⟩:=Q0z.mp hc
  cases he;exact(Br I X.A (by have:=hr.un;omega) rx' ry' hn ru rv).2 _ _ ⟨.bl _,H,I,rfl,q⟩
 ·rename_i a b
  cases hc
  have ex:u=.str a:=by simpa[Rep] using rx
  have ey:v=.str b:=by simpa[Rep] using ry
  exact vq z0 s σ H u v w z Q I ru rv ⟨_,_,ex,ey,q⟩
 ·cases hc
theorem BL{op:CmpOp}{x y d:D}(h:cmpop op x y=some d):∃ b,d=.bl b:=by
 unfold cmpop at h
 split at h<;>first | (cases h;exact⟨_,rfl⟩) | (obtain⟨_,_,rfl⟩:=Q0z.mp h;exact⟨_,rfl⟩) | (split at h<;>first | (cases h;exact⟨_,rfl⟩) | cases h) | cases h
theorem Fw{a b:Expr}{op:CmpOp}{x y d:D}{pos:Pos}(hr:Room k X.A)(ha:Ev X ρ a x)(hb:Ev X ρ b y)(hm:aF b=true)(h:cmpop op x y=some d):Ev X ρ (.Compare a [op] [b] pos) d/\∀ c,d=.bl c->EvT X ρ (.Compare a [op] [b] pos) c:=by
 obtain⟨c,rfl⟩:=BL h;refine⟨cV ha hb (lC (fK hr op) ao ao (bW hm)) fun u v H Hs Q hs r1 r2 hq=>⟨Hs,x,y,_,hs,r1,r2,h,c,rfl,hq _ H Hs (.refl hs) (by simp[Rep])⟩,fun c' hc' σ H Hs Q hs hst hq=>?_⟩;cases hc';refine(kZ (fK hr op) ao ao (bW hm)).sem (ha σ H Hs _ hs hst fun u H1 Hs1 E1 r1=>hb σ H1 Hs1 _ E1.sub (hst.same E1.vis) fun v H2 Hs2 E2 r2=>?_);exact⟨Hs2,x,y,_,E2.sub,Rep.same E2.vis x u r1,r2,h,c,rfl,c,rfl,hq H2 Hs2 (E1.trans E2)⟩
theorem vP{op op':CmpOp}{b c:Expr}(h:aF c=true):lastMarks [op,op'] [b,c]=false:=bW h
theorem wJ{a b e:Expr}{op op':CmpOp}{x y d:D}{c:Bool}{pos:Pos}(hr:Room k X.A)(ha:Ev X ρ a x)(hb:Ev X ρ b y)(hm:aF e=true)(h:cmpop op x y=some (.bl c))(hd:(c=true->∃ z,Ev X ρ e z/\cmpop op' y z=some d)/\(c=false->d=.bl false)) :
  Ev X ρ (.Compare a [op,op'] [b,e] pos) d/\∀ c,d=.bl c->EvT X ρ (.Compare a [op,op'] [b,e] pos) c:=by
 have core:∀ σ H Hs Q,Same Hs H->bV X.K Hs ρ σ->(∀ v H' Hs',Ext Hs H Hs' H'->Rep X.K Hs' d v->Q v H')->uE (JR X op) (JR X op') (fU X a) (fU X b) (fU X e) σ H Q:=by
  intro σ H Hs Q hs hst hq;refine ha σ H Hs _ hs hst fun u H1 Hs1 E1 r1=>hb σ H1 Hs1 _ E1.sub (hst.same E1.vis) fun v H2 Hs2 E2 r2=>?_;refine⟨Hs2,x,y,_,E2.sub,Rep.same E2.vis x u r1,r2,h,c,rfl,c,rfl,?_⟩
  cases c with
  | false=>rw[hd.2 rfl] at hq;exact jL (hq _ H2 Hs2 (E1.trans E2) (by simp[Rep]))
  | true =>
   obtain⟨z,hz,hc⟩:=hd.1 rfl;obtain⟨c',rfl⟩:=BL hc;refine jZ (hz σ H2 Hs2 _ E2.sub ((hst.same E1.vis).same E2.vis) fun w H3 Hs3 E3 r3=>?_);exact⟨Hs3,y,z,_,E3.sub,Rep.same E3.vis y v r2,r3,hc,c',rfl,hq _ H3 Hs3 (E1.trans (E2.trans E3)) (by simp[Rep])⟩
 refine⟨fun σ H Hs Q hs hst hq=>(yQ (fK hr op) (fK hr op') ao ao ao (vP hm)).sem (core σ H Hs Q hs hst hq),fun c' hc' σ H Hs Q hs hst hq=>?_⟩;subst hc';exact(yG (fK hr op) (fK hr op') ao ao ao (vP hm)).sem (core σ H Hs _ hs hst fun v H' Hs' E1 r1=>⟨c',cC r1,hq H' Hs' E1⟩)
theorem Jq{c a b:Expr}{t:Bool}{d:D}{pos:Pos}(hc:EvT X ρ c t)(ha:t=true->Ev X ρ a d)(hb:t=false->Ev X ρ b d):Ev X ρ (.IfExp c a b pos) d:=fun σ H Hs Q hs hst hq =>
 (lA cL ao ao).sem (hc σ H Hs _ hs hst fun H1 Hs1 E1=>by
  cases t with
  | true=>exact jZ (ha rfl σ H1 Hs1 Q E1.sub (hst.same E1.vis) fun v H' Hs' E2 r=>hq v H' Hs' (E1.trans E2) r)
  | false=>exact jL (hb rfl σ H1 Hs1 Q E1.sub (hst.same E1.vis) fun v H' Hs' E2 r=>hq v H' Hs' (E1.trans E2) r))
theorem Bw{c a b:Expr}{t r:Bool}{pos:Pos}(hc:EvT X ρ c t)(ha:t=true->EvT X ρ a r)(hb:t=false->EvT X ρ b r):EvT X ρ (.IfExp c a b pos) r:=by
 intro σ H Hs Q hs hst hq z0 s I;refine isTrue_IfExp (thn (hc σ H Hs (fun b' H'=>b'=t/\∃ Hs',Ext Hs H Hs' H') hs hst (fun H1 Hs1 E1=>⟨rfl,Hs1,E1⟩) z0 s I) fun b' s2 ⟨H2,I2,e2,Hs2,E2⟩=>?_);subst e2
 cases b' with
 | true=>exact jZ (ha rfl σ H2 Hs2 Q E2.sub (hst.same E2.vis) (fun H' Hs' E3=>hq H' Hs' (E2.trans E3)) z0 s2 I2)
 | false=>exact jL (hb rfl σ H2 Hs2 Q E2.sub (hst.same E2.vis) (fun H' Hs' E3=>hq H' Hs' (E2.trans E3)) z0 s2 I2)
theorem dH{f:Expr->Option D}:∀ {es:List Expr} {ds:List D},(∀ e∈es,∀ d,f e=some d->Ev X ρ e d/\aF e=true)->jH f es=some ds->EvA X ρ es ds/\(∀ e∈es,aF e=true)
 | [],ds,_,h=>by
  simp only[jH,K2z] at h;subst h;exact⟨fun σ H Hs Q hs hst hq=>aK.sem (hq [] H Hs (.refl hs) .nil),fun e he=>absurd he (by simp)⟩
 | e::es,ds,hf,h=>by
  simp only[jH,bind,Option.bind] at h
  cases he:f e with
  | none=>rw[he] at h;cases h
  | some d =>
   rw[he] at h;simp only at h
   cases hr:jH f es with
   | none=>rw[hr] at h;cases h
   | some dr =>
    rw[hr] at h;simp only[K2z] at h;subst h;obtain⟨h1,hp⟩:=hf e (by simp) d he;obtain⟨h2,hps⟩:=dH (fun a ha=>hf a (W0z _ ha)) hr;refine⟨fun σ H Hs Q hs hst hq=>(au ao cG (aj hp)).sem (h1 σ H Hs _ hs hst fun v H1 Hs1 E1 r1=>h2 σ H1 Hs1 _ E1.sub (hst.same E1.vis) fun vs H2 Hs2 E2 r2=>?_),fun a ha=>?_⟩
    ·exact hq _ H2 Hs2 (E1.trans E2) (.cons (Rep.same E2.vis d v r1) r2)
    ·rcases List.mem_cons.mp ha with rfl | ha
     ·exact hp
     ·exact hps a ha
theorem zW{es:List Expr}{ds:List D}{j:Nat}{pos:Pos}(h:EvA X ρ es ds)(hz:szl ds.length=true):Ev X ρ (.Tuple es j pos) (.tup ds):=fun σ H Hs Q hs hst hq =>
 (vf cG).sem (h σ H Hs _ hs hst fun vs H1 Hs1 E1 r1=>⟨by rw[<- r1.length];exact fJ hz,fun p hp=>gJ E1.sub r1 hp fun w H' Hs' E2 r2=>hq w H' Hs' (E1.trans E2) r2⟩)
theorem wI{es:List Expr}{ds:List D}{pos:Pos}(h:EvA X ρ es ds)(hz:szl ds.length=true):Ev X ρ (.List es pos) (.lst ds):=fun σ H Hs Q hs hst hq =>
 (jT cG).sem (h σ H Hs _ hs hst fun vs H1 Hs1 E1 r1=>⟨by rw[<- r1.length];exact fJ hz,fun p hp=>jj E1.sub r1 hp fun w H' Hs' E2 r2=>hq w H' Hs' (E1.trans E2) r2⟩)
theorem wg(n:Nat)(i:Int):ixD n i=ixN n i:=rfl
theorem xT{K:Zf}{H:Hp}{ds:List D}{vs:List V}{i:Int}{d:D}(h:aH K H ds vs)(e:atD ds i=some d):∃ v,atI vs i=some v/\Rep K H d v:=by
 unfold atD at e;rw[wg,h.length] at e
 cases q:ixN vs.length i with
 | none=>rw[q] at e;cases e
 | some j =>
  rw[q] at e;obtain⟨v,h1,h2⟩:=h.get (i:=j) (d:=d) e;exact⟨v,by unfold atI;rw[q];exact h1,h2⟩
theorem CQ{K:Zf}{H:Hp}{ks:List (Sum Int Str)}{ds:List D}{v:V}(h:Rep K H (.dic ks ds) v):∃ (a:Addr) (kvs:List (Key×V)),v=.ref a/\DAt K H a kvs/\kvs.map (·.1)=ks/\aH K H ds (kvs.map (·.2)):=by simpa[Rep] using h
theorem tZ{K:Zf}{H:Hp}{k:Key}{d:D}:∀ {kvs:List (Key×V)} {ds:List D},aH K H ds (kvs.map (·.2))->Gn (kvs.map (·.1)) ds k=some d->∃ v,jG kvs k=some v/\Rep K H d v
 | [],ds,r,h=>by simp[Gn] at h
 | (k',v')::kvs,ds,r,h=>by
  cases ds with
  | nil=>simp[Gn] at h
  | cons d' ds =>
   simp only[Z3z,aH] at r;obtain⟨v,rr,e,h2,h3⟩:=r;cases e;unfold Gn at h;simp only[Z3z,List.zip_cons_cons,List.find?_cons] at h;unfold jG;rw[List.find?_cons]
   by_cases q:k'=k
   ·simp only[q,decide_true] at h ⊢
    simp only[J3z,K2z] at h ⊢;subst h;exact⟨v',rfl,h2⟩
   ·simp only[q,decide_false] at h ⊢
    exact tZ h3 h
theorem Em{K:Zf}{H:Hp}{d:D}{v:V}{k:Key}(h:J1 d=some k)(r:Rep K H d v):v=kV k:=by
 cases d<;>simp[J1] at h
 ·subst h;exact aG r
 ·subst h
  rename_i x
  have e:v=.str x:=by simpa[Rep] using r
  exact e
theorem Ft{a b:Expr}{ks:List (Sum Int Str)}{ds:List D}{y d:D}{k':Key}{pos:Pos}(kw:KnW X.K X.w)(ha:Ev X ρ a (.dic ks ds))(hb:Ev X ρ b y)(hp:aF b=true)(hk:J1 y=some k')(hd:Gn ks ds k'=some d):Ev X ρ (.Subscript a b pos) d:=by
 intro σ H Hs Q hs hst hq;refine PE.sem (Dm kw ao ao fun ov iv=>lg hp ov iv) (ha σ H Hs _ hs hst fun v H1 Hs1 E1 r1=>hb σ H1 Hs1 _ E1.sub (hst.same E1.vis) fun u H2 Hs2 E2 r2=>?_);have rdE:∀ {H1 H2:Hp} {a:Addr} {u:List (Key×V)},Same H1 H2->DAt X.K H1 a u->DAt X.K H2 a u:=fun e r=>r.elim (fun r=>.inl (r.elim (fun q=>.inl (e _ _ q)) fun⟨o,q⟩=>.inr ⟨o,e _ _ q⟩)) .inr;obtain⟨p,kvs,rfl,h1,rfl,h3⟩:=CQ (Rep.same E2.vis _ v r1);obtain⟨w,h4,h5⟩:=tZ h3 hd;exact⟨p,w,kvs,k',rfl,rdE E2.sub h1,Em hk r2,h4.symm,hq w H2 Hs2 (E1.trans E2) h5⟩
theorem lN{a b:Expr}{x d:D}{i:Int}{xs:List D}{pos:Pos}(ha:Ev X ρ a x)(hb:Ev X ρ b (.int i))(hp:aF b=true)(hx:items x=some xs)(hd:atD xs i=some d):Ev X ρ (.Subscript a b pos) d:=by
 cases x with
 | tup ys =>
  simp only[items,K2z] at hx;subst hx;refine cV ha hb (vg qJ ao ao (lg hp)) fun u v H Hs Q hs r1 r2 hq=>?_;obtain⟨p,vs,rfl,h1,h2⟩:=bH r1;obtain⟨w,h3,h4⟩:=xT h2 hd;exact⟨p,vs,i,w,rfl,aG r2,hs.tup h1,h3,hq w H Hs (.refl hs) h4⟩
 | lst ys =>
  simp only[items,K2z] at hx;subst hx;refine cV ha hb (vg En ao ao (lg hp)) fun u v H Hs Q hs r1 r2 hq=>?_;obtain⟨p,vs,rfl,h1,h2⟩:=bM r1;obtain⟨w,h3,h4⟩:=xT h2 hd;exact⟨p,vs,i,w,rfl,aG r2,hs.seq h1,h3,hq w H Hs (.refl hs) h4⟩
 | _=>simp[items] at hx
theorem Fx{f:Str}{es:List Expr}{ds:List D}{d:D}{p pos:Pos}(G:Good cx k X sc)(hg:Gl X f)(hf:cx.fns.contains f=true)(hne:es≠[])(h:EvA X ρ es ds)(hp:∀ e∈es,aF e=true)(hc:cx.call f ds=some d) :
  Ev X ρ (.Call (.Name f p) es [] pos) d:=by
 obtain⟨hdb,a,fd,ps,har,_,hm,hk,hb,F⟩:=G.fns f hf
 cases es with
 | nil=>exact absurd rfl hne
 | cons e es =>
  intro σ H Hs Q hs hst hq;refine(dZ F G.room hg hm hk hb .nil vo cG hdb (aj (hp e (by simp))) (dJ fun e' he=>hp e' (W0z _ he))).sem (h σ H Hs _ hs hst fun vs H1 Hs1 E1 r1=>?_);refine⟨?_,Hs1,ds,E1.sub,?_,.inl ⟨d,hc,fun v H' Hs' E2 r2=>hq v H' Hs' (E1.trans E2) r2⟩⟩
  ·rw[E3z,<- r1.length,har ds d hc]
  ·rw[E3z];exact r1
def JQ(X:Cx)(f:Value):List V->Hp->VK->Prop:=fun vs H Q=>∀ z0 s σ us,Inv X z0 σ H s->Vals vs us->wpAny (model X.prog X.w) X.A (call f us) (EP X z0 σ Q) X.xe s
theorem cJ{f:Value}:cB X f (JQ X f):=fun z0 s σ H xs us Q I r h=>h z0 s σ us I r
theorem cB.sem{f:Value}{r:List V->Hp->VK->Prop}{vs:List V}{H:Hp}{Q:VK}(h:cB X f r)(q:r vs H Q):JQ X f vs H Q:=fun z0 s σ us I rv=>h z0 s σ H vs us Q I rv q
def EvC(X:Cx)(f:Value)(ds:List D)(d:D):Prop:=∀ vs H Hs Q,Same Hs H->aH X.K Hs ds vs->(∀ v H' Hs',Ext Hs H Hs' H'->Rep X.K Hs' d v->Q v H')->JQ X f vs H Q
theorem repL1{K:Zf}{H:Hp}{d:D}{vs:List V}(h:aH K H [d] vs):∃ v,vs=[v]/\Rep K H d v:=by
 simp only[aH] at h;obtain⟨v,r,rfl,h1,h2⟩:=h;subst h2;exact⟨v,rfl,h1⟩
theorem repL2{K:Zf}{H:Hp}{d e:D}{vs:List V}(h:aH K H [d,e] vs):∃ v w,vs=[v,w]/\Rep K H d v/\Rep K H e w:=by
 simp only[aH] at h;obtain⟨v,r,rfl,h1,w,r2,rfl,h2,h3⟩:=h;subst h3;exact⟨v,w,rfl,h1,h2⟩
theorem jc{K:Zf}{H:Hp}{d:D}{l:List D}{v:V}(h:Rep K H d v)(e:items d=some l):∃ a vs,v=.ref a/\(SqL K H a vs\/SqT K H a vs)/\aH K H l vs:=by
 cases d with
 | tup xs=>simp only[items,K2z] at e;subst e;obtain⟨a,vs,e1,e2,e3⟩:=bH h;exact⟨a,vs,e1,.inr e2,e3⟩
 | lst xs=>simp only[items,K2z] at e;subst e;obtain⟨a,vs,e1,e2,e3⟩:=bM h;exact⟨a,vs,e1,.inl e2,e3⟩
 | _=>simp[items] at e
theorem iM{K:Zf}{H:Hp}:∀ {ds:List D} {bs:List Bool} {vs:List V},qY ds=some bs->aH K H ds vs->vs=bs.map V.bl
 | [],ns,vs,h,r=>by
  simp only[qY,K2z] at h;subst h
  simpa[aH] using r
 | .bl i::ds,ns,vs,h,r=>by
  simp only[qY,Q0z] at h;obtain⟨ms,h1,rfl⟩:=h;simp only[aH] at r;obtain⟨v,r',rfl,h2,h3⟩:=r;rw[cC h2,iM h1 h3];rfl
 | .non::ds,ns,vs,h,r=>by simp[qY] at h
 | .int _::ds,ns,vs,h,r=>by simp[qY] at h
 | .str _::ds,ns,vs,h,r=>by simp[qY] at h
 | .tup _::ds,ns,vs,h,r=>by simp[qY] at h
 | .lst _::ds,ns,vs,h,r=>by simp[qY] at h
 | .exc _::ds,ns,vs,h,r=>by simp[qY] at h
 | .dic _ _::ds,ns,vs,h,r=>by simp[qY] at h
 | .obj _::ds,ns,vs,h,r=>by simp[qY] at h
theorem jA:∀ {bs:List Bool} {us:List Value},Vals (bs.map V.bl) us->LSm.BoolsAre us bs
 | [],us,r=>by rw[K4z] at r;cases r;exact .nil
 | b::bs,us,r=>by
  rw[Z3z] at r
  cases r with
  | cons r1 r2 =>
   cases (show _=Value.bool b from r1);exact .cons b (jA r2)
theorem xq(hc:X.calm=true):cB X (.builtin "sum") (fun xs H Q=>∃ (p:Addr) (ns:List Int),xs=[.ref p]/\SqL X.K H p (ns.map V.int)/\Q (.int ns.sum) H):=by
 intro z0 s σ H xs us Q I r h;obtain⟨p,ns,rfl,hq,q⟩:=h;obtain⟨u,rfl,rx⟩:=vals1 r;cases (show u=Value.ref p from rx);obtain⟨its,r',pl,hz⟩:=I.list hq;have hi:=intsAre_of r';obtain⟨zs,hx⟩:=hi.allInts.items;have hl':s.heap.IsList p (intItems zs):=hx▸pl.isList;refine sum_intListG (I.ok.hd hc) hl' fun h' tk t' hk=>⟨.int ns.sum,H,I.kept hk,⟨t',?_⟩,q⟩
 have e1:ns=zs.toList.map (·.1):=by
  rw[<- nums_intItems,<- hx];exact(show numsOf its.toArray.toList=ns from hi.numsOf).symm
 rw[preSum_eq,List.take_of_length_le (by simp),e1]
theorem xH(hc:X.calm=true):cB X (.builtin "all") (fun xs H Q=>∃ (p:Addr) (bs:List Bool),xs=[.ref p]/\SqL X.K H p (bs.map V.bl)/\Q (.bl (bs.all id)) H):=by
 intro z0 s σ H xs us Q I r h;obtain⟨p,bs,rfl,hq,q⟩:=h;obtain⟨u,rfl,rx⟩:=vals1 r;cases (show u=Value.ref p from rx);obtain⟨its,r',pl,hz⟩:=I.list hq;have hb:=jA r';have hl:=pl.isList
 have hlt:p<s.heap.objs.size:=by obtain⟨_,e,_⟩:=hl;exact E4z e
 refine call_all_walk (wpAny_pyIter_list hl ⟨s.heap.objs.size,[s.heap.objs.size,p],[s.heap.objs.size],its.toArray.size,_,_,fun i=>(bs[i]?).getD true,rfl,Walks.list (A:=X.A.in1) (I.ok.hd hc) _ p (F4z hlt) its.toArray,⟨⟨_,Heap.get?_push_size _ rfl,rfl,rfl⟩,hl.push _⟩,fun i v s' Q' E' hP hQ=>?_,fun h' tk hk=>?_⟩)
 ·obtain⟨b,e,rfl⟩:=hb.get i v (by simpa using hP)
  simp only[e,Option.getD_some] at hQ;exact A2z hQ
 ·have e:((List.range its.toArray.size).all fun i=>(bs[i]?).getD true)=bs.all id:=by rw[D2z,hb.length];exact LSm.range_all bs
  rw[e];exact⟨.bl _,H,I.kept (LSm.kept_iter hk),rfl,q⟩
theorem Fe{d0:D}{l:List D}(hl:items d0=some l):EvC X (.type "tuple") [d0] (.tup l):=by
 intro vs H Hs Q hs hr hq;obtain⟨v,rfl,r1⟩:=repL1 hr;refine cB.sem lZ ?_
 cases d0 with
 | tup xs =>
  simp only[items,K2z] at hl;subst hl
  obtain⟨a,us,rfl,h1,h2⟩:=bH r1;exact⟨a,us,rfl,.inr ⟨hs.tup h1,hq _ H Hs (.refl hs) r1⟩⟩
 | lst xs =>
  simp only[items,K2z] at hl;subst hl
  obtain⟨a,us,rfl,h1,h2⟩:=bM r1;exact⟨a,us,rfl,.inl ⟨hs.seq h1,fun p hp=>gJ hs h2 hp hq⟩⟩
 | _=>simp[items] at hl
def Uj:String->Value
 | "tuple"=>.type "tuple"
 | "list"=>.type "list"
 | "int"=>.type "int"
 | b=>.builtin b
theorem Js{b:String}{ds:List D}{d:D}(hc:X.calm=true)(h:DE.blt b ds=some d):EvC X (Uj b) ds d:=by
 intro vs H Hs Q hs hr hq;unfold DE.blt at h;split at h
 ·split at h
  ·rename_i x hz
   cases h;obtain⟨v,rfl,r1⟩:=repL1 hr
   have e:v=.str x:=by simpa[Rep] using r1
   subst e;exact cB.sem n8 ⟨x,rfl,fJ hz,hq _ H Hs (.refl hs) (by simp[Rep])⟩
  ·cases h
 ·simp only[bind,Option.bind] at h
  split at h
  ·cases h
  ·rename_i l hl
   cases h;obtain⟨v,rfl,r1⟩:=repL1 hr;obtain⟨a,us,rfl,h1,h2⟩:=jc r1 hl;refine cB.sem dB ⟨a,us,rfl,h1.imp hs.seq hs.tup,?_⟩;rw[<- h2.length];exact hq _ H Hs (.refl hs) (by simp[Rep])
 ·simp only[bind,Option.bind] at h
  split at h
  ·cases h
  ·rename_i l hl
   cases h;obtain⟨v,rfl,r1⟩:=repL1 hr;obtain⟨a,us,rfl,h1,h2⟩:=bM r1;have e:=iM hl h2;subst e;exact cB.sem (xH hc) ⟨a,_,rfl,hs.seq h1,hq _ H Hs (.refl hs) (by simp[Rep])⟩
 ·simp only[bind,Option.bind] at h
  split at h
  ·cases h
  ·rename_i l hl
   cases h;obtain⟨v,rfl,r1⟩:=repL1 hr;obtain⟨a,us,rfl,h1,h2⟩:=bM r1;have e:=iK hl h2;subst e;exact cB.sem (xq hc) ⟨a,_,rfl,hs.seq h1,hq _ H Hs (.refl hs) (by simp[Rep])⟩
 ·simp only[bind,Option.bind] at h
  split at h
  ·cases h
  ·rename_i l hl
   cases h;exact Fe hl vs H Hs Q hs hr hq
 ·simp only[bind,Option.bind] at h
  split at h
  ·cases h
  ·rename_i l hl
   cases h;obtain⟨v,rfl,r1⟩:=repL1 hr;obtain⟨a,us,rfl,h1,h2⟩:=jc r1 hl;exact cB.sem gY ⟨a,us,rfl,h1.imp hs.seq hs.tup,fun p hp=>jj hs h2 hp hq⟩
 ·cases h
  obtain⟨v,w,rfl,r1,r2⟩:=repL2 hr;exact cB.sem (xr hc) ⟨_,_,by rw[aG r1,aG r2],hq _ H Hs (.refl hs) (by simp[Rep])⟩
 ·cases h
  obtain⟨v,w,rfl,r1,r2⟩:=repL2 hr;exact cB.sem (xu hc) ⟨_,_,by rw[aG r1,aG r2],hq _ H Hs (.refl hs) (by simp[Rep])⟩
 ·cases h
  obtain⟨v,rfl,r1⟩:=repL1 hr;exact cB.sem Af ⟨_,by rw[aG r1],hq _ H Hs (.refl hs) (by simp[Rep])⟩
 ·cases h
  obtain⟨v,rfl,r1⟩:=repL1 hr;exact cB.sem ou (.inr ⟨_,by rw[cC r1],hq _ H Hs (.refl hs) (by simp[Rep,DE.b2i])⟩)
 ·cases h
  obtain⟨v,rfl,r1⟩:=repL1 hr;exact cB.sem ou (.inl ⟨_,by rw[aG r1],hq _ H Hs (.refl hs) (by simp[Rep])⟩)
 ·cases h
end
section
variable {X:Cx} {ρ:Rho} {cx:Cxt} {k:Nat} {sc:Scope}
theorem bK{x:Str}{b:String}(G:Good cx k X sc)(h:aU cx sc x=some b):Gl X x/\X.mg x=none/\x=Str.ofString b:=by
 unfold aU pB at h;split at h
 ·rename_i hg
  have e:sc.names.lookup x=some .globalImplicit:=by simpa using hg
  refine⟨?_,G.blt x b h⟩;show X.env.scope.names.lookup x=_;rw[G.sce,e]
 ·cases h
theorem xJ{b:String}{ds:List D}{d:D}(h:DE.blt b ds=some d):b="len"\/b="all"\/b="sum"\/b="tuple"\/b="list"\/b="min"\/b="max"\/b="abs"\/b="int"\/b="any":=by
 unfold DE.blt at h
 split at h<;>first | (simp;done) | cases h
theorem zZ{x:Str}{b:String}{e:Expr}{es:List Expr}{ds:List D}{d:D}{p pos:Pos}(G:Good cx k X sc)(hx:aU cx sc x=some b)(h:EvA X ρ (e::es) ds)(hp:∀ a∈e::es,aF a=true)(hd:DE.blt b ds=some d) :
  Ev X ρ (.Call (.Name x p) (e::es) [] pos) d:=by
 obtain⟨hg,hm,rfl⟩:=bK G hx;have c:=Js (X:=X) G.calm hd;have s1:=aj (env:=X.env) (es:=es) (hp e (by simp));have s2:=dJ (env:=X.env) (pos:=pos) fun a ha=>hp a (W0z _ ha)
 have fin:∀ f:Value,Uj b=f->PE X (.Call (.Name (Str.ofString b) p) (e::es) [] pos) (tCB (JQ X f) (uz X (e::es)))->Ev X ρ (.Call (.Name (Str.ofString b) p) (e::es) [] pos) d:=by
  intro f hf hpe σ H Hs Q hs hst hq;rw[hf] at c;refine hpe.sem (h σ H Hs _ hs hst fun vs H1 Hs1 E1 r1=>?_);exact c vs H1 Hs1 Q E1.sub r1 fun v H' Hs' E2 r2=>hq v H' Hs' (E1.trans E2) r2
 rcases xJ hd with rfl | rfl | rfl | rfl | rfl | rfl | rfl | rfl | rfl | rfl
 ·exact fin (.builtin "len") rfl (bQ cJ hg hm (by decide +kernel) cG (by decide) (by decide) s1 s2)
 ·exact fin (.builtin "all") rfl (bQ cJ hg hm (by decide +kernel) cG (by decide) (by decide) s1 s2)
 ·exact fin (.builtin "sum") rfl (bQ cJ hg hm (by decide +kernel) cG (by decide) (by decide) s1 s2)
 ·exact fin (.type "tuple") rfl (fZ cJ hg hm (by decide +kernel) cG (by decide) (by decide) s1 s2)
 ·exact fin (.type "list") rfl (fZ cJ hg hm (by decide +kernel) cG (by decide) (by decide) s1 s2)
 ·exact fin (.builtin "min") rfl (bQ cJ hg hm (by decide +kernel) cG (by decide) (by decide) s1 s2)
 ·exact fin (.builtin "max") rfl (bQ cJ hg hm (by decide +kernel) cG (by decide) (by decide) s1 s2)
 ·exact fin (.builtin "abs") rfl (bQ cJ hg hm (by decide +kernel) cG (by decide) (by decide) s1 s2)
 ·exact fin (.type "int") rfl (fZ cJ hg hm (by decide +kernel) cG (by decide) (by decide) s1 s2)
 ·exact fin (.builtin "any") rfl (bQ cJ hg hm (by decide +kernel) cG (by decide) (by decide) s1 s2)
def Vi(K:Zf)(T:String):List V->Hp->VK->Prop:=fun xs H Q=>∃ x d,xs=[x,.ty T]/\Rep K H d x/\isExc d=false/\Q (.bl (J2 T d)) H
theorem pX{T:String}(h:iT T=true):T="int"\/T="bool"\/T="tuple"\/T="list"\/T="str":=by
 unfold iT at h
 split at h<;>first | (simp;done) | cases h
theorem mK{x:V}{vs:List V}{us:List Value}(r:Vals (x::vs) us):∃ u w,us=u::w/\RelV x u/\Vals vs w:=by
 cases r with
 | cons r rr=>exact⟨_,_,rfl,r,rr⟩
theorem Ae{T:String}(hk:iT T=true):cB X (.builtin "isinstance") (Vi X.K T):=by
 intro z0 s σ H xs us Q I r h;obtain⟨x,d,rfl,rd,hne,q⟩:=h;obtain⟨u,w1,rfl,rx,rr⟩:=mK r;obtain⟨c,w2,rfl,rc,rr2⟩:=mK rr;cases rr2;cases (show c=Value.type T from rc);have fin:∀ b,b=J2 T d->∀ tk,EP X z0 σ Q (.bool b) { s with toks:=tk }:=fun b hb tk=>⟨.bl _,H,I.tok _,by rw[hb];rfl,q⟩;have ks:=pX hk
 cases d with
 | exc c=>exact absurd hne (by simp[isExc])
 | dic _ _=>exact absurd hne (by simp[isExc])
 | obj _=>exact absurd hne (by simp[isExc])
 | non =>
  cases iZ rd;cases (show u=Value.none from rx)
  rcases ks with rfl | rfl | rfl | rfl | rfl<;>exact Q3z (b:=false) PySem.W.kitx_none I.kIn True.intro rfl (fun z=>nomatch z) (fin _ rfl)
 | bl y =>
  cases cC rd;cases (show u=Value.bool y from rx)
  rcases ks with rfl | rfl | rfl | rfl | rfl
  ·exact Q3z (b:=true) L2z I.kIn True.intro rfl (fun z=>nomatch z) (fin _ rfl)
  ·exact Q3z (b:=true) L2z I.kIn True.intro rfl (fun z=>nomatch z) (fin _ rfl)
  ·exact Q3z (b:=false) L2z I.kIn True.intro rfl (fun z=>nomatch z) (fin _ rfl)
  ·exact Q3z (b:=false) L2z I.kIn True.intro rfl (fun z=>nomatch z) (fin _ rfl)
  ·exact Q3z (b:=false) L2z I.kIn True.intro rfl (fun z=>nomatch z) (fin _ rfl)
 | int y =>
  cases aG rd;obtain⟨t,e⟩:=(show ∃ t,u=Value.int y t from rx);cases e;rcases ks with rfl | rfl | rfl | rfl | rfl
  ·exact Q3z (b:=true) Y2z I.kIn True.intro rfl (fun z=>nomatch z) (fin _ rfl)
  ·exact Q3z (b:=false) Y2z I.kIn True.intro rfl (fun z=>nomatch z) (fin _ rfl)
  ·exact Q3z (b:=false) Y2z I.kIn True.intro rfl (fun z=>nomatch z) (fin _ rfl)
  ·exact Q3z (b:=false) Y2z I.kIn True.intro rfl (fun z=>nomatch z) (fin _ rfl)
  ·exact Q3z (b:=false) Y2z I.kIn True.intro rfl (fun z=>nomatch z) (fin _ rfl)
 | str y =>
  have ev:x=.str y:=by simpa[Rep] using rd
  subst ev;obtain⟨t,e⟩:=(show ∃ t,u=Value.str y t from rx);cases e;rcases ks with rfl | rfl | rfl | rfl | rfl
  ·exact Q3z (b:=false) Z2z I.kIn True.intro rfl (fun z=>nomatch z) (fin _ rfl)
  ·exact Q3z (b:=false) Z2z I.kIn True.intro rfl (fun z=>nomatch z) (fin _ rfl)
  ·exact Q3z (b:=false) Z2z I.kIn True.intro rfl (fun z=>nomatch z) (fin _ rfl)
  ·exact Q3z (b:=false) Z2z I.kIn True.intro rfl (fun z=>nomatch z) (fin _ rfl)
  ·exact Q3z (b:=true) Z2z I.kIn True.intro rfl (fun z=>nomatch z) (fin _ rfl)
 | tup ds =>
  obtain⟨a,vs,rfl,h1,h2⟩:=bH rd;cases (show u=Value.ref a from rx);obtain⟨its,_,o,g1,g2,_⟩:=isT I h1;rcases ks with rfl | rfl | rfl | rfl | rfl
  ·exact Q3z (b:=false) Z1z I.kIn ⟨o,g1,g2⟩ rfl (fun z=>nomatch z) (fin _ rfl)
  ·exact Q3z (b:=false) Z1z I.kIn ⟨o,g1,g2⟩ rfl (fun z=>nomatch z) (fin _ rfl)
  ·exact Q3z (b:=true) Z1z I.kIn ⟨o,g1,g2⟩ rfl (fun z=>nomatch z) (fin _ rfl)
  ·exact Q3z (b:=false) Z1z I.kIn ⟨o,g1,g2⟩ rfl (fun z=>nomatch z) (fin _ rfl)
  ·exact Q3z (b:=false) Z1z I.kIn ⟨o,g1,g2⟩ rfl (fun z=>nomatch z) (fin _ rfl)
 | lst ds =>
  obtain⟨a,vs,rfl,h1,h2⟩:=bM rd;cases (show u=Value.ref a from rx);obtain⟨its,_,o,g1,g2,_⟩:=isL I h1;rcases ks with rfl | rfl | rfl | rfl | rfl
  ·exact Q3z (b:=false) M2z I.kIn ⟨o,g1,g2⟩ rfl (fun z=>nomatch z) (fin _ rfl)
  ·exact Q3z (b:=false) M2z I.kIn ⟨o,g1,g2⟩ rfl (fun z=>nomatch z) (fin _ rfl)
  ·exact Q3z (b:=false) M2z I.kIn ⟨o,g1,g2⟩ rfl (fun z=>nomatch z) (fin _ rfl)
  ·exact Q3z (b:=true) M2z I.kIn ⟨o,g1,g2⟩ rfl (fun z=>nomatch z) (fin _ rfl)
  ·exact Q3z (b:=false) M2z I.kIn ⟨o,g1,g2⟩ rfl (fun z=>nomatch z) (fin _ rfl)
theorem Jo{x t:Str}{T:String}{a:Expr}{d:D}{p pt pos:Pos}(G:Good cx k X sc)(hx:aU cx sc x=some "isinstance")(ht:aU cx sc t=some T)(hk:iT T=true)(ha:Ev X ρ a d)(hp:aF a=true)(hne:isExc d=false) :
  Ev X ρ (.Call (.Name x p) [a,.Name t pt] [] pos) (.bl (J2 T d)):=by
 obtain⟨hg,hm,rfl⟩:=bK G hx;obtain⟨hg2,hm2,rfl⟩:=bK G ht
 have htv:PE X (.Name (Str.ofString T) pt) (tC (.ty T)):=by
  rcases pX hk with rfl | rfl | rfl | rfl | rfl<;>exact oX hg2 hm2 (by decide +kernel) rfl
 intro σ H Hs Q hs hst hq;refine(bQ (Ae (X:=X) hk) hg hm (by decide +kernel) (au ao (au htv aK (aj rfl)) (aj hp)) (by decide) (by decide) (aj hp) rfl).sem ?_;exact ha σ H Hs _ hs hst fun v H1 Hs1 E1 r1=>⟨v,d,rfl,Rep.same E1.sub d v r1,hne,hq _ H1 Hs1 E1 (by simp[Rep])⟩
def Kw(K:Zf)(cv:V)(C:Addr)(b:Bool):List V->Hp->VK->Prop:=fun xs H Q=>∃ a,xs=[.ref a,cv]/\H a=some (.ext (isX a (.ref C)))/\Q (.bl b) H
theorem oh{cv:V}{c:Value}{C:Addr}{b:Bool}(hA:j9 X.K C=true)(hc:∀ u,RelV cv u->u=c)(e:PySem.W.kitOne X.K (.ref C) c=some b):cB X (.builtin "isinstance") (Kw X.K cv C b):=by
 intro z0 s σ H xs us Q I r h;obtain⟨a,rfl,ha,q⟩:=h;obtain⟨u,w1,rfl,rx,rr⟩:=mK r;obtain⟨u2,w2,rfl,rc,rr2⟩:=mK rr;cases rr2;cases (show u=Value.ref a from rx);cases hc u2 rc;exact Q3z (zL hA) I.kIn (I.hok _ _ ha).1 e (fun z=>nomatch z) fun tk=>⟨.bl _,H,I.tok _,rfl,q⟩
theorem pF{x c:Str}{t a:Expr}{tv:TE}{cv:V}{cw:Value}{b:Bool}{p pos:Pos}(G:Good cx k X sc)(hx:aU cx sc x=some "isinstance")(hc:cx.exs.contains c=true)(ht:PE X t (tC cv))(hpt:aF t=true)(hcv:∀ u,RelV cv u->u=cw)
  (hk:∀ C,PySem.W.nsIn X.K mainGlobals c=some (some (.ref C))->PySem.W.kitOne X.K (.ref C) cw=some b) (ha:Ev X ρ a (.exc c)) (hp:aF a=true):Ev X ρ (.Call (.Name x p) [a,t] [] pos) (.bl b):=by
 obtain⟨hg,hm,rfl⟩:=bK G hx;obtain⟨C,M,e1,_,_,e2,_⟩:=G.exs.cls c hc;intro σ H Hs Q hs hst hq;refine(bQ (oh (X:=X) (cv:=cv) e2 hcv (hk C e1)) hg hm (by decide +kernel) (au ao (au ht aK (aj hpt)) (aj hp)) (by decide) (by decide) (aj hp) (by rw[aj hpt];rfl)).sem ?_;refine ha σ H Hs _ hs hst fun v H1 Hs1 E1 r1=>?_;have r2:=Rep.same E1.sub _ v r1;simp only[Rep] at r2;obtain⟨a0,C0,rfl,f1,f2⟩:=r2;rw[e1] at f1;cases f1;exact⟨a0,rfl,f2,hq _ H1 Hs1 E1 (by simp[Rep])⟩
theorem Fq{x t c:Str}{a:Expr}{p pt pos:Pos}(G:Good cx k X sc)(hx:aU cx sc x=some "isinstance")(ht:aU cx sc t=some "ValueError")(hc:cx.exs.contains c=true)(ha:Ev X ρ a (.exc c))(hp:aF a=true):Ev X ρ (.Call (.Name x p) [a,.Name t pt] [] pos) (.bl true):=by
 obtain⟨hg2,hm2,rfl⟩:=bK G ht;refine pF (tv:=tC (.ty "ValueError")) (cv:=.ty "ValueError") (cw:=.type "ValueError") G hx hc (oX hg2 hm2 (by decide +kernel) rfl) rfl (fun u r=>r) (fun C e=>?_) ha hp;obtain⟨C',M,e1,_,_,_,_,_,e2⟩:=G.exs.cls c hc;rw[e] at e1;cases e1;exact e2
theorem Ak{t:Expr}{c':Str}(h:xOf cx sc t=some c'):∃ pt,t=.Name c' pt/\pB cx sc c'=true/\(cx.exs.contains c'=true\/c'=cx.top)/\(c'==("__debug__":Str))=false:=by
 unfold xOf at h;split at h
 ·rename_i y pt
  split at h
  ·rename_i q
   cases h;rw[W2z,W2z,P3z] at q;have q2:=q.2;unfold aD at q2;rw[W2z,V4z] at q2;exact⟨pt,rfl,q.1.1,q.1.2.imp id (fun z=>by simpa using z),by simpa using q2.1⟩
  ·cases h
 ·cases h
theorem Fp{x c c':Str}{t a:Expr}{p pos:Pos}(G:Good cx k X sc)(hx:aU cx sc x=some "isinstance")(ht:xOf cx sc t=some c')(hc:cx.exs.contains c=true)(ha:Ev X ρ a (.exc c))(hp:aF a=true):Ev X ρ (.Call (.Name x p) [a,t] [] pos) (.bl (tR cx.top c c')):=by
 obtain⟨pt,rfl,hgl,hin,hd⟩:=Ak ht
 have hg:Gl X c':=by
  have e:sc.names.lookup c'=some .globalImplicit:=by unfold pB at hgl;simpa using hgl
  show X.env.scope.names.lookup c'=_;rw[G.sce,e]
 by_cases htop:c'=cx.top
 ·subst htop
  obtain⟨C,M,e1,e2,_,_,_,e3,_⟩:=G.exs.cls c hc
  have:tR cx.top c cx.top=true:=by unfold tR;simp
  rw[this];refine pF (tv:=tC (.ref M)) (cv:=.ref M) (cw:=.ref M) G hx hc (jh hg (G.exs.glob _ _ e2) rfl hd) rfl (fun u r=>r) (fun C' e=>?_) ha hp;rw[e] at e1;cases e1;exact e3
 ·have hin':cx.exs.contains c'=true:=hin.resolve_right htop
  obtain⟨C,C',e1,e2,e3⟩:=G.exs.sub c c' hc hin'
  have:tR cx.top c c'=(c==c'):=by
   unfold tR
   have:(c'==cx.top)=false:=by simpa using htop
   rw[this,Bool.or_false]
  rw[this];refine pF (tv:=tC (.ref C')) (cv:=.ref C') (cw:=.ref C') G hx hc (jh hg (G.exs.glob _ _ e2) rfl hd) rfl (fun u r=>r) (fun C'' e=>?_) ha hp;rw[e] at e1;cases e1;exact e3
end
section
variable {X:Cx} {ρ:Rho} {cx:Cxt} {k:Nat} {sc:Scope}
theorem tX:∀ {vs:List V} {us:List Value},vs.length=us.length->(∀ (i:Nat) (v:V) (u:Value),vs[i]?=some v->us[i]?=some u->RelV v u)->Vals vs us
 | [],[],_,_=>.nil
 | [],u::us,h,_=>by simp at h
 | v::vs,[],h,_=>by simp at h
 | v::vs,u::us,h,hr=>.cons (hr 0 v u rfl rfl) (tX (by simpa using h) fun i a b e1 e2=>hr (i+1) a b (by simpa using e1) (by simpa using e2))
theorem kW{α:Type}{K:Zf}{H:Hp}{f:α->D}{g:α->V}(h:∀ x,Rep K H (f x) (g x)):∀ l:List α,aH K H (l.map f) (l.map g)
 | []=>.nil
 | x::r=>.cons (h x) (kW h r)
theorem jN{i:Int}(h:ig i=true):-(2^62)<=i/\i<2^62:=by
 unfold ig at h;rw[W2z,J2z,J2z] at h;exact h
theorem zx{wr:List Addr}{s s':Shared}(m:Moved wr (fun a b=>b=a) s s'):s'={ s with heap:=s'.heap,toks:=s'.toks }:=by
 have h1:=m.gens;have h2:=m.drawn;have h3:=m.os;cases s;cases s';simp at h1 h2 h3;subst h1 h2 h3;rfl
theorem Fg{x y:Str}{a:Expr}{xs:List D}{p q q' pos:Pos}(G:Good cx k X sc)(hx:aU cx sc x=some "tuple")(hy:aU cx sc y=some "reversed")(ha:Ev X ρ a (.tup xs))(hp:aF a=true) :
  Ev X ρ (.Call (.Name x p) [.Call (.Name y q) [a] [] q'] [] pos) (.tup xs.reverse):=by
 obtain⟨hg,hm,rfl⟩:=bK G hx;obtain⟨hg2,hm2,rfl⟩:=bK G hy;intro σ H Hs Q hs hst hq z0 s I;refine Call_ (d8 I hg hm (show bootBuiltins "tuple"=some (.type "tuple") by decide +kernel) (B0z ?_ rfl rfl));show wpAny _ _ (spliced [(false,eval (.Call (.Name _ q) [a] [] q') X.env)]) _ _ _;refine R1z ?_;refine Call_ (d8 I hg2 hm2 boot_reversed (B0z ?_ (aj hp) rfl))
 refine thn ((au ao aK (aj hp)) q' z0 s σ H (fun vs H1=>∃ Hs1 b ws,vs=[.ref b]/\SqT X.K Hs1 b ws/\aH X.K Hs1 xs ws/\Ext Hs H Hs1 H1) I (ha σ H Hs _ hs hst fun v H1 Hs1 E1 r1=>by
  obtain⟨b,ws,rfl,h1,h2⟩:=bH r1
  exact⟨Hs1,b,ws,rfl,h1,h2,E1⟩)) fun us s1 ⟨vs,H1,I1,r1,Hs1,b,ws,e1,t1,r2,E1⟩=>?_
 subst e1;obtain⟨u,w1,rfl,rx,rr⟩:=mK r1;cases rr;cases (show u=Value.ref b from rx);obtain⟨its,rv,pt,hz⟩:=I1.tuple (E1.sub.tup t1);have hl:=rv.length;refine n6 pt (by simp;omega) fun tk=>C2z ?_;have st:cZ (s1.heap.push (yF b ((its.toArray.size:Int)-1))) s1.heap.objs.size b ((its.toArray.size:Int)-1):=Heap.get?_push_size _ rfl;have I2:Inv X z0 σ H1 { s1 with heap:=s1.heap.push (yF b ((its.toArray.size:Int)-1)),toks:=tk }:=I1.kept (t':=tk) fun b o e=>Heap.get?_push_of_some _ e;have hfr:H1 s1.heap.objs.size=none:=I1.hok.fresh (M4z _);obtain⟨f0,f1,f2,f3,f4,f5⟩:=I1.fpOk (M4z _) hfr
 have pt2:IsTup (s1.heap.push (yF b ((its.toArray.size:Int)-1))) b its.toArray:=by
  obtain⟨o,e1,e2⟩:=pt;exact⟨o,Heap.get?_push_of_some _ e1,e2⟩
 refine jz (I1.ok.hd G.calm) (s:={ s1 with heap:=s1.heap.push (yF b ((its.toArray.size:Int)-1)),toks:=tk }) st pt2 (by simp;omega) fun s' acc hm hacc=>?_
 have I3:Inv X z0 σ H1 s':=by
  rw[zx hm];exact I2.turned (fun c o hc e=>hm.heap c o (by simpa using hc) e) f0 f1 f3 f4 f5
 have hv:Vals ws.reverse acc.toList:=by
  have ha:acc.toList.length=its.length:=by
   have:=hacc.1;simpa using this
  refine tX (by rw[K1z,ha];exact hl) fun i v u e1 e2=>?_
  have e3:=hacc.2 i u (by simpa using e2);rw[D2z,List.getElem?_toArray] at e3
  have hi:i<ws.length:=by have:=(List.getElem?_eq_some_iff.mp e1).1;simpa using this
  rw[List.getElem?_reverse hi] at e1;obtain⟨u',e4,e5⟩:=rv.get e1;rw[hl] at e4;rw[e3] at e4;cases e4;exact e5
 have hz2:ws.reverse.length<=sizeLine:=by simpa using hz
 have I4:Inv X z0 σ (upd H1 s'.heap.objs.size (.tup ws.reverse)) { s' with heap:=s'.heap.push { cls:=.type "tuple",data:=.seq acc } } :=
  I3.laid (t':=s'.toks) (fun b o e=>Heap.get?_push_of_some _ e) (M4z _) (show cg X.prog X.w _ _ _ (.tup ws.reverse) from⟨hz2,acc.toList,hv,by simpa using IsTup.new s'.heap acc⟩)
 exact⟨.ref s'.heap.objs.size,_,I4,rfl,gJ E1.sub r2.reverse (I3.hok.fresh (M4z _)) fun w H' Hs' E2 r2=>hq w H' Hs' (E1.trans E2) r2⟩
variable {tg iter a b:Expr}
theorem FJ{d:D}{l:List D}(h:Ev X ρ iter d)(hl:items d=some l):EvI X ρ tg iter l:=by
 intro σ H Hs R hs hst hq
 cases d with
 | lst xs =>
  simp only[items,K2z] at hl;subst hl
  refine(Di (tg:=tg) ao).sem (h σ H Hs _ hs hst fun v H1 Hs1 E1 r1=>?_);obtain⟨p,vs,rfl,h1,h2⟩:=bM r1;refine⟨p,rfl,⟨vs,E1.sub.seq h1⟩,hq _ H1 Hs1 E1 fun Hs' H' e1 e2=>⟨⟨vs,e2.seq (e1.seq h1),by rw[h2.length];exact M4z _⟩,fun i d hd=>?_⟩⟩;obtain⟨v,g1,g2⟩:=h2.get hd;refine⟨⟨vs,v,e2.seq (e1.seq h1),g1⟩,fun x H2 y=>?_⟩;obtain⟨rfl,y⟩:=y;have:=y vs (e2.seq (e1.seq h1));rw[g1] at this;cases this;exact⟨Hs',.refl e2,Rep.same e1 d v g2⟩
 | tup xs =>
  simp only[items,K2z] at hl;subst hl
  refine(Hz (tg:=tg) ao).sem (h σ H Hs _ hs hst fun v H1 Hs1 E1 r1=>?_);obtain⟨p,vs,rfl,h1,h2⟩:=bH r1;refine⟨p,rfl,⟨vs,E1.sub.tup h1⟩,hq _ H1 Hs1 E1 fun Hs' H' e1 e2=>⟨⟨vs,e2.tup (e1.tup h1),by rw[h2.length];exact M4z _⟩,fun i d hd=>?_⟩⟩;obtain⟨v,g1,g2⟩:=h2.get hd;refine⟨⟨vs,v,e2.tup (e1.tup h1),g1⟩,fun x H2 y=>?_⟩;obtain⟨rfl,y⟩:=y;have:=y vs (e2.tup (e1.tup h1));rw[g1] at this;cases this;exact⟨Hs',.refl e2,Rep.same e1 d v g2⟩
 | _=>simp[items] at hl
theorem Fz{d:D}{l:List D}(h:Ev X ρ iter d)(hl:qK d=some l):EvI X ρ tg iter l:=by
 cases d with
 | str x =>
  simp only[qK] at hl;split at hl
  ·rename_i ha
   cases hl;intro σ H Hs R hs hst hq;refine(HB (tg:=tg) ao).sem (h σ H Hs _ hs hst fun v H1 Hs1 E1 r1=>?_)
   have e:v=.str x:=by simpa[Rep] using r1
   subst e;refine⟨x,rfl,ha,hq _ H1 Hs1 E1 fun Hs' H' e1 e2=>⟨?_,fun i d hd=>?_⟩⟩
   ·show x.cps.size<=_
    simp
   ·rw[List.getElem?_map] at hd
    obtain⟨c,h1,rfl⟩:=Q0z.mp hd
    have hi:i<x.cps.size:=by
     have:=(List.getElem?_eq_some_iff.mp h1).1;simpa using this
    refine⟨hi,fun y H2 hy=>?_⟩;obtain⟨rfl,c',h2,rfl⟩:=hy
    have:c'=c:=by
     rw[<- Array.getElem?_toList] at h2;rw[h1] at h2;cases h2;rfl
    subst this;exact⟨Hs',.refl e2,by simp[Rep]⟩
  ·cases hl
 | _=>exact FJ h hl
theorem jr{K:Zf}{Hs0:Hp}{lo hi:Int}{n:Nat}(hn:n=(hi-lo).toNat):JC K (Itr lo n) Hs0 (eE lo hi):=by
 have hl:(eE lo hi).length=n:=by rw[hn];simp[eE]
 intro Hs H e1 e2;refine⟨by show n<=_;rw[hl];exact M4z _,fun i d hd=>?_⟩
 have hi:i<n:=by have:=(List.getElem?_eq_some_iff.mp hd).1;rw[hl] at this;exact this
 refine⟨hi,fun x H' y=>?_⟩;obtain⟨rfl,rfl⟩:=y;refine⟨Hs,.refl e2,?_⟩;unfold eE at hd;rw[List.getElem?_map] at hd;obtain⟨j,e3,rfl⟩:=Q0z.mp hd;rw[List.getElem?_eq_some_iff] at e3;obtain⟨_,e3⟩:=e3;rw[List.getElem_range] at e3;subst e3;simp[Rep]
theorem sX{x:Str}{j:Int}{p pos:Pos}(G:Good cx k X sc)(hx:aU cx sc x=some "range")(ha:Ev X ρ a (.int j))(hp:aF a=true)(hj:ig j=true):EvI X ρ tg (.Call (.Name x p) [a] [] pos) (eE 0 j):=by
 obtain⟨hg,hm,rfl⟩:=bK G hx;intro σ H Hs R hs hst hq;have q:=vd (tg:=tg) (p:=p) (pos:=pos) hg hm (au (ao (X:=X) (e:=a)) aK (aj hp)) (aj hp);refine PI.sem q (ha σ H Hs _ hs hst fun v H1 Hs1 E1 r1=>?_);exact⟨j,by rw[aG r1],(jN hj).1,(jN hj).2,hq _ H1 Hs1 E1 (jr (by simp))⟩
theorem sW{x:Str}{i j:Int}{p pos:Pos}(G:Good cx k X sc)(hx:aU cx sc x=some "range")(ha:Ev X ρ a (.int i))(hp:aF a=true)(hb:Ev X ρ b (.int j))(hpb:aF b=true)(hi:ig i=true)(hj:ig j=true):EvI X ρ tg (.Call (.Name x p) [a,b] [] pos) (eE i j):=by
 obtain⟨hg,hm,rfl⟩:=bK G hx;intro σ H Hs R hs hst hq;have q:=u9 (tg:=tg) (p:=p) (pos:=pos) hg hm (au (ao (X:=X) (e:=a)) (au (ao (X:=X) (e:=b)) aK (aj hpb)) (aj hp)) (by rw[aj hp,aj hpb];rfl) (aj hpb);refine PI.sem q (ha σ H Hs _ hs hst fun v H1 Hs1 E1 r1=>hb σ H1 Hs1 _ E1.sub (hst.same E1.vis) fun v' H2 Hs2 E2 r2=>?_);exact⟨i,j,by rw[aG r1,aG r2],⟨(jN hi).1,(jN hi).2,(jN hj).1,(jN hj).2⟩,hq _ H2 Hs2 (E1.trans E2) (jr rfl)⟩
theorem FN{x:Str}{xs:List D}{p pos:Pos}(G:Good cx k X sc)(hx:aU cx sc x=some "reversed")(ha:Ev X ρ a (.tup xs))(hp:aF a=true):EvI X ρ tg (.Call (.Name x p) [a] [] pos) xs.reverse:=by
 obtain⟨hg,hm,rfl⟩:=bK G hx;intro σ H Hs R hs hst hq;have q:=HD (tg:=tg) (p:=p) (pos:=pos) hg hm (au (ao (X:=X) (e:=a)) aK (aj hp)) (aj hp);refine PI.sem q (ha σ H Hs _ hs hst fun v H1 Hs1 E1 r1=>?_);obtain⟨b,vs,rfl,h1,h2⟩:=bH r1;have hl:=h2.length;refine⟨b,vs,rfl,E1.sub.tup h1,hq _ H1 Hs1 E1 fun Hs' H' e1 e2=>⟨by show _=_;rw[K1z,hl],fun i d hd=>?_⟩⟩
 have hi:i<xs.length:=by have:=(List.getElem?_eq_some_iff.mp hd).1;simpa using this
 rw[List.getElem?_reverse hi] at hd;obtain⟨v,g1,g2⟩:=h2.get hd;rw[hl] at g1;refine⟨⟨vs,e2.tup (e1.tup h1),rfl,by rw[<- hl];exact hi⟩,fun x H2 y=>?_⟩;obtain⟨rfl,y⟩:=y;have:=y vs (e2.tup (e1.tup h1));rw[g1] at this;cases this;exact⟨Hs',.refl e2,Rep.same e1 d v g2⟩
theorem wM{x:Str}{xs:List D}{p pos:Pos}(G:Good cx k X sc)(hx:aU cx sc x=some "reversed")(ha:Ev X ρ a (.lst xs))(hp:aF a=true):EvI X ρ tg (.Call (.Name x p) [a] [] pos) xs.reverse:=by
 obtain⟨hg,hm,rfl⟩:=bK G hx;intro σ H Hs R hs hst hq;have q:=yJ (tg:=tg) (p:=p) (pos:=pos) hg hm (au (ao (X:=X) (e:=a)) aK (aj hp)) (aj hp);refine PI.sem q (ha σ H Hs _ hs hst fun v H1 Hs1 E1 r1=>?_);obtain⟨b,vs,rfl,h1,h2⟩:=bM r1;have hl:=h2.length;refine⟨b,vs,rfl,E1.sub.seq h1,hq _ H1 Hs1 E1 fun Hs' H' e1 e2=>⟨by show _=_;rw[K1z,hl],fun i d hd=>?_⟩⟩
 have hi:i<xs.length:=by have:=(List.getElem?_eq_some_iff.mp hd).1;simpa using this
 rw[List.getElem?_reverse hi] at hd;obtain⟨v,g1,g2⟩:=h2.get hd;rw[hl] at g1;refine⟨⟨vs,e2.seq (e1.seq h1),rfl,by rw[<- hl];exact hi⟩,fun x H2 y=>?_⟩;obtain⟨rfl,y⟩:=y;have:=y vs (e2.seq (e1.seq h1));rw[g1] at this;cases this;exact⟨Hs',.refl e2,Rep.same e1 d v g2⟩
theorem Fy{x:Str}{xs ys:List D}{p pos pt:Pos}{es:List Expr}{kt:Nat}(G:Good cx k X sc)(hx:aU cx sc x=some "zip")(ha:Ev X ρ a (.tup xs))(hp:aF a=true)(hb:Ev X ρ b (.tup ys))(hpb:aF b=true) :
  EvI X ρ (.Tuple es kt pt) (.Call (.Name x p) [a,b] [] pos) ((xs.zip ys).map fun q=>.tup [q.1,q.2]):=by
 obtain⟨hg,hm,rfl⟩:=bK G hx;intro σ H Hs R hs hst hq;have q:=Hy (es:=es) (kt:=kt) (pt:=pt) (p:=p) (pos:=pos) hg hm (au (ao (X:=X) (e:=a)) (au (ao (X:=X) (e:=b)) aK (aj hpb)) (aj hp)) (by rw[aj hp,aj hpb];rfl) (aj hpb);refine PI.sem q (ha σ H Hs _ hs hst fun v H1 Hs1 E1 r1=>hb σ H1 Hs1 _ E1.sub (hst.same E1.vis) fun v' H2 Hs2 E2 r2=>?_);obtain⟨c,vs,rfl,h1,h2⟩:=bH (Rep.same E2.vis _ _ r1);obtain⟨d,us,rfl,h3,h4⟩:=bH r2;have l1:=h2.length;have l2:=h4.length;refine⟨c,d,rfl,⟨vs,E2.sub.tup h1⟩,⟨us,E2.sub.tup h3⟩,hq _ H2 Hs2 (E1.trans E2) fun Hs' H' e1 e2=>⟨⟨vs,us,e2.tup (e1.tup h1),e2.tup (e1.tup h3),?_⟩,fun i z hz=>?_⟩⟩
 ·rw[D3z,List.length_zip]
  omega
 ·rw[List.getElem?_map] at hz
  obtain⟨⟨x1,y1⟩,e3,rfl⟩:=Q0z.mp hz;rw[List.getElem?_zip_eq_some] at e3;obtain⟨v1,g1,g2⟩:=h2.get e3.1;obtain⟨v2,g3,g4⟩:=h4.get e3.2;refine⟨⟨vs,us,v1,v2,e2.tup (e1.tup h1),e2.tup (e1.tup h3),g1,g3⟩,fun w H3 y=>?_⟩;obtain⟨p,hp',rfl,y⟩:=y;rw[y vs us v1 v2 (e2.tup (e1.tup h1)) (e2.tup (e1.tup h3)) g1 g3];refine⟨_,Ext.new e2 (.tup [v1,v2]) hp',?_⟩;have sm:=(Ext.new e2 (.tup [v1,v2]) hp').vis;simp only[Rep];exact⟨p,[v1,v2],rfl,.of aB,.cons (Rep.same sm _ _ (Rep.same e1 _ _ g2)) (.cons (Rep.same sm _ _ (Rep.same e1 _ _ g4)) .nil)⟩
theorem FP{xs:List D}:(enD xs).length=xs.length:=by simp[enD]
theorem FQ{xs:List D}{i:Nat}{d:D}(h:(enD xs)[i]?=some d):∃ x,xs[i]?=some x/\d=.tup [.int i,x]:=by
 unfold enD at h;rw[List.getElem?_map] at h;obtain⟨⟨x,j⟩,e1,e2⟩:=Q0z.mp h;rw[List.getElem?_zipIdx] at e1;obtain⟨y,e3,e4⟩:=Q0z.mp e1;simp at e4;obtain⟨rfl,rfl⟩:=e4;exact⟨y,e3,e2.symm⟩
theorem z6{x:Str}{xs:List D}{p pos pt:Pos}{es:List Expr}{kt:Nat}(G:Good cx k X sc)(hx:aU cx sc x=some "enumerate")(ha:Ev X ρ a (.tup xs))(hp:aF a=true) :
  EvI X ρ (.Tuple es kt pt) (.Call (.Name x p) [a] [] pos) (enD xs):=by
 obtain⟨hg,hm,rfl⟩:=bK G hx;intro σ H Hs R hs hst hq;have q:=Dj (es:=es) (kt:=kt) (pt:=pt) (p:=p) (pos:=pos) hg hm (au (ao (X:=X) (e:=a)) aK (aj hp)) (aj hp);refine PI.sem q (ha σ H Hs _ hs hst fun v H1 Hs1 E1 r1=>?_);obtain⟨c,vs,rfl,h1,h2⟩:=bH r1;refine⟨c,rfl,⟨vs,E1.sub.tup h1⟩,hq _ H1 Hs1 E1 fun Hs' H' e1 e2=>⟨⟨vs,e2.tup (e1.tup h1),by rw[FP,h2.length]⟩,fun i d hd=>?_⟩⟩;obtain⟨y,e3,rfl⟩:=FQ hd;obtain⟨w,g1,g2⟩:=h2.get e3;refine⟨⟨vs,w,e2.tup (e1.tup h1),g1⟩,fun u H2 yl=>?_⟩;obtain⟨p,hp',rfl,yl⟩:=yl;rw[yl vs w (e2.tup (e1.tup h1)) g1];refine⟨_,Ext.new e2 (.tup [.int i,w]) hp',?_⟩;have sm:=(Ext.new e2 (.tup [.int i,w]) hp').vis;simp only[Rep];exact⟨p,[.int i,w],rfl,.of aB,.cons (by simp[Rep]) (.cons (Rep.same sm _ _ (Rep.same e1 _ _ g2)) .nil)⟩
end
theorem aO{α β:Type}{x:Option α}{f:α->Option β}{y:β}(h:(x >>=f)=some y):∃ a,x=some a/\f a=some y:=by
 cases x with
 | none=>cases h
 | some a=>exact⟨a,rfl,h⟩
def Et(X:Cx)(tg:Expr):TG:=fun v σ H Q=>∀ z0 s u,Inv X z0 σ H s->RelV v u->wpAny (model X.prog X.w) X.A (assign tg X.env u) (fun _ s'=>∃ σ' H',Inv X z0 σ' H' s'/\Q σ' H') X.xe s
def Er(X:Cx)(es:List Expr):TGs:=fun vs σ H Q=>∀ z0 s us,Inv X z0 σ H s->Vals vs us->wpAny (model X.prog X.w) X.A (assignInOrder ((assignEach es X.env).map (·.2)) us) (fun _ s'=>∃ σ' H',Inv X z0 σ' H' s'/\Q σ' H') X.xe s
section
variable {X:Cx} {tg:Expr} {es:List Expr}
theorem gQ:PG X tg (Et X tg):=fun z0 s σ H v u Q I r h=>h z0 s u I r
theorem PG.sem{t:TG}{v:V}{σ:St}{H:Hp}{Q:St->Hp->Prop}(h:PG X tg t)(q:t v σ H Q):Et X tg v σ H Q:=fun z0 s u I r=>h z0 s σ H v u Q I r q
theorem lq:PGs X es (Er X es):=fun z0 s σ H v u Q I r h=>h z0 s u I r
theorem PGs.sem{t:TGs}{v:List V}{σ:St}{H:Hp}{Q:St->Hp->Prop}(h:PGs X es t)(q:t v σ H Q):Er X es v σ H Q:=fun z0 s u I r=>h z0 s σ H v u Q I r q
end
theorem aJ:∀ (ρ:Rho) (x:Str) (v:Sl),(cT ρ x v).map (·.1)=ρ.map (·.1)
 | [],_,_=>rfl
 | (y,s)::r,x,v=>by
  unfold cT;split
  ·rfl
  ·simp[aJ r x v]
theorem bD:∀ {ρ:Rho} {x:Str} {v:Sl} {i:Nat},(ρ.map (·.1)).Nodup->(ρ.map (·.1))[i]?=some x->∀ j:Nat,(cT ρ x v)[j]?=if j=i then some (x,v) else ρ[j]?
 | [],x,v,i,_,h,_=>by simp at h
 | (y,s)::r,x,v,0,hn,h,j=>by
  simp at h;subst h
  cases j with
  | zero=>simp[cT]
  | succ j=>simp[cT]
 | (y,s)::r,x,v,i+1,hn,h,j=>by
  rw[Z3z,I3z] at hn
  have h':(r.map (·.1))[i]?=some x:=by simpa using h
  have hne:(x==y)=false:=by
   rw[J1z];intro e;subst e;exact hn.1 (List.mem_of_getElem? h')
  simp only[cT,hne,W1z,A5z]
  cases j with
  | zero=>simp
  | succ j =>
   have:=bD (v:=v) hn.2 h' j;simp only[List.getElem?_cons_succ,this,Nat.add_right_cancel_iff]
theorem bU{l:List Str}{x:Str}(h:l.contains x=true):∃ i:Nat,l[i]?=some x:=by
 have:=List.mem_of_elem_eq_true h;exact List.mem_iff_getElem?.mp this
structure Owns (X:Cx) (scope:Scope):Prop where
 own:∀ x,ownIn scope x=true->Loc X.env.scope x/\(X.fn x=true\/X.env.scope.names.lookup x=some .local)
def j8(K:Zf)(Hs:Hp)(scope:Scope)(P:Rho->St->Prop):Prop:=∀ ρ σ (i:Nat) x d v,(ρ.map (·.1)).Nodup->(ρ.map (·.1))[i]?=some x->ownIn scope x=true->P ρ σ->Rep K Hs d v->P (cT ρ x (.sh d)) (σ.set i (some v))
section
variable {X:Cx} {scope:Scope} {Hs H:Hp} {P:Rho->St->Prop} {Q:St->Hp->Prop}
theorem oE{x:Str}{pos:Pos}{ρ ρ':Rho}{σ:St}{d:D}{v:V}(hO:Owns X scope)(hnd:X.N.Nodup)(hN:X.N=ρ.map (·.1))(KE:j8 X.K Hs scope P)(hb:(if ownIn scope x&&(ρ.map (·.1)).contains x then some (cT ρ x (.sh d)) else none)=some ρ')(hp:P ρ σ)(rd:Rep X.K Hs d v)
  (hq:∀ σ',X.N=ρ'.map (·.1)->P ρ' σ'->Q σ' H):Et X (.Name x pos) v σ H Q:=by
 split at hb
 ·rename_i hc
  cases hb;rw[W2z] at hc;obtain⟨i,hi⟩:=bU hc.2;obtain⟨h1,h2⟩:=hO.own x hc.1;exact PG.sem (Dl (i:=i) hnd (by rw[hN];exact hi) h1 h2) (hq _ (by rw[aJ];exact hN) (KE ρ σ i x d v (by rw[<- hN];exact hnd) hi hc.1 hp rd))
 ·cases hb
theorem fu{env:Env}:∀ {es:List Expr} {ds:List D} {ρ ρ':Rho},bindNames scope es ds ρ=some ρ'->(assignEach es env).length=es.length/\(assignEach es env).findIdx? (·.1)=none/\es.length=ds.length
 | [],[],_,_,_=>⟨rfl,rfl,rfl⟩
 | [],d::ds,ρ,ρ',h=>by simp[bindNames] at h
 | e::es,[],ρ,ρ',h=>by cases e<;>simp[bindNames] at h
 | e::es,d::ds,ρ,ρ',h=>by
  cases e<;>try (simp[bindNames] at h;done)
  rename_i x pos;simp only[bindNames] at h;split at h
  ·obtain⟨h1,h2,h3⟩:=fu (env:=env) h
   refine⟨by show(assignEach es env).length+1=_;rw[h1];rfl,?_,by simp[h3]⟩
   show((false,assign (.Name x pos) env)::assignEach es env).findIdx? (·.1)=none;rw[List.findIdx?_cons];simp only[W1z,A5z,h2];rfl
  ·cases h
theorem fG(hO:Owns X scope)(hnd:X.N.Nodup)(KE:j8 X.K Hs scope P):∀ {es:List Expr} {ds:List D} {vs:List V} {ρ ρ':Rho} {σ:St},X.N=ρ.map (·.1)->bindNames scope es ds ρ=some ρ'->P ρ σ->aH X.K Hs ds vs->(∀ σ',X.N=ρ'.map (·.1)->P ρ' σ'->Q σ' H)->Er X es vs σ H Q
 | [],[],vs,ρ,ρ',σ,hN,h,hp,rd,hq=>by
  simp only[bindNames,K2z] at h;subst h;simp only[aH] at rd;exact PGs.sem Dk ⟨rd,hq _ hN hp⟩
 | [],d::ds,vs,ρ,ρ',σ,hN,h,hp,rd,hq=>by simp[bindNames] at h
 | e::es,[],vs,ρ,ρ',σ,hN,h,hp,rd,hq=>by cases e<;>simp[bindNames] at h
 | e::es,d::ds,vs,ρ,ρ',σ,hN,h,hp,rd,hq=>by
  cases e<;>try (simp[bindNames] at h;done)
  rename_i x pos;simp only[bindNames] at h;split at h
  ·rename_i hc
   simp only[aH] at rd;obtain⟨v,r,rfl,r1,r2⟩:=rd;refine PGs.sem (yK gQ lq) ⟨v,r,rfl,?_⟩;exact oE hO hnd hN KE (ρ':=cT ρ x (.sh d)) (by rw[D5z hc]) hp r1 fun σ' hN' hp'=>fG hO hnd KE hN' h hp' r2 hq
  ·cases h
theorem xM{tg:Expr}{ρ ρ':Rho}{σ:St}{d:D}{v:V}(hc:X.calm=true)(hO:Owns X scope)(hnd:X.N.Nodup)(hs:Same Hs H)(hN:X.N=ρ.map (·.1))(KE:j8 X.K Hs scope P)(hb:iz scope tg d ρ=some ρ')(hp:P ρ σ)(rd:Rep X.K Hs d v)
  (hq:∀ σ',X.N=ρ'.map (·.1)->P ρ' σ'->Q σ' H):Et X tg v σ H Q:=by
 unfold iz at hb;split at hb
 ·exact oE hO hnd hN KE hb hp rd hq
 ·rename_i es k pos ds
  obtain⟨a,vs,rfl,h1,h2⟩:=bH rd;obtain⟨e1,e2,e3⟩:=fu (env:=X.env) hb;exact PG.sem (Bc hc lq e1 e2) ⟨a,vs,rfl,hs.tup h1,by rw[<- h2.length,e3],fG hO hnd KE hN hb hp h2 hq⟩
 ·cases hb
end
section
variable {X Xc:Cx} {scope sc:Scope} {cx:Cxt} {k:Nat} {ρ:Rho}
theorem eV:∀ {l:List Str},ji l=true->l.Nodup
 | [],_=>.nil
 | x::r,h=>by
  unfold ji at h;rw[W2z] at h;refine I3z.mpr ⟨fun hm=>?_,eV h.2⟩
  have:r.contains x=true:=by simpa using hm
  rw[this] at h;exact absurd h.1 (by decide)
theorem cW(G:Good cx k X sc)(h:gW sc scope=true):scope.kind=.function/\(scope.names.map (·.1)).Nodup/\∀ x,(x,NameKind.free)∈scope.names->X.env.kindOf x=some .cell\/X.env.kindOf x=some .free:=by
 unfold gW at h;rw[W2z,W2z] at h;refine⟨by simpa using h.1.1,eV h.1.2,fun x hx=>?_⟩;have:=List.all_eq_true.mp h.2 _ hx;show X.env.scope.names.lookup x=_\/X.env.scope.names.lookup x=_;rw[G.sce];simpa using this
theorem Hq(G:Good cx k X sc):relabel scope X.env=oW scope sc:=by
 unfold relabel oW Env.kindOf;rw[G.sce]
theorem Good.comp(G:Good cx k X sc)(C:CompOf X scope Xc)(h:gW sc scope=true):Good cx k Xc (oW scope sc) where
 calm:=C.calm
 room:=by rw[C.A];exact G.room
 sce:=by rw[C.sc,Hq G]
 kind:=(cW G h).1
 nd:=by rw[C.N];exact(cW G h).2.1
 cst:=by rw[C.mg,C.K];exact G.cst
 blt:=by rw[C.mg];exact G.blt
 exs:=by rw[C.mg,C.K];exact G.exs
 fns:=by rw[C.mg,C.prog,C.w,C.K,C.base];exact G.fns
 kw:=by rw[C.K,C.w];exact G.kw
theorem Owns.comp(G:Good cx k X sc)(C:CompOf X scope Xc):Owns Xc scope where
 own:=fun x hx=>by
  unfold ownIn at hx;rw[P3z] at hx
  have look:∀ kd,scope.names.lookup x=some kd->kd≠.free->Xc.env.scope.names.lookup x=some kd:=fun kd e hne=>by
   rw[C.sc];show(scope.names.map _).lookup x=_;rw[dG,e];simp[hne]
  rcases hx with hx | hx
  ·have e:scope.names.lookup x=some .local:=by simpa using hx
   have e2:=look _ e (by decide);exact⟨.inl e2,.inr e2⟩
  ·have e:scope.names.lookup x=some .cell:=by simpa using hx
   have e2:=look _ e (by decide);refine⟨.inr e2,.inl ?_⟩;rw[C.fn];show(scope.names.lookup x==some .cell)=true;rw[e];rfl
theorem gC:(cI scope ρ).map (·.1)=scope.names.map (·.1):=by
 unfold cI;rw[L4z];rfl
theorem pK{K:Zf}{Hs:Hp}{σ:St}{N:List Str}(hN:N=ρ.map (·.1))(h:bV K Hs ρ σ):bV K Hs (cI scope ρ) (tM N scope.names σ):=by
 intro i x d e;unfold cI at e;rw[List.getElem?_map] at e;obtain⟨p,e1,e2⟩:=Q0z.mp e
 cases hk:p.2==NameKind.free with
 | false=>rw[hk] at e2;simp at e2
 | true =>
  rw[hk] at e2;simp only[C5z,Prod.mk.injEq] at e2;obtain⟨rfl,e2⟩:=e2
  have e3:ρ.lookup p.1=some (.sh d):=by
   cases q:ρ.lookup p.1 with
   | none=>rw[q] at e2;simp[Gp] at e2
   | some sl =>
    rw[q] at e2
    cases sl<;>simp[Gp] at e2
    rw[e2]
  obtain⟨j,g1,g2⟩:=bR e3;obtain⟨v,g3,g4⟩:=h j _ d g1;refine⟨v,?_,g4⟩;unfold tM;rw[List.getElem?_map,e1];simp only[J3z,hk,C5z];unfold qj;rw[hN,g2];simp[g3]
def CSt(K:Zf)(Hs:Hp)(n:Nat)(ρ0:Rho):Rho->St->Prop:=fun ρ σ=>σ.length=n/\bV K Hs ρ σ/\bV K Hs ρ0 σ
theorem mZ{K:Zf}{Hs:Hp}{ρ:Rho}{σ:St}{i:Nat}{x:Str}{d:D}{v:V}(hn:(ρ.map (·.1)).Nodup)(hi:(ρ.map (·.1))[i]?=some x)(hl:i<σ.length)(h:bV K Hs ρ σ)(r:Rep K Hs d v):bV K Hs (cT ρ x (.sh d)) (σ.set i (some v)):=by
 intro j y d' e;rw[bD hn hi j] at e;split at e
 ·rename_i hj
  subst hj;cases e;exact⟨v,by rw[List.getElem?_set_self hl],r⟩
 ·rename_i hj
  obtain⟨w,h1,h2⟩:=h j y d' e;exact⟨w,by rw[List.getElem?_set_ne (fun z=>hj z.symm)];exact h1,h2⟩
theorem sH{K:Zf}{Hs:Hp}{n:Nat}(hnd:(scope.names.map (·.1)).Nodup)(hn:n=scope.names.length):j8 K Hs scope (fun ρ1 σ=>ρ1.map (·.1)=scope.names.map (·.1)/\CSt K Hs n (cI scope ρ) ρ1 σ):=by
 intro ρ1 σ i x d v h1 h2 h3 ⟨h4,h5,h6,h7⟩ r;refine⟨by rw[aJ];exact h4,by rw[H3z];exact h5,?_,?_⟩
 ·have hi:i<σ.length:=by
   rw[h5,hn];have:=(List.getElem?_eq_some_iff.mp h2).1;rw[h4] at this;simpa using this
  exact mZ h1 h2 hi h6 r
 ·intro j y d' e
  obtain⟨w,g1,g2⟩:=h7 j y d' e;refine⟨w,?_,g2⟩
  have hj:i≠j:=by
   intro z;subst z;rw[h4] at h2;unfold cI at e;rw[List.getElem?_map] at e;rw[List.getElem?_map] at h2;obtain⟨p,e1,e2⟩:=Q0z.mp e;rw[e1] at h2
   have ex:p.1=x:=by simpa using h2
   cases hk:p.2==NameKind.free with
   | false=>rw[hk] at e2;simp at e2
   | true =>
    have ek:p.2=.free:=by simpa using hk
    have hm:=List.mem_of_getElem? e1;have:=bC (c:=p.2) hnd (by rw[show p=(x,p.2) from by rw[<- ex]] at hm;exact hm);unfold ownIn at h3;rw[this,ek] at h3;exact absurd h3 (by decide)
  rw[List.getElem?_set_ne hj];exact g1
def wu(X:Cx)(ifs:List Expr):TT:=fun σ H Q=>∀ z0 s,Inv X z0 σ H s->wpAny (model X.prog X.w) X.A (forIn ifs true fun c r=>if r=true then do let ok <- isTrue c X.env (eval c X.env);pure (ForInStep.yield ok) else pure (ForInStep.yield r)) (TP X z0 σ Q) X.xe s
theorem fY{ifs:List Expr}:yc X ifs (wu X ifs):=fun z0 s σ H Q I h=>h z0 s I
theorem yc.sem{ifs:List Expr}{t:TT}{σ:St}{H:Hp}{Q:Bool->Hp->Prop}(h:yc X ifs t)(q:t σ H Q):wu X ifs σ H Q:=fun z0 s I=>h z0 s σ H Q I q
theorem Jp{f:Expr->Option D}{ifs:List Expr}{b:Bool}(hf:∀ e d,f e=some d->Ev X ρ e d/\∀ b,d=.bl b->EvT X ρ e b)(h:sJ f ifs=some b){σ:St}{H Hs:Hp}{Q:Bool->Hp->Prop}(hs:Same Hs H)(hst:bV X.K Hs ρ σ)(hq:∀ H' Hs',Ext Hs H Hs' H'->Q b H'):wu X ifs σ H Q:=by
 unfold sJ at h;split at h
 ·cases h
  exact yc.sem yI (hq H Hs (.refl hs))
 ·rename_i c
  cases hc:f c with
  | none=>rw[hc] at h;cases h
  | some d =>
   rw[hc] at h
   cases d<;>simp[asB] at h
   subst h;exact yc.sem (yH cL) ((hf c _ hc).2 _ rfl σ H Hs Q hs hst hq)
 ·cases h
theorem Ext.acc{Hs H Hs' H':Hp}{acc:Addr}{o:HO}(E:Ext Hs H Hs' H')(h:H acc=none)(h':Hs' acc=none):Ext Hs H Hs' (upd H' acc o) where
 vis:=E.vis
 all:=fun b u e=>by rw[ak (aq e h)];exact E.all b u e
 sub:=fun b u e=>by rw[ak (aq e h')];exact E.sub b u e
 hid:=E.hid
theorem pL{f:D->Option (Option D)}{d:D}{r out:List D}(h:dw f (d::r)=some out):(∃ v o',f d=some (some v)/\dw f r=some o'/\out=v::o')\/(f d=some none/\dw f r=some out):=by
 simp only[dw,bind,Option.bind] at h
 cases hf:f d with
 | none=>rw[hf] at h;cases h
 | some o =>
  rw[hf] at h
  cases o with
  | none=>exact .inr ⟨rfl,h⟩
  | some v =>
   simp only[Q0z] at h;obtain⟨o',h1,rfl⟩:=h;exact .inl ⟨v,o',rfl,h1,rfl⟩
def pN(cx:Cxt)(n:Nat)(sc scope:Scope)(ρ:Rho)(tg elt:Expr)(ifs:List Expr):D->Option (Option D):=fun d=>do
 let ρ1 <- iz scope tg d (cI scope ρ)
 let b <- sJ (ev cx n (oW scope sc) ρ1) ifs
 if b then(ev cx n (oW scope sc) ρ1 elt).map some else some none
theorem jy{tg iter elt:Expr}{ifs:List Expr}{l out:List D}{n:Nat}(G:Good cx k X sc)(hN:X.N=ρ.map (·.1))(hok:gW sc scope=true)(hI:EvI X ρ tg iter l)(hz:szl l.length=true)(hgo:dw (pN cx n sc scope ρ tg elt ifs) l=some out)
  (hE:∀ Xc,CompOf X scope Xc->∀ ρ1:Rho,Xc.N=ρ1.map (·.1)->∀ e d,ev cx n (oW scope sc) ρ1 e=some d->Ev Xc ρ1 e d/\∀ b,d=.bl b->EvT Xc ρ1 e b)
  {σ:St} {H Hs:Hp} {Q:VK} (hs:Same Hs H) (hst:bV X.K Hs ρ σ) (hq:∀ acc vs Hs' H',Ext Hs H Hs' H'->H acc=none->Hs' acc=none->H' acc=some (.lst vs)->aH X.K Hs' out vs->Q (.ref acc) H') :
  uD X scope (uy X tg iter) (tM X.N scope.names) (fun Xc=>Et Xc tg) (fun Xc=>wu Xc ifs) (fun Xc=>fU Xc elt) σ H Q:=by
 obtain⟨ok1,ok2,ok3⟩:=cW G hok;refine hI σ H Hs _ hs hst fun J H1 Hs1 E1 hJ acc hacc Xc C=>?_;have GC:=G.comp C hok;have OC:=Owns.comp (scope:=scope) G C
 have hNc:∀ ρ1:Rho,ρ1.map (·.1)=scope.names.map (·.1)->Xc.N=ρ1.map (·.1):=fun ρ1 h=>by rw[C.N,h]
 have a1:Hs1 acc=none:=E1.sub.free hacc;have a0:H acc=none:=E1.all.free hacc
 let W:Nat->Nat->St->Hp->Prop:=fun i m σc H=>m=l.length-i/\i<=l.length/\∃ Hs3 ys pre rest,Ext Hs1 H1 Hs3 H/\Hs3 acc=none/\H acc=some (.lst ys)/\aH X.K Hs3 pre ys/\dw (pN cx n sc scope ρ tg elt ifs) (l.drop i)=some rest/\pre++rest=out/\pre.length<=i/\σc.length=scope.names.length/\bV X.K Hs3 (cI scope ρ) σc
 refine⟨W,⟨l.length,rfl,O4z _,Hs1,[],[],out,Ext.acc (.refl E1.sub) hacc a1,a1,aB,.nil,by simpa using hgo,rfl,M4z _,by simp[tM],pK hN (hst.same E1.vis)⟩,?_⟩;rintro i m σc H3 ⟨rfl,hi,Hs3,ys,pre,rest,E3,b3,c3,r3,g3,p3,q3,l3,s3⟩;obtain⟨st3,go3⟩:=hJ Hs3 H3 E3.vis E3.sub
 by_cases hlt:i<l.length
 ·have hd:l[i]?=some l[i]:=List.getElem?_eq_getElem hlt
  obtain⟨gi,yi⟩:=go3 i l[i] hd;refine .inr ⟨gi,fun σ' H'=>W (i+1) (l.length-(i+1)) σ' H',fun σ' H' w=>⟨_,by omega,w⟩,fun x H4 y4=>?_⟩;obtain⟨Hs4,E4,rx⟩:=yi x H4 y4;have b4:Hs4 acc=none:=E4.hid acc _ c3 b3;have c4:H4 acc=some (.lst ys):=E4.all _ _ c3;rw[D0z hlt] at g3
  have key:∃ ρ1,iz scope tg l[i] (cI scope ρ)=some ρ1/\∃ b,sJ (ev cx n (oW scope sc) ρ1) ifs=some b/\((b=true/\∃ v o',ev cx n (oW scope sc) ρ1 elt=some v/\dw (pN cx n sc scope ρ tg elt ifs) (l.drop (i+1))=some o'/\rest=v::o')\/(b=false/\dw (pN cx n sc scope ρ tg elt ifs) (l.drop (i+1))=some rest)):=by
   have inv:∀ o,pN cx n sc scope ρ tg elt ifs l[i]=some o->∃ ρ1,iz scope tg l[i] (cI scope ρ)=some ρ1/\∃ b,sJ (ev cx n (oW scope sc) ρ1) ifs=some b/\(if b then(ev cx n (oW scope sc) ρ1 elt).map some else some none)=some o:=by
    intro o h;obtain⟨ρ1,h1,h⟩:=aO h;obtain⟨b,h2,h⟩:=aO h;exact⟨ρ1,h1,b,h2,h⟩
   rcases pL g3 with⟨v,o',f1,f2,f3⟩ | ⟨f1,f2⟩
   ·obtain⟨ρ1,h1,b,h2,h3⟩:=inv _ f1
    refine⟨ρ1,h1,b,h2,?_⟩
    cases b with
    | false=>simp at h3
    | true =>
     simp only[C5z,Q0z] at h3;obtain⟨w,h3,h4⟩:=h3;have h5:w=v:=B3z h4;subst h5;exact .inl ⟨rfl,w,o',h3,f2,f3⟩
   ·obtain⟨ρ1,h1,b,h2,h3⟩:=inv _ f1
    refine⟨ρ1,h1,b,h2,?_⟩
    cases b with
    | true=>simp at h3
    | false=>exact .inr ⟨rfl,f2⟩
  obtain⟨ρ1,k1,b,k2,k3⟩:=key;have s4:bV X.K Hs4 (cI scope ρ) σc:=s3.same E4.vis;have KE:=sH (K:=Xc.K) (Hs:=Hs4) (ρ:=ρ) (n:=scope.names.length) ok2 rfl;refine xM (X:=Xc) (scope:=scope) (Hs:=Hs4) GC.calm OC GC.nd E4.sub (hNc _ gC) KE k1 ⟨gC,l3,by rw[C.K];exact s4,by rw[C.K];exact s4⟩ (by rw[C.K];exact rx) fun σ5 hN5 p5=>?_;obtain⟨_,l5,s5,s5'⟩:=p5;have hev:=hE Xc C ρ1 hN5;refine Jp hev k2 E4.sub s5 fun H6 Hs6 E6=>?_;have b6:Hs6 acc=none:=E6.hid acc _ c4 b4;have c6:H6 acc=some (.lst ys):=E6.all _ _ c4
  have s6:bV X.K Hs6 (cI scope ρ) σ5:=by rw[<- C.K];exact s5'.same E6.vis
  rcases k3 with⟨rfl,v,o',k3,k4,k5⟩ | ⟨rfl,k3⟩
  ·refine jZ ((hev elt v k3).1 σ5 H6 Hs6 _ E6.sub (s5.same E6.vis) fun w H7 Hs7 E7 r7=>?_)
   have b7:Hs7 acc=none:=E7.hid acc _ c6 b6;have c7:H7 acc=some (.lst ys):=E7.all _ _ c6;refine⟨ys,c7,?_,rfl,hlt,Hs7,ys++[w],pre++[v],o',Ext.acc (E3.trans (E4.trans (E6.trans E7))) hacc b7,b7,aB,?_,k4,?_,by simp;omega,l5,s6.same E7.vis⟩
   ·have:=r3.length
    have:=pY hz;omega
   ·rw[<- C.K]
    refine aH.append ?_ (.cons r7 .nil);rw[C.K];exact aH.same (E4.trans (E6.trans E7)).vis pre ys r3
   ·rw[<- p3,k5];simp
  ·refine jL ?_
   exact⟨rfl,hlt,Hs6,ys,pre,rest,E3.trans (E4.trans E6),b6,c6,aH.same (E4.trans E6).vis pre ys r3,k3,p3,by omega,l5,s6⟩
 ·have hi':i=l.length:=by omega
  subst hi';refine .inl ⟨st3,?_⟩;rw[List.drop_length] at g3;simp only[dw,K2z] at g3;subst g3;rw[E3z] at p3;subst p3;exact hq acc ys Hs3 H3 (E1.trans E3) a0 b3 c3 r3
end
def bIs(b:Bool):Value->Bool
 | .bool y=>y==b
 | _=>false
theorem oM:∀ {bs:List Bool} {its:List Value},Vals (bs.map V.bl) its->its=bs.map Value.bool
 | [],its,r=>by cases r;rfl
 | b::bs,its,r=>by
  obtain⟨u,w,rfl,r1,r2⟩:=mK r;cases (show u=Value.bool b from r1);rw[oM r2];rfl
theorem BK(b:Bool):∀ bs:List Bool,(bs.map Value.bool).countP (bIs b)=cntB b bs
 | []=>rfl
 | c::bs=>by
  rw[Z3z,List.countP_cons,BK b bs];unfold cntB;rw[V2z];show _+(if(c==b)=true then 1 else 0)=_
  cases c==b<;>simp
theorem TV{b:Bool}:∀ (bs:List Bool) (m:Nat) (h:m<bs.length),m<bs.idxOf b->(bs[m]==b)=false
 | [],m,h,_=>absurd h (by simp)
 | c::bs,m,h,hl=>by
  rw[List.idxOf_cons] at hl
  cases hc:c==b with
  | true=>rw[hc] at hl;simp at hl
  | false =>
   cases m with
   | zero=>simpa using hc
   | succ m =>
    rw[hc] at hl;simp only[cond_false] at hl;simpa using TV bs m (by simpa using h) (by omega)
section
variable {X:Cx} {ρ:Rho} {cx:Cxt} {k:Nat} {sc scope:Scope}
def Hv(K:Zf):V->List V->Hp->VK->Prop:=fun x vs H Q=>∃ (l:Addr) (bs:List Bool) (b:Bool),x=.ref l/\vs=[.bl b]/\SqL K H l (bs.map V.bl)/\Q (.int (cntB b bs:Nat)) H
theorem zu:MtM X "list.count" (Hv X.K):=by
 intro z0 s σ H x vs v us Q I rx rv h;obtain⟨l,bs,b,rfl,rfl,hB,q⟩:=h;cases (show v=Value.ref l from rx);obtain⟨u,rfl,ru⟩:=rv.one;cases (show u=Value.bool b from ru);obtain⟨its2,r2,pl,hz2⟩:=I.list hB;have ei:=oM r2;subst ei;obtain⟨⟨c2,dd2,data2,sl2⟩,n2,e2,hc2,hd2,hs2⟩:=pl;simp only at hc2 hs2;obtain⟨h3,h4⟩:=(show dd2=none/\data2=.seq (bs.map Value.bool).toArray n2 from⟨hd2,hs2⟩);subst hc2 h4;refine U4z F.slot_list_count ⟨_,e2,rfl⟩ F.entry_list_count (F.args_list_count_2 _ _) (list_countAt l (bs.map Value.bool).toArray n2 dd2 sl2 (.bool b) (bIs b)) ⟨e2,fun y hy=>?_,?_⟩
 ·have hy':y∈bs.map Value.bool:=by simpa using hy
  obtain⟨c,_,rfl⟩:=List.mem_map.mp hy';exact EqAt.bool_bool c b
 ·rw[show(bs.map Value.bool).toArray.toList=bs.map Value.bool from rfl,BK]
  exact⟨.int _,H,I.tok _,⟨_,rfl⟩,q⟩
def Hu(K:Zf):V->List V->Hp->VK->Prop:=fun x vs H Q=>∃ (l:Addr) (bs:List Bool) (b:Bool),x=.ref l/\vs=[.bl b]/\SqL K H l (bs.map V.bl)/\bs.contains b=true/\Q (.int (bs.idxOf b:Nat)) H
theorem zq:MtM X "list.index" (Hu X.K):=by
 intro z0 s σ H x vs v us Q I rx rv h;obtain⟨l,bs,b,rfl,rfl,hB,hin,q⟩:=h;cases (show v=Value.ref l from rx);obtain⟨u,rfl,ru⟩:=rv.one;cases (show u=Value.bool b from ru);obtain⟨its2,r2,pl,hz2⟩:=I.list hB;have ei:=oM r2;subst ei;obtain⟨⟨c2,dd2,data2,sl2⟩,n2,e2,hc2,hd2,hs2⟩:=pl;simp only at hc2 hs2;obtain⟨h3,h4⟩:=(show dd2=none/\data2=.seq (bs.map Value.bool).toArray n2 from⟨hd2,hs2⟩);subst hc2 h4;have hj:bs.idxOf b<bs.length:=List.idxOf_lt_length_iff.mpr (by simpa using hin);have hn:=jX
 have hz3:bs.length<=sizeLine:=by simpa using hz2
 refine U4z F.slot_list_index ⟨_,e2,rfl⟩ F.entry_list_index (F.args_list_index_2 _ _) (list_indexAt l (bs.map Value.bool).toArray n2 dd2 sl2 (.bool b) (bIs b) (bs.idxOf b) (by simpa using hj) (by omega) ?_ ?_) ⟨e2,fun y hy=>?_,?_⟩
 ·simp only[List.getElem_toArray,List.getElem_map,bIs]
  simpa using List.getElem_idxOf hj
 ·intro m hm hlt
  simp only[List.getElem_toArray,List.getElem_map,bIs];exact TV bs m (by simpa using hm) hlt
 ·have hy':y∈bs.map Value.bool:=by simpa using hy
  obtain⟨c,_,rfl⟩:=List.mem_map.mp hy';exact EqAt.bool_bool c b
 ·exact⟨.int _,H,I.tok _,⟨_,rfl⟩,q⟩
def iIs(i:Int):Value->Bool
 | .int j _=>j==i
 | _=>false
theorem w6(i:Int):∀ {ns:List Int} {its:List Value},Vals (ns.map V.int) its->its.countP (iIs i)=(ns.filter (· ==i)).length
 | [],its,r=>by rw[K4z] at r;cases r;rfl
 | n::ns,its,r=>by
  rw[Z3z] at r;obtain⟨u,w,rfl,r1,r2⟩:=mK r;obtain⟨t,e⟩:=(show ∃ t,u=Value.int n t from r1);subst e;rw[List.countP_cons,w6 i r2,V2z];show _+(if(n==i)=true then 1 else 0)=_
  cases n==i<;>simp
theorem wk:∀ {ns:List Int} {its:List Value},Vals (ns.map V.int) its->∀ y∈its,∃ n t,y=Value.int n t
 | [],its,r,y,hy=>by rw[K4z] at r;cases r;simp at hy
 | n::ns,its,r,y,hy=>by
  rw[Z3z] at r;obtain⟨u,w,rfl,r1,r2⟩:=mK r;obtain⟨t,e⟩:=(show ∃ t,u=Value.int n t from r1);subst e;rcases List.mem_cons.mp hy with rfl | hy
  ·exact⟨n,t,rfl⟩
  ·exact wk r2 y hy
def CV(K:Zf):V->List V->Hp->VK->Prop:=fun x vs H Q=>∃ (l:Addr) (ns:List Int) (i:Int),x=.ref l/\vs=[.int i]/\SqL K H l (ns.map V.int)/\Q (.int ((ns.filter (· ==i)).length:Nat)) H
theorem vJ:MtM X "list.count" (CV X.K):=by
 intro z0 s σ H x vs v us Q I rx rv h;obtain⟨l,ns,i,rfl,rfl,hB,q⟩:=h;cases (show v=Value.ref l from rx);obtain⟨u,rfl,ru⟩:=rv.one;obtain⟨tu,eu⟩:=(show ∃ t,u=Value.int i t from ru);subst eu;obtain⟨its2,r2,pl,hz2⟩:=I.list hB;obtain⟨⟨c2,dd2,data2,sl2⟩,n2,e2,hc2,hd2,hs2⟩:=pl;simp only at hc2 hs2;obtain⟨h3,h4⟩:=(show dd2=none/\data2=.seq its2.toArray n2 from⟨hd2,hs2⟩);subst hc2 h4;refine U4z F.slot_list_count ⟨_,e2,rfl⟩ F.entry_list_count (F.args_list_count_2 _ _) (list_countAt l its2.toArray n2 dd2 sl2 (.int i tu) (iIs i)) ⟨e2,fun y hy=>?_,?_⟩
 ·obtain⟨n,t,rfl⟩:=wk r2 y (by simpa using hy)
  exact fun P w Q E q=>wpAny_eqBool_int q
 ·rw[show its2.toArray.toList=its2 from rfl,w6 i r2]
  exact⟨.int _,H,I.tok _,⟨_,rfl⟩,q⟩
theorem qO{y:Str}{m:Str}{e:Expr}{x z d:D}{py ap cp:Pos}(ha:Ev X ρ (.Name y py) x)(he:Ev X ρ e z)(hp:aF e=true)(hline:(ap.endLine==cp.line)=true)(h:lG m x z=some d):Ev X ρ (.Call (.Attribute (.Name y py) m ap) [e] [] cp) d:=by
 unfold lG at h;split at h
 ·rename_i xs b
  obtain⟨bs,hb,h2⟩:=aO h;clear h;intro σ H Hs Q hs hst hq;split at h2
  ·rename_i hm
   have em:m="count":=by simpa using hm
   subst em;cases h2;refine(jJ M0z PySem.F.slot_list_count PySem.F.type_list_count zu ao (au ao aK (aj hp)) rfl (by rw[aj hp];rfl) hline (aj hp) rfl).sem ?_;refine ha σ H Hs _ hs hst fun v H1 Hs1 E1 r1=>?_;obtain⟨l,vs,rfl,g1,g2⟩:=bM r1;have ev:=iM hb g2;subst ev;refine⟨.inl ⟨rfl,_,E1.sub.seq g1⟩,?_⟩;refine he σ H1 Hs1 _ E1.sub (hst.same E1.vis) fun v2 H2 Hs2 E2 r2=>?_;rw[cC r2];exact⟨l,bs,b,rfl,rfl,E2.sub.seq (E2.vis.seq g1),hq _ H2 Hs2 (E1.trans E2) (by simp[Rep])⟩
  ·split at h2
   ·rename_i hm
    rw[W2z] at hm
    have em:m="index":=by simpa using hm.1
    subst em;cases h2;refine(jJ M0z PySem.F.slot_list_index PySem.F.type_list_index zq ao (au ao aK (aj hp)) rfl (by rw[aj hp];rfl) hline (aj hp) rfl).sem ?_;refine ha σ H Hs _ hs hst fun v H1 Hs1 E1 r1=>?_;obtain⟨l,vs,rfl,g1,g2⟩:=bM r1;have ev:=iM hb g2;subst ev;refine⟨.inl ⟨rfl,_,E1.sub.seq g1⟩,?_⟩;refine he σ H1 Hs1 _ E1.sub (hst.same E1.vis) fun v2 H2 Hs2 E2 r2=>?_;rw[cC r2];exact⟨l,bs,b,rfl,rfl,E2.sub.seq (E2.vis.seq g1),hm.2,hq _ H2 Hs2 (E1.trans E2) (by simp[Rep])⟩
   ·cases h2
 ·rename_i xs i
  obtain⟨ns,hb,h2⟩:=aO h;clear h;intro σ H Hs Q hs hst hq;split at h2
  ·rename_i hm
   have em:m="count":=by simpa using hm
   subst em;cases h2;refine(jJ M0z PySem.F.slot_list_count PySem.F.type_list_count vJ ao (au ao aK (aj hp)) rfl (by rw[aj hp];rfl) hline (aj hp) rfl).sem ?_;refine ha σ H Hs _ hs hst fun v H1 Hs1 E1 r1=>?_;obtain⟨l,vs,rfl,g1,g2⟩:=bM r1;have ev:=iK hb g2;subst ev;refine⟨.inl ⟨rfl,_,E1.sub.seq g1⟩,?_⟩;refine he σ H1 Hs1 _ E1.sub (hst.same E1.vis) fun v2 H2 Hs2 E2 r2=>?_;rw[aG r2];exact⟨l,ns,i,rfl,rfl,E2.sub.seq (E2.vis.seq g1),hq _ H2 Hs2 (E1.trans E2) (by simp[Rep])⟩
  ·cases h2
 ·cases h
end
theorem Ext.shown{Hs H Hs' H':Hp}{acc:Addr}{o:HO}(E:Ext Hs H Hs' H')(h:H acc=none)(h1:Hs' acc=none)(h2:H' acc=some o):Ext Hs H (upd Hs' acc o) H' where
 vis:=fun b u e=>by rw[ak (aq (E.vis b u e) h1)];exact E.vis b u e
 all:=E.all
 sub:=fun b u e=>by
  by_cases hb:b=acc
  ·subst hb;rw[aB] at e;rw[h2];exact e
  ·rw[ak hb] at e;exact E.sub b u e
 hid:=fun b u e n=>by rw[ak (aq e h)];exact E.hid b u e n
section
variable {X:Cx} {ρ:Rho} {cx:Cxt} {k:Nat} {sc scope:Scope}
theorem Fv{tg iter elt:Expr}{ifs:List Expr}{l out:List D}{n:Nat}{pos:Pos}(G:Good cx k X sc)(hN:X.N=ρ.map (·.1))(hok:gW sc scope=true)(hI:EvI X ρ tg iter l)(hp:aF iter=true)(hz:szl l.length=true)(hgo:dw (pN cx n sc scope ρ tg elt ifs) l=some out)
  (hE:∀ Xc,CompOf X scope Xc->∀ ρ1:Rho,Xc.N=ρ1.map (·.1)->∀ e d,ev cx n (oW scope sc) ρ1 e=some d->Ev Xc ρ1 e d/\∀ b,d=.bl b->EvT Xc ρ1 e b) :
  Ev X ρ (.ListComp elt [⟨tg,iter,ifs,0⟩] scope pos) (.lst out):=by
 obtain⟨ok1,ok2,ok3⟩:=cW G hok;intro σ H Hs Q hs hst hq;refine PE.sem (lB G.calm ok1 ok2 ok3 jR (fun Xc C=>⟨gQ,fY,ao⟩) (dO hp)) (jy G hN hok hI hz hgo hE hs hst fun acc vs Hs' H' E1 h1 h2 h3 r=>?_);have E2:=E1.shown h1 h2 h3;refine hq _ H' _ E2 ?_;simp only[Rep];refine⟨acc,vs,rfl,.of aB,aH.same (fun b u e=>?_) out vs r⟩;rw[ak (aq e h2)];exact e
def WkP (cx : Cxt) (sc : Scope) (e : Expr) : Wk -> Prop
    | .r1 a=>∃ x p pos,e=.Call (.Name x p) [a] [] pos/\aU cx sc x=some "range"
    | .r2 a b=>∃ x p pos,e=.Call (.Name x p) [a,b] [] pos/\aU cx sc x=some "range"
    | .r3 a b c=>∃ x p pos,e=.Call (.Name x p) [a,b,c] [] pos/\aU cx sc x=some "range"
    | .zp a b=>∃ x p pos,e=.Call (.Name x p) [a,b] [] pos/\aU cx sc x=some "zip"
    | .rv a=>∃ x p pos,e=.Call (.Name x p) [a] [] pos/\aU cx sc x=some "reversed"
    | .en a=>∃ x p pos,e=.Call (.Name x p) [a] [] pos/\aU cx sc x=some "enumerate"
    | .sq=>True
theorem Gy{e:Expr}:WkP cx sc e (BZ cx sc e):=by
 unfold BZ;split
 ·rename_i x p args pos
  split
  ·rename_i h
   split
   ·exact⟨x,p,pos,rfl,h⟩
   ·exact⟨x,p,pos,rfl,h⟩
   ·exact⟨x,p,pos,rfl,h⟩
   ·trivial
  ·rename_i h
   split
   ·exact⟨x,p,pos,rfl,h⟩
   ·trivial
  ·rename_i h
   split
   ·exact⟨x,p,pos,rfl,h⟩
   ·trivial
  ·rename_i h
   split
   ·exact⟨x,p,pos,rfl,h⟩
   ·trivial
  ·trivial
 ·trivial
theorem dD{x:Option D}{i:Int}(h:x.bind asI=some i):x=some (.int i):=by
 obtain⟨d,h1,h2⟩:=aO (show(x >>=asI)=some i from h)
 cases d<;>simp[asI] at h2
 subst h2;exact h1
theorem dF{x:Option D}{i:Bool}(h:x.bind asB=some i):x=some (.bl i):=by
 obtain⟨d,h1,h2⟩:=aO (show(x >>=asB)=some i from h)
 cases d<;>simp[asB] at h2
 subst h2;exact h1
theorem uo{x:Option D}{i:List D}(h:x.bind tupI=some i):x=some (.tup i):=by
 obtain⟨d,h1,h2⟩:=aO (show(x >>=tupI)=some i from h)
 cases d<;>simp[tupI] at h2
 subst h2;exact h1
theorem wN{f:Expr->Option D}{tg e:Expr}{l:List D}(G:Good cx k X sc)(hf:∀ e d,f e=some d->Ev X ρ e d/\aF e=true)(h:evI cx (eY tg) f sc e=some l):EvI X ρ tg e l/\aF e=true:=by
 unfold evI at h;have w:=Gy (cx:=cx) (sc:=sc) (e:=e);split at h
 ·rename_i a hw
  rw[hw] at w;obtain⟨x,p,pos,rfl,hx⟩:=w;obtain⟨j,h1,h⟩:=aO h;split at h
  ·rename_i hj
   cases h;obtain⟨ha,hp⟩:=hf _ _ (dD h1);exact⟨sX G hx ha hp hj,rfl⟩
  ·cases h
 ·rename_i a b hw
  rw[hw] at w;obtain⟨x,p,pos,rfl,hx⟩:=w;obtain⟨i,h1,h⟩:=aO h;obtain⟨j,h2,h⟩:=aO h;split at h
  ·rename_i hj
   cases h;rw[W2z] at hj;obtain⟨ha,hp⟩:=hf _ _ (dD h1);obtain⟨hb,hpb⟩:=hf _ _ (dD h2);exact⟨sW G hx ha hp hb hpb hj.1 hj.2,rfl⟩
  ·cases h
 ·rename_i a b c hw
  rw[hw] at w;obtain⟨x,p,pos,rfl,hx⟩:=w;simp at h
 ·rename_i a b hw
  rw[hw] at w;obtain⟨x,p,pos,rfl,hx⟩:=w;obtain⟨d1,h1,h⟩:=aO h;obtain⟨d2,h2,h⟩:=aO (show(f b >>=fun y=>if eY tg=true then JG d1 y else none)=some l from h);have h':(if eY tg=true then JG d1 d2 else none)=some l:=h;clear h;split at h'
  ·rename_i ht
   obtain⟨ha,hp⟩:=hf _ _ h1;obtain⟨hb,hpb⟩:=hf _ _ h2
   cases tg<;>simp[eY] at ht
   unfold JG at h';split at h'
   ·cases h';exact⟨Fy G hx ha hp hb hpb,rfl⟩
   ·simp at h'
   ·simp at h'
   ·simp at h'
   ·cases h'
  ·cases h'
 ·rename_i a hw
  rw[hw] at w;obtain⟨x,p,pos,rfl,hx⟩:=w;obtain⟨xs,h1,h⟩:=aO h;cases h;obtain⟨d1,h1,hu⟩:=aO (show(f a >>=items)=some xs from h1);obtain⟨ha,hp⟩:=hf _ _ h1
  cases d1<;>simp[items] at hu
  ·subst hu;exact⟨FN G hx ha hp,rfl⟩
  ·subst hu;exact⟨wM G hx ha hp,rfl⟩
 ·rename_i a hw
  rw[hw] at w;obtain⟨x,p,pos,rfl,hx⟩:=w;obtain⟨d1,h1,h⟩:=aO h;split at h
  ·rename_i ht
   obtain⟨us,hu,rfl⟩:=Q0z.mp h;obtain⟨ha,hp⟩:=hf _ _ h1
   cases tg<;>simp[eY] at ht
   cases d1<;>simp[tupI] at hu
   subst hu;exact⟨z6 G hx ha hp,rfl⟩
  ·cases h
 ·obtain⟨d,h1,h2⟩:=aO (show(f e >>=qK)=some l from h)
  obtain⟨ha,hp⟩:=hf _ _ h1;exact⟨Fz ha h2,hp⟩
theorem ud{t:Expr}{T:String}(h:tyOf cx sc t=some T):∃ x p,t=.Name x p/\aU cx sc x=some T:=by
 unfold tyOf at h;split at h
 ·exact⟨_,_,rfl,h⟩
 ·cases h
def WcP (cx : Cxt) (sc : Scope) (b : String) (args : List Expr) : Wc -> Prop
    | .lr1 a=>∃ x p pos,args=[.Call (.Name x p) [a] [] pos]/\aU cx sc x=some "range"/\b="list"
    | .lr2 a a'=>∃ x p pos,args=[.Call (.Name x p) [a,a'] [] pos]/\aU cx sc x=some "range"/\b="list"
    | .tv a=>∃ x p pos,args=[.Call (.Name x p) [a] [] pos]/\aU cx sc x=some "reversed"/\b="tuple"
    | .tr1 a=>∃ x p pos,args=[.Call (.Name x p) [a] [] pos]/\aU cx sc x=some "range"/\b="tuple"
    | .ls a=>∃ x p pos,args=[.Call (.Name x p) [a] [] pos]/\aU cx sc x=some "set"/\b="len"
    | .al=>True
theorem J5{b:String}{args:List Expr}:WcP cx sc b args (Al cx sc b args):=by
 unfold Al;split
 ·rename_i e
  have w:=Gy (cx:=cx) (sc:=sc) (e:=e);split
  ·rename_i hw
   rw[hw] at w;obtain⟨x,p,pos,rfl,hx⟩:=w;exact⟨x,p,pos,rfl,hx,rfl⟩
  ·rename_i hw
   rw[hw] at w;obtain⟨x,p,pos,rfl,hx⟩:=w;exact⟨x,p,pos,rfl,hx,rfl⟩
  ·rename_i hw
   rw[hw] at w;obtain⟨x,p,pos,rfl,hx⟩:=w;exact⟨x,p,pos,rfl,hx,rfl⟩
  ·rename_i hw
   rw[hw] at w;obtain⟨x,p,pos,rfl,hx⟩:=w;exact⟨x,p,pos,rfl,hx,rfl⟩
  ·split
   ·rename_i a ha
    unfold Rj at ha;split at ha
    ·rename_i y q a' q' _
     split at ha
     ·rename_i hb
      cases ha;exact⟨y,q,q',rfl,by simpa using hb,rfl⟩
     ·cases ha
    ·cases ha
   ·trivial
  ·trivial
 ·trivial
end
theorem cH(cx:Cxt):∀ (n:Nat) {k:Nat} {X:Cx} {sc:Scope} {ρ:Rho} {e:Expr} {d:D},Good cx k X sc->X.N=ρ.map (·.1)->ev cx n sc ρ e=some d->Ev X ρ e d/\∀ b,d=.bl b->EvT X ρ e b
 | 0,k,X,sc,ρ,e,d,_,_,h=>by exact nomatch (show(Option.none:Option D)=some d from h)
 | n+1,k,X,sc,ρ,e,d,G,hN,h=>by
  have ih:∀ e d,ev cx n sc ρ e=some d->Ev X ρ e d/\∀ b,d=.bl b->EvT X ρ e b:=fun e d h=>cH cx n G hN h;have ihp:∀ e d,ev cx n sc ρ e=some d->Ev X ρ e d/\aF e=true:=fun e d h=>⟨(ih e d h).1,aQ h⟩;have val:∀ {e d},(∀ whole,isTrue e X.env whole=(do let v <- whole;standAt e.pos;holding [v] (truthy v)))->Ev X ρ e d->Ev X ρ e d/\∀ b,d=.bl b->EvT X ρ e b:=fun he h1=>⟨h1,fun b hb=>by subst hb;exact wK h1 he⟩
  cases e with
  | Name x pos =>
   simp only[ev] at h;split at h
   ·rename_i hp
    refine val (fun _=>rfl) ?_
    have fin:∀ kd,sc.names.lookup x=some kd->(kd=.local\/kd=.cell\/kd=.free)->(match ρ.lookup x with | some (.sh d)=>some d | _=>none)=some d->Ev X ρ (.Name x pos) d:=by
     intro kd hk hkd hm;split at hm
     ·rename_i d' hl
      cases hm;refine wH hN ?_ hp hl;unfold Vis;rw[G.sce,hk];rcases hkd with rfl | rfl | rfl
      ·exact .inl rfl
      ·exact .inr (.inl rfl)
      ·exact .inr (.inr rfl)
     ·cases hm
    split at h
    ·rename_i hk;exact fin _ hk (.inl rfl) h
    ·rename_i hk;exact fin _ hk (.inr (.inl rfl)) h
    ·rename_i hk;exact fin _ hk (.inr (.inr rfl)) h
    ·rename_i hk
     obtain⟨v,u,h0,h1,h2⟩:=G.cst x d h;exact Jr (show X.env.scope.names.lookup x=_ by rw[G.sce];exact hk) h0 h1 h2 hp
    ·cases h
   ·cases h
  | Constant c j pos =>
   simp only[ev] at h;exact val (fun _=>rfl) (qP h)
  | BinOp a op b pos =>
   simp only[ev] at h;obtain⟨x,h1,h⟩:=aO h;obtain⟨y,h2,h⟩:=aO h;exact val (fun _=>rfl) (qQ (ih _ _ h1).1 (ih _ _ h2).1 h)
  | UnaryOp op a pos =>
   simp only[ev] at h;obtain⟨x,h1,h⟩:=aO h
   cases op<;>simp only[Q0z] at h<;>try (cases h;done)
   ·obtain⟨b,h2,rfl⟩:=h
    cases x<;>simp[asB] at h2
    subst h2;refine⟨Bv (ih _ _ h1).1,fun c hc=>?_⟩;cases hc;exact wL ((ih _ _ h1).2 _ rfl)
   ·obtain⟨i,h2,rfl⟩:=h
    cases x<;>simp[asI] at h2
    subst h2;exact val (fun _=>rfl) (Jm (ih _ _ h1).1)
  | BoolOp op es pos =>
   simp only[ev] at h;obtain⟨h1,h2⟩:=jw (pos:=pos) (fun e _ d hd=>ih e d hd) h;exact⟨h1,fun b hb=>(h2 b hb).t⟩
  | Compare a ops bs pos =>
   simp only[ev] at h;split at h
   ·obtain⟨x,h1,h⟩:=aO h
    obtain⟨y,h2,h⟩:=aO h;exact Fw G.room (ih _ _ h1).1 (ih _ _ h2).1 (aQ h2) h
   ·split at h
    ·cases h
    rename_i e3 hpl
    have hpl':aF e3=true:=by simpa using hpl
    obtain⟨x,h1,h⟩:=aO h;obtain⟨y,h2,h⟩:=aO h;obtain⟨c,h3,h⟩:=aO h;have h3':=dF h3
    cases c with
    | false =>
     simp only[W1z,A5z,K2z] at h;subst h;exact wJ G.room (ih _ _ h1).1 (ih _ _ h2).1 hpl' h3' ⟨fun q=>(nomatch q),fun _=>rfl⟩
    | true =>
     simp only[C5z] at h;obtain⟨z,h4,h⟩:=aO h;exact wJ G.room (ih _ _ h1).1 (ih _ _ h2).1 (aQ h4) h3' ⟨fun _=>⟨z,(ih _ _ h4).1,h⟩,fun q=>nomatch q⟩
   ·cases h
  | IfExp c a b pos =>
   simp only[ev] at h;obtain⟨t,h1,h⟩:=aO h;have h1':=(ih _ _ (dF h1)).2 _ rfl
   cases t with
   | true =>
    simp only[C5z] at h;refine⟨Jq h1' (fun _=>(ih _ _ h).1) (fun q=>nomatch q),fun r hr=>Bw h1' (fun _=>(ih _ _ h).2 r hr) (fun q=>nomatch q)⟩
   | false =>
    simp only[W1z,A5z] at h;refine⟨Jq h1' (fun q=>nomatch q) (fun _=>(ih _ _ h).1),fun r hr=>Bw h1' (fun q=>nomatch q) (fun _=>(ih _ _ h).2 r hr)⟩
  | Tuple es j pos =>
   simp only[ev] at h;obtain⟨ds,h1,h⟩:=aO h;split at h
   ·rename_i hz
    cases h;exact val (fun _=>rfl) (zW (dH (fun e _ d hd=>ihp e d hd) h1).1 hz)
   ·cases h
  | List es pos =>
   simp only[ev] at h;obtain⟨ds,h1,h⟩:=aO h;split at h
   ·rename_i hz
    cases h;exact val (fun _=>rfl) (wI (dH (fun e _ d hd=>ihp e d hd) h1).1 hz)
   ·cases h
  | Subscript a b pos =>
   simp only[ev] at h;obtain⟨x,h1,h⟩:=aO h;split at h
   ·simp at h
   ·obtain⟨y,h2,h⟩:=aO h
    have hp2:=aQ h2;have hr:=G.room;unfold JM at h;split at h
    ·exact val (fun _=>rfl) (lN (ih _ _ h1).1 (ih _ _ h2).1 hp2 rfl h)
    ·exact val (fun _=>rfl) (lN (ih _ _ h1).1 (ih _ _ h2).1 hp2 rfl h)
    ·obtain⟨k',h3,h4⟩:=Option.bind_eq_some_iff.mp h
     exact val (fun _=>rfl) (Ft G.kw (ih _ _ h1).1 (ih _ _ h2).1 hp2 h3 h4)
    ·cases h
  | Call f args kws pos =>
   refine val (fun _=>rfl) ?_;simp only[ev] at h;split at h
   ·rename_i x p
    split at h
    ·rename_i hg
     have hb:∀ {b},cx.blt.lookup x=some b->aU cx sc x=some b:=fun q=>by unfold aU;rw[D5z hg];exact q
     split at h
     ·rename_i hx
      split at h
      ·obtain⟨d',h1,h⟩:=aO h
       split at h
       ·rename_i c' hxo
        split at h
        ·rename_i c
         split at h
         ·rename_i hin
          cases h;exact Fp G (hb hx) hxo hin (ih _ _ h1).1 (aQ h1)
         ·cases h
        ·cases h
       ·obtain⟨T,h2,h5⟩:=aO h
        clear h;obtain⟨t,pt,rfl,ht⟩:=ud h2;split at h5
        ·rename_i c
         split at h5
         ·rename_i hc
          rw[W2z] at hc
          have eT:T="ValueError":=by simpa using hc.2
          subst eT;cases h5;exact Fq G (hb hx) ht hc.1 (ih _ _ h1).1 (aQ h1)
         ·cases h5
        ·cases h5
        ·cases h5
        ·rename_i hne hne2 hne3
         split at h5
         ·rename_i hk
          cases h5;refine Jo G (hb hx) ht hk (ih _ _ h1).1 (aQ h1) ?_
          cases d'<;>first | rfl | exact absurd rfl (hne _) | exact absurd rfl (hne2 _ _) | exact absurd rfl (hne3 _)
         ·cases h5
      ·cases h
     ·rename_i b _ hx
      have wc:=J5 (cx:=cx) (sc:=sc) (b:=b) (args:=args);split at h
      ·rename_i a hw
       rw[hw] at wc;obtain⟨y,q,q',rfl,hy,rfl⟩:=wc;simp at h
      ·rename_i a a' hw
       rw[hw] at wc;obtain⟨y,q,q',rfl,hy,rfl⟩:=wc;simp at h
      ·rename_i a hw
       rw[hw] at wc;obtain⟨y,q,q',rfl,hy,rfl⟩:=wc;simp at h
      ·rename_i a hw
       rw[hw] at wc;obtain⟨y,q,q',rfl,hy,rfl⟩:=wc;obtain⟨xs,h1,h⟩:=aO h;cases h;have h1':=uo h1;exact Fg G (hb hx) hy (ih _ _ h1').1 (aQ h1')
      ·rename_i a hw
       rw[hw] at wc;obtain⟨y,q,q',rfl,hy,rfl⟩:=wc;simp at h
      ·split at h
       ·cases h
       ·rename_i hne
        obtain⟨ds,h1,h2⟩:=aO h;obtain⟨ha,hp⟩:=dH (fun e _ d hd=>ihp e d hd) h1
        cases args with
        | nil=>exact absurd rfl hne
        | cons e es=>exact zZ G (hb hx) ha hp h2
     ·split at h
      ·rename_i hf
       rw[W2z] at hf;obtain⟨ds,h1,h⟩:=aO h;obtain⟨ha,hp⟩:=dH (fun e _ d hd=>ihp e d hd) h1
       have hgl:Gl X x:=by
        have e:sc.names.lookup x=some .globalImplicit:=by unfold pB at hg;simpa using hg
        show X.env.scope.names.lookup x=_;rw[G.sce,e]
       refine Fx G hgl hf.1 (fun q=>?_) ha hp h;rw[q] at hf;exact absurd hf.2 (by decide)
      ·cases h
    ·cases h
   ·split at h
    ·split at h
     ·cases h
     ·cases h
    ·cases h
   ·split at h
    ·split at h
     ·rename_i hl
      obtain⟨x,h1,h⟩:=aO h;obtain⟨z,h2,h⟩:=aO h;exact qO (ih _ _ h1).1 (ih _ _ h2).1 (aQ h2) hl h
     ·cases h
    ·cases h
   ·simp at h
   ·simp at h
   ·cases h
  | ListComp elt gens scope pos =>
   refine val (fun _=>rfl) ?_;simp only[ev] at h;split at h
   ·rename_i tg iter ifs a
    split at h
    ·rename_i hok
     rw[W2z] at hok
     have ea:a=0:=by simpa using hok.1
     subst ea;obtain⟨l,h1,h⟩:=aO h;split at h
     ·rename_i hz
      obtain⟨out,h2,h⟩:=aO h;cases h;obtain⟨hI,hp⟩:=wN (tg:=tg) G ihp h1;exact Fv G hN hok.2 hI hp hz h2 fun Xc C ρ1 hN1 e d he=>cH cx n (G.comp C hok.2) hN1 he
     ·cases h
    ·cases h
   ·cases h
  | _=>exact nomatch (show(Option.none:Option D)=some d from h)
end L2
namespace L2
open PySem PySem.Spec PyProof.Rows
def lV(CX:CXT)(P:Program)(w:World)(K:Zf)(mg:Str->Option Value)(base:Heap)(N:List Str)(qual:Str)(scope:Scope)(f:Addr)(cd:Value)(cl:List (Str×Addr))(A:Around)(outer:List Env)(s:Shared)(H:Hp)(E:XK):Cx where
 prog:=P
 w:=w
 K:=K
 mg:=mg
 base:=base
 A:=A.deeper (PySem.W.envX qual scope s.heap.objs.size f cd cl)
 N:=N
 s₀:=s
 H₀:=H
 env:=PySem.W.envX qual scope s.heap.objs.size f cd cl
 outer:=outer
 stack:=PySem.W.envX qual scope s.heap.objs.size f cd cl::outer
 ex:=[]
 calm:=true
 fn:=fun _=>false
 pn:=[]
 xe:=fun e s'=>wpAny (model P w) (A.deeper (PySem.W.envX qual scope s.heap.objs.size f cd cl)) (leaving (PySem.W.envX qual scope s.heap.objs.size f cd cl) e) (fun _ s''=>CX outer H s E e s'') (fun e' s''=>CX outer H s E e' s'') s'
structure LamNames (base:Heap) (scope:Scope) (N:List Str) (ws:List V) (cl:List (Str×Addr)):Prop where
 kind:scope.kind=.function
 co:scope.isCoroutine=false
 gen:scope.isGenerator=false
 own:∀ x∈scope.names,x.2≠.cell
 len:ws.length=N.length
 val:∀ (i:Nat) x v,N[i]?=some x->ws[i]?=some v->scope.names.lookup x=some .free/\∃ c u,cl.lookup x=some c/\RelV v u/\base.IsCell c (some u)
 inj:∀ x y c,cl.lookup x=some c->cl.lookup y=some c->x=y
 has:∀ x,scope.names.lookup x=some .free->∃ c,cl.lookup x=some c
 cell:∀ x c,cl.lookup x=some c->∃ v,base.IsCell c v
theorem d7{h h':Heap}{c:Addr}{v:Option Value}(x:h.IsCell c v)(k:∀ b o,h.get? b=some o->h'.get? b=some o):h'.IsCell c v:=by
 obtain⟨o,h1,h2⟩:=x;exact⟨o,k _ _ h1,h2⟩
theorem Jd{CX:CXT}{P:Program}{w:World}{K:Zf}{mg:Str->Option Value}{base:Heap}{k:Nat}{f c':Addr}{name qual:Str}{params:Arguments}{body:Expr}{scope:Scope}{pm ctv:Value}{cl:List (Str×Addr)}
  {N:List Str} {ws:List V} {sp:Sp} (lk:base.get? f=some (PySem.W.kla_obj name qual params body scope cl pm c' ctv)) (hcd:base.CodeRec (.ref c') qual) (L:LamNames base scope N ws cl)
  (len:∀ vs H Q E,sp vs H Q E->vs.length=0)
  (hbody : ∀ (A : Around) (outer : List Env) (s : Shared) (H : Hp) (Q : VK) (E : XK), Room k (A.deeper (PySem.W.envX qual scope s.heap.objs.size f (.ref c') cl)) -> sp [] H Q E ->
   ∃ t,PE (lV CX P w K mg base N qual scope f (.ref c') cl A outer s H E) body t/\t (ws.map some) H Q) :
  FnOk P w K mg base CX (k+1) f (PySem.W.kla_fn name qual params body scope cl pm (.ref c') ctv) [] sp:=by
 refine⟨len,fun A outer s H args us vs Q E hr e0 hb r hsp=>?_⟩;have hl:=len _ _ _ _ hsp;obtain rfl:vs=[]:=List.length_eq_zero_iff.mp hl;have keep:∀ b o,base.get? b=some o->s.heap.get? b=some o:=fun b o e=>(e0.bs b o e).1;have lim:s.heap.NoLimit:=e0.mod.nolimit.keeps keep;refine PySem.W.kla_callFunE hr.depth (keep _ _ lk) rfl L.co L.gen rfl (hcd.keeps keep) (hb _ _ _ _ ?_);refine wpAny_newFunctionEnv L.own (fun x hx=>by simp at hx) (fun h1 hns hsb=>?_) L.kind;have hk1:∀ b o,s.heap.get? b=some o->h1.get? b=some o:=fun b o e=>hsb.extBut b o (F4z (E4z e)) (Heap.get?_push_of_some _ e);refine⟨lim.keeps hk1,?_⟩;show codeAny _ _ (.expr body (PySem.W.envX qual scope s.heap.objs.size f (.ref c') cl)) _ _;obtain⟨t,ht,hq⟩:=hbody A outer s H Q E (hr.deeper _) hsp;have noA:∀ b:Addr,b∉(lV CX P w K mg base N qual scope f (.ref c') cl A outer s H E).ex:=fun b z=>absurd (show b∈([]:List Addr) from z) (by simp);have hlook:∀ x,(PySem.W.envX qual scope s.heap.objs.size f (.ref c') cl).kindOf x=scope.names.lookup x:=fun _=>rfl;have nocell:∀ x,scope.names.lookup x≠some .cell:=fun x e=>L.own _ (H1z e) rfl
 have I:Inv (lV CX P w K mg base N qual scope f (.ref c') cl A outer s H E) [] (ws.map some) H { s with heap:=h1,toks:=s.toks+0 }:=by
  refine⟨⟨e0.mod,L.kind,rfl,rfl,M4z _,fun y z c h1 h2=>L.inj y z c h1 h2,fun y hy=>?_,fun y c z _=>(nomatch z),fun _=>hr.hd,Z0z e0.frames,.inr ⟨rfl,rfl⟩,fun b z=>absurd z (noA b),e0.bs,e0.bsz,fun b _ _=>noA b,fun b z=>absurd z (noA b),e0.funs,e0.frf⟩,
   rfl,e0.bare,Un.kept hk1,⟨_,hns,fun i y v a1 a2 a3=>?_⟩,fun y c a=>?_,e0.hok.fresh (M4z _),fun y c a=>?_,fun p hp=>absurd (show p∈([]:List (Addr×Obj)) from hp) (by simp),e0.hok.kept hk1,?_⟩
  ·have hy:scope.names.lookup y=some .cell\/scope.names.lookup y=some .free:=hy
   rcases hy with hy | hy
   ·exact absurd hy (nocell y)
   ·exact L.has y hy
  ·have a2':ws[i]?=some v:=by
    rw[List.getElem?_map] at a2
    cases e:ws[i]? with
    | none=>rw[e] at a2;cases a2
    | some b=>rw[e] at a2;cases a2;rfl
   obtain⟨b1,c,u,b2,b3,b4⟩:=L.val i y v a1 a2';exact⟨u,b3,.inr ⟨.inr b1,c,b2,d7 (d7 b4 keep) hk1⟩⟩
  ·obtain⟨v,b1⟩:=L.cell y c a
   exact⟨v,d7 (d7 b1 keep) hk1⟩
  ·obtain⟨v,o,b1,_⟩:=L.cell y c a
   exact(e0.bs _ _ b1).2
  ·rw[D3z]
   exact L.len
 refine PySem.W.kla_codeExpr (R4z (ht [] _ (ws.map some) H _ I hq) (fun u s' hs=>?_) fun e s' hs=>hs);obtain⟨v,H',J,rv,q⟩:=hs;exact⟨v,H',J.os,J.bare,J.base,J.hok,rv,q⟩
def g8(P:Addr)(ps:Array Value):HO:=.ext fun h=>h.get? P=some (PySem.W.tabObj ps)
theorem Aq{p:Program}{w:World}{H:Hp}{h:Heap}{P:Addr}{ps:Array Value}(e:h.get? P=some (PySem.W.tabObj ps)):cg p w H h P (g8 P ps) :=
 ⟨e,⟨_,e⟩,fun h1 h2 a b=>b _ a⟩
def xO(h:Heap)(H:Hp)(fs:List Addr):Heap:=PySem.W.hideAll (nq h H) fs
theorem mC{h:Heap}{H:Hp}{fs:List Addr}{b:Addr}{o:Obj}(e:h.get? b=some o)(n:H b=none)(f:b∉fs):(xO h H fs).get? b=some o:=D1z _ (lJ e n) f
theorem Ir{h:Heap}{H:Hp}{fs:List Addr}{b:Addr}{o:Obj}(e:(xO h H fs).get? b=some o):h.get? b=some o/\H b=none:=oY (N1z _ e)
theorem nA{h base base':Heap}:∀ {l:List Env},h.FunFrames base l->(∀ b∈frs l,base'.get? b=none)->h.FunFrames base' l
 | [],_,_=>trivial
 | env::r,hl,hb=>by
  obtain⟨hk,⟨L,o,hf,hn,ho,hd⟩,hr⟩:=hl;refine⟨hk,⟨L,o,hf,hb L ?_,ho,hd⟩,nA hr fun b z=>hb b ?_⟩
  ·unfold frs;rw[E1z,hf];exact O1z
  ·unfold frs at z ⊢;rw[E1z,hf];exact W0z _ z
section
variable {X:Cx} {z0:List (Addr×Obj)} {σ:St} {H:Hp} {s:Shared}
theorem Inv.inBig(I:Inv X z0 σ H s):∀ b o,X.base.get? b=some o->(xO s.heap H (frs X.stack)).get? b=some o:=fun b o e=>by
 obtain⟨h1,h2⟩:=I.bs b o e;refine mC h1 h2 fun z=>?_;obtain⟨n,_⟩:=I.stack.mem z;rw[n] at e;cases e
theorem Inv.modBig(I:Inv X z0 σ H s):Mod X.K X.mg (xO s.heap H (frs X.stack)):=by
 have k:=I.inBig;obtain⟨mb,b1,b2⟩:=I.mod.blt;exact⟨I.mod.kin.keeps k,I.mod.glob.keeps k,⟨mb,b1.keeps k,b2⟩,I.mod.nolimit.keeps k⟩
theorem Inv.env0Big(I:Inv X z0 σ H s):Env0 X.prog X.w X.K X.mg (xO s.heap H (frs X.stack)) X.A X.stack s H :=
 ⟨I.ok.frames,I.modBig,fun b o e=>Ir e,by unfold xO;rw[PySem.W.hideAll_size,ju];exact M4z _,nA I.stack fun b hb=>PySem.W.hideAll_none _ hb,I.stkFree,I.hok,I.bare⟩
theorem zH{params:Arguments}{body:Expr}{scope:Scope}{pos:Pos}{c P:Addr}{ps:Array Value}{clos:List (Str×Addr)}{R:Value->Shared->Prop}(I:Inv X z0 σ H s)
  (hdef:defaultsOf params X.env=([],[])) (hcode:X.env.code=.ref c) (C:PySem.W.CodeHd X.base c P) (hcl:closureFor scope X.env=pure clos) (hb:X.base.BuiltinsAt X.mg P) (hge:X.env.globals=mainGlobals)
  (hP:H P=some (g8 P ps)) (ht:TriplesOk ps.toList) (hn:codeAmong pos ps.toList=none)
  (h : ∀ (f c' : Addr) (ctv pm : Value) (s' : Shared), Inv X z0 σ (upd H P (g8 P (ps ++ #[rawInt pos.line, rawInt pos.col, .ref c']))) s' ->
   s'.heap.get? f=some (PySem.W.kla_obj "<lambda>" (X.env.qual++"<lambda>") params body scope clos pm c' ctv)->s'.heap.CodeRec (.ref c') (X.env.qual++"<lambda>")->(∃ o,s'.heap.get? c'=some o)->s.heap.objs.size<=f->s.heap.objs.size<=c' ->
   (∀ b o,b≠P->s.heap.get? b=some o->s'.heap.get? b=some o)->R (.ref f) s') :
  wpAny (model X.prog X.w) X.A (eval (.Lambda params body scope pos) X.env) R X.xe s:=by
 have hg:s.heap.Ns mainGlobals X.mg:=I.mod.glob.keeps I.bk;have hPt:s.heap.get? P=some (PySem.W.tabObj ps):=(I.hok P _ hP).1
 have hgP:mainGlobals≠P:=fun q=>by
  obtain⟨o,es,ep,e,hd,_⟩:=I.mod.glob;rw[q] at e;have:=(I.bs _ _ e).2;rw[hP] at this;cases this
 obtain⟨bm,ob,b1,b2,b3,b4,b5,b6,b7,b8⟩:=hb;refine PySem.W.kla_eval hdef (PySem.W.kla_makeFunction (mg:=X.mg) hcl hge hg hcode (C.keeps I.bk) hPt ht hn hgP ⟨bm,ob,b1,b2,b3,b4,I.bk _ _ b5,b6,b7,b8⟩ fun c' ctv h' tk hx hge hlt hrec htb=>?_);have keep:∀ b o,b≠P->s.heap.get? b=some o->(h'.push (PySem.W.kla_obj "<lambda>" (X.env.qual++"<lambda>") params body scope clos ((X.mg "__name__").getD .none) c' ctv)).get? b=some o:=fun b o hbP e=>Heap.get?_push_of_some _ (hx b o hbP e);have hnew:=Heap.get?_push_of_some (PySem.W.kla_obj "<lambda>" (X.env.qual++"<lambda>") params body scope clos ((X.mg "__name__").getD .none) c' ctv) htb;refine h h'.objs.size c' ctv _ _ (I.write (x:=P) (e:=P) (by rw[hP];exact trivial) (.inl rfl) (fun b u hb e=>keep b u hb e) ⟨_,hnew⟩ (Aq hnew)) (Heap.get?_push_size _ rfl) ?_ ?_ (G4z hge (H4z hlt)) hge keep
 ·obtain⟨c2,oc,vs,t,e1,e2,e3,e4⟩:=hrec
  exact⟨c2,oc,vs,t,e1,Heap.get?_push_of_some _ e2,e3,e4⟩
 ·obtain⟨c2,oc,vs,t,e1,e2,e3,e4⟩:=hrec
  cases e1;exact⟨oc,Heap.get?_push_of_some _ e2⟩
end
section
variable {X:Cx} {z0:List (Addr×Obj)} {σ:St} {H:Hp} {s:Shared}
theorem Inv.track{c:Addr}{o:HO}(I:Inv X z0 σ H s)(f:rm X z0 H c)(ok:cg X.prog X.w (upd H c o) s.heap c o):Inv X z0 σ (upd H c o) s:=by
 have hn:H c=none:=f.1
 refine I.call' (s':=s) (ch:=[c]) rfl ?_ ?_ I.bare fun b hb=>by
  have e:b=c:=by simpa using hb
  subst e;exact⟨f.2.2.2.1,f.2.1,f.2.2.2.2.1,f.2.2.2.2.2⟩
 ·refine⟨fun b u e _ _ hc=>e,fun b u e _ _ hc=>⟨u.slots,e⟩,fun b u e n hc=>?_,fun b u e hc=>⟨u,e⟩,fun b xs e=>?_,fun b u xs e=>?_,fun b ps e=>⟨#[],?_⟩⟩
  ·rw[ak (fun z=>hc (by simp[z]))];exact n
  ·rw[ak (aq e hn)];exact e
  ·rw[ak (aq e hn)];exact e
  ·rw[ak (aq e hn),e];simp
 ·intro b u e
  by_cases hb:b=c
  ·subst hb;rw[aB] at e;cases e;exact ok
  ·rw[ak hb] at e
   exact(I.hok b u e).stay (fun _ v _ q=>q) (fun d q=>by rw[ak (aq q hn)];exact q) fun d xs q=>by rw[ak (aq q hn)];exact q
def Ai(c':Addr)(qual:Str):HO:=.ext fun h=>h.CodeRec (.ref c') qual
theorem Jw{p:Program}{w:World}{H:Hp}{h:Heap}{c':Addr}{qual:Str}(e:h.CodeRec (.ref c') qual):cg p w H h c' (Ai c' qual):=by
 obtain⟨c2,oc,vs,t,a1,a2,a3,a4⟩:=e;cases a1;refine⟨⟨c',oc,vs,t,rfl,a2,a3,a4⟩,⟨oc,a2⟩,fun h1 h2 q k=>?_⟩;obtain⟨c3,od,vs',t',b1,b2,b3,b4⟩:=q;cases b1;exact⟨c',od,vs',t',rfl,k _ b2,b3,b4⟩
theorem Ai.rec{p:Program}{w:World}{H:Hp}{h:Heap}{c':Addr}{qual:Str}(ok:HOk p w H h)(e:H c'=some (Ai c' qual)):h.CodeRec (.ref c') qual:=(ok c' _ e).1
theorem vU{params:Arguments}{body:Expr}{scope:Scope}{pos:Pos}{c P c':Addr}{ps:Array Value}{clos:List (Str×Addr)}{R:Value->Shared->Prop}(I:Inv X z0 σ H s)
  (hdef:defaultsOf params X.env=([],[])) (hcode:X.env.code=.ref c) (C:PySem.W.CodeHd X.base c P) (hcl:closureFor scope X.env=pure clos) (hb:X.base.BuiltinsAt X.mg P) (hge:X.env.globals=mainGlobals)
  (hP:H P=some (g8 P ps)) (ht:TriplesOk ps.toList) (hn:codeAmong pos ps.toList=some (.ref c'))
  (h : ∀ (f : Addr) (ctv pm : Value) (s' : Shared), Inv X z0 σ H s' -> s'.heap.get? f = some (PySem.W.kla_obj "<lambda>" (X.env.qual ++ "<lambda>") params body scope clos pm c' ctv) -> s.heap.objs.size <= f ->
   (∀ b o,s.heap.get? b=some o->s'.heap.get? b=some o)->R (.ref f) s') :
  wpAny (model X.prog X.w) X.A (eval (.Lambda params body scope pos) X.env) R X.xe s:=by
 have hg:s.heap.Ns mainGlobals X.mg:=I.mod.glob.keeps I.bk;have hPt:s.heap.get? P=some (PySem.W.tabObj ps):=(I.hok P _ hP).1;obtain⟨bm,ob,b1,b2,b3,b4,b5,b6,b7,b8⟩:=hb;refine PySem.W.kla_eval hdef (PySem.W.kla_makeFunctionHit (mg:=X.mg) hcl hge hg hcode (C.keeps I.bk) hPt ht hn ⟨bm,ob,b1,b2,b3,b4,I.bk _ _ b5,b6,b7,b8⟩ fun ctv h' tk hx hsz=>?_);have keep:∀ b o,s.heap.get? b=some o->(h'.push (PySem.W.kla_obj "<lambda>" (X.env.qual++"<lambda>") params body scope clos ((X.mg "__name__").getD .none) c' ctv)).get? b=some o:=fun b o e=>Heap.get?_push_of_some _ (hx b o e);exact h h'.objs.size ctv _ _ (I.kept keep) (Heap.get?_push_size _ rfl) hsz keep
theorem vQ{params:Arguments}{body:Expr}{scope:Scope}{pos:Pos}{c P:Addr}{ps:Array Value}{clos:List (Str×Addr)}{R:Value->Shared->Prop}(I:Inv X z0 σ H s)
  (hdef:defaultsOf params X.env=([],[])) (hcode:X.env.code=.ref c) (C:PySem.W.CodeHd X.base c P) (hcl:closureFor scope X.env=pure clos) (hb:X.base.BuiltinsAt X.mg P) (hge:X.env.globals=mainGlobals)
  (hP:H P=some (g8 P ps)) (ht:TriplesOk ps.toList) (hn:codeAmong pos ps.toList=none)
  (h : ∀ (f c' : Addr) (ctv pm : Value) (s' : Shared), H c' = none -> c' ≠ P -> Inv X z0 σ (upd (upd H P (g8 P (ps ++ #[rawInt pos.line, rawInt pos.col, .ref c']))) c' (Ai c' (X.env.qual ++ "<lambda>"))) s' ->
   s'.heap.get? f=some (PySem.W.kla_obj "<lambda>" (X.env.qual++"<lambda>") params body scope clos pm c' ctv)->s.heap.objs.size<=f->f≠c' ->
   (∀ b o,b≠P->s.heap.get? b=some o->s'.heap.get? b=some o)->R (.ref f) s') :
  wpAny (model X.prog X.w) X.A (eval (.Lambda params body scope pos) X.env) R X.xe s:=by
 refine zH I hdef hcode C hcl hb hge hP ht hn fun f c' ctv pm s' J e1 e2 e3 e4 e5 keep=>?_;have hPlt:P<s.heap.objs.size:=I.hok.lt hP
 have hcP:c'≠P:=fun z=>by rw[z] at e5;exact absurd (M1z hPlt e5) (W3z _)
 have fp:=I.fpOk e5 (I.hok.fresh e5);have hcn:H c'=none:=I.hok.fresh e5;refine h f c' ctv pm s' hcn hcP (J.track ⟨by rw[ak hcP];exact hcn,fp.2⟩ (Jw e2)) e1 e4 (fun z=>?_) keep;obtain⟨c2,oc,vs,t,a1,a2,a3,a4⟩:=e2;cases a1;rw[z,a2] at e1;have:=congrArg (fun o:Option Obj=>o.map Obj.data) e1;simp only[J3z,PySem.W.kla_obj] at this;rw[B3z this] at a3;cases a3
end
structure LamT (H:Hp) (P:Addr) (qual:Str) (l:List (Pos×Addr)):Prop where
 tab:H P=some (g8 P (triples l).toArray)
 cod:∀ q∈l,H q.2=some (Ai q.2 qual)
theorem fj:∀ l:List (Pos×Addr),TriplesOk (triples l)
 | []=>trivial
 | (p,c)::r=>fj r
theorem jE(pos:Pos):∀ l:List (Pos×Addr),codeAmong pos (triples l)=none\/∃ q∈l,codeAmong pos (triples l)=some (.ref q.2)
 | []=>.inl rfl
 | (p,c)::r=>by
  have e:codeAmong pos (triples ((p,c)::r))=if(((p.line:Nat):Int)==((pos.line:Nat):Int)&&((p.col:Nat):Int)==((pos.col:Nat):Int))=true then some (.ref c) else codeAmong pos (triples r):=rfl;rw[e];split
  ·exact .inr ⟨(p,c),O1z,rfl⟩
  ·rcases jE pos r with h | ⟨q,hq,h⟩
   ·exact .inl h
   ·exact .inr ⟨q,W0z _ hq,h⟩
theorem LamT.same{H H':Hp}{P:Addr}{qual:Str}{l:List (Pos×Addr)}(h:LamT H P qual l)(e:∀ b o,H b=some o->H' b=some o):LamT H' P qual l:=⟨e _ _ h.tab,fun q hq=>e _ _ (h.cod q hq)⟩
theorem LamT.upd{H:Hp}{P a:Addr}{qual:Str}{l:List (Pos×Addr)}{us vs:List V}(h:LamT H P qual l)(e:H a=some (.lst us)):LamT (upd H a (.lst vs)) P qual l:=by
 refine⟨?_,fun q hq=>?_⟩
 ·rw[ak fun z=>by rw[<- z,h.tab] at e;cases e];exact h.tab
 ·rw[ak fun z=>by rw[<- z,h.cod q hq] at e;cases e];exact h.cod q hq
theorem LamT.ne{p':Program}{w:World}{h:Heap}{H:Hp}{P:Addr}{qual:Str}{l:List (Pos×Addr)}(T:LamT H P qual l)(ok:HOk p' w H h){p:Pos×Addr}(hp:p∈l):p.2≠P:=fun z=>by
 have e:=T.cod p hp;rw[z,T.tab] at e;have:=B3z e;unfold g8 Ai at this;have q:=HO.ext.inj this;have hc:=Ai.rec ok (T.cod p hp);rw[z] at hc;have ht:=(ok P _ T.tab).1;obtain⟨c2,oc,vs,t,a1,a2,a3,a4⟩:=hc;cases a1;rw[ht] at a2;cases a2;have a3':Data.fields (triples l).toArray=Data.fields vs:=a3;injection a3' with a3';subst a3';have k:=fj l
 cases l with
 | nil=>cases hp
 | cons x r =>
  obtain⟨p0,c0⟩:=x;simp[triples,rawInt] at a4
section
variable {X:Cx} {z0:List (Addr×Obj)} {σ:St} {H:Hp} {s:Shared}
theorem Ej{params:Arguments}{body:Expr}{scope:Scope}{pos:Pos}{c P:Addr}{l:List (Pos×Addr)}{clos:List (Str×Addr)}{R:Value->Shared->Prop}(I:Inv X z0 σ H s)
  (hdef:defaultsOf params X.env=([],[])) (hcode:X.env.code=.ref c) (C:PySem.W.CodeHd X.base c P) (hcl:closureFor scope X.env=pure clos) (hb:X.base.BuiltinsAt X.mg P) (hge:X.env.globals=mainGlobals)
  (T:LamT H P (X.env.qual++"<lambda>") l)
  (h : ∀ (f c' : Addr) (ctv pm : Value) (s' : Shared) (H' : Hp) (l' : List (Pos × Addr)), Inv X z0 σ H' s' -> LamT H' P (X.env.qual ++ "<lambda>") l' -> H' c' = some (Ai c' (X.env.qual ++ "<lambda>")) -> c' ≠ P -> (H c' = none \/ ∃ q ∈ l, q.2 = c') -> (∀ q ∈ l', q ∈ l \/ q.2 = c') -> (∀ b o, b ≠ P -> H b = some o -> H' b = some o) ->
   s'.heap.get? f=some (PySem.W.kla_obj "<lambda>" (X.env.qual++"<lambda>") params body scope clos pm c' ctv)->s.heap.objs.size<=f->H' f=none->(∀ b o,b≠P->s.heap.get? b=some o->s'.heap.get? b=some o)->R (.ref f) s') :
  wpAny (model X.prog X.w) X.A (eval (.Lambda params body scope pos) X.env) R X.xe s:=by
 have hPlt:P<s.heap.objs.size:=I.hok.lt T.tab;rcases jE pos l with hn | ⟨q,hq,hn⟩
 ·refine vQ I hdef hcode C hcl hb hge T.tab (by rw[L1z];exact fj l) (by rw[L1z];exact hn) fun f c' ctv pm s' hcn hcP J e1 e4 hfc keep=>?_
  have hfP:f≠P:=fun z=>by rw[z] at e4;exact absurd (M1z hPlt e4) (W3z _)
  refine h f c' ctv pm s' _ (l++[(pos,c')]) J ⟨?_,fun p hp=>?_⟩ aB hcP (.inl hcn) (fun q hq=>(List.mem_append.mp hq).imp id fun z=>by rw[List.mem_singleton.mp z]) (fun b o hbP e=>?_) e1 e4 ?_ keep
  ·rw[ak hcP.symm,aB,triples_append]
   simp
  ·rcases List.mem_append.mp hp with hp | hp
   ·have e:=T.cod p hp
    have n1:p.2≠c':=aq e hcn;have n2:p.2≠P:=T.ne I.hok hp;rw[ak n1,ak n2];exact e
   ·have e:p=(pos,c'):=by simpa using hp
    subst e;exact aB
  ·rw[ak (aq e hcn),ak hbP];exact e
  ·rw[ak hfc,ak hfP];exact I.hok.fresh e4
 ·refine vU I hdef hcode C hcl hb hge T.tab (by rw[L1z];exact fj l) (by rw[L1z];exact hn) fun f ctv pm s' J e1 e4 keep=>?_
  exact h f q.2 ctv pm s' H l J T (T.cod q hq) (T.ne I.hok hq) (.inr ⟨q,hq,rfl⟩) (fun _ z=>.inl z) (fun _ _ _ e=>e) e1 e4 (I.hok.fresh e4) fun b o _ e=>keep b o e
end
end L2
namespace L2
open PySem PySem.Spec PyProof.Rows DE PySem.SeqAt
section
variable {prog:Program} {w:World} {A:Around} {E:Value->Shared->Prop}
theorem j5{it t:Addr}{xs:List Value}(apart:t≠it):∀ (more i:Nat) (s:Shared) (Q:List Value->Shared->Prop),s.heap.IsListIter it t i->s.heap.IsList t xs.toArray->i+more<=xs.length ->
  (∀ h',h'.IsListIter it t (i+more)->Heap.SameBut it s.heap h'->Q ((xs.drop i).take more) { s with heap:=h' })->wpAny (model prog w) A (draw (.ref it) more) Q E s
 | 0,i,s,Q,it0,_,_,q=>by
  show wpAny _ _ (pure []) _ _ _;exact T4z (by simpa using q s.heap it0 (Heap.SameBut.refl ..))
 | more+1,i,s,Q,it0,hl,hle,q=>by
  have lt:i<xs.length:=by omega
  show wpAny _ _ (pyNext (.ref it) >>=_) _ _ _;refine S4z (wpAny_pyNext_list_item it0 hl (x:=xs[i]) (by simp[lt]) fun h1 st1 sb1=>?_)
  have hl1:h1.IsList t xs.toArray:=by
   obtain⟨o,e,r⟩:=hl;exact⟨o,(sb1.2 t apart).trans e,r⟩
  refine S4z (X3z (j5 apart more (i+1) _ _ st1 hl1 (by omega) fun h2 st2 sb2=>T4z ?_));have z:=q h2 (by rw[show i+(more+1)=i+1+more by omega];exact st2) (sb1.trans sb2);rw[D0z lt,List.take_succ_cons] at z;exact z
theorem kh{s:Shared}{t:Addr}{xs:List Value}{Q:List Value->Shared->Prop}(hh:A.handled=none)(hl:s.heap.IsList t xs.toArray)(q:∀ h',(∀ b o,s.heap.get? b=some o->h'.get? b=some o)->Q xs { s with heap:=h' }) :
  wpAny (model prog w) A (unpackItems (.ref t) xs.length none) Q E s:=by
 have apart:t≠s.heap.objs.size:=by obtain⟨o,e,_⟩:=hl;exact F4z (E4z e)
 have keep:∀ {h':Heap},(∀ b o,b≠s.heap.objs.size->s.heap.get? b=some o->h'.get? b=some o)->∀ b o,s.heap.get? b=some o->h'.get? b=some o:=fun k b o e=>k b o (F4z (E4z e)) e
 have pushed:∀ (n:Obj),(s.heap.push n).IsList t xs.toArray:=fun n=>by
  obtain⟨o,e,r⟩:=hl;exact⟨o,Heap.get?_push_of_some _ e,r⟩
 simp only[unpackItems,notIterableAtAll];refine S4z (S4z (M3z hl.typeIs PySem.slot_list_iter.lookup (T4z ?_)));simp only[W1z,A5z,Option.isNone_some,Bool.not_true,Bool.false_and];refine S4z (X3z (wpAny_pyIter_list hl ?_));refine S4z (X3z (j5 apart xs.length 0 _ _ ⟨_,Heap.get?_push_size _ rfl,rfl,rfl⟩ (pushed _) (by omega) fun h1 st1 sb1=>?_))
 have all:List.take xs.length (List.drop 0 xs)=xs:=by simp
 rw[all,E5z (by simp)]
 have hl1:h1.IsList t xs.toArray:=by
  obtain⟨o,e,r⟩:=pushed { cls:=.type "list_iterator",data:=.fields #[.ref t,.int 0 0] };exact⟨o,(sb1.2 t apart).trans e,r⟩
 refine S4z (X3z (wpAny_pyNext_list_end hh st1 hl1 (by simp) fun h2 eb=>?_));simp only[Option.isSome_none,W1z,A5z];exact T4z (q h2 (keep fun b o hb e=>eb b o hb ((sb1.2 b hb).trans (Heap.get?_push_of_some _ e))))
end
section
variable {X:Cx} {es:List Expr} {k:Nat} {t:TGs} {n:Nat} {pos:Pos}
def VL(K:Zf)(n:Nat)(t:TGs):TG:=fun v σ H Q=>∃ a xs,v=.ref a/\SqL K H a xs/\xs.length=n/\t xs σ H Q
theorem HF(hc:X.calm=true)(h:PGs X es t)(hn:(assignEach es X.env).length=n)(hst:(assignEach es X.env).findIdx? (·.1)=none):PG X (.Tuple es k pos) (VL X.K n t):=by
 intro z0 s σ H v u Q I r hw;obtain⟨a,xs,rfl,hq,hl,hw⟩:=hw;cases (show u=Value.ref a from r);obtain⟨its,rv,pl,hz⟩:=I.list hq
 have e:(assignEach es X.env).length=its.length:=by rw[hn,<- hl,rv.length]
 rw[assign_Tuple];refine S4z (Y3z ?_);unfold unpack;rw[hst,e];refine S4z (X3z (kh (I.ok.hd hc) pl.isList fun h' kp=>?_));exact h z0 _ σ H xs _ Q (I.kept (t':=s.toks) kp) rv hw
end
def OO(K:Zf)(H0 Hs H:Hp)(a:Addr)(bs:List Addr)(dss:List (List D)):Prop :=
  H a = some (.lst (bs.map V.ref)) /\ Hs a = none /\ H0 a = none /\ bs.Nodup /\ a ∉ bs /\ bs.length = dss.length /\
    ∀ (j:Nat) b,bs[j]?=some b->Hs b=none/\H0 b=none/\∃ ds us,dss[j]?=some ds/\H b=some (.lst us)/\aH K Hs ds us
structure Hd (K:Zf) (lm:Option (Addr×Str)) (Hs0 H0 Hs H:Hp) (ρ:Rho) (σ:St):Prop where
 ext:Ext Hs0 H0 Hs H
 len:σ.length=ρ.length
 sh:bV K Hs ρ σ
 ow:∀ (i:Nat) (x:Str) (ds:List D),ρ[i]?=some (x,.ow ds)->∃ a vs,σ[i]?=some (some (.ref a))/\H a=some (.lst vs)/\aH K Hs ds vs/\Hs a=none/\H0 a=none
 dis:∀ (i j:Nat) (x y:Str) (ds es:List D) (a:Addr),i≠j->ρ[i]?=some (x,.ow ds)->ρ[j]?=some (y,.ow es)->σ[i]?=some (some (.ref a))->σ[j]?=some (some (.ref a))->False
 oo:∀ (i:Nat) (x:Str) (dss:List (List D)),ρ[i]?=some (x,.oo dss)->(∃ a bs,σ[i]?=some (some (.ref a))/\OO K H0 Hs H a bs dss)/\∀ (j:Nat) y s,j≠i->ρ[j]?=some (y,s)->Gf s=true
 lam:∀ p,lm=some p->H0 p.1=none/\∃ l,LamT H p.1 p.2 l/\Hs p.1=none/\∀ q∈l,Hs q.2=none
section
variable {K:Zf} {lm:Option (Addr×Str)} {Hs0 H0 Hs H Hs' H':Hp} {ρ:Rho} {σ:St}
theorem OO.step{a:Addr}{bs:List Addr}{dss:List (List D)}(h:OO K H0 Hs H a bs dss)(E:Ext Hs H Hs' H'):OO K H0 Hs' H' a bs dss:=by
 obtain⟨h1,h2,h3,h4,h5,h6,h7⟩:=h;refine⟨E.all _ _ h1,E.hid a _ h1 h2,h3,h4,h5,h6,fun j b e=>?_⟩;obtain⟨k1,k2,ds,us,k3,k4,k5⟩:=h7 j b e;exact⟨E.hid b _ k4 k1,k2,ds,us,k3,E.all _ _ k4,aH.same E.vis ds us k5⟩
theorem Hd.step(h:Hd K lm Hs0 H0 Hs H ρ σ)(E:Ext Hs H Hs' H'):Hd K lm Hs0 H0 Hs' H' ρ σ where
 ext:=h.ext.trans E
 len:=h.len
 sh:=h.sh.same E.vis
 ow:=fun i x ds e=>by
  obtain⟨a,vs,h1,h2,h3,h4,h5⟩:=h.ow i x ds e;exact⟨a,vs,h1,E.all _ _ h2,aH.same E.vis ds vs h3,E.hid a _ h2 h4,h5⟩
 dis:=h.dis
 oo:=fun i x dss e=>by
  obtain⟨⟨a,bs,h1,h2⟩,h3⟩:=h.oo i x dss e;exact⟨⟨a,bs,h1,h2.step E⟩,h3⟩
 lam:=fun p hp=>by
  obtain⟨h0,l,T,n1,n2⟩:=h.lam p hp;exact⟨h0,l,T.same E.all,E.hid _ _ T.tab n1,fun q hq=>E.hid _ _ (T.cod q hq) (n2 q hq)⟩
structure ExtL (p:Addr×Str) (Hs H Hs' H':Hp):Prop where
 vis:Same Hs Hs'
 all:∀ b o,b≠p.1->H b=some o->H' b=some o
 sub:Same Hs' H'
 hid:∀ b o,H b=some o->Hs b=none->Hs' b=none
 lam:∃ l,LamT H' p.1 p.2 l/\Hs' p.1=none/\∀ q∈l,Hs' q.2=none
theorem Hd.stepL{p:Addr×Str}(h:Hd K lm Hs0 H0 Hs H ρ σ)(hp:lm=some p)(E:ExtL p Hs H Hs' H'):Hd K lm Hs0 H0 Hs' H' ρ σ:=by
 obtain⟨h0,l,T,n1,n2⟩:=h.lam p hp;have lst:∀ a vs,H a=some (.lst vs)->H' a=some (.lst vs):=fun a vs e=>E.all a _ (fun z=>by rw[z,T.tab] at e;cases e) e;refine⟨⟨h.ext.vis.trans E.vis,fun b o e=>E.all b o (fun z=>by rw[z,h0] at e;cases e) (h.ext.all b o e),E.sub,fun b o e n=>E.hid b o (h.ext.all b o e) (h.ext.hid b o e n)⟩,h.len,h.sh.same E.vis,fun i x ds e=>?_,h.dis,fun i x dss e=>?_,fun p' hp'=>?_⟩
 ·obtain⟨a,vs,h1,h2,h3,h4,h5⟩:=h.ow i x ds e
  exact⟨a,vs,h1,lst _ _ h2,aH.same E.vis ds vs h3,E.hid a _ h2 h4,h5⟩
 ·obtain⟨⟨a,bs,h1,k1,k2,k3,k4,k5,k6,k7⟩,h3⟩:=h.oo i x dss e
  refine⟨⟨a,bs,h1,lst _ _ k1,E.hid a _ k1 k2,k3,k4,k5,k6,fun j b e=>?_⟩,h3⟩;obtain⟨m1,m2,ds,us,m3,m4,m5⟩:=k7 j b e;exact⟨E.hid b _ m4 m1,m2,ds,us,m3,lst _ _ m4,aH.same E.vis ds us m5⟩
 ·rw[hp] at hp';cases hp'
  exact⟨h0,E.lam⟩
def LmT(lm:Option (Addr×Str))(H:Hp):Prop:=∀ p,lm=some p->∃ l,LamT H p.1 p.2 l
theorem Hd.lmt(h:Hd K lm Hs0 H0 Hs H ρ σ):LmT lm H:=fun p hp=>by
 obtain⟨_,l,T,_⟩:=h.lam p hp;exact⟨l,T⟩
theorem gM{n:Nat}{e:Expr}{i:Nat}{x:Str}{s:Sl}(h:(frz n e ρ)[i]?=some (x,s)):(ρ[i]?=some (x,s)/\(Gf s=false->d9 n x e=false))\/(∃ ds,s=.sh (.lst ds)/\ρ[i]?=some (x,.ow ds)/\d9 n x e=true)\/∃ dss,s=.sh (.lst (dss.map .lst))/\ρ[i]?=some (x,.oo dss)/\d9 n x e=true:=by
 unfold frz at h;rw[List.getElem?_map] at h;obtain⟨⟨y,t⟩,h1,h2⟩:=Q0z.mp h
 cases t with
 | no=>simp at h2;obtain⟨rfl,rfl⟩:=h2;exact .inl ⟨h1,fun z=>nomatch z⟩
 | sh d=>simp at h2;obtain⟨rfl,rfl⟩:=h2;exact .inl ⟨h1,fun z=>nomatch z⟩
 | ow ds =>
  simp only at h2
  cases hm:d9 n y e with
  | true =>
   rw[hm,D5z rfl] at h2;cases h2;exact .inr (.inl ⟨ds,rfl,h1,hm⟩)
  | false =>
   rw[hm] at h2;simp at h2;obtain⟨rfl,rfl⟩:=h2;exact .inl ⟨h1,fun _=>hm⟩
 | oo dss =>
  simp only at h2
  cases hm:d9 n y e with
  | true =>
   rw[hm,D5z rfl] at h2;cases h2;exact .inr (.inr ⟨dss,rfl,h1,hm⟩)
  | false =>
   rw[hm] at h2;simp at h2;obtain⟨rfl,rfl⟩:=h2;exact .inl ⟨h1,fun _=>hm⟩
theorem aM(n:Nat)(e:Expr):(frz n e ρ).map (·.1)=ρ.map (·.1):=by
 unfold frz;rw[L4z];apply List.map_congr_left;intro p _;obtain⟨x,s⟩:=p
 cases s<;>simp<;>(split<;>rfl)
theorem aH.get_of{K:Zf}{H:Hp}:∀ {ds:List D} {vs:List V},ds.length=vs.length->(∀ (j:Nat) d v,ds[j]?=some d->vs[j]?=some v->Rep K H d v)->aH K H ds vs
 | [],[],_,_=>.nil
 | [],_::_,h,_=>by simp at h
 | _::_,[],h,_=>by simp at h
 | d::ds,v::vs,h,q=>.cons (q 0 d v rfl rfl) (aH.get_of (by simpa using h) fun j d' v' e1 e2=>q (j+1) d' v' (by simpa using e1) (by simpa using e2))
theorem OO.mem{a b:Addr}{bs:List Addr}{dss:List (List D)}(h:OO K H0 Hs H a bs dss)(hb:b∈bs):Hs b=none/\H0 b=none:=by
 obtain⟨j,e⟩:=List.mem_iff_getElem?.mp hb;obtain⟨k1,k2,_⟩:=h.2.2.2.2.2.2 j b e;exact⟨k1,k2⟩
open Classical in
theorem Hd.frozen2(n:Nat)(e:Expr)(h:Hd K lm Hs0 H0 Hs H ρ σ):∃ Hs1,Same Hs Hs1/\(∀ b o,Hs1 b=some o->Hs b=some o\/∃ vs,o=.lst vs)/\Hd K lm Hs0 H0 Hs1 H (frz n e ρ) σ:=by
 let Fo:Addr->Prop:=fun b=>∃ (i:Nat) (x:Str) (ds:List D),ρ[i]?=some (x,Sl.ow ds)/\d9 n x e=true/\σ[i]?=some (some (V.ref b))
 let Fb:Addr->Prop:=fun b=>∃ (i:Nat) (x:Str) (dss:List (List D)) (a:Addr) (bs:List Addr),ρ[i]?=some (x,Sl.oo dss)/\d9 n x e=true/\σ[i]?=some (some (V.ref a))/\OO K H0 Hs H a bs dss/\(b=a\/b∈bs)
 let Hs1:Hp:=fun b=>if Fo b\/Fb b then H b else Hs b
 have vis:Same Hs Hs1:=fun b o q=>by
  show(if Fo b\/Fb b then H b else Hs b)=some o;split
  ·exact h.ext.sub b o q
  ·exact q
 have sub:Same Hs1 H:=fun b o q=>by
  have q':(if Fo b\/Fb b then H b else Hs b)=some o:=q;split at q'
  ·exact q'
  ·exact h.ext.sub b o q'
 have fz0:∀ b,Fo b\/Fb b->H0 b=none/\Hs b=none:=fun b hb=>by
  rcases hb with⟨i,x,ds,g1,_,g3⟩ | ⟨i,x,dss,a,bs,g1,_,g3,g4,g5⟩
  ·obtain⟨a,vs,k1,k2,k3,k4,k5⟩:=h.ow i x ds g1
   rw[k1] at g3;cases g3;exact⟨k5,k4⟩
  ·rcases g5 with rfl | g5
   ·exact⟨g4.2.2.1,g4.2.1⟩
   ·exact⟨(g4.mem g5).2,(g4.mem g5).1⟩
 have shp:∀ b o,Hs1 b=some o->Hs b=some o\/∃ vs,o=.lst vs:=fun b o q=>by
  have q':(if Fo b\/Fb b then H b else Hs b)=some o:=q;split at q'
  ·rename_i f
   rcases f with⟨i,x,ds,g1,_,g3⟩ | ⟨i,x,dss,a,bs,g1,_,g3,g4,g5⟩
   ·obtain⟨a,vs,k1,k2,k3,k4,k5⟩:=h.ow i x ds g1
    rw[k1] at g3;cases g3;rw[k2] at q';cases q';exact .inr ⟨vs,rfl⟩
   ·rcases g5 with rfl | g5
    ·rw[g4.1] at q'
     cases q';exact .inr ⟨_,rfl⟩
    ·obtain⟨j,ej⟩:=List.mem_iff_getElem?.mp g5
     obtain⟨_,_,_,us,_,m4,_⟩:=g4.2.2.2.2.2.2 j b ej;rw[m4] at q';cases q';exact .inr ⟨us,rfl⟩
  ·exact .inl q'
 have hz:∀ (b:Addr) (u:Heap->Prop),H b=some (.ext u)->Hs b=none->Hs1 b=none:=fun b u q n=>by
  show(if Fo b\/Fb b then H b else Hs b)=none;rw[E5z fun f=>?_]
  ·exact n
  ·rcases f with⟨i,x,ds,g1,_,g3⟩ | ⟨i,x,dss,a,bs,g1,_,g3,g4,g5⟩
   ·obtain⟨a,vs,k1,k2,_⟩:=h.ow i x ds g1
    rw[k1] at g3;cases g3;rw[k2] at q;cases q
   ·rcases g5 with rfl | g5
    ·rw[g4.1] at q;cases q
    ·obtain⟨j,ej⟩:=List.mem_iff_getElem?.mp g5
     obtain⟨_,_,_,us,_,m4,_⟩:=g4.2.2.2.2.2.2 j b ej;rw[m4] at q;cases q
 refine⟨Hs1,vis,shp,⟨h.ext.vis.trans vis,h.ext.all,sub,fun b o q z=>?_⟩,by rw[h.len];simp[frz],fun i x d q=>?_,fun i x ds q=>?_,fun i j x y ds es a hij q1 q2=>?_,fun i x dss q=>?_,fun p hp=>by obtain⟨h0,l,T,n1,n2⟩:=h.lam p hp;exact⟨h0,l,T,hz _ _ T.tab n1,fun q hq=>hz _ _ (T.cod q hq) (n2 q hq)⟩⟩
 ·show(if Fo b\/Fb b then H b else Hs b)=none
  rw[E5z fun f=>by rw[(fz0 b f).1] at q;cases q]
  exact h.ext.hid b o q z
 ·rcases gM q with⟨q,_⟩ | ⟨ds,e1,q2,hm⟩ | ⟨dss,e1,q2,hm⟩
  ·obtain⟨v,k1,k2⟩:=h.sh i x d q
   exact⟨v,k1,Rep.same vis d v k2⟩
  ·cases e1
   obtain⟨a,vs,k1,k2,k3,k4,k5⟩:=h.ow i x ds q2;refine⟨_,k1,?_⟩;simp only[Rep];refine⟨a,vs,rfl,.of ?_,aH.same vis ds vs k3⟩;show(if Fo a\/Fb a then H a else Hs a)=_;rw[D5z (.inl ⟨i,x,ds,q2,hm,k1⟩)];exact k2
  ·cases e1
   obtain⟨⟨a,bs,k1,k2⟩,_⟩:=h.oo i x dss q2;refine⟨_,k1,?_⟩;simp only[Rep];refine⟨a,bs.map V.ref,rfl,.of ?_,?_⟩
   ·show(if Fo a\/Fb a then H a else Hs a)=_
    rw[D5z (.inr ⟨i,x,dss,a,bs,q2,hm,k1,k2,.inl rfl⟩)];exact k2.1
   ·refine aH.get_of (by rw[D3z,D3z,k2.2.2.2.2.2.1]) fun j d v g1 g2=>?_
    rw[List.getElem?_map] at g1 g2;obtain⟨es,g3,rfl⟩:=Q0z.mp g1;obtain⟨b,g4,rfl⟩:=Q0z.mp g2;obtain⟨_,_,ds,us,m3,m4,m5⟩:=k2.2.2.2.2.2.2 j b g4;rw[g3] at m3;cases m3;simp only[Rep];refine⟨b,us,rfl,.of ?_,aH.same vis es us m5⟩;show(if Fo b\/Fb b then H b else Hs b)=_;rw[D5z (.inr ⟨i,x,dss,a,bs,q2,hm,k1,k2,.inr (List.mem_of_getElem? g4)⟩)];exact m4
 ·rcases gM q with⟨q,hm⟩ | ⟨ds',e1,q,hm⟩ | ⟨ds',e1,q,hm⟩
  ·obtain⟨a,vs,k1,k2,k3,k4,k5⟩:=h.ow i x ds q
   refine⟨a,vs,k1,k2,aH.same vis ds vs k3,?_,k5⟩;show(if Fo a\/Fb a then H a else Hs a)=none;rw[E5z]
   ·exact k4
   ·rintro(⟨j,y,es,g1,g2,g3⟩ | ⟨j,y,dss,_,_,g1,_⟩)
    ·by_cases hij:i=j
     ·subst hij
      rw[q] at g1;cases g1;rw[hm rfl] at g2;cases g2
     ·exact h.dis i j x y ds es a hij q g1 k1 g3
    ·by_cases hij:i=j
     ·subst hij
      rw[q] at g1;cases g1
     ·exact nomatch (h.oo j y dss g1).2 i x _ hij q
  ·cases e1
  ·cases e1
 ·rcases gM q1 with⟨q1,_⟩ | ⟨ds',e1,_⟩ | ⟨ds',e1,_⟩
  ·rcases gM q2 with⟨q2,_⟩ | ⟨ds',e1,_⟩ | ⟨ds',e1,_⟩
   ·exact h.dis i j x y ds es a hij q1 q2
   ·cases e1
   ·cases e1
  ·cases e1
  ·cases e1
 ·rcases gM q with⟨q,hm⟩ | ⟨ds',e1,_⟩ | ⟨ds',e1,_⟩
  ·obtain⟨⟨a,bs,k1,k2⟩,k3⟩:=h.oo i x dss q
   have nf:∀ b,¬ (Fo b\/Fb b):=by
    rintro b (⟨j,y,es,g1,_⟩ | ⟨j,y,dss',_,_,g1,g2,_⟩)
    ·by_cases hij:j=i
     ·subst hij
      rw[q] at g1;cases g1
     ·exact nomatch k3 j y _ hij g1
    ·by_cases hij:j=i
     ·subst hij
      rw[q] at g1;cases g1;rw[hm rfl] at g2;cases g2
     ·exact nomatch k3 j y _ hij g1
   have sm:∀ b,Hs1 b=Hs b:=fun b=>by
    show(if Fo b\/Fb b then H b else Hs b)=_;rw[E5z (nf b)]
   refine⟨⟨a,bs,k1,k2.1,by rw[sm];exact k2.2.1,k2.2.2.1,k2.2.2.2.1,k2.2.2.2.2.1,k2.2.2.2.2.2.1,fun j b g=>?_⟩,fun j y s hj g=>?_⟩
   ·obtain⟨m1,m2,ds,us,m3,m4,m5⟩:=k2.2.2.2.2.2.2 j b g
    exact⟨by rw[sm];exact m1,m2,ds,us,m3,m4,aH.same vis ds us m5⟩
   ·rcases gM g with⟨g,_⟩ | ⟨_,e1,_⟩ | ⟨_,e1,_⟩
    ·exact k3 j y s hj g
    ·rw[e1];rfl
    ·rw[e1];rfl
  ·cases e1
  ·cases e1
theorem Hd.frozen(n:Nat)(e:Expr)(h:Hd K lm Hs0 H0 Hs H ρ σ):∃ Hs1,Same Hs Hs1/\Hd K lm Hs0 H0 Hs1 H (frz n e ρ) σ :=
 let ⟨Hs1,a,_,b⟩:=h.frozen2 n e
 ⟨Hs1,a,b⟩
def flH(Hs H Hs':Hp):Hp:=fun b=>match Hs b with
 | some o=>some o
 | none=>match H b with
  | some _=>none
  | none=>match Hs' b with
   | some (.tup vs)=>some (.tup vs)
   | some (.frz o (.tup vs))=>some (.frz o (.tup vs))
   | _=>none
mutual
theorem qL{Hs H Hs1 Hs' H':Hp}(vis:Same Hs Hs1)(shp:∀ b o,Hs1 b=some o->Hs b=some o\/∃ vs,o=.lst vs)(E:Ext Hs1 H Hs' H'):∀ (d:D) (v:V),gn d=true->Rep K Hs' d v->Rep K (flH Hs H Hs') d v
 | .non,v,_,r=>by simpa[Rep] using r
 | .bl b,v,_,r=>by simpa[Rep] using r
 | .int i,v,_,r=>by simpa[Rep] using r
 | .str x,v,_,r=>by simpa[Rep] using r
 | .lst _,v,h,_=>by simp[gn] at h
 | .exc _,v,h,_=>by simp[gn] at h
 | .dic _ _,v,h,_=>by simp[gn] at h
 | .obj _,v,h,_=>by simp[gn] at h
 | .tup ds,v,h,r=>by
  simp only[gn] at h;simp only[Rep] at r ⊢;obtain⟨p,ws,rfl,h1,h2⟩:=r;refine⟨p,ws,rfl,?_,nG vis shp E ds ws h h2⟩
  have fin:∀ u:HO,Hs' p=some u->(∀ vs,u≠.lst vs)->Hs p=some u\/(Hs p=none/\H p=none):=fun u hu hnl=>by
   cases hp:Hs p with
   | some u' =>
    have:=E.vis _ _ (vis _ _ hp);rw[hu] at this;exact .inl this.symm
   | none =>
    have h1n:Hs1 p=none:=by
     cases q:Hs1 p with
     | none=>rfl
     | some o =>
      rcases shp p o q with z | ⟨vs,rfl⟩
      ·rw[hp] at z;cases z
      ·have:=E.vis _ _ q
       rw[hu] at this;cases this;exact absurd rfl (hnl vs)
    refine .inr ⟨rfl,?_⟩
    cases q:H p with
    | none=>rfl
    | some o=>have:=E.hid p o q h1n;rw[hu] at this;cases this
  rcases h1 with(h1 | ⟨o,h1⟩) | h1
  ·refine .inl (.inl ?_)
   rcases fin _ h1 (fun vs z=>nomatch z) with z | ⟨z1,z2⟩
   ·simp only[flH,z]
   ·simp only[flH,z1,z2,h1]
  ·refine .inl (.inr ⟨o,?_⟩)
   rcases fin _ h1 (fun vs z=>nomatch z) with z | ⟨z1,z2⟩
   ·simp only[flH,z]
   ·simp only[flH,z1,z2,h1]
  ·exact .inr h1
theorem nG{Hs H Hs1 Hs' H':Hp}(vis:Same Hs Hs1)(shp:∀ b o,Hs1 b=some o->Hs b=some o\/∃ vs,o=.lst vs)(E:Ext Hs1 H Hs' H'):∀ (ds:List D) (vs:List V),qM ds=true->aH K Hs' ds vs->aH K (flH Hs H Hs') ds vs
 | [],vs,_,r=>by simpa[aH] using r
 | d::ds,vs,h,r=>by
  simp only[qM,W2z] at h;simp only[aH] at r ⊢;obtain⟨w,r',rfl,h1,h2⟩:=r;exact⟨w,r',rfl,qL vis shp E d w h.1 h1,nG vis shp E ds r' h.2 h2⟩
end
theorem gk{Hs1 Hs' H':Hp}{d:D}{v:V}(hs:Same Hs H)(vis:Same Hs Hs1)(shp:∀ b o,Hs1 b=some o->Hs b=some o\/∃ vs,o=.lst vs)(E:Ext Hs1 H Hs' H')(hd:gn d=true)(r:Rep K Hs' d v):∃ Hs3,Ext Hs H Hs3 H'/\Rep K Hs3 d v:=by
 refine⟨flH Hs H Hs',⟨fun b o q=>by simp only[flH,q],E.all,fun b o q=>?_,fun b o q z=>by simp only[flH,z,q]⟩,qL vis shp E d v hd r⟩;unfold flH at q;split at q
 ·rename_i o' e;cases q;exact E.all _ _ (hs _ _ e)
 ·split at q
  ·cases q
  ·split at q
   ·rename_i e;cases q;exact E.sub _ _ e
   ·rename_i e;cases q;exact E.sub _ _ e
   ·cases q
theorem Hd.set{x:Str}{i:Nat}{d:D}{v:V}(h:Hd K lm Hs0 H0 Hs H ρ σ)(hn:(ρ.map (·.1)).Nodup)(hi:(ρ.map (·.1))[i]?=some x)(r:Rep K Hs d v):Hd K lm Hs0 H0 Hs H (cT ρ x (.sh d)) (σ.set i (some v)):=by
 have hl:i<σ.length:=by have:=(List.getElem?_eq_some_iff.mp hi).1;rw[h.len];simpa using this
 refine⟨h.ext,by rw[H3z,h.len];have:=congrArg List.length (aJ ρ x (.sh d));simpa using this.symm,mZ hn hi hl h.sh r,fun j y ds e=>?_,fun j j' y y' ds es a hjj e1 e2 e3 e4=>?_,fun j y dss e=>?_,h.lam⟩
 ·rw[bD hn hi j] at e
  split at e
  ·cases e
  ·rename_i hj
   obtain⟨a,vs,k1,k⟩:=h.ow j y ds e;exact⟨a,vs,by rw[List.getElem?_set_ne (fun z=>hj z.symm)];exact k1,k⟩
 ·rw[bD hn hi] at e1 e2
  split at e1
  ·cases e1
  ·rename_i hj
   split at e2
   ·cases e2
   ·rename_i hj'
    rw[List.getElem?_set_ne (fun z=>hj z.symm)] at e3;rw[List.getElem?_set_ne (fun z=>hj' z.symm)] at e4;exact h.dis j j' y y' ds es a hjj e1 e2 e3 e4
 ·rw[bD hn hi j] at e
  split at e
  ·cases e
  ·rename_i hj
   obtain⟨⟨a,bs,k1,k2⟩,k3⟩:=h.oo j y dss e;refine⟨⟨a,bs,by rw[List.getElem?_set_ne (fun z=>hj z.symm)];exact k1,k2⟩,fun l z s hl' g=>?_⟩;rw[bD hn hi l] at g;split at g
   ·cases g;rfl
   ·exact k3 l z s hl' g
theorem Hd.own{x:Str}{i:Nat}{ds:List D}{vs:List V}{acc:Addr}(h:Hd K lm Hs0 H0 Hs H ρ σ)(hn:(ρ.map (·.1)).Nodup)(hi:(ρ.map (·.1))[i]?=some x)(h1:H acc=some (.lst vs))(r:aH K Hs ds vs)(h2:Hs acc=none)(h3:H0 acc=none)
  (no:∀ (j:Nat) y dss,j≠i->ρ[j]?=some (y,.oo dss)->False) (ap:∀ (j:Nat) y es,j≠i->ρ[j]?=some (y,.ow es)->σ[j]?=some (some (.ref acc))->False):Hd K lm Hs0 H0 Hs H (cT ρ x (.ow ds)) (σ.set i (some (.ref acc))):=by
 have hl:i<σ.length:=by have:=(List.getElem?_eq_some_iff.mp hi).1;rw[h.len];simpa using this
 refine⟨h.ext,by rw[H3z,h.len];have:=congrArg List.length (aJ ρ x (.ow ds));simpa using this.symm,fun j y d e=>?_,fun j y es e=>?_,fun j j' y y' ds' es a hjj e1 e2 e3 e4=>?_,fun j y dss e=>?_,h.lam⟩
 ·rw[bD hn hi j] at e
  split at e
  ·cases e
  ·rename_i hj
   obtain⟨v,k1,k2⟩:=h.sh j y d e;exact⟨v,by rw[List.getElem?_set_ne (fun z=>hj z.symm)];exact k1,k2⟩
 ·rw[bD hn hi j] at e
  split at e
  ·rename_i hj
   subst hj;cases e;exact⟨acc,vs,by rw[List.getElem?_set_self hl],h1,r,h2,h3⟩
  ·rename_i hj
   obtain⟨a,vs',k1,k⟩:=h.ow j y es e;exact⟨a,vs',by rw[List.getElem?_set_ne (fun z=>hj z.symm)];exact k1,k⟩
 ·rw[bD hn hi] at e1 e2
  split at e1
  ·rename_i hj
   split at e2
   ·rename_i hj'
    exact hjj (hj.trans hj'.symm)
   ·rename_i hj'
    subst hj;rw[List.getElem?_set_self hl] at e3;cases e3;rw[List.getElem?_set_ne (fun z=>hj' z.symm)] at e4;exact ap j' y' es hj' e2 e4
  ·rename_i hj
   split at e2
   ·rename_i hj'
    subst hj';rw[List.getElem?_set_self hl] at e4;cases e4;rw[List.getElem?_set_ne (fun z=>hj z.symm)] at e3;exact ap j y ds' hj e1 e3
   ·rename_i hj'
    rw[List.getElem?_set_ne (fun z=>hj z.symm)] at e3;rw[List.getElem?_set_ne (fun z=>hj' z.symm)] at e4;exact h.dis j j' y y' ds' es a hjj e1 e2 e3 e4
 ·rw[bD hn hi j] at e
  split at e
  ·cases e
  ·rename_i hj
   exact(no j y dss hj e).elim
theorem Hd.app{x:Str}{i:Nat}{ds es:List D}{vs:List V}{a:Addr}(h:Hd K lm Hs0 H0 Hs H ρ σ)(hn:(ρ.map (·.1)).Nodup)(hi:ρ[i]?=some (x,.ow ds))(hσ:σ[i]?=some (some (.ref a)))(r:aH K Hs es vs):Hd K lm Hs0 H0 Hs (upd H a (.lst vs)) (cT ρ x (.ow es)) σ:=by
 obtain⟨a',vs',k1,k2,k3,k4,k5⟩:=h.ow i x ds hi;rw[hσ] at k1;cases k1
 have hi':(ρ.map (·.1))[i]?=some x:=by rw[List.getElem?_map,hi];rfl
 refine⟨Ext.acc h.ext k5 k4,by rw[h.len];have:=congrArg List.length (aJ ρ x (.ow es));simpa using this.symm,fun j y d e=>?_,fun j y es' e=>?_,fun j j' y y' ds' es' b hjj e1 e2 e3 e4=>?_,fun j y dss e=>?_,fun p hp=>by obtain⟨h0,l,T,n⟩:=h.lam p hp;exact⟨h0,l,T.upd k2,n⟩⟩
 ·rw[bD hn hi' j] at e
  split at e
  ·cases e
  ·exact h.sh j y d e
 ·rw[bD hn hi' j] at e
  split at e
  ·rename_i hj
   subst hj;cases e;exact⟨a,vs,hσ,aB,r,k4,k5⟩
  ·rename_i hj
   obtain⟨b,us,g1,g2,g⟩:=h.ow j y es' e;refine⟨b,us,g1,?_,g⟩;rw[ak]
   ·exact g2
   ·rintro rfl
    exact h.dis j i y x es' ds b hj e hi g1 hσ
 ·rw[bD hn hi'] at e1 e2
  split at e1
  ·rename_i hj
   split at e2
   ·rename_i hj'
    exact hjj (hj.trans hj'.symm)
   ·subst hj
    exact h.dis j j' x y' ds es' b hjj hi e2 e3 e4
  ·split at e2
   ·rename_i hj'
    subst hj';exact h.dis j j' y x ds' ds b hjj e1 hi e3 e4
   ·exact h.dis j j' y y' ds' es' b hjj e1 e2 e3 e4
 ·rw[bD hn hi' j] at e
  split at e
  ·cases e
  ·rename_i hj
   exact nomatch (h.oo j y dss e).2 i x _ (fun w=>hj w.symm) hi
theorem vI{x:Str}{i:Nat}(hn:(ρ.map (·.1)).Nodup)(hi:(ρ.map (·.1))[i]?=some x)(h:xZ ρ x=true):∀ (j:Nat) y dss,j≠i->ρ[j]?=some (y,.oo dss)->False:=fun j y dss hj e=>by
 have:=List.all_eq_true.mp h _ (List.mem_of_getElem? e);rw[P3z] at this;rcases this with q | q
 ·have ey:y=x:=by simpa using q
  have e':(ρ.map (·.1))[j]?=some x:=by rw[List.getElem?_map,e,<- ey];rfl
  exact hj ((List.getElem?_inj (List.getElem?_eq_some_iff.mp e').1 hn).mp (e'.trans hi.symm))
 ·exact nomatch q
theorem qI{scope:Scope}:j8 K Hs scope (fun ρ σ=>Hd K lm Hs0 H0 Hs H ρ σ):=fun ρ σ i x d v hn hi _ h r=>h.set hn hi r
end
end L2
namespace L2
open PySem PySem.Spec PyProof.Rows PySem.SeqAt
open DE hiding st
def fW(X:Cx)(s:Stmt):TS:=fun D σ H=>∀ z0 s0,Inv X z0 σ H s0->wpAny (model X.prog X.w) X.A (exec s X.env) (SP X z0 D) X.xe s0
def dX(X:Cx)(s:List Stmt):TS:=fun D σ H=>∀ z0 s0,Inv X z0 σ H s0->wpAny (model X.prog X.w) X.A (execs s X.env) (SP X z0 D) X.xe s0
section
variable {X:Cx} {s:Stmt} {ss:List Stmt} {t:TS} {D:Ends} {σ:St} {H:Hp}
theorem jQ:PS X s (fW X s):=fun z0 s σ H D I h=>h z0 s I
theorem PS.sem(h:PS X s t)(q:t D σ H):fW X s D σ H:=fun z0 s I=>h z0 s σ H D I q
theorem bf:PSs X ss (dX X ss):=fun z0 s σ H D I h=>h z0 s I
theorem PSs.sem(h:PSs X ss t)(q:t D σ H):dX X ss D σ H:=fun z0 s I=>h z0 s σ H D I q
end
def Runs(X:Cx)(Hs0 H0:Hp)(ρ:Rho)(fl:Fl)(t:TS):Prop:=∀ σ H Hs D,Hd X.K X.lm Hs0 H0 Hs H ρ σ->X.N=ρ.map (·.1)->(∀ ρ' σ' Hs' H',fl=.nxt ρ'->Same Hs Hs'->X.N=ρ'.map (·.1)->Hd X.K X.lm Hs0 H0 Hs' H' ρ' σ'->D.nx σ' H') ->
 (∀ d v Hs' H',fl=.ret d->Ext Hs0 H0 Hs' H'->Rep X.K Hs' d v->LmT X.lm H'->D.rt v H')->t D σ H
structure GoodS (cx:Cxt) (k:Nat) (X:Cx) (sc:Scope):Prop where
 good:Good cx k X sc
 own:Owns X sc
 pass:PassesOwn (model X.prog X.w) X.A X.env X.xe
 stk:X.stack=X.env::X.outer/\X.env.frame=some X.env.locals
section
variable {X:Cx} {ρ:Rho} {cx:Cxt} {k F:Nat} {sc scope:Scope} {Hs0 H0:Hp} {e:Expr} {d:D}
theorem zX(G:GoodS cx k X sc)(hN:X.N=ρ.map (·.1))(he:ev cx F sc (frz F e ρ) e=some d){σ:St}{H Hs:Hp}{Q:VK}(h:Hd X.K X.lm Hs0 H0 Hs H ρ σ)(q:∀ v Hs' H',Same Hs Hs'->Hd X.K X.lm Hs0 H0 Hs' H' (frz F e ρ) σ->Rep X.K Hs' d v->Q v H'):fU X e σ H Q:=by
 obtain⟨Hs1,sm1,h1⟩:=h.frozen F e;exact(cH cx F G.good (by rw[aM];exact hN) he).1 σ H Hs1 Q h1.ext.sub h1.sh fun v H' Hs' E r=>q v Hs' H' (sm1.trans E.vis) (h1.step E) r
theorem wG(G:GoodS cx k X sc)(hN:X.N=ρ.map (·.1)){b:Bool}(he:ev cx F sc (frz F e ρ) e=some (.bl b)){σ:St}{H Hs:Hp}{Q:Bool->Hp->Prop}(h:Hd X.K X.lm Hs0 H0 Hs H ρ σ)(q:∀ Hs' H',Same Hs Hs'->Hd X.K X.lm Hs0 H0 Hs' H' ρ σ->Q b H'):kj X e σ H Q:=by
 obtain⟨Hs1,sm1,shp,h1⟩:=h.frozen2 F e;refine(cH cx F G.good (by rw[aM];exact hN) he).2 b rfl σ H Hs1 Q h1.ext.sub h1.sh fun H' Hs' E=>?_;obtain⟨Hs3,E3,_⟩:=gk (K:=X.K) (d:=.bl b) (v:=.bl b) h.ext.sub sm1 shp E rfl (by simp[Rep]);exact q Hs3 H' E3.vis (h.step E3)
theorem dI{t:Option Expr}{l:Nat}{env:Env}(he:ev cx F sc ρ e=some d)(hc:∀ a b c p,e≠.ListComp a b c p):swapsWith e t l env=pure false:=by
 cases F with
 | zero=>simp[ev] at he
 | succ F =>
  cases e<;>first | rfl | (exact nomatch (show(Option.none:Option D)=some d from he)) | (exact absurd rfl (hc _ _ _ _))
theorem yu(h:aX e=false):mX e d=.sh d:=by
 unfold mX;split
 ·rw[h];rfl
 ·rfl
def Rb(X:Cx)(ρ:Rho)(e:Expr)(ds:List D):Prop:=∀ σ H Hs Q,Same Hs H->bV X.K Hs ρ σ->(∀ acc vs Hs' H',Ext Hs H Hs' H'->H acc=none->Hs' acc=none->H' acc=some (.lst vs)->aH X.K Hs' ds vs->Q (.ref acc) H')->fU X e σ H Q
theorem yS{es:List Expr}{ds:List D}{pos:Pos}(h:EvA X ρ es ds)(hz:szl ds.length=true):Rb X ρ (.List es pos) ds:=fun σ H Hs Q hs hst hq =>
 (jT cG).sem (h σ H Hs _ hs hst fun vs H1 Hs1 E1 r1=>⟨by rw[<- r1.length];exact fJ hz,fun p hp =>
  hq p vs Hs1 _ (Ext.acc E1 (E1.all.free hp) (E1.sub.free hp)) (E1.all.free hp) (E1.sub.free hp) aB r1⟩)
theorem nQ{elt:Expr}{gens:List Comprehension}{pos:Pos}{n:Nat}(G:Good cx k X sc)(hN:X.N=ρ.map (·.1))(he:ev cx (n+1) sc ρ (.ListComp elt gens scope pos)=some d) :
    ∃ tg iter ifs l out, gens = [⟨tg, iter, ifs, 0⟩] /\ gW sc scope = true /\ EvI X ρ tg iter l /\ aF iter = true /\ szl l.length = true /\ dw (pN cx n sc scope ρ tg elt ifs) l = some out /\ d = .lst out /\
      (∀ Xc,CompOf X scope Xc->∀ ρ1:Rho,Xc.N=ρ1.map (·.1)->∀ e d,ev cx n (oW scope sc) ρ1 e=some d->Ev Xc ρ1 e d/\∀ b,d=.bl b->EvT Xc ρ1 e b):=by
  simp only[ev] at he
  split at he
  · rename_i tg iter ifs a
    split at he
    · rename_i hok
      rw[W2z] at hok
      have ea:a=0:=by simpa using hok.1
      subst ea
      obtain⟨l,h1,he⟩:=aO he
      split at he
      · rename_i hz
        obtain⟨out,h2,he⟩:=aO he
        cases he
        obtain⟨hI,hp⟩:=wN (tg:=tg) G (fun e d h=>⟨(cH cx n G hN h).1,aQ h⟩) h1
        exact⟨tg,iter,ifs,l,out,rfl,hok.2,hI,hp,hz,h2,rfl,fun Xc C ρ1 hN1 e d he=>cH cx n (G.comp C hok.2) hN1 he⟩
      · cases he
    · cases he
  · cases he
theorem Dp{a b:Expr}{ds:List D}{j:Int}{pos:Pos}(ha:Ev X ρ a (.lst ds))(hb:Ev X ρ b (.int j))(h1:j<=1000)(h2:-1000<=j)(hz:szl (ds.length*j.toNat)=true):Rb X ρ (.BinOp a .Mult b pos) (List.replicate j.toNat ds).flatten:=fun σ H Hs Q hs hst hq=>by
 refine(iu vp ao ao).sem (ha σ H Hs _ hs hst fun u H1 Hs1 E1 r1=>hb σ H1 Hs1 _ E1.sub (hst.same E1.vis) fun v H2 Hs2 E2 r2=>?_);obtain⟨p,us,rfl,g1,g2⟩:=bM (Rep.same E2.vis _ _ r1);have l1:=g2.length;have E:=E1.trans E2;exact⟨p,_,us,rfl,aG r2,E2.sub.seq g1,by omega,by omega,by have:=fJ hz;rw[<- l1];exact this,fun q hq'=>hq q _ Hs2 _ (Ext.acc E (E.all.free hq') (E.sub.free hq')) (E.all.free hq') (E.sub.free hq') aB (g2.rep _)⟩
theorem qb{x:Str}{ds:List D}{px pos:Pos}(G:GoodS cx k X sc)(hN:X.N=ρ.map (·.1))(hx:ownIn sc x=true)(hc:(ρ.map (·.1)).contains x=true)(hno:xZ (frz F e ρ) x=true)
  (hrun:∀ (i:Nat),X.N[i]?=some x->∀ σ H Hs D,Same Hs H->bV X.K Hs (frz F e ρ) σ->(∀ acc vs Hs' H',Ext Hs H Hs' H'->H acc=none->Hs' acc=none->H' acc=some (.lst vs)->aH X.K Hs' ds vs->D.nx (σ.set i (some (.ref acc))) H')->fW X (.Assign [.Name x px] e pos) D σ H) :
  Runs X Hs0 H0 ρ (.nxt (cT (frz F e ρ) x (.ow ds))) (fW X (.Assign [.Name x px] e pos)):=by
 intro σ H Hs D h _ hn hr;obtain⟨i,hi⟩:=bU hc;obtain⟨Hs1,sm1,h1⟩:=h.frozen F e
 have hnd:((frz F e ρ).map (·.1)).Nodup:=by rw[aM,<- hN];exact G.good.nd
 refine hrun i (by rw[hN];exact hi) σ H Hs1 D h1.ext.sub h1.sh fun acc vs Hs' H' E a1 a2 a3 r=>?_
 refine hn _ _ Hs' H' rfl (sm1.trans E.vis) (by rw[aJ,aM];exact hN) ((h1.step E).own hnd (by rw[aM];exact hi) a3 r a2 (h1.ext.all.free a1) (vI hnd (by rw[aM];exact hi) hno) fun j y es hj q1 q2=>?_)
 obtain⟨b,us,k1,k2,_⟩:=h1.ow j y es q1;rw[k1] at q2;cases q2;rw[a1] at k2;cases k2
theorem uH{x:Str}{px pos:Pos}(G:GoodS cx k X sc)(hN:X.N=ρ.map (·.1))(hx:ownIn sc x=true)(hc:(ρ.map (·.1)).contains x=true)(hno:aX e=true->xZ (frz F e ρ) x=true)(he:ev cx F sc (frz F e ρ) e=some d) :
  Runs X Hs0 H0 ρ (.nxt (cT (frz F e ρ) x (mX e d))) (fW X (.Assign [.Name x px] e pos)):=by
 obtain⟨ox,of⟩:=G.own.own x hx
 have hN':X.N=(frz F e ρ).map (·.1):=by rw[aM];exact hN
 by_cases hfr:aX e=true
 ·cases F with
  | zero=>simp[ev] at he
  | succ F =>
   cases e with
   | List es p2 =>
    simp only[ev] at he;obtain⟨ds,h1,he⟩:=aO he;split at he
    ·rename_i hz
     cases he;have hA:=(dH (fun e _ d hd=>⟨(cH cx F G.good hN' hd).1,aQ hd⟩) h1).1;refine qb G hN hx hc (hno rfl) fun i hi σ H Hs D hs hst hq=>?_;refine PS.sem (cU G.good.nd hi ox ao rfl of) (yS hA hz σ H Hs _ hs hst fun acc vs Hs' H' E a1 a2 a3 r=>hq acc vs Hs' H' E a1 a2 a3 r)
    ·cases he
   | ListComp elt gens scope p2 =>
    obtain⟨tg,iter,ifs,l,out,rfl,hok,hI,hp,hz,hgo,rfl,hE⟩:=nQ G.good hN' he;obtain⟨ok1,ok2,ok3⟩:=cW G.good hok;refine qb G hN hx hc (hno rfl) fun i hi σ H Hs D hs hst hq=>?_
    have rd:uD X scope (uy X tg iter) (tM X.N scope.names) (fun Xc=>Et Xc tg) (fun Xc=>wu Xc ifs) (fun Xc=>fU Xc elt) σ H (fun v H1=>D.nx (σ.set i (some v)) H1) :=
     jy G.good hN' hok hI hz hgo hE hs hst fun acc vs Hs' H' E a1 a2 a3 r=>hq acc vs Hs' H' E a1 a2 a3 r
    cases hsw:(X.env.blockKind==.function&&X.env.kindOf x==some .local&&px.line==p2.line && !(scope.names.any fun(n,k)=>n==x&&(k==.local||k==.cell))) with
    | true =>
     have e1:swapsWith (.ListComp elt [⟨tg,iter,ifs,0⟩] scope p2) (some (.Name x px)) pos.line X.env=pure true:=by rw[<- hsw];rfl
     rw[W2z,W2z,W2z] at hsw
     have hl:X.env.scope.names.lookup x=some .local:=by simpa[Env.kindOf] using hsw.1.1.2
     exact PS.sem (Dd G.good.nd hi hl G.good.calm ok1 ok2 ok3 jR (fun Xc C=>⟨gQ,fY,ao⟩) (dO hp) e1) rd
    | false =>
     have e1:swapsWith (.ListComp elt [⟨tg,iter,ifs,0⟩] scope p2) (some (.Name x px)) pos.line X.env=pure false:=by rw[<- hsw];rfl
     exact PS.sem (cU G.good.nd hi ox (lB G.good.calm ok1 ok2 ok3 jR (fun Xc C=>⟨gQ,fY,ao⟩) (dO hp)) e1 of) rd
   | BinOp a op b p2 =>
    have hno':=hno hfr;simp only[aX,W2z] at hfr;obtain⟨q1,q2⟩:=hfr
    cases op<;>simp[Uc] at q2
    cases a with
    | List es p3 =>
     simp only[ev] at he;obtain⟨dx,h1,he⟩:=aO he;obtain⟨dy,h2,he⟩:=aO he
     have hl:∃ ds0,dx=.lst ds0:=by
      cases F with
      | zero=>simp[ev] at h1
      | succ F =>
       simp only[ev] at h1;obtain⟨ds0,_,h1⟩:=aO h1;split at h1
       ·cases h1;exact⟨_,rfl⟩
       ·cases h1
     obtain⟨ds0,rfl⟩:=hl
     cases dy with
     | int j =>
      simp only[binop] at he;split at he
      ·rename_i hz
       cases he;rw[W2z,W2z,J2z,J2z] at hz;have e1:=(cH cx F G.good hN' h1).1;have e2:=(cH cx F G.good hN' h2).1;refine qb G hN hx hc hno' fun i hi σ H Hs D hs hst hq=>?_;refine PS.sem (cU G.good.nd hi ox ao rfl of) (Dp e1 e2 hz.1.1 hz.1.2 hz.2 σ H Hs _ hs hst fun acc vs Hs' H' E a1 a2 a3 r=>hq acc vs Hs' H' E a1 a2 a3 r)
      ·cases he
     | _=>simp[binop] at he
    | _=>exact absurd (show false=true from q1) Q1z
   | _=>simp[aX] at hfr
 ·have hfr':aX e=false:=by simpa using hfr
  rw[yu hfr'];intro σ H Hs D h _ hn hr;obtain⟨i,hi⟩:=bU hc
  have hsw:=dI (t:=some (.Name x px)) (l:=pos.line) (env:=X.env) he fun a b c p q=>by rw[q] at hfr';cases hfr'
  refine PS.sem (cU (i:=i) G.good.nd (by rw[hN];exact hi) ox ao hsw of) (zX G hN he h fun v Hs' H' sm h' r=>?_)
  exact hn _ _ Hs' H' rfl sm (by rw[aJ];exact hN') (h'.set (by rw[<- hN'];exact G.good.nd) (by rw[aM];exact hi) r)
theorem tK{es:List Expr}{l:List D}{ρ':Rho}{σ:St}{v:V}{Hs H:Hp}{P:Rho->St->Prop}{Q:St->Hp->Prop}{kt:Nat}{pos:Pos}(G:GoodS cx k X sc)(hs:Same Hs H)(hN:X.N=ρ.map (·.1))(KE:j8 X.K Hs sc P)(hl:items d=some l)(hb:bindNames sc es l ρ=some ρ')(hp:P ρ σ)(rd:Rep X.K Hs d v)
  (hq:∀ σ',X.N=ρ'.map (·.1)->P ρ' σ'->Q σ' H):Et X (.Tuple es kt pos) v σ H Q:=by
 obtain⟨e1,e2,e3⟩:=fu (env:=X.env) hb
 cases d with
 | tup xs =>
  simp only[items,K2z] at hl;subst hl
  obtain⟨a,vs,rfl,h1,h2⟩:=bH rd;exact PG.sem (Bc G.good.calm lq e1 e2) ⟨a,vs,rfl,hs.tup h1,by rw[<- h2.length,e3],fG G.own G.good.nd KE hN hb hp h2 hq⟩
 | lst xs =>
  simp only[items,K2z] at hl;subst hl
  obtain⟨a,vs,rfl,h1,h2⟩:=bM rd;exact PG.sem (HF G.good.calm lq e1 e2) ⟨a,vs,rfl,hs.seq h1,by rw[<- h2.length,e3],fG G.own G.good.nd KE hN hb hp h2 hq⟩
 | _=>simp[items] at hl
theorem qC{n:Nat}(h:nc0 e=true):foldedForSure n e=false/\constantsAlone n e=false:=by
 cases e<;>simp[nc0] at h<;>(constructor<;>simp[foldedForSure,constantsAlone,h])
theorem IV{n:Nat}(h:nc1 e=true):constantsAlone (n+1) e=false:=by
 unfold nc1 at h;split at h
 ·simp[constantsAlone,(qC (n:=n) h).2]
 ·exact(qC h).2
theorem zc(h:nc e=true):foldedForSure 8 e=false/\constantsAlone 8 e=false:=by
 unfold nc at h;split at h
 ·rw[P3z] at h
  refine⟨by simp[foldedForSure],?_⟩
  rcases h with h | h<;>simp[constantsAlone,(qC (n:=7) h).2]
 ·rw[P3z] at h
  refine⟨by simp[foldedForSure],?_⟩
  rcases h with h | h<;>simp[constantsAlone,(IV (n:=6) h)]
 ·exact qC h
theorem mq(G:Good cx k X sc):X.env.blockKind=.function:=by
 unfold Env.blockKind;rw[G.sce,G.kind];rfl
theorem Hg{es:List Expr}{kt:Nat}{pt:Pos}(G:Good cx k X sc)(h:swp sc es e=some false):swappedStores [.Tuple es kt pt] e X.env=pure none:=by
 cases e with
 | Tuple vs k2 p2 =>
  simp only[swp] at h;split at h
  ·rename_i x px y py a b
   split at h
   ·split at h
    ·cases h
    ·split at h
     ·rename_i hcs
      rw[W2z] at hcs
      have f1:foldedForSure 8 a=true:=by cases a<;>first | rfl | (simp[zN] at hcs)
      have f2:foldedForSure 8 b=true:=by cases b<;>first | rfl | (simp[zN] at hcs)
      have al1:[a,b].all (foldedForSure 8)=true:=by simp[f1,f2]
      unfold swappedStores;simp only[al1,C5z]
      repeat' split
      all_goals rfl
     ·cases h
   ·rename_i hl
    have hl':¬ ((X.env.kindOf x==some .local)=true/\(X.env.kindOf y==some .local)=true):=by
     intro q;apply hl;rw[W2z];unfold Env.kindOf at q;rw[G.sce] at q;exact q
    unfold swappedStores
    cases h1:X.env.kindOf x==some .local<;>cases h2:X.env.kindOf y==some .local
    all_goals simp only[h1,h2] at hl'
    all_goals simp[h1,h2,mq G]
    ·intro _ _ hlen
     exfalso
     have n1:¬ X.env.kindOf x=some .local:=by simpa using h1
     have n2:¬ X.env.kindOf y=some .local:=by simpa using h2
     simp[E1z,n1,n2] at hlen
    ·intro _ _ hlen
     exfalso
     have n1:¬ X.env.kindOf x=some .local:=by simpa using h1
     simp only[E1z,List.filterMap_nil,n1,false_and,A5z] at hlen
     split at hlen<;>simp at hlen
    ·intro _ _ hlen
     exfalso
     have n1:¬ X.env.kindOf y=some .local:=by simpa using h2
     simp only[E1z,List.filterMap_nil,n1,false_and,A5z] at hlen
     split at hlen<;>simp at hlen
    ·exact absurd ⟨trivial,trivial⟩ hl'
  ·rename_i x px y py z pz a b c
   split at h
   ·rename_i hl
    simp only[W2z] at hl;obtain⟨⟨l1,l2⟩,l3⟩:=hl
    have kd:∀ {v:Str},(sc.names.lookup v==some NameKind.cell)=true->¬ X.env.kindOf v=some .local:=fun {v} hv q=>by
     unfold Env.kindOf at q;rw[G.sce,eq_of_beq hv] at q;cases q
    have n1:=kd l1;have n2:=kd l2;have n3:=kd l3;unfold swappedStores
    have b1:(X.env.kindOf x==some NameKind.local)=false:=by simpa using n1
    have b2:(X.env.kindOf y==some NameKind.local)=false:=by simpa using n2
    have b3:(X.env.kindOf z==some NameKind.local)=false:=by simpa using n3
    simp[mq G,E1z,b1,b2,b3,n1,n2,n3]
   ·cases h
  ·cases h
 | _=>rfl
theorem Cj{es:List Expr}{kt:Nat}{pt:Pos}(G:Good cx k X sc)(h:swp sc es e=some true):∃ x px y py a b k2 p2,es=[.Name x px,.Name y py]/\e=.Tuple [a,b] k2 p2/\X.env.scope.names.lookup x=some .local/\X.env.scope.names.lookup y=some .local/\x≠y/\aF a=true/\aF b=true /\
    swappedStores [.Tuple es kt pt] e X.env=pure (some [x,y]):=by
  cases e with
  | Tuple vs k2 p2 =>
    simp only[swp] at h
    split at h
    · rename_i x px y py a b
      split at h
      · rename_i hl
        split at h
        · rename_i hq
          rw[W2z] at hl
          rw[W2z,W2z,W2z,W2z,P3z] at hq
          obtain⟨⟨⟨⟨q1,q2⟩,q3⟩,q4⟩,q5⟩:=hq
          have l1:X.env.kindOf x=some .local:=by unfold Env.kindOf;rw[G.sce];simpa using hl.1
          have l2:X.env.kindOf y=some .local:=by unfold Env.kindOf;rw[G.sce];simpa using hl.2
          have hxy:x≠y:=by simpa using q2
          have hpl : py.line = px.line := by have : px.line = py.line := by simpa using q1
                                             exact this.symm
          have f1:(foldedForSure 8 a&&foldedForSure 8 b)=false:=by
            rcases q3 with q | q
            · rw[(zc q).1];rfl
            · rw[(zc q).1,V3z]
          have f2:(constantsAlone 8 a&&constantsAlone 8 b)=false:=by
            rcases q3 with q | q
            · rw[(zc q).2];rfl
            · rw[(zc q).2,V3z]
          refine⟨x,px,y,py,a,b,k2,p2,rfl,rfl,l1,l2,hxy,q4,q5,?_⟩
          unfold swappedStores
          have ed:([x,y]:List Str).eraseDups.length=2:=by
            have:(y==x)=false:=by simpa using hxy.symm
            simp[List.eraseDups_cons,this]
          have al1:[a,b].all (foldedForSure 8)=false:=by simpa using f1
          have al2:[a,b].all (constantsAlone 8)=false:=by simpa using f2
          simp only[al1,al2,mq G]
          generalize hst:[a,b].any _=sb
          have hsb:sb=false:=by
            rw[<- hst,C4z,C4z,List.any_nil,Bool.or_false,Bool.or_eq_false_iff]
            clear hst f1 f2 al1 al2 q3
            refine⟨?_,?_⟩
            · cases a<;>first | rfl | (simp[aF] at q4)
            · cases b<;>first | rfl | (simp[aF] at q5)
          generalize hf:List.filterMap _ [Expr.Name x px,Expr.Name y py]=nm
          have hnm:nm=[x,y]:=by
            rw[<- hf]
            simp[E1z,l1,l2,hpl,Expr.pos]
          rw[hsb,hnm]
          simp only[ed]
          rfl
        · split at h<;>cases h
      · cases h
    · split at h<;>cases h
    · cases h
  | _=>simp[swp] at h
end
def XOk(X:Cx)(σ:St)(E:XK):Prop:=∀ z0 H s e s',Inv X z0 σ H s->CX1 X.prog X.w X.stack H s E e s'->X.xe e s'
def xX(X:Cx)(σ:St)(E:XK):Prop:=∀ z0 H s (C e:Addr) h' args,Inv X z0 σ H s->Heap.MadeExcOf s.heap h' e (.ref C) args->E (.ref C) none H->X.xe (.ref e) { s with heap:=h' }
def EX(X:Cx)(c:Str)(Hs H:Hp)(E:XK):Prop:=∀ C H' Hs',PySem.W.nsIn X.K mainGlobals c=some (some (.ref C))->Ext Hs H Hs' H'->E (.ref C) none H'
theorem EX.step{X:Cx}{c:Str}{Hs H Hs1 H1:Hp}{E:XK}(h:EX X c Hs H E)(e:Ext Hs H Hs1 H1):EX X c Hs1 H1 E:=fun C H' Hs' hn e'=>h C H' Hs' hn (e.trans e')
def EvX(X:Cx)(ρ:Rho)(e:Expr)(c:Str):Prop:=∀ σ H Hs E,Same Hs H->bV X.K Hs ρ σ->EX X c Hs H E->XOk X σ E->∀ Q,fU X e σ H Q
def Um(X:Cx)(ρ:Rho)(es:List Expr)(c:Str):Prop:=∀ σ H Hs E,Same Hs H->bV X.K Hs ρ σ->EX X c Hs H E->XOk X σ E->∀ Q,uz X es σ H Q
section
variable {X:Cx} {ρ:Rho} {cx:Cxt} {k:Nat} {sc scope:Scope}
theorem uT{f:Addr}{fd:FuncData}{ps:List Str}{sp:Sp}{E:XK}{z0:List (Addr×Obj)}{σ:St}{H:Hp}{s:Shared}{Q:VK}{us:List Value}{vs:List V}(F:FnOk X.prog X.w X.K X.mg X.base (CX1 X.prog X.w) k f fd ps sp)(hr:Room k X.A)(hb:Binds X.K fd ps [])(hx:XOk X σ E)
  (I:Inv X z0 σ H s) (r:Vals vs us) (h:sp vs H Q E):wpAny (model X.prog X.w) X.A (call (.ref f) us) (EP X z0 σ Q) X.xe s:=by
 have hl:(us++([]:List Value)).length=ps.length:=by rw[E3z,<- r.length];exact F.len _ _ _ _ h
 have hb':=hb s us I.kIn hl;rw[E3z] at hb';refine wpAny_call (J4z (F.run X.A X.stack s H ⟨us,[]⟩ us vs Q E hr I.env0 hb' r h) fun r s' hq=>?_)
 cases r with
 | error e=>exact hx z0 H s e s' I hq
 | ok fl =>
  cases fl with
  | ret u=>exact I.after hq
  | next=>exact False.elim hq
  | brk=>exact False.elim hq
  | cont=>exact False.elim hq
theorem BR{f:Expr->Option D}{g:Expr->Option Str}{c:Str}(hf:∀ e d,f e=some d->Ev X ρ e d)(hg:∀ e c,g e=some c->EvX X ρ e c):∀ {es:List Expr},(∀ e∈es,aF e=true)->xW f g es=some c->Um X ρ es c
 | [],_,h=>by simp[xW] at h
 | e::es,hp,h=>by
  simp only[xW] at h;intro σ H Hs E hs hst hE hx Q;refine(au ao cG (aj (hp e (by simp)))).sem ?_
  cases he:f e with
  | some d =>
   rw[he] at h;exact hf e d he σ H Hs _ hs hst fun v H1 Hs1 E1 _=>BR hf hg (fun e' h'=>hp e' (W0z _ h')) h σ H1 Hs1 E E1.sub (hst.same E1.vis) (hE.step E1) hx _
  | none =>
   rw[he] at h;exact hg e c h σ H Hs E hs hst hE hx _
theorem zY{f:Str}{es:List Expr}{c:Str}{p pos:Pos}(G:Good cx k X sc)(hg:Gl X f)(hf:cx.fns.contains f=true)(hne:es≠[])(hp:∀ e∈es,aF e=true)(h:Um X ρ es c\/∃ ds,EvA X ρ es ds/\cx.callx f ds=some c) :
  EvX X ρ (.Call (.Name f p) es [] pos) c:=by
 obtain⟨hdb,a,fd,ps,_,har,hm,hk,hb,F⟩:=G.fns f hf
 cases es with
 | nil=>exact absurd rfl hne
 | cons e es =>
  intro σ H Hs E hs hst hE hx Q z0 s I;refine S1z (eX I hg hm ?_ hdb);refine T1z (h₀:=X.base) I.ok.mod.kin hk ?_ (aj (hp e (by simp))) (dJ fun e' he=>hp e' (W0z _ he));rcases h with h | ⟨ds,hA,hc⟩
  ·exact thn (h σ H Hs E hs hst hE hx (fun _ _=>False) pos z0 s I) fun us s1 ⟨vs,H1,I1,r,q⟩=>q.elim
  ·refine thn (hA σ H Hs (fun vs H1=>∃ Hs1,Ext Hs H Hs1 H1/\aH X.K Hs1 ds vs) hs hst (fun vs H1 Hs1 E1 r1=>⟨Hs1,E1,r1⟩) pos z0 s I) fun us s1 ⟨vs,H1,I1,r,Hs1,E1,r1⟩=>⟨I1.kIn,?_⟩
   exact uT F G.room hb hx I1 r ⟨by rw[<- r1.length,har ds c hc],Hs1,ds,E1.sub,r1,.inr ⟨c,hc,hE.step E1⟩⟩
theorem Fj{x:Str}{a:Expr}{k':Keyword}{c:Str}{p pos:Pos}(G:Good cx k X sc)(hx:aU cx sc x=some "max")(hk:(QL k').isSome=true)(h:EvX X ρ a c)(hp:aF a=true):EvX X ρ (.Call (.Name x p) [a] [k'] pos) c:=by
 obtain⟨hg,hm,rfl⟩:=bK G hx;obtain⟨ka,kv,kp⟩:=k';obtain⟨i,hi⟩:=Option.isSome_iff_exists.mp hk;unfold QL at hi;split at hi
 ·rename_i q
  have e:ka=some "default":=by simpa using q
  subst e;intro σ H Hs E hs hst hE hx Q z0 s I;have he:starEach [a] X.env=(false,eval a X.env)::starEach [] X.env:=aj hp
  have hbt:backTo pos (starEach [a] X.env)=(false,eval a X.env)::backTo pos (starEach [] X.env):=by rw[he];rfl
  refine S1z (d8 (u:=.builtin "max") I hg hm (by decide +kernel) ?_ (by decide) (by decide));refine PyProof.Rows.callWith_kw ?_ hbt (by rw[hbt];rfl) rfl rfl;exact thn (au ao aK he pos z0 s σ H (fun _ _=>False) I (h σ H Hs E hs hst hE hx _)) fun us s1 ⟨vs,H1,I1,r,q⟩=>q.elim
 ·cases hi
theorem gR(cx:Cxt):∀ (n:Nat) {k:Nat} {X:Cx} {sc:Scope} {ρ:Rho} {e:Expr} {c:Str},Good cx k X sc->X.N=ρ.map (·.1)->evx cx n sc ρ e=some c->EvX X ρ e c
 | 0,k,X,sc,ρ,e,c,_,_,h=>by exact nomatch (show(Option.none:Option Str)=some c from h)
 | n+1,k,X,sc,ρ,e,c,G,hN,h=>by
  have ih:∀ e d,ev cx n sc ρ e=some d->Ev X ρ e d/\∀ b,d=.bl b->EvT X ρ e b:=fun e d h=>cH cx n G hN h;simp only[evx] at h;split at h
  ·rename_i x p args pos
   split at h
   ·rename_i hc
    simp only[W2z] at hc;obtain⟨⟨⟨hgl,hne⟩,hpl⟩,hfn⟩:=hc
    have hg:Gl X x:=by
     have e:sc.names.lookup x=some .globalImplicit:=by unfold pB at hgl;simpa using hgl
     show X.env.scope.names.lookup x=_;rw[G.sce,e]
    have hp:∀ e∈args,aF e=true:=fun e he=>List.all_eq_true.mp hpl e he;refine zY G hg hfn (fun q=>by rw[q] at hne;exact absurd hne (by decide)) hp ?_;split at h
    ·rename_i ds hds
     exact .inr ⟨ds,(dH (fun e _ d hd=>⟨(ih e d hd).1,aQ hd⟩) hds).1,h⟩
    ·exact .inl (BR (fun e d h=>(ih e d h).1) (fun e c h=>gR cx n G hN h) hp h)
   ·cases h
  ·simp at h
  ·rename_i x p a k' pos
   split at h
   ·rename_i hc
    simp only[W2z] at hc;obtain⟨⟨h1,h2⟩,h3⟩:=hc;exact Fj G (by simpa using h1) h2 (gR cx n G hN h) h3
   ·cases h
  ·rename_i cc a b pos
   split at h
   ·rename_i hc
    have hc':=(ih _ _ (dF hc)).2 _ rfl;have ha:=gR cx n G hN h;intro σ H Hs E hs hst hE hx Q;exact(lA cL ao ao).sem (hc' σ H Hs _ hs hst fun H1 Hs1 E1=>jZ (ha σ H1 Hs1 E E1.sub (hst.same E1.vis) (hE.step E1) hx Q))
   ·rename_i hc
    have hc':=(ih _ _ (dF hc)).2 _ rfl;have ha:=gR cx n G hN h;intro σ H Hs E hs hst hE hx Q;exact(lA cL ao ao).sem (hc' σ H Hs _ hs hst fun H1 Hs1 E1=>jL (ha σ H1 Hs1 E E1.sub (hst.same E1.vis) (hE.step E1) hx Q))
   ·cases h
  ·rename_i a op b pos
   split at h
   ·rename_i hp
    have ha:=gR cx n G hN h;intro σ H Hs E hs hst hE hx Q;exact(lC (fK G.room op) ao ao (bW hp)).sem (ha σ H Hs E hs hst hE hx _)
   ·cases h
  ·rename_i elt tg iter ifs a scope pos
   split at h
   ·rename_i hc
    simp only[W2z] at hc;obtain⟨⟨ha,hok⟩,hp⟩:=hc
    have ea:a=0:=by simpa using ha
    subst ea;obtain⟨ok1,ok2,ok3⟩:=cW G hok;have hi:=gR cx n G hN h;intro σ H Hs E hs hst hE hx Q;refine PE.sem (lB G.calm ok1 ok2 ok3 jR (fun Xc C=>⟨gQ,fY,ao⟩) (dO hp)) ?_;intro z0 s I;exact thn (hi σ H Hs E hs hst hE hx (fun _ _=>False) z0 s I) fun v s1 ⟨_,_,_,_,q⟩=>q.elim
   ·cases h
  ·cases h
end
section
variable {X:Cx} {ρ:Rho} {cx:Cxt} {k F:Nat} {sc scope:Scope} {Hs0 H0:Hp} {e:Expr} {d:D}
theorem El{y:Expr}(h:JZ cx sc y=true):Al cx sc "list" [y]=.al/\aF y=true:=by
 unfold JZ at h;split at h
 ·exact⟨rfl,rfl⟩
 ·rename_i f p1 as p2
  rw[W2z] at h
  have hb:aU cx sc f=none:=by
   unfold aU;rw[D5z h.1]
   cases q:cx.blt.lookup f with
   | none=>rfl
   | some z=>rw[q] at h;exact absurd h.2 (by simp)
  refine⟨?_,rfl⟩;simp only[Al,BZ,hb];rfl
 ·cases h
theorem vN{n:Nat}{lnm:Str}{y:Expr}{p1 p3:Pos}{v:D}(h:ev cx n sc ρ (.Call (.Name lnm p1) [y] [] p3)=some v)(hb:aU cx sc lnm=some "list")(hw:Al cx sc "list" [y]=.al):∃ m d es,ev cx m sc ρ y=some d/\items d=some es/\v=.lst es:=by
 cases n with
 | zero=>exact nomatch (show(Option.none:Option D)=some v from h)
 | succ n =>
  unfold aU at hb;split at hb
  ·rename_i hg
   have h':(match Al cx sc "list" [y] with
    | .lr1 a=>if true then none else none
    | .lr2 a a'=>if true then none else none
    | .tr1 a=>if true then none else none
    | .tv a=>do let xs <- (ev cx n sc ρ a).bind tupI;some (.tup xs.reverse)
    | .ls a=>if true then none else none
    | .al=>do let ds <- jH (ev cx n sc ρ) [y];DE.blt "list" ds)=some v:=by
    rw[<- h];simp only[ev,hg,C5z,hb];rfl
   rw[hw] at h';obtain⟨ds,h1,h2⟩:=aO h';simp only[jH] at h1;obtain⟨d',g1,g2⟩:=aO h1;obtain⟨_,g3,g4⟩:=aO g2;cases g3;cases g4;obtain⟨es,g5,g6⟩:=aO (show(items d' >>=fun l=>some (D.lst l))=some v from h2);cases g6;exact⟨n,d',es,g1,g5,rfl⟩
  ·cases hb
theorem Ig{n:Nat}{es:List D}(G:Good cx k X sc)(hN:X.N=ρ.map (·.1))(ho:JV cx sc e=true)(he:ev cx n sc ρ e=some (.lst es)):Rb X ρ e es:=by
 unfold JV at ho;split at ho
 ·rename_i lnm p1 y p3
  simp only[W2z] at ho;obtain⟨q2,q3⟩:=ho
  have hb:aU cx sc lnm=some "list":=by simpa using q2
  obtain⟨hw,hpl⟩:=El q3;obtain⟨m,d',es',g1,g2,g3⟩:=vN he hb hw;cases g3;obtain⟨hg,hm,rfl⟩:=bK G hb;intro σ H Hs Q hs hst hq;refine(fZ (gY (X:=X)) hg hm (by decide +kernel) (au ao aK (aj hpl)) (by decide) (by decide) (aj hpl) rfl).sem ?_;refine(cH cx m G hN g1).1 σ H Hs _ hs hst fun v H7 Hs7 E7 r7=>?_;obtain⟨q,us,rfl,k1,k2⟩:=jc r7 g2;exact⟨q,us,rfl,k1.imp E7.sub.seq E7.sub.tup,fun b hb7=>hq b us Hs7 _ (Ext.acc E7 (E7.all.free hb7) (E7.sub.free hb7)) (E7.all.free hb7) (E7.sub.free hb7) aB k2⟩
 ·cases n with
  | zero=>exact nomatch (show(Option.none:Option D)=some _ from he)
  | succ n =>
   obtain⟨tg,iter,ifs,l,out,rfl,hok,hI,hp,hz,hgo,e1,hE⟩:=nQ G hN he;cases e1;obtain⟨ok1,ok2,ok3⟩:=cW G hok;intro σ H Hs Q hs hst hq;exact(lB G.calm ok1 ok2 ok3 jR (fun Xc C=>⟨gQ,fY,ao⟩) (dO hp)).sem (jy G hN hok hI hz hgo hE hs hst hq)
 ·cases ho
theorem m6{o i:Expr}{pos:Pos}{env:Env}(h:aF i=true):∀ v,assign (.Subscript o i pos) env v=(do
   let ov <- holding [v] (eval o env)
   let iv <- holding [v,ov] (eval i env)
   standAt pos
   holding [v,ov,iv] (setItem ov iv v)
   release [v,ov,iv] []):=by
 intro v
 cases i<;>first | rfl | (exact absurd h (by simp[aF]))
theorem aH.set{K:Zf}{H:Hp}{d:D}{v:V}(hv:Rep K H d v):∀ {ds:List D} {vs:List V} (n:Nat),aH K H ds vs->aH K H (ds.set n d) (vs.set n v)
 | [],vs,n,h=>by
  have:vs=[]:=by simpa[aH] using h
  subst this;simpa[aH] using h
 | e::ds,vs,n,h=>by
  simp only[aH] at h;obtain⟨w,r,rfl,h1,h2⟩:=h
  cases n with
  | zero=>exact .cons hv h2
  | succ n=>exact .cons h1 (aH.set hv n h2)
theorem uK{tg:Expr}{l:Nat}{env:Env}(he:ev cx F sc ρ e=some d)(hc:aX e=false):swapsWithSole [tg] e l env=pure false:=by
 show swapsWith e (some tg) l env=pure false
 exact dI he fun a b c p q=>by rw[q] at hc;cases hc
theorem mR{o i:Expr}{pos:Pos}{env:Env}:swappedStores [.Subscript o i pos] e env=pure none:=by
 cases e<;>rfl
end
section
variable {X:Cx} {pos:Pos}
end
section
variable {X:Cx} {ρ:Rho} {cx:Cxt} {k F:Nat} {sc scope:Scope} {Hs0 H0:Hp} {e:Expr} {d:D}
theorem Hh{es:List Expr}{l:List D}{ρ':Rho}{kt:Nat}{pt pos:Pos}(G:GoodS cx k X sc)(hN:X.N=ρ.map (·.1))(hs:(swp sc es e).isSome=true)(he:ev cx F sc (frz F e ρ) e=some d)(hl:items d=some l)(hb:bindNames sc es l (frz F e ρ)=some ρ') :
  Runs X Hs0 H0 ρ (.nxt ρ') (fW X (.Assign [.Tuple es kt pt] e pos)):=by
 have hN':X.N=(frz F e ρ).map (·.1):=by rw[aM];exact hN
 obtain⟨b,hb'⟩:=Option.isSome_iff_exists.mp hs
 cases b with
 | false =>
  have hw:=Hg (kt:=kt) (pt:=pt) G.good hb'
  have hso:swapsWithSole [.Tuple es kt pt] e pos.line X.env=pure false:=by
   show swapsWith e (some (.Tuple es kt pt)) pos.line X.env=pure false
   by_cases hc:∃ a b c p,e=.ListComp a b c p
   ·obtain⟨a,b,c,p,rfl⟩:=hc
    rfl
   ·exact dI he fun a b c p q=>hc ⟨a,b,c,p,q⟩
  intro σ H Hs D h _ hn hr;exact PS.sem (uZ ao gQ hso hw rfl) (zX G hN he h fun v Hs' H' sm h' r=>tK G h'.ext.sub hN' qI hl hb h' r fun σ' hN2 p=>hn ρ' σ' Hs' H' rfl sm hN2 p)
 | true =>
  obtain⟨x,px,y,py,a,b,k2,p2,rfl,rfl,lx,ly,hxy,pa,pb,hw⟩:=Cj (kt:=kt) (pt:=pt) G.good hb'
  cases F with
  | zero=>simp[ev] at he
  | succ F =>
   simp only[ev] at he;obtain⟨ds,h1,he⟩:=aO he;split at he
   ·cases he
    simp only[items,K2z] at hl;subst hl;have hA:=(dH (fun e _ d hd=>⟨(cH cx F G.good hN' hd).1,aQ hd⟩) h1).1
    have hlen:ds.length=2:=by have:=(fu (env:=X.env) hb).2.2;simpa using this.symm
    obtain⟨d1,d2,rfl⟩:∃ d1 d2,ds=[d1,d2]:=by
     match ds,hlen with
     | [d1,d2],_=>exact⟨d1,d2,rfl⟩
    simp only[bindNames] at hb;split at hb
    ·rename_i c1
     split at hb
     ·rename_i c2
      cases hb;rw[W2z] at c1 c2;rw[aJ] at c2;obtain⟨i,hi⟩:=bU c1.2;obtain⟨j,hj⟩:=bU c2.2
      have hij:i≠j:=fun z=>by rw[z,hj] at hi;cases hi;exact hxy rfl
      intro σ H Hs D h _ hn hr;obtain⟨Hs1,sm1,h1'⟩:=h.frozen (F+1) (.Tuple [a,b] k2 p2);refine PS.sem (Hw G.good.calm G.good.nd (by rw[hN'];exact hi) (by rw[hN'];exact hj) hij lx ly cG hw rfl) (hA σ H Hs1 _ h1'.ext.sub h1'.sh fun vs H' Hs' E r=>?_);obtain⟨v,w,rfl,r1,r2⟩:=repL2 r
      have nd:((frz (F+1) (.Tuple [a,b] k2 p2) ρ).map (·.1)).Nodup:=by rw[<- hN'];exact G.good.nd
      have g1:=(h1'.step E).set nd hi r1;have g2:=g1.set (by rw[aJ];exact nd) (by rw[aJ];exact hj) r2;exact⟨v,w,rfl,hn _ _ Hs' H' rfl (sm1.trans E.vis) (by rw[aJ,aJ];exact hN') g2⟩
     ·cases hb
    ·cases hb
   ·cases he
theorem Runs.frz0{fl:Fl}{t:TS}{e:Expr}(h:Runs X Hs0 H0 (frz 0 e ρ) fl t):Runs X Hs0 H0 ρ fl t:=by
 intro σ H Hs D hd hN hn hr;obtain⟨Hs1,sm1,h1⟩:=hd.frozen 0 e;exact h σ H Hs1 D h1 (by rw[aM];exact hN) (fun ρ' σ' Hs' H' q sm hN' h'=>hn ρ' σ' Hs' H' q (sm1.trans sm) hN' h') hr
theorem uJ{x:Str}{ds:List D}{px ap cp pos:Pos}(G:GoodS cx k X sc)(hN:X.N=ρ.map (·.1))(hx:(frz F e ρ).lookup x=some (.ow ds))(ho:ownIn sc x=true)(hp:aD x=true)(hline:(ap.endLine==cp.line)=true)(hz:szl (ds.length+1)=true)(he:ev cx F sc (frz F e ρ) e=some d) :
  Runs X Hs0 H0 ρ (.nxt (cT (frz F e ρ) x (.ow (ds++[d])))) (fW X (.Expr (.Call (.Attribute (.Name x px) "append" ap) [e] [] cp) pos)):=by
 have hN':X.N=(frz F e ρ).map (·.1):=by rw[aM];exact hN
 obtain⟨i,hi,_⟩:=bR hx
 have nd:((frz F e ρ).map (·.1)).Nodup:=by rw[<- hN'];exact G.good.nd
 have hpl:=aQ he;intro σ H Hs D h _ hn hr;obtain⟨Hs1,sm1,h1⟩:=h.frozen F e;obtain⟨a,vs,k1,k2,k3,k4,k5⟩:=h1.ow i x ds hi;unfold aD at hp;rw[W2z,V4z,V4z] at hp;have vis:Vis X.env.scope x:=(G.own.own x ho).1.elim .inl fun q=>.inr (.inl q);refine PS.sem (bh (jJ M0z I0z J0z dR (eO (i:=i) (by rw[hN',List.getElem?_map,hi];rfl) vis (by simpa using hp.1) (by simpa using hp.2)) (au ao aK (aj hpl)) rfl (by rw[aj hpl];rfl) hline (aj hpl) rfl) rfl) ?_;refine⟨_,k1,.inl ⟨rfl,vs,.of k2⟩,?_⟩;refine(cH cx F G.good hN' he).1 σ H Hs1 _ h1.ext.sub h1.sh fun v H' Hs' E r=>?_;have h2:=h1.step E;refine⟨a,vs,v,rfl,rfl,E.all _ _ k2,by have:=k3.length;have:=pY hz;omega,?_⟩;exact hn _ _ Hs' _ rfl (sm1.trans E.vis) (by rw[aJ];exact hN') (h2.app nd hi k1 (aH.append (aH.same E.vis ds vs k3) (.cons r .nil)))
theorem rO{x:Str}{ds:List D}{px ap cp pos:Pos}(G:GoodS cx k X sc)(hN:X.N=ρ.map (·.1))(hx:ρ.lookup x=some (.ow ds))(ho:ownIn sc x=true)(hp:aD x=true)(hline:(ap.endLine==cp.line)=true)(hz:szl (ds.length+1)=true)(he:ev cx F sc (frz F e ρ) e=some d)(hfl:gn d=true) :
  Runs X Hs0 H0 ρ (.nxt (cT ρ x (.ow (ds++[d])))) (fW X (.Expr (.Call (.Attribute (.Name x px) "append" ap) [e] [] cp) pos)):=by
 have hN':X.N=(frz F e ρ).map (·.1):=by rw[aM];exact hN
 obtain⟨i,hi,_⟩:=bR hx
 have nd:(ρ.map (·.1)).Nodup:=by rw[<- hN];exact G.good.nd
 have hpl:=aQ he;intro σ H Hs D h _ hn hr;obtain⟨Hs1,sm1,shp,h1⟩:=h.frozen2 F e;obtain⟨a,vs,k1,k2,k3,k4,k5⟩:=h.ow i x ds hi;unfold aD at hp;rw[W2z,V4z,V4z] at hp;have vis:Vis X.env.scope x:=(G.own.own x ho).1.elim .inl fun q=>.inr (.inl q);refine PS.sem (bh (jJ M0z I0z J0z dR (eO (i:=i) (by rw[hN,List.getElem?_map,hi];rfl) vis (by simpa using hp.1) (by simpa using hp.2)) (au ao aK (aj hpl)) rfl (by rw[aj hpl];rfl) hline (aj hpl) rfl) rfl) ?_;refine⟨_,k1,.inl ⟨rfl,vs,.of k2⟩,?_⟩;refine(cH cx F G.good hN' he).1 σ H Hs1 _ h1.ext.sub h1.sh fun v H' Hs' E r=>?_;obtain⟨Hs3,E3,r3⟩:=gk h.ext.sub sm1 shp E hfl r;have h2:=h.step E3;refine⟨a,vs,v,rfl,rfl,E3.all _ _ k2,by have:=k3.length;have:=pY hz;omega,?_⟩;exact hn _ _ Hs3 _ rfl E3.vis (by rw[aJ];exact hN) (h2.app nd hi k1 (aH.append (aH.same E3.vis ds vs k3) (.cons r3 .nil)))
theorem Cm{x:Str}{ie:Expr}{ds:List D}{j:Int}{n:Nat}{px tp pos:Pos}(G:GoodS cx k X sc)(hN:X.N=ρ.map (·.1))(hx:(frz F ie (frz F e ρ)).lookup x=some (.ow ds))(ho:ownIn sc x=true)(hp:aD x=true)(hfr:aX e=false)
  (q1:ev cx F sc (frz F ie (frz F e ρ)) e=some d) (q4:ev cx F sc (frz F ie (frz F e ρ)) ie=some (.int j)) (q5:ixD ds.length j=some n) :
  Runs X Hs0 H0 ρ (.nxt (cT (frz F ie (frz F e ρ)) x (.ow (ds.set n d)))) (fW X (.Assign [.Subscript (.Name x px) ie tp] e pos)):=by
 have hN':X.N=(frz F ie (frz F e ρ)).map (·.1):=by rw[aM,aM];exact hN
 obtain⟨i,hi,_⟩:=bR hx
 have nd:((frz F ie (frz F e ρ)).map (·.1)).Nodup:=by rw[<- hN'];exact G.good.nd
 intro σ H Hs D h _ hn hr;obtain⟨Hs1,sm1,h1⟩:=h.frozen F e;obtain⟨Hs3,sm3,h3⟩:=h1.frozen F ie;obtain⟨ad,vs,k1,k2,k3,k4,k5⟩:=h3.ow i x ds hi;unfold aD at hp;rw[W2z,V4z,V4z] at hp;have vis:Vis X.env.scope x:=(G.own.own x ho).1.elim .inl fun q=>.inr (.inl q)
 have hNi:X.N[i]?=some x:=by rw[hN',List.getElem?_map,hi];rfl
 have pv:∀ {pp:Pos},PE X (.Name x pp) (G3 i):=fun {pp}=>eO hNi vis (by simpa using hp.1) (by simpa using hp.2);refine PS.sem (uZ ao (Bd pv ao set_list (m6 (aQ q4))) (uK q1 hfr) mR rfl) ?_;refine(cH cx F G.good hN' q1).1 σ H Hs3 _ h3.ext.sub h3.sh fun v1 H1 Hs4 E1 r1=>?_;refine⟨.ref ad,k1,(cH cx F G.good hN' q4).1 σ H1 Hs4 _ E1.sub (h3.sh.same E1.vis) fun v3 H3 Hs6 E3 r3=>?_⟩;have E:=E1.trans E3;refine⟨ad,vs,j,n,rfl,aG r3,E.all _ _ k2,by rw[<- k3.length,<- wg];exact q5,?_⟩;exact hn _ _ Hs6 _ rfl (sm1.trans (sm3.trans E.vis)) (by rw[aJ];exact hN') ((h3.step E).app nd hi k1 (aH.set (Rep.same E3.vis _ _ r1) n (aH.same E.vis ds vs k3)))
theorem yq{x:Str}{ie:Expr}{ds:List D}{j:Int}{n:Nat}{px tp pos:Pos}(G:GoodS cx k X sc)(hN:X.N=ρ.map (·.1))(hx:ρ.lookup x=some (.ow ds))(ho:ownIn sc x=true)(hp:aD x=true)(hfr:aX e=false)
  (q1:ev cx F sc (frz F e ρ) e=some d) (q4:ev cx F sc (frz F e ρ) ie=some (.int j)) (q5:ixD ds.length j=some n) (hfl:gn d=true) :
  Runs X Hs0 H0 ρ (.nxt (cT ρ x (.ow (ds.set n d)))) (fW X (.Assign [.Subscript (.Name x px) ie tp] e pos)):=by
 have hN':X.N=(frz F e ρ).map (·.1):=by rw[aM];exact hN
 obtain⟨i,hi,_⟩:=bR hx
 have nd:(ρ.map (·.1)).Nodup:=by rw[<- hN];exact G.good.nd
 intro σ H Hs D h _ hn hr;obtain⟨Hs1,sm1,shp,h1⟩:=h.frozen2 F e;obtain⟨ad,vs,k1,k2,k3,k4,k5⟩:=h.ow i x ds hi;unfold aD at hp;rw[W2z,V4z,V4z] at hp;have vis:Vis X.env.scope x:=(G.own.own x ho).1.elim .inl fun q=>.inr (.inl q)
 have hNi:X.N[i]?=some x:=by rw[hN,List.getElem?_map,hi];rfl
 have pv:∀ {pp:Pos},PE X (.Name x pp) (G3 i):=fun {pp}=>eO hNi vis (by simpa using hp.1) (by simpa using hp.2);refine PS.sem (uZ ao (Bd pv ao set_list (m6 (aQ q4))) (uK q1 hfr) mR rfl) ?_;refine(cH cx F G.good hN' q1).1 σ H Hs1 _ h1.ext.sub h1.sh fun v1 H1 Hs4 E1 r1=>?_;refine⟨.ref ad,k1,(cH cx F G.good hN' q4).1 σ H1 Hs4 _ E1.sub (h1.sh.same E1.vis) fun v3 H3 Hs6 E3 r3=>?_⟩;have E:=E1.trans E3;obtain⟨Hs7,E7,r7⟩:=gk h.ext.sub sm1 shp E hfl (Rep.same E3.vis _ _ r1);refine⟨ad,vs,j,n,rfl,aG r3,E.all _ _ k2,by rw[<- k3.length,<- wg];exact q5,?_⟩;exact hn _ _ Hs7 _ rfl E7.vis (by rw[aJ];exact hN) ((h.step E7).app nd hi k1 (aH.set r7 n (aH.same E7.vis ds vs k3)))
theorem yr{x:Str}{px pos:Pos}(G:GoodS cx k X sc)(hN:X.N=ρ.map (·.1))(hx:ownIn sc x=true)(hc:(ρ.map (·.1)).contains x=true)(hrd:rdA e=true)(he:ev cx F sc (frz F e ρ) e=some d)(hfl:gn d=true) :
  Runs X Hs0 H0 ρ (.nxt (cT ρ x (.sh d))) (fW X (.Assign [.Name x px] e pos)):=by
 obtain⟨ox,of⟩:=G.own.own x hx
 have hN':X.N=(frz F e ρ).map (·.1):=by rw[aM];exact hN
 obtain⟨i,hi⟩:=bU hc
 have nd:(ρ.map (·.1)).Nodup:=by rw[<- hN];exact G.good.nd
 intro σ H Hs D h _ hn hr;obtain⟨Hs1,sm1,shp,h1⟩:=h.frozen2 F e
 have hsw:=dI (t:=some (.Name x px)) (l:=pos.line) (env:=X.env) he fun a b c p q=>by rw[q] at hrd;cases hrd
 refine PS.sem (cU (i:=i) G.good.nd (by rw[hN];exact hi) ox ao hsw of) ?_
 refine(cH cx F G.good hN' he).1 σ H Hs1 _ h1.ext.sub h1.sh fun v H' Hs' E r=>?_;obtain⟨Hs3,E3,r3⟩:=gk h.ext.sub sm1 shp E hfl r;exact hn _ _ Hs3 _ rfl E3.vis (by rw[aJ];exact hN) ((h.step E3).set nd hi r3)
theorem Hj{x:Str}{ds:List D}{px pos:Pos}(G:GoodS cx k X sc)(hN:X.N=ρ.map (·.1))(hx:ownIn sc x=true)(hc:(ρ.map (·.1)).contains x=true)(hno:xZ (frz F e ρ) x=true)(hl:Gq cx sc e=true)(he:ev cx F sc (frz F e ρ) e=some (.lst ds)) :
  Runs X Hs0 H0 ρ (.nxt (cT (frz F e ρ) x (.ow ds))) (fW X (.Assign [.Name x px] e pos)):=by
 have hN':X.N=(frz F e ρ).map (·.1):=by rw[aM];exact hN
 obtain⟨ox,of⟩:=G.own.own x hx
 have hfr:aX e=false:=by cases e<;>first | rfl | (simp[Gq] at hl;done)
 have hown:JV cx sc e=true:=by
  unfold Gq at hl;split at hl
  ·exact hl
  ·cases hl
 refine qb G hN hx hc hno fun i hi σ H Hs D hs hst hq=>?_
 have hsw:=dI (t:=some (.Name x px)) (l:=pos.line) (env:=X.env) he fun a b c p q=>by rw[q] at hfr;cases hfr
 exact PS.sem (cU (i:=i) G.good.nd hi ox ao hsw of) (Ig G.good hN' hown he σ H Hs _ hs hst fun acc vs Hs' H' E a1 a2 a3 r=>hq acc vs Hs' H' E a1 a2 a3 r)
theorem wF(l:Addr)(xs:Array Value)(n:Nat)(b:Addr)(ys:Array Value)(m:Nat)(dd:Option Addr)(sl:Array (Option Value))(c0:¬(!xs.isEmpty&&Builtin.List.listTooLong (xs.size+ys.size))=true)(c1:xs.size<=sizeLine)(c2:xs.size+ys.size<=sizeLine+1) :
  Meets (Builtin.«list.extend» ⟨[.ref l,.ref b],[]⟩) (fun _ R s=>s.heap.get? l=some { cls:=.type "list",data:=.seq xs n }/\s.heap.get? b=some { cls:=.type "list",dict:=dd,data:=.seq ys m,slots:=sl } /\
   R (.ok (.ret Value.none)) { s with heap:=s.heap.update l (Obj.mapSeq fun x=>x++ys),toks:=s.toks }) :=
 .of_wp fun prog w A R s h=>by
  obtain⟨hp,g,d,tk,os⟩:=s;obtain⟨hl,hb,h⟩:=h;have f1:=sub_list_list;have f2:=AutoSeq1.sub_tuple_list;have f3:=AutoSeq1.sub_list_tuple
  have z:(xs++ys).size<=sizeLine+1:=by rw[Array.size_append];exact c2
  wp_walk using(O3z hl rfl (hz:=c1) (_hz':=z)),F0z hl,F0z hb;exact⟨_,rfl,h⟩
def Kz(K:Zf):V->List V->Hp->VK->Prop:=fun x vs H Q=>∃ l b xs zs,x=.ref l/\vs=[.ref b]/\H l=some (.lst xs)/\SqL K H b zs/\xs.length+zs.length<=sizeLine/\Q .non (upd H l (.lst (xs++zs)))
theorem Eb:MtM X "list.extend" (Kz X.K):=by
 intro z0 s σ H x vs v us Q I rx rv h;obtain⟨l,b,xs,zs,rfl,rfl,hH,hB,hz,q⟩:=h;cases (show v=Value.ref l from rx);obtain⟨u,rfl,ru⟩:=rv.one;cases (show u=Value.ref b from ru);obtain⟨z,its,n,r,hl,e⟩:=I.lstM hH;obtain⟨its2,r2,pl,hz2⟩:=I.list hB;have hl2:=r2.length;obtain⟨⟨c2,dd2,data2,sl2⟩,n2,e2,hc2,hd2,hs2⟩:=pl;simp only at hc2 hs2
 have hsz:its.toArray.size+its2.toArray.size<=sizeLine:=by rw[D2z,D2z];omega
 have lng:¬ (!its.toArray.isEmpty&&Builtin.List.listTooLong (its.toArray.size+its2.toArray.size))=true:=fun w=>by
  rw[lD hsz,V3z] at w;cases w
 obtain⟨h3,h4⟩:=(show dd2=none/\data2=.seq its2.toArray n2 from⟨hd2,hs2⟩);subst hc2 h4;refine U4z F.slot_list_extend ⟨_,e,rfl⟩ F.entry_list_extend (F.args_list_extend_2 _ _) (wF l its.toArray n b its2.toArray n2 dd2 sl2 lng (by rw[D2z];omega) (by omega)) ⟨e,e2,?_⟩;exact⟨.non,_,I.lset (its':=its++its2) hH e (by simp) (r.append r2) (by rw[U1z];omega),rfl,q⟩
theorem sV(l:Addr)(xs:Array Value)(n:Nat)(b:Addr)(ys:Array Value)(m:Nat)(dd:Option Addr)(sl:Array (Option Value))(c0:¬(!xs.isEmpty&&Builtin.List.listTooLong (xs.size+ys.size))=true)(c1:xs.size<=sizeLine)(c2:xs.size+ys.size<=sizeLine+1) :
  Meets (Builtin.«list.extend» ⟨[.ref l,.ref b],[]⟩) (fun _ R s=>s.heap.get? l=some { cls:=.type "list",data:=.seq xs n }/\s.heap.get? b=some { cls:=.type "tuple",dict:=dd,data:=.seq ys m,slots:=sl } /\
   R (.ok (.ret Value.none)) { s with heap:=s.heap.update l (Obj.mapSeq fun x=>x++ys),toks:=s.toks }) :=
 .of_wp fun prog w A R s h=>by
  obtain⟨hp,g,d,tk,os⟩:=s;obtain⟨hl,hb,h⟩:=h;have f1:=sub_list_list;have f2:=AutoSeq1.sub_tuple_list;have f3:=AutoSeq1.sub_list_tuple;have f4:=isSubtype_tuple_tuple
  have z:(xs++ys).size<=sizeLine+1:=by rw[Array.size_append];exact c2
  wp_walk using(O3z hl rfl (hz:=c1) (_hz':=z)),F0z hl,F0z hb;exact⟨_,rfl,h⟩
def Ky(K:Zf):V->List V->Hp->VK->Prop:=fun x vs H Q=>∃ l b xs zs,x=.ref l/\vs=[.ref b]/\H l=some (.lst xs)/\SqT K H b zs/\xs.length+zs.length<=sizeLine/\Q .non (upd H l (.lst (xs++zs)))
theorem Ea:MtM X "list.extend" (Ky X.K):=by
 intro z0 s σ H x vs v us Q I rx rv h;obtain⟨l,b,xs,zs,rfl,rfl,hH,hB,hz,q⟩:=h;cases (show v=Value.ref l from rx);obtain⟨u,rfl,ru⟩:=rv.one;cases (show u=Value.ref b from ru);obtain⟨z,its,n,r,hl,e⟩:=I.lstM hH;obtain⟨its2,r2,pl,hz2⟩:=I.tuple hB;have hl2:=r2.length;obtain⟨⟨c2,dd2,data2,sl2⟩,e2,hc2,n2,hs2⟩:=pl;simp only at hc2 hs2
 have hsz:its.toArray.size+its2.toArray.size<=sizeLine:=by rw[D2z,D2z];omega
 have lng:¬ (!its.toArray.isEmpty&&Builtin.List.listTooLong (its.toArray.size+its2.toArray.size))=true:=fun w=>by
  rw[lD hsz,V3z] at w;cases w
 subst hc2 hs2;refine U4z F.slot_list_extend ⟨_,e,rfl⟩ F.entry_list_extend (F.args_list_extend_2 _ _) (sV l its.toArray n b its2.toArray n2 dd2 sl2 lng (by rw[D2z];omega) (by omega)) ⟨e,e2,?_⟩;exact⟨.non,_,I.lset (its':=its++its2) hH e (by simp) (r.append r2) (by rw[U1z];omega),rfl,q⟩
theorem uI{x:Str}{ds zs:List D}{px ap cp pos:Pos}(G:GoodS cx k X sc)(hN:X.N=ρ.map (·.1))(hx:(frz F e ρ).lookup x=some (.ow ds))(ho:ownIn sc x=true)(hp:aD x=true)(hline:(ap.endLine==cp.line)=true)(hz:szl (ds.length+zs.length)=true)(he:ev cx F sc (frz F e ρ) e=some (.lst zs)) :
  Runs X Hs0 H0 ρ (.nxt (cT (frz F e ρ) x (.ow (ds++zs)))) (fW X (.Expr (.Call (.Attribute (.Name x px) "extend" ap) [e] [] cp) pos)):=by
 have hN':X.N=(frz F e ρ).map (·.1):=by rw[aM];exact hN
 obtain⟨i,hi,_⟩:=bR hx
 have nd:((frz F e ρ).map (·.1)).Nodup:=by rw[<- hN'];exact G.good.nd
 have hpl:=aQ he;intro σ H Hs D h _ hn hr;obtain⟨Hs1,sm1,h1⟩:=h.frozen F e;obtain⟨a,vs,k1,k2,k3,k4,k5⟩:=h1.ow i x ds hi;unfold aD at hp;rw[W2z,V4z,V4z] at hp;have vis:Vis X.env.scope x:=(G.own.own x ho).1.elim .inl fun q=>.inr (.inl q);refine PS.sem (bh (jJ M0z PySem.F.slot_list_extend PySem.F.type_list_extend Eb (eO (i:=i) (by rw[hN',List.getElem?_map,hi];rfl) vis (by simpa using hp.1) (by simpa using hp.2)) (au ao aK (aj hpl)) rfl (by rw[aj hpl];rfl) hline (aj hpl) rfl) rfl) ?_;refine⟨_,k1,.inl ⟨rfl,vs,.of k2⟩,?_⟩;refine(cH cx F G.good hN' he).1 σ H Hs1 _ h1.ext.sub h1.sh fun v H' Hs' E r=>?_;have h2:=h1.step E;obtain⟨b,us,rfl,g1,g2⟩:=bM r;refine⟨a,b,vs,us,rfl,rfl,E.all _ _ k2,E.sub.seq g1,by have:=k3.length;have:=g2.length;have:=fJ hz;omega,?_⟩;exact hn _ _ Hs' _ rfl (sm1.trans E.vis) (by rw[aJ];exact hN') (h2.app nd hi k1 (aH.append (aH.same E.vis ds vs k3) g2))
theorem rM{x:Str}{ds zs:List D}{px ap cp pos:Pos}(G:GoodS cx k X sc)(hN:X.N=ρ.map (·.1))(hx:(frz F e ρ).lookup x=some (.ow ds))(ho:ownIn sc x=true)(hp:aD x=true)(hline:(ap.endLine==cp.line)=true)(hz:szl (ds.length+zs.length)=true)(he:ev cx F sc (frz F e ρ) e=some (.tup zs)) :
  Runs X Hs0 H0 ρ (.nxt (cT (frz F e ρ) x (.ow (ds++zs)))) (fW X (.Expr (.Call (.Attribute (.Name x px) "extend" ap) [e] [] cp) pos)):=by
 have hN':X.N=(frz F e ρ).map (·.1):=by rw[aM];exact hN
 obtain⟨i,hi,_⟩:=bR hx
 have nd:((frz F e ρ).map (·.1)).Nodup:=by rw[<- hN'];exact G.good.nd
 have hpl:=aQ he;intro σ H Hs D h _ hn hr;obtain⟨Hs1,sm1,h1⟩:=h.frozen F e;obtain⟨a,vs,k1,k2,k3,k4,k5⟩:=h1.ow i x ds hi;unfold aD at hp;rw[W2z,V4z,V4z] at hp;have vis:Vis X.env.scope x:=(G.own.own x ho).1.elim .inl fun q=>.inr (.inl q);refine PS.sem (bh (jJ M0z PySem.F.slot_list_extend PySem.F.type_list_extend Ea (eO (i:=i) (by rw[hN',List.getElem?_map,hi];rfl) vis (by simpa using hp.1) (by simpa using hp.2)) (au ao aK (aj hpl)) rfl (by rw[aj hpl];rfl) hline (aj hpl) rfl) rfl) ?_;refine⟨_,k1,.inl ⟨rfl,vs,.of k2⟩,?_⟩;refine(cH cx F G.good hN' he).1 σ H Hs1 _ h1.ext.sub h1.sh fun v H' Hs' E r=>?_;have h2:=h1.step E;obtain⟨b,us,rfl,g1,g2⟩:=bH r;refine⟨a,b,vs,us,rfl,rfl,E.all _ _ k2,E.sub.tup g1,by have:=k3.length;have:=g2.length;have:=fJ hz;omega,?_⟩;exact hn _ _ Hs' _ rfl (sm1.trans E.vis) (by rw[aJ];exact hN') (h2.app nd hi k1 (aH.append (aH.same E.vis ds vs k3) g2))
theorem Cr{pos:Pos}(G:GoodS cx k X sc)(hN:X.N=ρ.map (·.1))(he:ev cx F sc (frz F e ρ) e=some d)(hc:∀ a b c p,e≠.ListComp a b c p):Runs X Hs0 H0 ρ (.nxt (frz F e ρ)) (fW X (.Expr e pos)):=by
 intro σ H Hs D h _ hn hr;exact PS.sem (bh ao (dI he hc)) (zX G hN he h fun v Hs' H' sm h' r=>hn _ _ Hs' H' rfl sm (by rw[aM];exact hN) h')
theorem zP{f:Rho->Stmt->Option Fl}(hf:∀ ρ s fl,X.N=ρ.map (·.1)->f ρ s=some fl->Runs X Hs0 H0 ρ fl (fW X s)):∀ (l:List Stmt) (ρ:Rho) (fl:Fl),X.N=ρ.map (·.1)->iD f l ρ=some fl->Runs X Hs0 H0 ρ fl (dX X l)
 | [],ρ,fl,hN,h=>by
  simp only[iD,K2z] at h;subst h;intro σ H Hs D h _ hn hr;exact PSs.sem fM (hn _ _ Hs H rfl (.refl _) hN h)
 | s::r,ρ,fl,hN,h=>by
  simp only[iD] at h;obtain⟨fl1,h1,h2⟩:=aO h;intro σ H Hs D hd _ hn hr;refine PSs.sem (aL jQ bf) (hf ρ s fl1 hN h1 σ H Hs _ hd hN (fun ρ' σ' Hs' H' q sm hN' hd'=>?_) fun d v Hs' H' q E rr lm'=>?_)
  ·subst q
   exact zP hf r ρ' fl hN' h2 σ' H' Hs' D hd' hN' (fun ρ2 σ2 Hs2 H2 q2 sm2=>hn ρ2 σ2 Hs2 H2 q2 (sm.trans sm2)) hr
  ·subst q
   cases h2;exact hr d v Hs' H' rfl E rr lm'
theorem Aw{tg iter:Expr}{body:List Stmt}{l:List D}{fl:Fl}{pos:Pos}{f:D->Rho->Option Fl}(G:GoodS cx k X sc)(hN:X.N=ρ.map (·.1))(hI:evI cx (eY tg) (ev cx F sc (frz F iter ρ)) sc iter=some l)
  (hf:∀ d ρ1 fl,f d ρ1=some fl->X.N=ρ1.map (·.1)->∃ ρ2,iz sc tg d ρ1=some ρ2/\(X.N=ρ2.map (·.1)->Runs X Hs0 H0 ρ2 fl (dX X body))) (h:nF f l (frz F iter ρ)=some fl):Runs X Hs0 H0 ρ fl (fW X (.For tg iter body [] pos)):=by
 have hN':X.N=(frz F iter ρ).map (·.1):=by rw[aM];exact hN
 obtain⟨hI',hp⟩:=wN (tg:=tg) (ρ:=frz F iter ρ) G.good (fun e d h=>⟨(cH cx F G.good hN' h).1,aQ h⟩) hI;intro σ H Hs D hd _ hn hr;obtain⟨Hs1,sm1,h1⟩:=hd.frozen F iter;refine PS.sem (Hx G.pass G.good.calm jR gQ bf (dO hp)) (hI' σ H Hs1 _ h1.ext.sub h1.sh fun J H2 Hs2 E2 hJ=>?_)
 let W:Nat->Nat->St->Hp->Prop:=fun i m σ H=>m=l.length-i/\i<=l.length/\∃ ρi Hsi,Same Hs2 Hsi/\Hd X.K X.lm Hs0 H0 Hsi H ρi σ/\X.N=ρi.map (·.1)/\nF f (l.drop i) ρi=some fl
 refine⟨W,⟨l.length,rfl,O4z _,_,Hs2,.refl _,h1.step E2,hN',by simpa using h⟩,?_⟩;rintro i m σi Hi ⟨rfl,hi,ρi,Hsi,sm,hdi,hNi,gi⟩;obtain⟨stp,go⟩:=hJ Hsi Hi sm hdi.ext.sub
 by_cases hlt:i<l.length
 ·obtain⟨g1,g2⟩:=go i l[i] (List.getElem?_eq_getElem hlt)
  refine .inr ⟨g1,fun σ' H'=>W (i+1) (l.length-(i+1)) σ' H',fun σ' H' w=>⟨_,by omega,w⟩,fun x H' y=>?_⟩;obtain⟨Hs3,E3,rx⟩:=g2 x H' y;rw[D0z hlt] at gi;simp only[nF] at gi;obtain⟨fl1,b1,b2⟩:=aO gi;obtain⟨ρ2,c1,c2⟩:=hf _ _ _ b1 hNi;have hd3:=hdi.step E3;refine xM G.good.calm G.own G.good.nd hd3.ext.sub hNi (qI (Hs0:=Hs0) (H0:=H0) (H:=H')) c1 hd3 rx fun σ' hN2 p=>?_;refine c2 hN2 σ' H' Hs3 _ p hN2 (fun ρ' σ'' Hs' H'' q sm4 hN3 hd4=>?_) fun d v Hs' H'' q E rr lm'=>?_
  ·subst q
   exact⟨rfl,hlt,ρ',Hs',sm.trans (E3.vis.trans sm4),hd4,hN3,b2⟩
  ·subst q
   cases b2;exact hr d v Hs' H'' rfl E rr lm'
 ·have hi':i=l.length:=by omega
  subst hi';refine .inl ⟨stp,?_⟩;rw[List.drop_length] at gi;simp only[nF,K2z] at gi;exact hn ρi σi Hsi Hi gi.symm (sm1.trans (E2.vis.trans sm)) hNi hdi
end
section
variable {X:Cx} {ρ:Rho} {cx:Cxt} {k F:Nat} {sc scope:Scope} {Hs0 H0:Hp} {e:Expr} {d:D}
theorem J6{s:Stmt}{D:Ends}{σ:St}{H:Hp}(h:fW X.nox s D σ H):fW X s D σ H:=fun z0 s0 I=>R4z (h z0 s0 (I.wish _)) (fun _ _ q=>q.unwish) fun _ _ z=>False.elim z
abbrev Cx.pinned(X:Cx)(pn:List (Addr×Obj))(xe:Value->Shared->Prop):Cx:={ X with pn:=pn,xe:=xe }
theorem Inv.repin{pn pn' z0 pins':List (Addr×Obj)}{xe xe':Value->Shared->Prop}{σ:St}{H:Hp}{s:Shared}(I:Inv (X.pinned pn xe) z0 σ H s)(h:∀ p∈pn'++pins',p∈pn++z0):Inv (X.pinned pn' xe') pins' σ H s :=
 ⟨⟨I.ok.mod,I.ok.kind,I.ok.glob,I.ok.blt,I.ok.above,I.ok.inj,I.ok.has,I.ok.cab,I.ok.hd,I.ok.frames,I.ok.stk,I.ok.exf,I.ok.bs,I.ok.bsz,I.ok.noex,I.ok.exfs,I.ok.funs,I.ok.frf⟩,I.os,I.bare,I.base,I.loc,I.cell,I.free,I.freeC,fun p hp=>I.pin p (h p hp),I.hok,I.len⟩
def Ah(rs:Bool)(X:Cx)(Hs0 H0:Hp)(ρ:Rho)(c:Str)(ρ':Rho)(t:TS):Prop:=∀ σ H Hs D,Hd X.K X.lm Hs0 H0 Hs H ρ σ->X.N=ρ.map (·.1) ->
 (∀ σ' Hs' H',Same Hs Hs'->X.N=ρ'.map (·.1)->Hd X.K X.lm Hs0 H0 Hs' H' ρ' σ'->∃ E,EX X c Hs' H' E/\XOk X σ' E/\(rs=true->xX X σ' E))->t D σ H
theorem wB{rs:Bool}{f:Rho->Stmt->Option Fl}{g:Rho->Stmt->Option (Str×Rho)}{c:Str}{ρ':Rho}(hf:∀ ρ s fl,X.N=ρ.map (·.1)->f ρ s=some fl->Runs X.nox Hs0 H0 ρ fl (fW X.nox s))(hg:∀ ρ s c ρ',X.N=ρ.map (·.1)->g ρ s=some (c,ρ')->Ah rs X Hs0 H0 ρ c ρ' (fW X s)) :
  ∀ (l:List Stmt) (ρ:Rho),X.N=ρ.map (·.1)->oR f g l ρ=some (c,ρ')->Ah rs X Hs0 H0 ρ c ρ' (dX X l)
 | [],ρ,hN,h=>by simp[oR] at h
 | s::r,ρ,hN,h=>by
  simp only[oR] at h;intro σ H Hs D hd _ hx;refine PSs.sem (aL jQ bf) ?_;split at h
  ·rename_i ρ1 h1
   refine J6 (hf ρ s _ hN h1 σ H Hs _ hd hN (fun ρ2 σ2 Hs2 H2 q sm hN2 hd2=>?_) fun d v Hs2 H2 q _ _=>nomatch q);cases q;exact wB hf hg r ρ1 hN2 h σ2 H2 Hs2 D hd2 hN2 fun σ3 Hs3 H3 sm3=>hx σ3 Hs3 H3 (sm.trans sm3)
  ·cases h
  ·exact hg ρ s c ρ' hN h σ H Hs _ hd hN hx
theorem qN{c:Str}(G:Good cx k X sc)(hN:X.N=ρ.map (·.1))(he:evx cx F sc (frz F e ρ) e=some c){σ:St}{H Hs:Hp}{rs:Bool}{Q:VK}(h:Hd X.K X.lm Hs0 H0 Hs H ρ σ)
  (hx:∀ σ' Hs' H',Same Hs Hs'->X.N=(frz F e ρ).map (·.1)->Hd X.K X.lm Hs0 H0 Hs' H' (frz F e ρ) σ'->∃ E,EX X c Hs' H' E/\XOk X σ' E/\(rs=true->xX X σ' E)):fU X e σ H Q:=by
 obtain⟨Hs1,sm1,h1⟩:=h.frozen F e
 have hN':X.N=(frz F e ρ).map (·.1):=by rw[aM];exact hN
 obtain⟨E,e1,e2,_⟩:=hx σ Hs1 H sm1 hN' h1;exact gR cx F G hN' he σ H Hs1 E h1.ext.sub h1.sh e1 e2 Q
theorem Ar{t:Option Expr}{l:Nat}{env:Env}{c:Str}(he:evx cx F sc ρ e=some c)(hc:aX e=false):swapsWith e t l env=pure false:=by
 cases F with
 | zero=>exact nomatch (show(Option.none:Option Str)=some c from he)
 | succ F =>
  cases e<;>first | rfl | (exact nomatch (show(Option.none:Option Str)=some c from he)) | (exact absurd hc (by simp[aX]))
end
mutual
theorem mV(cx:Cxt)(F:Nat):∀ (n:Nat) {k:Nat} {X:Cx} {sc:Scope} {ρ:Rho} {s:Stmt} {fl:Fl} {Hs0 H0:Hp},GoodS cx k X sc->X.N=ρ.map (·.1)->DE.st cx F n sc ρ s=some fl->Runs X Hs0 H0 ρ fl (fW X s)
 | 0,k,X,sc,ρ,s,fl,Hs0,H0,_,_,h=>by simp[DE.st] at h
 | n+1,k,X,sc,ρ,s,fl,Hs0,H0,G,hN,h=>by
  have block:∀ (l:List Stmt) (ρ:Rho) (fl:Fl),X.N=ρ.map (·.1)->iD (fun ρ s=>DE.st cx F n sc ρ s) l ρ=some fl->Runs X Hs0 H0 ρ fl (dX X l):=zP fun ρ s fl hN h=>mV cx F n G hN h
  cases s with
  | Pass pos =>
   simp only[DE.st,K2z] at h;subst h;intro σ H Hs D hd _ hn hr;exact PS.sem Dg (hn _ _ Hs H rfl (.refl _) hN hd)
  | Return v pos =>
   simp only[DE.st] at h
   cases v with
   | none =>
    simp only[K2z] at h;subst h;intro σ H Hs D hd _ hn hr;exact PS.sem Df (hr .non .non Hs H rfl hd.ext (by simp[Rep]) hd.lmt)
   | some e =>
    simp only[Q0z] at h;obtain⟨d,he,rfl⟩:=h;intro σ H Hs D hd _ hn hr;exact PS.sem (cF ao) (zX G hN he hd fun v Hs' H' sm h' r=>hr d v Hs' H' rfl h'.ext r h'.lmt)
  | Assign tgs e pos =>
   simp only[DE.st] at h;split at h
   ·split at h
    ·rename_i hc
     rw[W2z] at hc;split at h
     ·cases h
     ·split at h
      ·rename_i hle
       rw[W2z] at hle;obtain⟨d,he,h⟩:=Option.bind_eq_some_iff.mp h;obtain⟨ds,hd,rfl⟩:=Q0z.mp h
       cases d<;>simp[TY] at hd
       subst hd;exact Hj G hN hc.1 hc.2 hle.2 hle.1 he
      ·split at h
       ·split at h
        ·rename_i hno
         simp only[Q0z] at h;obtain⟨d,he,rfl⟩:=h;exact Runs.frz0 (e:=e) (uH G (by rw[aM];exact hN) hc.1 (by rw[aM];exact hc.2) (fun _=>hno) he)
        ·cases h
       ·rename_i hno
        split at h
        ·rename_i hrd
         obtain⟨d,he,h⟩:=Option.bind_eq_some_iff.mp h;split at h
         ·rename_i hfl
          cases h;exact yr G hN hc.1 hc.2 hrd he hfl
         ·cases h
        ·simp only[Q0z] at h
         obtain⟨d,he,rfl⟩:=h;refine uH G hN hc.1 hc.2 (fun hf=>?_) he;rw[hf,Bool.true_and] at hno;simpa using hno
    ·cases h
   ·split at h
    ·rename_i hs
     obtain⟨d,he,h⟩:=aO h;obtain⟨l,hl,h⟩:=aO h;simp only[Q0z] at h;obtain⟨ρ',hb,rfl⟩:=h;rcases P3z _ _ |>.mp hs with hs | hs
     ·exact Hh G hN hs he hl hb
     ·cases hs
    ·cases h
   ·split at h
    ·rename_i x px
     split at h
     ·simp at h
     ·split at h
      ·rename_i ds hx
       split at h
       ·rename_i hc
        simp only[W2z,I2z] at hc;obtain⟨d,h1,h⟩:=aO h;obtain⟨j,h4,h⟩:=aO h;obtain⟨n,h5,h⟩:=aO h;cases h;exact Cm G hN hx hc.1.1 hc.1.2 hc.2 h1 (dD h4) h5
       ·cases h
      ·split at h
       ·rename_i ds hx'
        split at h
        ·rename_i hc
         simp only[W2z,I2z] at hc;obtain⟨d,h1,h⟩:=aO h;obtain⟨j,h4,h⟩:=aO h;obtain⟨n,h5,h⟩:=aO h;split at h
         ·rename_i hfl
          cases h;exact yq G hN hx' hc.1.1 hc.1.2 hc.2 h1 (dD h4) h5 hfl
         ·cases h
        ·cases h
       ·cases h
      ·cases h
    ·cases h
   ·cases h
  | Expr v pos =>
   simp only[DE.st] at h;split at h
   ·rename_i x px m ap e cp
    split at h
    ·rename_i ds hx
     split at h
     ·rename_i hc
      rw[W2z,W2z] at hc;obtain⟨⟨c1,c2⟩,c4⟩:=hc;split at h
      ·rename_i hc2
       rw[W2z] at hc2;simp only[Q0z] at h;obtain⟨d,he,rfl⟩:=h
       have em:m="append":=by simpa using hc2.1
       subst em;exact uJ G hN hx c1 c2 c4 hc2.2 he
      ·split at h
       ·rename_i hc3
        obtain⟨d,he,h⟩:=aO h
        have em:m="extend":=by simpa using hc3
        subst em;split at h
        ·split at h
         ·rename_i hz
          cases h;exact uI G hN hx c1 c2 c4 hz he
         ·cases h
        ·split at h
         ·rename_i hz
          cases h;exact rM G hN hx c1 c2 c4 hz he
         ·cases h
        ·cases h
       ·cases h
     ·cases h
    ·split at h
     ·rename_i ds hx
      split at h
      ·rename_i hc
       rw[W2z,W2z,W2z,W2z] at hc;obtain⟨⟨⟨c1,c2⟩,c4⟩,c5,c6⟩:=hc;obtain⟨d,he,h⟩:=aO h
       have em:m="append":=by simpa using c5
       subst em;split at h
       ·rename_i hfl
        cases h;exact rO G hN hx c1 c2 c4 c6 he hfl
       ·cases h
      ·cases h
     ·cases h
    ·cases h
   ·cases h
   ·cases h
   ·rename_i h1 h3 h4
    simp only[Q0z] at h;obtain⟨d,he,rfl⟩:=h;exact Cr G hN he fun a b c p q=>h3 a b c p q
  | If c a b pos =>
   simp only[DE.st] at h;obtain⟨t,h1,h⟩:=aO h;have he:=dF h1;intro σ H Hs D hd _ hn hr;refine PS.sem (jf cL bf bf) (wG G hN he hd fun Hs' H' sm h'=>?_)
   cases t with
   | true =>
    simp only[C5z] at h;exact jZ (block a _ fl hN h σ H' Hs' D h' hN (fun ρ2 σ2 Hs2 H2 q2 sm2=>hn ρ2 σ2 Hs2 H2 q2 (sm.trans sm2)) hr)
   | false =>
    simp only[W1z,A5z] at h;exact jL (block b _ fl hN h σ H' Hs' D h' hN (fun ρ2 σ2 Hs2 H2 q2 sm2=>hn ρ2 σ2 Hs2 H2 q2 (sm.trans sm2)) hr)
  | For tg iter body orelse pos =>
   simp only[DE.st] at h;split at h
   ·obtain⟨l,hI,h⟩:=aO h
    refine Aw G hN hI (fun d ρ1 fl hf hN1=>?_) h;obtain⟨ρ2,g1,g2⟩:=aO hf;exact⟨ρ2,g1,fun hN2=>block body ρ2 fl hN2 g2⟩
   ·cases h
  | While c body orelse pos =>
   simp only[DE.st] at h;split at h
   ·simp at h
   ·cases h
  | _=>exact nomatch (show(Option.none:Option Fl)=some fl from h)
theorem Av(cx:Cxt)(F:Nat):∀ (n:Nat) {k:Nat} {X:Cx} {sc:Scope} {ρ:Rho} {s:Stmt} {c:Str} {ρ':Rho} {Hs0 H0:Hp},GoodS cx k X.nox sc->X.N=ρ.map (·.1)->DE.stx cx F n sc ρ s=some (c,ρ')->Ah cx.rs X Hs0 H0 ρ c ρ' (fW X s)
 | 0,k,X,sc,ρ,s,c,ρ',Hs0,H0,_,_,h=>by simp[DE.stx] at h
 | n+1,k,X,sc,ρ,s,c,ρ',Hs0,H0,G,hN,h=>by
  have GX:Good cx k X sc:=⟨G.good.calm,G.good.room,G.good.sce,G.good.kind,G.good.nd,G.good.cst,G.good.blt,G.good.exs,G.good.fns,G.good.kw⟩
  have block:∀ (l:List Stmt) (ρ:Rho) (c:Str) (ρ':Rho),X.N=ρ.map (·.1)->oR (fun ρ s=>DE.st cx F n sc ρ s) (fun ρ s=>DE.stx cx F n sc ρ s) l ρ=some (c,ρ')->Ah cx.rs X Hs0 H0 ρ c ρ' (dX X l):=fun l ρ c ρ' hN h =>
   wB (fun ρ s fl hN h=>mV cx F n G hN h) (fun ρ s c ρ' hN h=>Av cx F n G hN h) l ρ hN h
  simp only[DE.stx] at h;split at h
  ·rename_i cc np txt j p1 cpos pos
   split at h
   ·rename_i hc
    cases h;simp only[W2z] at hc;obtain⟨⟨⟨h1,h2⟩,h3⟩,h4⟩:=hc;obtain⟨C,M,e1,_,e2,_⟩:=GX.exs.cls c h3
    have hg:Gl X c:=by
     have e:sc.names.lookup c=some .globalImplicit:=by unfold pB at h2;simpa using h2
     show X.env.scope.names.lookup c=_;rw[GX.sce,e]
    unfold aD at h4;rw[W2z,V4z] at h4;intro σ H Hs D hd _ hx z0 s I;obtain⟨E,x1,x2,x3⟩:=hx σ Hs H (.refl _) hN hd;exact qu I GX.room.hd hg (GX.exs.glob _ _ e1) (by simpa using h4.1) e2 fun s2 h' e args I2 hm=>x3 h1 z0 H s2 C e h' args I2 hm (x1 C H Hs e1 (.refl hd.ext.sub))
   ·cases h
  ·rename_i e pos
   split at h
   ·cases h
   ·rename_i hfr
    obtain⟨c1,h1,h2⟩:=Q0z.mp h;cases h2;intro σ H Hs D hd _ hx;exact PS.sem (bh ao (Ar h1 (by simpa using hfr))) (qN GX hN h1 hd hx)
  ·rename_i e pos
   obtain⟨c1,h1,h2⟩:=Q0z.mp h;cases h2;intro σ H Hs D hd _ hx;exact PS.sem (cF ao) (qN GX hN h1 hd hx)
  ·rename_i x px e pos
   split at h
   ·cases h
   ·rename_i hfr
    obtain⟨c1,h1,h2⟩:=Q0z.mp h;cases h2;intro σ H Hs D hd _ hx z0 s I;exact wpAny_Assign_Name (thn (qN (Q:=fun _ _=>False) GX hN h1 hd hx z0 s I) fun v s1 ⟨_,_,_,_,q⟩=>q.elim) (Ar h1 (by simpa using hfr))
  ·rename_i cc a b pos
   split at h
   ·rename_i kk hk
    have he:=dF hk
    have hN':X.N=(frz F cc ρ).map (·.1):=by rw[aM];exact hN
    intro σ H Hs D hd _ hx;obtain⟨Hs1,sm1,h1⟩:=hd.frozen F cc;refine PS.sem (jf cL bf bf) ((cH cx F GX hN' he).2 kk rfl σ H Hs1 _ h1.ext.sub h1.sh fun H' Hs' E=>?_);have h2:=h1.step E
    cases kk with
    | true=>exact jZ (block a _ c ρ' hN' h σ H' Hs' D h2 hN' fun σ3 Hs3 H3 sm3=>hx σ3 Hs3 H3 ((sm1.trans E.vis).trans sm3))
    | false=>exact jL (block b _ c ρ' hN' h σ H' Hs' D h2 hN' fun σ3 Hs3 H3 sm3=>hx σ3 Hs3 H3 ((sm1.trans E.vis).trans sm3))
   ·rename_i hk
    split at h
    ·rename_i e hn
     obtain⟨c1,h1,h2⟩:=Q0z.mp h;cases h2;unfold vG at hn;split at hn
     ·rename_i f as ks p1 p2
      cases hn
      have hN':X.N=(frz F (.UnaryOp .Not (.Call f as ks p1) p2) ρ).map (·.1):=by rw[aM];exact hN
      intro σ H Hs D hd _ hx;obtain⟨Hs1,sm1,hd1⟩:=hd.frozen F (.UnaryOp .Not (.Call f as ks p1) p2);obtain⟨E,e1,e2,_⟩:=hx σ Hs1 H sm1 hN' hd1;exact PS.sem (jf (qx (qw ao)) bf bf) (gR cx F GX hN' h1 σ H Hs1 E hd1.ext.sub hd1.sh e1 e2 _)
     ·cases hn
    ·cases h
  ·rename_i tg iter body pos
   split at h
   ·obtain⟨c1,h1,h2⟩:=Q0z.mp h
    cases h2;intro σ H Hs D hd _ hx z0 s I;rw[arm_exec_For];exact S4z (Y3z (S4z (thn (qN (Q:=fun _ _=>False) GX hN h1 hd hx z0 s I) fun v s1 ⟨_,_,_,_,q⟩=>q.elim)))
   ·cases h
  ·cases h
end
structure FunAt (K:Zf) (mg:Str->Option Value) (f:Str) (fd:Fd):Prop where
 ex:∃ (nm:Str) (t:Stmt) (a:Addr) (g:FuncData),mg f=some (.ref a)/\Fun K nm nm t a g/\Binds K g fd.ps []/\fd.body=aR t/\fd.sc=aA t
 fs:FnScope fd.N fd.ps fd.sc
 nd:(f==("__debug__":Str))=false
structure Text (w:World) (K:Zf) (mg:Str->Option Value) (P:Pg):Prop where
 cst:∀ x d,P.cst.lookup x=some d->∃ v u,(∀ H,Rep K H d v)/\mg x=some u/\RelV v u
 blt:∀ x b,P.blt.lookup x=some b->mg x=none/\x=Str.ofString b
 fns:∀ f fd,P.defs.lookup f=some fd->FunAt K mg f fd
 exs:XText K mg P.exs P.top
 kw:KnW K w
def Uh(ps:List (Str×Str)):D:=.dic (ps.map fun p=>.inr p.1) (ps.map fun p=>.str p.2)
def dEs(o:Obj):Array DictEntry:=match o.data with | .dict es _=>es | _ => #[]
def dN(o:Obj):Nat:=match o.data with | .dict _ n=>n | _=>0
def isS(x:Str):Value->Bool
 | .str y _=>x==y
 | _=>false
theorem Bp{x:Str}{v:Value}(h:isS x v=true):∃ t,v=.str x t:=by
 unfold isS at h;split at h
 ·rename_i y t
  have e:x=y:=by simpa using h
  subst e;exact⟨t,rfl⟩
 ·cases h
def chk:List (Str×Str)->List DictEntry->Bool
 | [],[]=>true
 | p::r,e::es=>isS p.1 e.key&&isS p.2 e.val&&chk r es
 | _,_=>false
theorem BP{K:Zf}{H:Hp}:∀ {ps:List (Str×Str)} {es:List DictEntry},chk ps es=true->∃ kvs:List (Key×V),kvs.map (·.1)=ps.map (fun p=>Sum.inr p.1)/\aH K H (ps.map fun p=>D.str p.2) (kvs.map (·.2))/\Paired (fun(p:Key×V) (e:DictEntry)=>(∃ x t,p.1=.inr x/\e.key=.str x t)/\RelV p.2 e.val) kvs es
 | [],[],_=>⟨[],rfl,.nil,.nil⟩
 | p::r,e::es,h=>by
  simp only[chk,W2z] at h;obtain⟨⟨h1,h2⟩,h3⟩:=h;obtain⟨kvs,g1,g2,g3⟩:=BP (K:=K) (H:=H) h3;obtain⟨t,e1⟩:=Bp h1;obtain⟨t',e2⟩:=Bp h2;exact⟨(.inr p.1,.str p.2)::kvs,by simp[g1],.cons (by simp[Rep]) g2,.cons ⟨⟨p.1,t,rfl,e1⟩,⟨t',e2⟩⟩ g3⟩
 | [],_::_,h=>by simp[chk] at h
 | _::_,[],h=>by simp[chk] at h
theorem Jy{K:Zf}{H H':Hp}{ps:List (Str×Str)}{kvs:List (Key×V)}(h:aH K H (ps.map fun p=>D.str p.2) (kvs.map (·.2))):aH K H' (ps.map fun p=>D.str p.2) (kvs.map (·.2)):=by
 generalize kvs.map (·.2)=vs at h ⊢
 induction ps generalizing vs with
 | nil=>simpa[aH] using h
 | cons p r ih =>
  simp only[Z3z,aH] at h ⊢;obtain⟨v,q,h1,h2,h3⟩:=h;exact⟨v,q,h1,by simpa[Rep] using h2,ih _ h3⟩
theorem cD{K:Zf}{h:Heap}{mg:Str->Option Value}{x:Str}{ps:List (Str×Str)}(X:K.In h)(G:h.Ns mainGlobals mg)(a:Addr)(o:Obj)(e:PySem.W.nsIn K mainGlobals x=some (some (.ref a)))(l:K.lookup a=some o)(ex:o.ExactDict)(hd:o.data=.dict (dEs o) (dN o))(hc:(chk ps (dEs o).toList&&ji (ps.map (·.1)))=true)(hs:(a==sysModules)=false) :
  ∃ v u,(∀ H,Rep K H (Uh ps) v)/\mg x=some u/\RelV v u:=by
 rw[W2z] at hc;obtain⟨kvs,g1,g2,g3⟩:=BP (K:=K) (H:=fun _=>none) hc.1
 have nd:(kvs.map (·.1)).Nodup:=by
  rw[g1];have n:=eV hc.2
  have q:(ps.map fun p=>(Sum.inr p.1:Key))=(ps.map (·.1)).map Sum.inr:=by simp
  rw[q];exact List.Pairwise.map _ (fun a b hab z=>hab (Sum.inr.inj z)) n
 refine⟨.ref a,_,fun H=>?_,D4z X G e,rfl⟩;unfold Uh;simp only[Rep];exact⟨a,kvs,rfl,.inr ⟨o,dEs o,dN o,l,ex,hd,hs,nd,g3⟩,g1,Jy g2⟩
theorem dU{α:Type}:∀ {l:List (Str×α)} {x:Str},(l.map (·.1)).contains x=true->∃ a,l.lookup x=some a
 | [],x,h=>by simp at h
 | (y,a)::r,x,h=>by
  rw[R2z]
  cases hb:x==y with
  | true=>exact⟨a,rfl⟩
  | false =>
   refine dU ?_;rw[Z3z,List.contains_cons,hb,Bool.false_or] at h;exact h
theorem iV{K:Zf}{H:Hp}{fd:Fd}{ds:List D}{vs:List V}(S:FnScope fd.N fd.ps fd.sc)(hl:ds.length=fd.ps.length)(r:aH K H ds vs) :
  fd.N=(bY fd ds).map (·.1)/\(start fd.N vs).length=(bY fd ds).length/\∀ (i:Nat) (x:Str) (s:Sl),(bY fd ds)[i]?=some (x,s)->(s=.no\/∃ d v,s=.sh d/\(start fd.N vs)[i]?=some (some v)/\Rep K H d v):=by
 have lv:=r.length
 have lz:(fd.ps.zip (ds.map Sl.sh)).length=fd.ps.length:=by rw[List.length_zip,D3z];omega
 have hpl:fd.ps.length<=fd.N.length:=by have:=congrArg List.length S.pre;rw[Q2z] at this;omega
 refine⟨?_,?_,fun i x s e=>?_⟩
 ·unfold bY
  rw[List.map_append,L4z,List.map_fst_zip (by rw[D3z];omega)]
  have:(fd.N.drop fd.ps.length).map ((fun p:Str×Sl=>p.1)∘fun x=>(x,Sl.no))=fd.N.drop fd.ps.length:=by
   rw[show((fun p:Str×Sl=>p.1)∘fun x=>(x,Sl.no))=id from rfl,List.map_id]
  rw[this]
  conv=>lhs;rw[<- List.take_append_drop fd.ps.length fd.N,S.pre]
 ·unfold start bY
  rw[U1z,U1z,lz];simp;omega
 ·unfold bY at e
  by_cases hi:i<fd.ps.length
  ·rw[List.getElem?_append_left (by rw[lz];exact hi),List.getElem?_zip_eq_some] at e
   obtain⟨_,e2⟩:=e;rw[List.getElem?_map] at e2;obtain⟨d,e3,rfl⟩:=Q0z.mp e2;obtain⟨v,g1,g2⟩:=r.get e3;refine .inr ⟨d,v,rfl,?_,g2⟩;unfold start;rw[List.getElem?_append_left (by rw[D3z];omega),List.getElem?_map,g1];rfl
  ·rw[List.getElem?_append_right (by rw[lz];omega),List.getElem?_map] at e
   obtain⟨y,_,e3⟩:=Q0z.mp e;cases e3;exact .inl rfl
section
variable {P:Program} {w:World} {K:Zf} {mg:Str->Option Value} {base:Heap} {T:Pg} {F:Nat}
abbrev vR(c:Str->List D->Option Rs):Str->List D->Option D:=fun f ds=>Rs.val? (c f ds)
abbrev xR(c:Str->List D->Option Rs):Str->List D->Option Str:=fun f ds=>Rs.exc? (c f ds)
theorem eZ{o:Option Rs}{d:D}(h:Rs.val? o=some d):o=some (.val d):=by
 unfold Rs.val? at h;split at h
 ·cases h;rfl
 ·cases h
theorem fD{o:Option Rs}{c:Str}(h:Rs.exc? o=some c):o=some (.exc c):=by
 unfold Rs.exc? at h;split at h
 ·cases h;rfl
 ·cases h
theorem dz{k:Nat}{f:Str}{fd:Fd}(hf:T.defs.lookup f=some fd):∀ ds r,aZ T F k f ds=some r->ds.length=fd.ps.length:=by
 intro ds d h
 cases k with
 | zero=>simp[pP] at h
 | succ k =>
  simp only[pO,hf] at h;split at h
  ·rename_i hl;simpa using hl
  ·cases h
theorem Fun.okX{x qual:Str}{st:Stmt}{f:Addr}{fd:FuncData}{N ps:List Str}{k:Nat}{sp:Sp}(F:Fun K x qual st f fd)(S:FnScope N ps (aA st))(len:∀ vs H Q E,sp vs H Q E->vs.length=ps.length)
  (hbody : ∀ (cdv : Value) (A : Around) (outer : List Env) (s : Shared) (H : Hp) (vs : List V) (Q : VK) (E : XK), Room k (A.deeper (envOfC qual (aA st) s.heap.objs.size f cdv)) -> sp vs H Q E ->
   ∃ t,PSs (dW (CX1 P w) P w K mg base N qual (aA st) f cdv A outer s H E) (aR st) t/\t { nx:=fun _ H'=>Q .non H',rt:=Q } (start N vs) H):FnOk P w K mg base (CX1 P w) (k+1) f fd ps sp:=by
 obtain⟨oc,od,kV,doc,pm,an,cdv,ct,osl,rfl,lk,hcd⟩:=F.ex;exact Jl lk hcd S len fun A outer s H vs Q E hr hsp=>hbody cdv A outer s H vs Q E hr hsp
theorem oJ(X:Text w K mg T):∀ (k:Nat) (nm f:Str) (fd:Fd) (t:Stmt) (a:Addr) (g:FuncData),T.defs.lookup f=some fd->Fun K nm nm t a g->fd.body=aR t->fd.sc=aA t->FnScope fd.N fd.ps fd.sc->FnOk P w K mg base (CX1 P w) k a g fd.ps (spX K (vR (aZ T F k)) (xR (aZ T F k)) f fd.ps)
  | 0,nm,f,fd,t,a,g,hf,Fn,hb,hs,S=>by
    refine⟨fun vs H Q E h=>h.1,fun A outer s H args us vs Q E _ _ _ _ h=>?_⟩
    obtain⟨_,Hs,ds,_,_,⟨d,hc,_⟩ | ⟨c,hc,_⟩⟩:=h
    · have:=eZ hc;simp[pP] at this
    · have:=fD hc;simp[pP] at this
  | k+1,nm,f,fd,t,a,g,hf,Fn,hb,hs,S=>by
    refine Fun.okX (N:=fd.N) Fn (by rw[<- hs];exact S) (fun vs H Q E h=>h.1) fun cdv A outer s H vs Q E hr h=>?_
    obtain⟨hlv,Hs,ds,hsm,rl,hcase⟩:=h
    have hld:ds.length=fd.ps.length:=by
      rcases hcase with⟨d,hc,_⟩ | ⟨c,hc,_⟩
      · exact dz hf ds _ (eZ hc)
      · exact dz hf ds _ (fD hc)
    have unf:aZ T F (k+1) f ds=tH (T.cx (aZ T F k)) F fd.sc fd.body (bY fd ds):=by
      simp only[pO,hf]
      rw[D5z (by simpa using hld)]
    obtain⟨s1,s2,s3⟩:=iV S hld rl
    refine⟨dX _ (aR t),bf,?_⟩
    have G:GoodS (T.cx (aZ T F k)) k (dW (CX1 P w) P w K mg base fd.N nm (aA t) a cdv A outer s H E).nox fd.sc :=
      { good := { calm := rfl, room := hr, sce := hs.symm, kind := S.kind, nd := S.nd, cst := X.cst, blt := X.blt, exs := X.exs, kw := X.kw
                  fns:=fun f' hf'=>by
                    obtain⟨fd',hl'⟩:=dU (l:=T.defs) hf'
                    have FA:=X.fns f' fd' hl'
                    obtain⟨nm',t',a',g',m1,m2,m3,m4,m5⟩:=FA.ex
                    exact⟨FA.nd,a',g',fd'.ps,fun ds d h=>dz hl' ds _ (eZ h),fun ds c h=>dz hl' ds _ (fD h),m1,m2.kp,m3,oJ X k nm' f' fd' t' a' g' hl' m2 m4 m5 FA.fs⟩ }
        own:=⟨fun x hx=>⟨by
          unfold ownIn at hx
          rw[P3z] at hx
          show(aA t).names.lookup x=_\/(aA t).names.lookup x=_
          rw[<- hs]
          exact hx.imp (fun q=>by simpa using q) (fun q=>by simpa using q),.inl rfl⟩⟩
        pass:=PassesOwn.never
        stk:=⟨rfl,rfl⟩ }
    have noow:∀ (i:Nat) (x:Str) (ds':List D),(bY fd ds)[i]?=some (x,.ow ds')->False:=fun i x ds' e=>by
      rcases s3 i x _ e with q | ⟨d',v,q,q1,q2⟩
      · cases q
      · cases q
    have hd:Hd K none Hs H Hs H (bY fd ds) (start fd.N vs):=by
      refine⟨.refl hsm,s2,fun i x d e=>?_,fun i x ds' e=>(noow i x ds' e).elim,fun i j x y ds' es a' _ e=>(noow i x ds' e).elim,(fun i x dss e=>by
        rcases s3 i x _ e with q | ⟨d',v,q,q1,q2⟩
        · cases q
        · cases q),fun p hp=>nomatch hp⟩
      rcases s3 i x _ e with q | ⟨d',v,q,q1,q2⟩
      · cases q
      · cases q
        exact⟨v,q1,q2⟩
    rcases hcase with⟨d,hc,hq⟩ | ⟨c,hc,hq⟩
    · have hc':=eZ hc
      rw[unf] at hc'
      unfold tH at hc'
      intro z0 s0 I
      have fin:∀ fl,iD (fun ρ s=>DE.st (T.cx (aZ T F k)) F F fd.sc ρ s) fd.body (bY fd ds)=some fl->(match fl with | .ret d'=>d'=d | .nxt _=>d=.non)->dX (dW (CX1 P w) P w K mg base fd.N nm (aA t) a cdv A outer s H E).nox (aR t) { nx:=fun _ H'=>Q .non H',rt:=Q } (start fd.N vs) H:=by
        intro fl hg hfl
        rw[hb] at hg
        refine zP (fun ρ s fl hN h=>mV _ F F G hN h) (aR t) (bY fd ds) fl s1 hg (start fd.N vs) H Hs _ hd s1 (fun ρ' σ' Hs' H' q _ _ hd'=>?_) fun d' v Hs' H' q E' r _=>?_
        · subst q
          have e:d=.non:=hfl
          subst e
          exact hq .non H' Hs' hd'.ext (by simp[Rep])
        · subst q
          have e:d'=d:=hfl
          subst e
          exact hq v H' Hs' E' r
      have key:dX (dW (CX1 P w) P w K mg base fd.N nm (aA t) a cdv A outer s H E).nox (aR t) { nx:=fun _ H'=>Q .non H',rt:=Q } (start fd.N vs) H:=by
        split at hc'
        · rename_i d' hg;cases hc';exact fin _ hg rfl
        · rename_i ρ' hg;cases hc';exact fin _ hg rfl
        · split at hc'<;>cases hc'
      exact R4z (key z0 s0 (I.wish _)) (fun _ _ q=>q.unwish) fun _ _ z=>False.elim z
    · have hc':=fD hc
      rw[unf] at hc'
      unfold tH at hc'
      split at hc'
      · cases hc'
      · cases hc'
      · split at hc'
        · rename_i c' ρ' hg
          cases hc'
          rw[hb] at hg
          refine wB (rs:=true) (X:=dW (CX1 P w) P w K mg base fd.N nm (aA t) a cdv A outer s H E) (fun ρ s fl hN h=>mV _ F F G hN h) (fun ρ s c ρ' hN h=>Av _ F F G hN h) (aR t) (bY fd ds) s1 hg (start fd.N vs) H Hs _ hd s1 fun σ1 Hs1 H1 _ _ hd1=>?_
          refine⟨E,fun C H2 Hs2 q E2=>hq C H2 Hs2 q (hd1.ext.trans E2),fun z0 H2 s2 e s3 I2 hcx=>aP z0 σ1 H2 s2 e s3 I2 hcx,fun _ z0 H2 s2 C e h' args I2 hm hE=>jO I2 hm hE⟩
        · cases hc'
theorem FnOk.calm{k:Nat}{f:Addr}{fd:FuncData}{ps:List Str}{sp:Sp}(F:FnOk P w K mg base (CX1 P w) k f fd ps sp)(h:∀ vs H Q E,sp vs H Q E->sp vs H Q E0):FnOk P w K mg base CX0 k f fd ps sp :=
 ⟨F.len,fun A outer s H args us vs Q E hr he hb hv hs=>J4z (F.run A outer s H args us vs Q E0 hr he hb hv (h _ _ _ _ hs)) fun r s' q=>by
  cases r with
  | error e=>obtain⟨_,_,_,_,_,_,z⟩:=(show CX1 P w outer H s E0 e s' from q);exact z.elim
  | ok fl=>cases fl<;>exact q⟩
def qd(K:Zf):Sp:=fun vs H Q _=>∃ (a:Addr) (ns:List Int),vs=[.ref a]/\SqL K H a (ns.map V.int)/\ns.length<=63/\∀ H',Q (.bl true) H'
theorem Jc{k:Nat}{f:Str}{fd:Fd}{t:Stmt}{a:Addr}{g:FuncData}(X:Text w K mg T)(hf:T.defs.lookup f=some fd)(Fn:Fun K f f t a g)(hb:fd.body=aR t)(hs:fd.sc=aA t)(S:FnScope fd.N fd.ps fd.sc)(h1:fd.ps.length=1)
  (hlaw:∀ ns:List Int,ns.length<=63->oA T F k f [.lst (ns.map D.int)]=some (.bl true)):FnOk P w K mg base CX0 k a g fd.ps (qd K):=by
 refine FnOk.calm ((oJ (F:=F) X k f f fd t a g hf Fn hb hs S).imp fun vs H Q E h=>?_) fun _ _ _ _ h=>h;obtain⟨p,ns,rfl,hS,hl,q⟩:=h;refine⟨by rw[h1];rfl,H,[.lst (ns.map D.int)],.refl _,.cons ?_ .nil,.inl ⟨.bl true,by have:=hlaw ns hl;rw[mj] at this;exact this,fun v H' Hs' _ r=>by rw[cC r];exact q H'⟩⟩;simp only[Rep];exact⟨p,ns.map V.int,rfl,hS,kW (fun x=>by simp[Rep]) ns⟩
end
end L2
namespace L2
open PySem PySem.Spec PyProof.Rows DE
section
variable {P:Program} {w:World} {K:Zf} {mg:Str->Option Value} {base:Heap} {N:List Str} {qual:Str} {scope:Scope} {f:Addr} {cd:Value} {cl:List (Str×Addr)} {A:Around} {outer:List Env} {s:Shared} {H:Hp} {E:XK}
theorem yR:Passes (CX1 P w) (lV (CX1 P w) P w K mg base N qual scope f cd cl A outer s H E) E:=by
 intro z0 σ H1 s1 e s' I h;obtain⟨ea,cls,H',rfl,Fl,hn,hE⟩:=h;obtain⟨B,a0,fl,hokB,kB,tB⟩:=Fl.fly;have hfr:frs (lV (CX1 P w) P w K mg base N qual scope f cd cl A outer s H E).stack=s.heap.objs.size::frs outer:=lK rfl;have nL:∀ b o,s.heap.get? b=some o->b≠s.heap.objs.size:=fun b o q=>F4z (E4z q)
 have nin:∀ b o,s.heap.get? b=some o->b∉frs outer->b∉frs (lV (CX1 P w) P w K mg base N qual scope f cd cl A outer s H E).stack:=fun b o q hb z=>by
  rw[hfr] at z;rcases List.mem_cons.mp z with z | z
  ·exact nL b o q z
  ·exact hb z
 have noex:∀ b:Addr,b∉(lV (CX1 P w) P w K mg base N qual scope f cd cl A outer s H E).ex:=fun b z=>absurd (show b∈([]:List Addr) from z) (by simp);show wpAny _ _ (leaving _ (.ref ea)) _ _ _;refine wpAny_leaves_onW I.ok.frames rfl fl fun h2 fl2 up=>?_;refine⟨ea,cls,H',rfl,⟨Fl.os.trans I.os,Fl.bare,?_,⟨B,a0,fl2,hokB,fun b o q n hb=>?_,fun b o q hb=>?_⟩,?_⟩,hn,hE⟩
 ·have U1:=Un.fly Fl.un kB tB fl2.1 (vH fl.2.2.1) up
  have U0:Un (frs (lV (CX1 P w) P w K mg base N qual scope f cd cl A outer s H E).stack) [] H H1 s.heap s1.heap:=I.base.mono (fun b hb=>by rw[hfr];exact W0z _ hb) (fun b hb=>hb)
  exact(U0.trans U1).restrict fun b o hb q=>by
   rw[hfr] at hb;rcases List.mem_cons.mp hb with z | z
   ·exact absurd z (nL b o q)
   ·exact z
 ·exact kB b o (I.base.keep b o q n hb (noex b)) (I.base.free b o q n (noex b)) (nin b o q hb)
 ·obtain⟨o1,q1⟩:=I.base.there b o q (noex b)
  exact tB b o1 q1 (nin b o q hb)
 ·cases q:s.heap.get? ea with
  | none=>rfl
  | some o =>
   obtain⟨o1,q1⟩:=I.base.there ea o q (noex ea);rw[Fl.fresh] at q1;cases q1
end
section
variable {P:Program} {w:World} {K:Zf} {mg:Str->Option Value} {base:Heap} {T:Pg} {F k:Nat}
def spL(K:Zf)(Hs0:Hp)(c:Str):Sp:=fun vs H Q E=>vs=[]/\Same Hs0 H/\∀ C H' Hs',PySem.W.nsIn K mainGlobals c=some (some (.ref C))->Ext Hs0 H Hs' H'->E (.ref C) none H'
end
end L2
namespace L2
open PySem PySem.Spec PyProof.Rows DE PySem.SeqAt
structure GoodC (cx:Cxt) (X:Cx) (sc:Scope):Prop where
 un:X.A.units+100<cLine
 sce:X.env.scope=sc
 nd:X.N.Nodup
 blt:∀ x b,cx.blt.lookup x=some b->X.mg x=none/\x=Str.ofString b
 exs:XText X.K X.mg cx.exs cx.top
def evC(cx:Cxt):Nat->Scope->Rho->Expr->Option D
 | 0,_,_,_=>none
 | n+1,sc,ρ,e=>match e with
  | .Name x _=>if aD x&&sc.names.lookup x==some .local then(match ρ.lookup x with | some (.sh d)=>some d | _=>none) else none
  | .Constant c _ _=>(match c with
    | .none=>some .non
    | .bool b=>some (.bl b)
    | .int i=>some (.int i)
    | .str x=>some (.str x)
    | _=>none)
  | .BinOp a op b _=>do let x <- evC cx n sc ρ a;let y <- evC cx n sc ρ b;binop op x y
  | .UnaryOp .Not a _=>do let x <- evC cx n sc ρ a;(asB x).map fun b=>.bl (!b)
  | .BoolOp op es _=>gD op (evC cx n sc ρ) es
  | .Compare a [.NotEq] [b] _=>do let i <- (evC cx n sc ρ a).bind asI;let j <- (evC cx n sc ρ b).bind asI;some (.bl (!(i==j)))
  | .List es _=>do let ds <- jH (evC cx n sc ρ) es;if szl ds.length then some (.lst ds) else none
  | .Subscript a b _=>do let x <- evC cx n sc ρ a;let i <- (evC cx n sc ρ b).bind asI;let xs <- items x;atD xs i
  | .Call (.Name x _) [a,t] [] _=>if aU cx sc x==some "isinstance" then do
    let d <- evC cx n sc ρ a
    match d with
    | .exc c=>if cx.exs.contains c then(match xOf cx sc t with
     | some c'=>some (.bl (tR cx.top c c'))
     | none=>if tyOf cx sc t==some "ValueError" then some (.bl true) else none) else none
    | _=>none
   else none
  | .Call (.Attribute (.Name y py) m ap) [e] [] p=>if ap.endLine==p.line then do
    let x <- evC cx n sc ρ (.Name y py)
    let z <- evC cx n sc ρ e
    lG m x z
   else none
  | _=>none
section
variable {X:Cx} {ρ:Rho} {cx:Cxt} {k:Nat} {sc:Scope}
theorem cP:∀ {n:Nat} {ρ:Rho} {e:Expr} {d:D},evC cx n sc ρ e=some d->aF e=true
 | 0,_,_,_,h=>by simp[evC] at h
 | n+1,ρ,e,d,h=>by
  unfold evC at h
  cases e<;>first | rfl | (simp at h;done)
theorem xK{x:Str}{b:String}(G:GoodC cx X sc)(h:aU cx sc x=some b):Gl X x/\X.mg x=none/\x=Str.ofString b:=by
 unfold aU pB at h;split at h
 ·rename_i hg
  have e:sc.names.lookup x=some .globalImplicit:=by simpa using hg
  obtain⟨h1,h2⟩:=G.blt x b h;exact⟨by show X.env.scope.names.lookup x=_;rw[G.sce,e],h1,h2⟩
 ·cases h
theorem pA{x c:Str}{t a:Expr}{cv:V}{cw:Value}{b:Bool}{p pos:Pos}(G:GoodC cx X sc)(hx:aU cx sc x=some "isinstance")(hc:cx.exs.contains c=true)(ht:PE X t (tC cv))(hpt:aF t=true)(hcv:∀ u,RelV cv u->u=cw)
  (hk:∀ C,PySem.W.nsIn X.K mainGlobals c=some (some (.ref C))->PySem.W.kitOne X.K (.ref C) cw=some b) (ha:Ev X ρ a (.exc c)) (hp:aF a=true):Ev X ρ (.Call (.Name x p) [a,t] [] pos) (.bl b):=by
 obtain⟨hg,hm,rfl⟩:=xK G hx;obtain⟨C,M,e1,_,_,e2,_⟩:=G.exs.cls c hc;intro σ H Hs Q hs hst hq;refine(bQ (oh (X:=X) (cv:=cv) e2 hcv (hk C e1)) hg hm (by decide +kernel) (au ao (au ht aK (aj hpt)) (aj hp)) (by decide) (by decide) (aj hp) (by rw[aj hpt];rfl)).sem ?_;refine ha σ H Hs _ hs hst fun v H1 Hs1 E1 r1=>?_;have r2:=Rep.same E1.sub _ v r1;simp only[Rep] at r2;obtain⟨a0,C0,rfl,f1,f2⟩:=r2;rw[e1] at f1;cases f1;exact⟨a0,rfl,f2,hq _ H1 Hs1 E1 (by simp[Rep])⟩
theorem Bh(hu:X.A.units<cLine):OpR X (compareOp .NotEq) (fun u v H Q=>∃ i j,u=.int i/\v=.int j/\Q (.bl (!(i==j))) H):=by
 intro z0 s σ H u v w z Q I ru rv h;obtain⟨i,j,rfl,rfl,q⟩:=h;exact(lW (d:=.int i) (d':=.int j) I X.A (by simp[Rep]) (by simp[Rep]) ru rv (by simp only[dep];omega) (by simp[dep]) (by simp[dep])).2 _ _ _ _ ⟨.bl _,H,I,rfl,q⟩
theorem nH(G:GoodC cx X sc)(hN:X.N=ρ.map (·.1)):∀ (n:Nat) {e:Expr} {d:D},evC cx n sc ρ e=some d->Ev X ρ e d/\∀ b,d=.bl b->EvT X ρ e b
 | 0,e,d,h=>by simp[evC] at h
 | n+1,e,d,h=>by
  have ih:∀ e d,evC cx n sc ρ e=some d->Ev X ρ e d/\∀ b,d=.bl b->EvT X ρ e b:=fun e d h=>nH G hN n h;have ihp:∀ e d,evC cx n sc ρ e=some d->Ev X ρ e d/\aF e=true:=fun e d h=>⟨(ih e d h).1,cP h⟩;have val:∀ {e d},(∀ whole,isTrue e X.env whole=(do let v <- whole;standAt e.pos;holding [v] (truthy v)))->Ev X ρ e d->Ev X ρ e d/\∀ b,d=.bl b->EvT X ρ e b:=fun he h1=>⟨h1,fun b hb=>by subst hb;exact wK h1 he⟩;simp only[evC] at h;split at h
  ·split at h
   ·rename_i hp
    rw[W2z] at hp;split at h
    ·rename_i d' hl
     cases h;refine val (fun _=>rfl) (wH hN ?_ hp.1 hl);exact .inl (by rw[G.sce];simpa using hp.2)
    ·cases h
   ·cases h
  ·exact val (fun _=>rfl) (qP h)
  ·obtain⟨x,h1,h⟩:=aO h
   obtain⟨y,h2,h⟩:=aO h;exact val (fun _=>rfl) (qQ (ih _ _ h1).1 (ih _ _ h2).1 h)
  ·obtain⟨x,h1,h⟩:=aO h
   obtain⟨b,h2,rfl⟩:=Q0z.mp h
   cases x<;>simp[asB] at h2
   subst h2;refine⟨Bv (ih _ _ h1).1,fun c hc=>?_⟩;cases hc;exact wL ((ih _ _ h1).2 _ rfl)
  ·obtain⟨h1,h2⟩:=jw (fun e _ d hd=>ih e d hd) h
   exact⟨h1,fun b hb=>(h2 b hb).t⟩
  ·obtain⟨i,h1,h⟩:=aO h
   obtain⟨j,h2,h⟩:=aO h;cases h;have h1':=dD h1;have h2':=dD h2
   have hu:X.A.units<cLine:=by have:=G.un;omega
   refine⟨cV (ih _ _ h1').1 (ih _ _ h2').1 (lC (Bh hu) ao ao (bW (cP h2'))) fun u v H Hs Q hs r1 r2 hq=>⟨i,j,aG r1,aG r2,hq _ H Hs (.refl hs) (by simp[Rep])⟩,fun c' hc' σ H Hs Q hs hst hq=>?_⟩;cases hc';refine(kZ (Bh hu) ao ao (bW (cP h2'))).sem ((ih _ _ h1').1 σ H Hs _ hs hst fun u H1 Hs1 E1 r1=>(ih _ _ h2').1 σ H1 Hs1 _ E1.sub (hst.same E1.vis) fun v H2 Hs2 E2 r2=>?_);exact⟨i,j,aG r1,aG r2,_,rfl,hq H2 Hs2 (E1.trans E2)⟩
  ·obtain⟨ds,h1,h⟩:=aO h
   split at h
   ·rename_i hz
    cases h;exact val (fun _=>rfl) (wI (dH (fun e _ d hd=>ihp e d hd) h1).1 hz)
   ·cases h
  ·obtain⟨x,h1,h⟩:=aO h
   obtain⟨i,h2,h⟩:=aO h;obtain⟨us,h3,h⟩:=aO h;have h2':=dD h2;exact val (fun _=>rfl) (lN (ih _ _ h1).1 (ih _ _ h2').1 (cP h2') h3 h)
  ·split at h
   ·rename_i hb
    have hx:=eq_of_beq hb;obtain⟨d1,h1,h⟩:=aO h;split at h
    ·rename_i c
     split at h
     ·rename_i hc
      refine val (fun _=>rfl) ?_;split at h
      ·rename_i c' hxo
       cases h;obtain⟨pt,rfl,hgl,hin,hd⟩:=Ak hxo
       have hg:Gl X c':=by
        have e:sc.names.lookup c'=some .globalImplicit:=by unfold pB at hgl;simpa using hgl
        show X.env.scope.names.lookup c'=_;rw[G.sce,e]
       by_cases htop:c'=cx.top
       ·subst htop
        obtain⟨C,M,e1,e2,_,_,_,e3,_⟩:=G.exs.cls c hc
        have:tR cx.top c cx.top=true:=by unfold tR;simp
        rw[this];refine pA (cv:=.ref M) (cw:=.ref M) G hx hc (jh hg (G.exs.glob _ _ e2) rfl hd) rfl (fun u r=>r) (fun C' e=>?_) (ih _ _ h1).1 (cP h1);rw[e] at e1;cases e1;exact e3
       ·have hin':cx.exs.contains c'=true:=hin.resolve_right htop
        obtain⟨C,C',e1,e2,e3⟩:=G.exs.sub c c' hc hin'
        have:tR cx.top c c'=(c==c'):=by
         unfold tR
         have:(c'==cx.top)=false:=by simpa using htop
         rw[this,Bool.or_false]
        rw[this];refine pA (cv:=.ref C') (cw:=.ref C') G hx hc (jh hg (G.exs.glob _ _ e2) rfl hd) rfl (fun u r=>r) (fun C'' e=>?_) (ih _ _ h1).1 (cP h1);rw[e] at e1;cases e1;exact e3
      ·split at h
       ·rename_i ht
        cases h;obtain⟨t,pt,rfl,ht'⟩:=ud (eq_of_beq ht);obtain⟨hg2,hm2,rfl⟩:=xK G ht';refine pA (cv:=.ty "ValueError") (cw:=.type "ValueError") G hx hc (oX hg2 hm2 (by decide +kernel) rfl) rfl (fun u r=>r) (fun C e=>?_) (ih _ _ h1).1 (cP h1);obtain⟨C',M,e1,_,_,_,_,_,e2⟩:=G.exs.cls c hc;rw[e] at e1;cases e1;exact e2
       ·cases h
     ·cases h
    ·cases h
   ·cases h
  ·split at h
   ·rename_i hl
    obtain⟨x,h1,h⟩:=aO h;obtain⟨z,h2,h⟩:=aO h;exact val (fun _=>rfl) (qO (ih _ _ h1).1 (ih _ _ h2).1 (cP h2) hl h)
   ·cases h
  ·cases h
def runC(cx:Cxt)(F:Nat)(sc:Scope):List Stmt->Rho->Option D
 | [],_=>none
 | s::r,ρ=>match s with
  | .Assign [.Name x _] e _=>if sc.names.lookup x==some .local&&(ρ.map (·.1)).contains x then(match e with
    | .ListComp .. =>none
    | e=>(evC cx F sc ρ e).bind fun d=>runC cx F sc r (cT ρ x (.sh d))) else none
  | .If c [.Return (some e) _] [] _=>((evC cx F sc ρ c).bind asB).bind fun b=>if b then evC cx F sc ρ e else runC cx F sc r ρ
  | .Return (some e) _=>evC cx F sc ρ e
  | _=>none
theorem rW{K:Zf}{Hs:Hp}{ρ:Rho}{σ:St}{x:Str}{i:Nat}{d:D}{v:V}(h:bV K Hs ρ σ)(hn:(ρ.map (·.1)).Nodup)(hi:(ρ.map (·.1))[i]?=some x)(hl:σ.length=ρ.length)(r:Rep K Hs d v):bV K Hs (cT ρ x (.sh d)) (σ.set i (some v)):=fun j y d' e=>by
 have li:i<σ.length:=by have:=(List.getElem?_eq_some_iff.mp hi).1;rw[hl];simpa using this
 rw[bD hn hi j] at e;split at e
 ·rename_i hj
  subst hj;cases e;exact⟨v,by rw[List.getElem?_set_self li],r⟩
 ·rename_i hj
  obtain⟨v',q1,q2⟩:=h j y d' e;exact⟨v',by rw[List.getElem?_set_ne (fun z=>hj z.symm)];exact q1,q2⟩
theorem oV{F:Nat}(G:GoodC cx X sc):∀ (l:List Stmt) {ρ:Rho} {d:D} {σ:St} {H Hs:Hp} {D:Ends},X.N=ρ.map (·.1)->σ.length=ρ.length->Same Hs H->bV X.K Hs ρ σ->runC cx F sc l ρ=some d->(∀ v H' Hs',Ext Hs H Hs' H'->Rep X.K Hs' d v->D.rt v H')->dX X l D σ H
 | [],ρ,d,σ,H,Hs,D,hN,hl,hs,hst,h,hq=>by simp[runC] at h
 | s::r,ρ,d,σ,H,Hs,D,hN,hl,hs,hst,h,hq=>by
  have nd:(ρ.map (·.1)).Nodup:=by rw[<- hN];exact G.nd
  simp only[runC] at h;split at h
  ·rename_i x px e pos
   split at h
   ·rename_i hx
    rw[W2z] at hx
    have lx:sc.names.lookup x=some .local:=by simpa using hx.1
    obtain⟨i,hi⟩:∃ i:Nat,(ρ.map (·.1))[i]?=some x:=List.mem_iff_getElem?.mp (by simpa using hx.2)
    have hlx:X.env.scope.names.lookup x=some .local:=by rw[G.sce];exact lx
    have go:∀ d1,evC cx F sc ρ e=some d1->(∀ a b c p,e≠.ListComp a b c p)->runC cx F sc r (cT ρ x (.sh d1))=some d->dX X (.Assign [.Name x px] e pos::r) D σ H:=fun d1 he hne hr=>by
     refine PSs.sem (aL (cU (i:=i) (te:=fU X e) G.nd (by rw[hN];exact hi) (.inl hlx) ao ?_ (.inr hlx)) bf) ?_
     ·cases e<;>first | rfl | exact absurd rfl (hne _ _ _ _) | (simp[evC] at he;done) | (cases F<;>simp[evC] at he;done)
     ·refine(nH G hN F he).1 σ H Hs _ hs hst fun v H1 Hs1 E1 r1=>?_
      exact oV G r (by rw[aJ];exact hN) (by rw[H3z,hl];have:=congrArg List.length (aJ ρ x (.sh d1));simpa using this.symm) E1.sub (rW (hst.same E1.vis) nd hi hl r1) hr fun v' H2 Hs2 E2 r2=>hq v' H2 Hs2 (E1.trans E2) r2
    split at h
    ·cases h
    ·rename_i hne
     obtain⟨d1,h1,h2⟩:=Option.bind_eq_some_iff.mp h;exact go d1 h1 (fun a b c p z=>hne a b c p z) h2
   ·cases h
  ·rename_i c e p1 pos
   obtain⟨b,h1,h⟩:=Option.bind_eq_some_iff.mp h;have h1':=dF h1;refine PSs.sem (aL (jf cL (aV (cF ao)) fM) bf) ?_;refine(nH G hN F h1').2 b rfl σ H Hs _ hs hst fun H1 Hs1 E1=>?_
   cases b with
   | true =>
    refine jZ ?_;exact(nH G hN F h).1 σ H1 Hs1 _ E1.sub (hst.same E1.vis) fun v H2 Hs2 E2 r2=>hq v H2 Hs2 (E1.trans E2) r2
   | false =>
    refine jL ?_;exact oV G r hN hl E1.sub (hst.same E1.vis) h fun v' H2 Hs2 E2 r2=>hq v' H2 Hs2 (E1.trans E2) r2
  ·rename_i e pos
   refine PSs.sem (aL (cF ao) bf) ?_;exact(nH G hN F h).1 σ H Hs _ hs hst fun v H2 Hs2 E2 r2=>hq v H2 Hs2 E2 r2
  ·cases h
end
end L2
namespace L2
open PySem PySem.Spec PyProof.Rows
abbrev Cx.unc(X:Cx):Cx:={ X with calm:=false }
structure RoomS (k:Nat) (A:Around):Prop where
 dp:A.depth+3*k+5<recursionLimit
 un:A.units+16*k+200<cLine
theorem RoomS.deeper{k:Nat}{A:Around}(r:RoomS (k+1) A)(env:Env):RoomS k (A.deeper env) :=
 ⟨by have:=r.dp;show A.depth+1+3*k+5<_;omega,by have:=r.un;show A.units+3+16*k+200<_;omega⟩
theorem RoomS.depth{k:Nat}{A:Around}(r:RoomS k A):A.depth<recursionLimit:=by have:=r.dp;omega
structure FnS (P:Program) (w:World) (K:Zf) (mg:Str->Option Value) (base:Heap) (CX:CXT) (k:Nat) (f:Addr) (fd:FuncData) (ps:List Str) (sp:Sp):Prop where
 len:∀ vs H Q E,sp vs H Q E->vs.length=ps.length
 run:∀ (A:Around) (outer:List Env) (s:Shared) (H:Hp) (args:Args) (us:List Value) (vs:List V) (Q:VK) (E:XK),RoomS k A->Env0 P w K mg base A outer s H->BindsTo s fd args (ps.zip us)->Vals vs us->sp vs H Q E ->
  codeAny (model P w) A (.call (.ref f) args) (CR CX outer P w H s Q E) s
theorem sI{CX:CXT}{P:Program}{w:World}{K:Zf}{mg:Str->Option Value}{base:Heap}{N ps:List Str}{qual:Str}{scope:Scope}{f:Addr}{cd:Value}{A:Around}{outer:List Env}{s s1:Shared}{H:Hp}{E:XK}{us:List Value}{vs:List V}
  (S:FnScope N ps scope) (e0:Env0 P w K mg base A outer s H) (hl:vs.length=ps.length) (r:Vals vs us)
  (x:InCallC s s.heap.objs.size (bindL (envOfC qual scope s.heap.objs.size f cd).kindOf (ps.zip us) fun _=>none) (cellsFrom (s.heap.objs.size+1) scope.names []) (bindC (envOfC qual scope s.heap.objs.size f cd).kindOf (ps.zip us) fun _=>none) s1) :
  Inv (dW CX P w K mg base N qual scope f cd A outer s H E).unc [] (start N vs) H s1:=by
 have hpl:ps.length<=N.length:=by have:=congrArg List.length S.pre;rw[Q2z] at this;omega
 obtain⟨h1,tk,rfl,hk⟩:=x.done;have noA:∀ b:Addr,b∉(dW CX P w K mg base N qual scope f cd A outer s H E).unc.ex:=fun b z=>absurd (show b∈([]:List Addr) from z) (by simp)
 refine⟨⟨e0.mod,S.kind,rfl,rfl,M4z _,fun y z c h1 h2=>?_,fun y hy=>?_,fun y c _ h=>?_,(fun z=>nomatch z),Z0z e0.frames,.inr ⟨rfl,rfl⟩,fun b z=>absurd z (noA b),e0.bs,e0.bsz,fun b _ _=>noA b,fun b z=>absurd z (noA b),e0.funs,e0.frf⟩,
  rfl,e0.bare,Un.kept hk,⟨_,x.toInCall.ns,fun i y v h1 h2 h3=>?_⟩,fun y c h=>⟨_,x.cell y c h⟩,e0.hok.fresh (M4z _),fun y c h=>?_,fun p hp=>absurd (show p∈([]:List (Addr×Obj)) from hp) (by simp),e0.hok.kept hk,?_⟩
 ·exact name_of_addr x.apart (H1z h1) (H1z h2)
 ·have hy:scope.names.lookup y=some .cell\/scope.names.lookup y=some .free:=hy
  rcases hy with hy | hy
  ·exact iJ hy
  ·exact absurd rfl (S.nofree _ (H1z hy))
 ·exact H4z (x.above y c (H1z h))
 ·have hi:i<vs.length:=by
   unfold start at h2
   by_cases hi:i<vs.length
   ·exact hi
   ·rw[List.getElem?_append_right (by simpa using hi)] at h2
    rw[List.getElem?_replicate] at h2
    split at h2<;>cases h2
  have ha:vs[i]?=some v:=by
   unfold start at h2;rw[List.getElem?_append_left (by simpa using hi),List.getElem?_map] at h2
   cases e:vs[i]? with
   | none=>rw[e] at h2;cases h2
   | some a=>rw[e] at h2;cases h2;rfl
  obtain⟨u,hu,rv⟩:=r.get ha
  have hp:ps[i]?=some y:=by
   rw[<- S.pre,List.getElem?_take_of_lt (by omega)];exact h1
  have ndP:ps.Nodup:=by rw[<- S.pre];exact S.nd.sublist (List.take_sublist _ _)
  refine⟨u,rv,?_⟩;rcases S.par y (List.mem_of_getElem? hp) with k | k
  ·exact .inl ⟨k,jB ndP hp hu k⟩
  ·obtain⟨c,e⟩:=iJ (n:=s.heap.objs.size+1) k
   refine .inr ⟨.inl k,c,e,?_⟩;have q:=x.cell y c e;rw[jC ndP hp hu (by show scope.names.lookup y≠_;rw[k];decide)] at q;exact q
 ·exact e0.hok.fresh (H4z (x.above y c (H1z h)))
 ·unfold start
  show _=N.length;rw[U1z,D3z,List.length_replicate];omega
theorem Jk{CX:CXT}{P:Program}{w:World}{K:Zf}{mg:Str->Option Value}{base:Heap}{k:Nat}{f:Addr}{name qual:Str}{params:Arguments}{body:List Stmt}{scope:Scope}{dV kV doc pm cdv ct oc:Value}{an od:Option Addr}
  {osl:Array (Option Value)} {N ps:List Str} {sp:Sp} (lk:K.lookup f=some ⟨oc,od,.func (PySem.W.fnOf name qual params body scope dV kV doc pm an cdv ct),osl⟩) (hcd:PySem.W.codeIn K cdv qual=true) (S:FnScope N ps scope)
  (len:∀ vs H Q E,sp vs H Q E->vs.length=ps.length)
  (hbody : ∀ (A : Around) (outer : List Env) (s : Shared) (H : Hp) (vs : List V) (Q : VK) (E : XK), RoomS k (A.deeper (envOfC qual scope s.heap.objs.size f cdv)) -> sp vs H Q E ->
   ∃ t,PSs (dW CX P w K mg base N qual scope f cdv A outer s H E).unc body t/\t { nx:=fun _ H'=>Q .non H',rt:=Q } (start N vs) H) :
  FnS P w K mg base CX (k+1) f (PySem.W.fnOf name qual params body scope dV kV doc pm an cdv ct) ps sp:=by
 refine⟨len,fun A outer s H args us vs Q E hr e0 hb r hsp=>?_⟩;have hl:=len _ _ _ _ hsp;have KX:K.In s.heap:=e0.mod.kin.keeps fun b o e=>(e0.bs b o e).1;have lim:s.heap.NoLimit:=e0.mod.nolimit.keeps fun b o e=>(e0.bs b o e).1
 have hkind:∀ y∈ps.zip us,scope.names.lookup y.1=some .local\/(scope.names.lookup y.1=some .cell/\((cellsFrom (s.heap.objs.size+1) scope.names []).lookup y.1).isSome=true):=fun⟨n,v⟩ hy=>by
  rcases S.par n (F3z hy).1 with q | q
  ·exact .inl q
  ·exact .inr ⟨q,N0z _ _ _ (.inl q)⟩
 refine codeAny_call_function hr.depth (KX _ _ lk) rfl S.co S.gen rfl (PySem.W.codeRec_of KX hcd) (hb _ _ _ _ ?_);refine wpAny_newFunctionEnv_cells S.kind hkind fun env he s1 x=>?_;subst he;refine⟨lim.keeps x.toInCall.keep,codeAny_func ?_⟩;obtain⟨t,ht,hq⟩:=hbody A outer s H vs Q E (hr.deeper _) hsp;have I:Inv (dW CX P w K mg base N qual scope f cdv A outer s H E).unc [] (start N vs) H s1:=sI S e0 hl r x;refine R4z (ht [] s1 (start N vs) H _ I hq) (fun fl s' hs=>?_) fun e s' hs=>hs
 have fin:∀ {σ':St} {H':Hp} {v:V} {u:Value},Inv (dW CX P w K mg base N qual scope f cdv A outer s H E).unc [] σ' H' s'->RelV v u->Q v H'->CE outer P w H s Q u s' :=
  fun {σ' H' v u} J rv q=>⟨v,H',J.os,J.bare,J.base,J.hok,rv,q⟩
 cases fl with
 | ret u =>
  obtain⟨v,σ',H',J,rv,q⟩:=hs;exact fin J rv q
 | next =>
  obtain⟨σ',H',J,q⟩:=hs;exact fin (v:=V.non) (u:=Value.none) J rfl q
 | brk =>
  obtain⟨_,_,_,q⟩:=hs;exact False.elim q
 | cont =>
  obtain⟨_,_,_,q⟩:=hs;exact False.elim q
section
variable {X:Cx} {z0:List (Addr×Obj)} {σ:St} {H H':Hp} {s s':Shared} {ea C:Addr}
theorem Gd{c n:Str}{b1:Stmt}{bd:List Stmt}{ts:TS}{R:VK}{Mc:Addr}{np hp:Pos}{i:Nat}{Q:Flow->Shared->Prop}(I:Inv X z0 σ H s)(Fl:Fly X.prog X.w X.stack H s H' ea (.ref C) s')(hn:H' ea=none)(hst:X.stack=X.env::X.outer/\X.env.frame=some X.env.locals)
  (hg:Gl X c) (hm:X.mg c=some (.ref Mc)) (hcd:(c==("__debug__":Str))=false) (hx:PySem.W.exmOne X.K (.ref C) (.ref Mc)=some true) (nd:X.N.Nodup) (hi:X.N[i]?=some n)
  (ln:X.env.scope.names.lookup n=some .local) (d1:(n==("__debug__":Str))=false) (d2:(n==("__classdict__":Str))=false)
  (hps:PSs (X.inSuite (.ref ea) fun _ _=>False) (b1::bd) ts) (hts:ts { nx:=fun _ _=>False,rt:=R } (σ.set i (some (.ref ea))) (upd H' ea (.ext (isX ea (.ref C)))))
  (k:∀ s2 σ2 H2 v u,Inv X z0 σ2 H2 s2->RelV v u->R v H2->Q (.ret u) s2) :
  wpAny (model X.prog X.w) X.A (noteFrame (.ref ea) X.env) (fun _ s₂=>wpAny (model X.prog X.w) X.A (setFlight (.ref ea) none) (fun _ s₃ =>
   wpAny (model X.prog X.w) X.A (handleBy (.ref ea) X.env [.ExceptHandler (some (.Name c np)) (some n) (b1::bd) hp]) Q X.xe s₃) X.xe s₂) X.xe s':=by
 obtain⟨B,a0,fl,hokB,kB,tB⟩:=Fl.fly
 have hfr:X.A.frames=some (X.env::X.outer):=by rw[<- hst.1];exact I.ok.frames
 have fl':Heap.FlyingW B (X.env::X.outer) ea (.ref C) a0 s'.heap:=by rw[<- hst.1];exact fl
 refine wpAny_looks_onW hfr hst.2 fl' fun h4 held4 up4=>?_;refine wpAny_landsW held4 fun h5 fl5 up5=>?_;have U5:Un (frs X.stack) [] H H' s.heap h5:=Un.fly Fl.un kB tB fl5.1 (vH fl.2.2.1) (up4.trans up5);have I5:Inv X z0 σ H' { s' with heap:=h5 }:=Fly.lands I Fl hokB U5 fl5.1;refine wpAny_handleBy_cons (codeAny_handlers_test ?_) (by intro q;cases q);refine eX (I5.inSuite (.ref ea) X.xe) hg hm ?_ hcd
 have LT:PySem.W.Looks (model X.prog X.w) h5 (typeOf (.ref ea)) (.ref C):=by
  obtain⟨ob,hob,hoc⟩:=fl5.there;exact xty hob hoc
 refine(PySem.W.exm_one I5.kIn LT hx).here ?_;refine codeAny_handlers_suite_as ?_;refine lands_againW fl5 fun h6 fl6 up6=>?_;have U6:Un (frs X.stack) [] H H' s.heap h6:=Un.fly Fl.un kB tB fl6.1 (vH fl.2.2.1) ((up4.trans up5).trans up6)
 have hX6:isX ea (.ref C) h6:=by
  obtain⟨oe,ws,e1,e2,e3,_⟩:=fl6.first
  exact⟨oe,e1,e2,ws,e3⟩
 have hok6:HOk X.prog X.w (upd H' ea (.ext (isX ea (.ref C)))) h6:=fun b u e=>by
  by_cases hb:b=ea
  ·subst hb;rw[aB] at e;cases e;exact Ji hX6
  ·rw[ak hb] at e
   exact((hokB.kept fl6.1) b u e).stay (fun _ _ _ q=>q) (fun b' q=>by rw[ak (aq q hn)];exact q) fun b' xs q=>by rw[ak (aq q hn)];exact q
 have U6':Un (frs X.stack) [] H (upd H' ea (.ext (isX ea (.ref C)))) s.heap h6:=by
  refine⟨U6.keep,U6.slot,fun b o q n hx=>?_,U6.there,fun b xs q=>?_,fun b o u q=>?_,fun b ps q=>?_⟩
  ·rw[ak (fun z=>by rw[z,Fl.fresh] at q;cases q)]
   exact U6.free b o q n hx
  ·have:=U6.tups b xs q
   rw[ak (aq this hn)];exact this
  ·have:=U6.frzs b o u q
   rw[ak (aq this hn)];exact this
  ·obtain⟨more,e⟩:=U6.tbls b ps q
   exact⟨more,by rw[ak (aq e hn)];exact e⟩
 have I6:Inv X z0 σ (upd H' ea (.ext (isX ea (.ref C)))) { s' with heap:=h6 }:=I.call' (s':={ s' with heap:=h6 }) Fl.os U6' hok6 Fl.bare (fun b z=>absurd z (by simp));refine fV (X:=X.inSuite (.ref ea) X.xe) (I6.inSuite (.ref ea) X.xe) nd hi (.inl ln) (v:=.ref ea) rfl (fun s7 I7=>?_) (.inr ln)
 have hiσ:i<σ.length:=by rw[I.len];exact(List.getElem?_eq_some_iff.mp hi).1
 have I7':Inv (X.inSuite (.ref ea) fun _ _=>False) z0 (σ.set i (some (.ref ea))) (upd H' ea (.ext (isX ea (.ref C)))) s7:=(I7.outSuite I.ok).inSuite _ _;refine R4z (hps z0 s7 _ _ { nx:=fun _ _=>False,rt:=R } I7' hts) (fun f s8 h8=>?_) fun _ _ z=>z.elim
 cases f with
 | next=>obtain⟨_,_,_,z⟩:=h8;exact z.elim
 | brk=>obtain⟨_,_,_,z⟩:=h8;exact z.elim
 | cont=>obtain⟨_,_,_,z⟩:=h8;exact z.elim
 | ret u =>
  obtain⟨v8,σ8,H8,I8,rv,q8⟩:=h8;have I8':Inv X z0 σ8 H8 s8:=I8.outSuite I.ok;obtain⟨m,hm8,_⟩:=id I8'.loc;refine wpAny_nameGoes_keeps ln hm8 (by rw[I.ok.kind];rfl) fun h9 v hn9 hs9=>?_;exact k _ _ _ _ _ (I8'.unbound (t':=s8.toks+1) nd hi hm8 hn9 hs9) rv q8
end
section
variable {P:Program} {w:World} {K:Zf} {mg:Str->Option Value} {base:Heap} {T:DE.Pg} {F k:Nat}
open DE hiding st
def spC(K:Zf)(c:Str)(d:D):Sp:=fun vs H Q _=>vs.length=1/\∃ Hs,Same Hs H/\aH K Hs [.exc c] vs/\∀ v H' Hs',Ext Hs H Hs' H'->Rep K Hs' d v->Q v H'
theorem Jx{CX:CXT}(X:Text w K mg T){nm:Str}{fd:Fd}{t:Stmt}{a:Addr}{g:FuncData}{c:Str}{d:D}(Fn:Fun K nm nm t a g)(hb:fd.body=aR t)(hs:fd.sc=aA t)(S:FnScope fd.N fd.ps fd.sc)(h1:fd.ps.length=1)
  (hrun:runC (T.cx (aZ T F 0)) F fd.sc fd.body (bY fd [.exc c])=some d):FnS P w K mg base CX (k+1) a g fd.ps (spC K c d):=by
 obtain⟨oc,od,kV,doc,pm,an,cdv,ct,osl,rfl,lk,hcd⟩:=Fn.ex;refine Jk lk hcd (by rw[<- hs];exact S) (fun vs H Q E h=>by rw[h.1,h1]) fun A outer s H vs Q E hr h=>?_;obtain⟨hlv,Hs,hsm,rl,hq⟩:=h;obtain⟨s1,s2,s3⟩:=iV S (by rw[h1];rfl) rl;refine⟨dX _ (aR t),bf,?_⟩;have G:GoodC (T.cx (aZ T F 0)) (dW CX P w K mg base fd.N nm (aA t) a cdv A outer s H E).unc fd.sc:=⟨by have:=hr.un;show(A.deeper _).units+100<_;omega,hs.symm,S.nd,X.blt,X.exs⟩;rw[hb] at hrun;refine oV G (aR t) s1 s2 hsm (fun i x d' e=>?_) hrun fun v H' Hs' E1 r1=>hq v H' Hs' E1 r1;rcases s3 i x _ e with q | ⟨d'',v,q,q1,q2⟩
 ·cases q
 ·cases q
  exact⟨v,q1,q2⟩
theorem Gg{X:Cx}{i k:Nat}{x:Str}{f:Addr}{fd:FuncData}{sp:Sp}{p pos:Pos}{o:Obj}{E:XK}{σ:St}{H:Hp}{Q:VK}(F:FnOk X.prog X.w X.K X.mg X.base (CX1 X.prog X.w) k f fd [] sp)(hr:Room k X.A)(hN:X.N[i]?=some x)(hv:Vis X.env.scope x)(ho:X.base.get? f=some o)(hd:o.data=.func fd)(hb:Binds X.K fd [] [])(hx:XOk X σ E)
  (hσ:σ[i]?=some (some (.ref f))) (hsp:sp [] H Q E) (hdb:(x==("__debug__":Str))=false) (hcd:(x==("__classdict__":Str))=false):fU X (.Call (.Name x p) [] [] pos) σ H Q:=by
 intro z0 s I;refine S1z ?_;refine thn (eO (X:=X) hN hv hdb hcd z0 s σ H (fun v H'=>v=.ref f/\H'=H) I ⟨.ref f,hσ,rfl,rfl⟩) fun u s1 ⟨v,H1,I1,r1,e1,e2⟩=>?_;subst e1 e2;cases (show u=Value.ref f from r1);refine PySem.W.callWith_F0 ?_ (uT (us:=[]) (vs:=[]) F hr hb hx I1 .nil hsp);obtain⟨oc,od,dt,sl⟩:=o;cases (show dt=.func fd from hd);exact⟨oc,od,fd,sl,I1.bk _ _ ho⟩
end
end L2
namespace L2
open PySem PySem.Spec PyProof.Rows
open DE hiding st
section
variable {P:Program} {w:World} {K:Zf} {mg:Str->Option Value} {base:Heap} {T:DE.Pg} {F k:Nat}
def spT(K:Zf)(Hs0:Hp)(f:Addr)(d:D):Sp:=fun vs H Q _=>vs=[.ref f]/\Same Hs0 H/\∀ v H' Hs',Ext Hs0 H Hs' H'->Rep K Hs' d v->Q v H'
theorem CP{X:Cx}{CX:CXT}{f:Addr}{fd:FuncData}{ps:List Str}{sp:Sp}{E:XK}{z0:List (Addr×Obj)}{σ:St}{H:Hp}{s:Shared}{Q:VK}{us:List Value}{vs:List V}(F:FnS X.prog X.w X.K X.mg X.base CX k f fd ps sp)(hr:RoomS k X.A)(hb:Binds X.K fd ps [])(hx:Passes CX X E)
  (I:Inv X z0 σ H s) (r:Vals vs us) (h:sp vs H Q E):wpAny (model X.prog X.w) X.A (call (.ref f) us) (EP X z0 σ Q) X.xe s:=by
 have hl:(us++([]:List Value)).length=ps.length:=by rw[E3z,<- r.length];exact F.len _ _ _ _ h
 have hb':=hb s us I.kIn hl;rw[E3z] at hb';refine wpAny_call (J4z (F.run X.A X.stack s H ⟨us,[]⟩ us vs Q E hr I.env0 hb' r h) fun r s' hq=>?_)
 cases r with
 | error e=>exact hx z0 σ H s e s' I hq
 | ok fl =>
  cases fl with
  | ret u=>exact I.after hq
  | next=>exact False.elim hq
  | brk=>exact False.elim hq
  | cont=>exact False.elim hq
theorem Cd{nm:Str}{t:Stmt}{a ac f:Addr}{g gc fd:FuncData}{dn n c cls c':Str}{p1 p2 p3 np p4 p5 p6 p7 hp pos:Pos}{kd:Nat}{Hs0:Hp}{o:Obj}{d:D}{exs:List Str}{pcs:List Str}
  (Fn:Fun K nm nm t a g) (hbody:aR t=[.Try [.Return (some (.Call (.Name dn p1) [] [] p2)) p3] [.ExceptHandler (some (.Name c np)) (some n) [.Return (some (.Call (.Name cls p4) [.Name n p5] [] p6)) p7] hp] [] [] pos])
  (S:FnScope [dn,n] [dn] (aA t)) (ld:(aA t).names.lookup dn=some .local) (ln:(aA t).names.lookup n=some .local) (lc:(aA t).names.lookup c=some .globalImplicit) (lcls:(aA t).names.lookup cls=some .globalImplicit)
  (hxs:XText K mg exs c) (hin:exs.contains c'=true) (pn:aD n=true) (pd:aD dn=true) (pc:aD c=true) (pcl:(cls==("__debug__":Str))=false)
  (mc:mg cls=some (.ref ac)) (kc:PySem.W.keepIn K (.ref ac)=true) (bc:Binds K gc pcs []) (FC:∀ (base:Heap),FnS P w K mg base (CX1 P w) 1 ac gc pcs (spC K c' d)) (hpc:pcs.length=1)
  (GD:FnOk P w K mg base (CX1 P w) kd f fd [] (spL K Hs0 c')) (hkd:1<=kd) (ho:base.get? f=some o) (hd:o.data=.func fd) (hb:Binds K fd [] []) :
  FnOk P w K mg base (CX1 P w) (kd+1) a g [dn] (spT K Hs0 f d):=by
 unfold aD at pn pd pc;rw[W2z,V4z,V4z] at pn pd pc;refine Fun.okX (N:=[dn,n]) Fn S (fun vs H Q E h=>by rw[h.1];rfl) fun cdv A outer s H vs Q E hr h=>?_;obtain⟨rfl,hsm,hq⟩:=h;refine⟨dX _ (aR t),bf,?_⟩;rw[hbody];generalize hX:dW (CX1 P w) P w K mg base [dn,n] nm (aA t) a cdv A outer s H E=X
 have xP:X.prog=P:=by rw[<- hX];rfl
 refine PSs.sem (aV jQ) ?_;intro z0 s0 I;obtain⟨C,M,e1,e2,_,_,e3,_⟩:=hxs.cls c' hin;rw[arm_exec_Try];refine S4z (Y3z (wpAny_tryStmt_except ?_));subst hX
 let X:=dW (CX1 P w) P w K mg base [dn,n] nm (aA t) a cdv A outer s H E
 let D:Ends:={ nx:=fun _ H'=>Q .non H',rt:=Q }
 let hs:List ExceptHandler:=[.ExceptHandler (some (.Name c np)) (some n) [.Return (some (.Call (.Name cls p4) [.Name n p5] [] p6)) p7] hp]
 let xe:Value->Shared->Prop:=fun e s₁=>wpAny (model X.prog X.w) X.A (noteFrame e X.env) (fun _ s₂=>wpAny (model X.prog X.w) X.A (setFlight e none) (fun _ s₃=>wpAny (model X.prog X.w) X.A (handleBy e X.env hs) (SP X z0 D) X.xe s₃) X.xe s₂) X.xe s₁
 have I0:Inv (X.pinned (X.pn++z0) xe) [] (start [dn,n] [.ref f]) H s0:=Inv.repin (X:=X) (pn:=X.pn) (z0:=z0) I fun p hp=>by simpa using hp
 have run:dX (X.pinned (X.pn++z0) xe) [.Return (some (.Call (.Name dn p1) [] [] p2)) p3] { nx:=fun _ _=>False,rt:=fun _ _=>False } (start [dn,n] [.ref f]) H:=by
  refine PSs.sem (aV (cF ao)) ?_;refine Gg (X:=X.pinned (X.pn++z0) xe) (i:=0) (E:=fun cls _ H2=>cls=.ref C/\∃ Hs2,Ext Hs0 H Hs2 H2) GD hr rfl (.inl ld) ho hd hb ?_ rfl ⟨rfl,hsm,fun C2 H2 Hs2 q E2=>⟨?_,Hs2,E2⟩⟩ (by simpa using pd.1) (by simpa using pd.2)
  ·intro pins2 H2 s2 e s3 I2 hcx
   obtain⟨ea,cl,H3,rfl,Fl,hn3,rfl,Hs3,E3⟩:=hcx;have I2':Inv (X.pinned (X.pn++z0) X.xe) pins2 (start [dn,n] [.ref f]) H2 s2:=Inv.repin (X:=X) I2 fun p hp=>hp;have E4:Ext Hs3 H3 (upd Hs3 ea (.ext (isX ea (.ref C)))) (upd H3 ea (.ext (isX ea (.ref C)))):=Ext.new E3.sub _ hn3;have hm:mg c=some (.ref M):=hxs.glob _ _ e2;refine Gd (X:=X.pinned (X.pn++z0) X.xe) (Mc:=M) (R:=Q) I2' Fl hn3 ⟨rfl,rfl⟩ lc hm (by simpa using pc.1) e3 S.nd (i:=1) rfl ln (by simpa using pn.1) (by simpa using pn.2) (aV (cF ao)) ?_ fun s4 σ2 H4 v u I4 rv q4=>?_
   ·
    intro pins5 s5 I5;refine S1z (eX I5 lcls mc ?_ pcl);refine T1z (h₀:=base) I5.ok.mod.kin kc ?_ rfl rfl;have pa:PA ((X.pinned (X.pn++z0) X.xe).inSuite (.ref ea) fun _ _=>False) [.Name n p5] (Ci (G3 1) G5):=au (eO (i:=1) rfl (.inl ln) (by simpa using pn.1) (by simpa using pn.2)) aK;refine thn (pa p6 pins5 s5 _ _ (fun vs H1=>vs=[.ref ea]/\H1=upd H3 ea (.ext (isX ea (.ref C)))) I5 ⟨.ref ea,rfl,rfl,rfl⟩) fun us s6 ⟨vs,H6,I6,r6,q6,q7⟩=>⟨I6.kIn,?_⟩;subst q6 q7;refine CP (E:=E0) (FC base) ⟨by have:=hr.dp;show(A.deeper (envOfC nm (aA t) s.heap.objs.size a cdv)).depth+3*1+5<_;omega,by have:=hr.un;show(A.deeper (envOfC nm (aA t) s.heap.objs.size a cdv)).units+16*1+200<_;omega⟩ bc vo I6 r6 ⟨rfl,upd Hs3 ea (.ext (isX ea (.ref C))),E4.sub,.cons (by simp only[Rep];exact⟨ea,C,rfl,e1,aB⟩) .nil,fun v H7 Hs7 E7 r7=>hq v H7 Hs7 ((E3.trans E4).trans E7) r7⟩
   ·exact⟨v,σ2,H4,Inv.repin (X:=X) (pn':=X.pn) I4 fun p hp=>X0z _ hp,rv,q4⟩
  ·have q':PySem.W.nsIn K mainGlobals c'=some (some (.ref C2)):=q
   rw[e1] at q';cases q';rfl
 refine R4z (run [] s0 I0) (fun fl s1 q=>?_) fun e s1 q=>q
 cases fl with
 | next=>obtain⟨_,_,_,z⟩:=q;exact z.elim
 | brk=>obtain⟨_,_,_,z⟩:=q;exact z.elim
 | cont=>obtain⟨_,_,_,z⟩:=q;exact z.elim
 | ret u=>obtain⟨_,_,_,_,_,z⟩:=q;exact z.elim
end
def del(H:Hp)(c:Addr):Hp:=fun b=>if b=c then none else H b
theorem dj{H:Hp}{c b:Addr}(h:b≠c):del H c b=H b:=E5z h
theorem gw{H:Hp}{c:Addr}:del H c c=none:=D5z rfl
theorem lU{H:Hp}{c b:Addr}{o:HO}(h:del H c b=some o):H b=some o/\b≠c:=by
 unfold del at h;split at h
 ·cases h
 ·rename_i n;exact⟨h,n⟩
theorem dh{H:Hp}{c b:Addr}(h:H b=none):del H c b=none:=by
 unfold del;split
 ·rfl
 ·exact h
section
variable {X:Cx} {z0:List (Addr×Obj)} {σ:St} {H:Hp} {s:Shared} {c:Addr} {p:Heap->Prop}
theorem Inv.untrack(I:Inv X z0 σ H s)(h:H c=some (.ext p)):Inv X z0 σ (del H c) s:=by
 have ne:∀ b o,H b=some o->o≠.ext p->del H c b=some o:=fun b o e n=>by
  rw[dj fun z=>by rw[z,h] at e;cases e;exact n rfl];exact e
 refine⟨I.ok,I.os,I.bare,⟨I.base.keep,I.base.slot,fun b o q n hx=>dh (I.base.free b o q n hx),I.base.there,fun b xs q=>ne b _ (I.base.tups b xs q) (fun z=>nomatch z),fun b o u q=>ne b _ (I.base.frzs b o u q) (fun z=>nomatch z),fun b ps q=>?_⟩,I.loc,I.cell,dh I.free,fun x c e=>dh (I.freeC x c e),fun p hp=>?_,fun b u e=>?_,I.len⟩
 ·obtain⟨more,e⟩:=I.base.tbls b ps q
  exact⟨more,ne b _ e (fun z=>nomatch z)⟩
 ·obtain⟨a1,a2,a3⟩:=I.pin p hp
  exact⟨a1,dh a2,a3⟩
 ·obtain⟨e1,e2⟩:=lU e
  exact(I.hok b u e1).stay (fun _ v _ q=>q) (fun d q=>ne d _ q (fun z=>nomatch z)) fun d xs q=>ne d _ q (fun z=>nomatch z)
theorem yC{CX:CXT}{k:Nat}{f:Addr}{fd:FuncData}{ps:List Str}{sp:Sp}{E:XK}{Q:VK}{us:List Value}{vs:List V}(h:H c=some (.ext p))(F:FnOk X.prog X.w X.K X.mg (xO s.heap (del H c) (frs X.stack)) CX k f fd ps sp)(hr:Room k X.A)(hb:Binds X.K fd ps [])(hx:Passes CX X E)
  (I:Inv X z0 σ H s) (hfr:c∉frs X.stack) (r:Vals vs us) (hsp:sp vs (del H c) (fun v H2=>H2 c=none->Q v (upd H2 c (.ext p))) E):wpAny (model X.prog X.w) X.A (call (.ref f) us) (EP X z0 σ Q) X.xe s:=by
 have J:=I.untrack h
 have hl:us.length=ps.length:=by rw[<- r.length];exact F.len _ _ _ _ hsp
 have hb':=hb s us I.kIn (by rw[E3z];exact hl)
 rw[E3z] at hb';refine wpAny_call (J4z (F.run X.A X.stack s (del H c) ⟨us,[]⟩ us vs _ E hr J.env0Big hb' r hsp) fun r s' hq=>?_)
 cases r with
 | error e=>exact hx z0 σ (del H c) s e s' J hq
 | ok fl =>
  cases fl with
  | ret u =>
   obtain⟨v,H2,os,bare,un,hok,rv,q⟩:=hq;obtain⟨pc,⟨oc,eo⟩,st⟩:=I.hok c _ h;have hn2:H2 c=none:=un.free c oc eo gw (by simp);have e2:s'.heap.get? c=some oc:=un.keep c oc eo gw hfr (by simp)
   have kp:∀ b o,H2 b=some o->upd H2 c (.ext p) b=some o:=fun b o e=>by rw[ak (aq e hn2)];exact e
   refine⟨v,upd H2 c (.ext p),I.call' (s':=s') (ch:=[]) os ⟨fun b o q n=>un.keep b o q (dh n),fun b o q n=>un.slot b o q (dh n),fun b o q n hx=>?_,un.there,fun b xs q=>?_,fun b o u q=>?_,fun b ps q=>?_⟩ (fun b u e=>?_) bare (fun b z=>absurd z (by simp)),rv,q hn2⟩
   ·rw[ak fun z=>by rw[z,h] at n;cases n]
    exact un.free b o q (dh n) hx
   ·exact kp _ _ (un.tups b xs (by rw[dj fun z=>by rw[z,h] at q;cases q];exact q))
   ·exact kp _ _ (un.frzs b o u (by rw[dj fun z=>by rw[z,h] at q;cases q];exact q))
   ·obtain⟨more,e⟩:=un.tbls b ps (by rw[dj fun z=>by rw[z,h] at q;cases q];exact q)
    exact⟨more,kp _ _ e⟩
   ·by_cases hb:b=c
    ·subst hb;rw[aB] at e;cases e
     exact⟨st s.heap s'.heap pc fun o q=>by rw[eo] at q;cases q;exact e2,⟨oc,e2⟩,st⟩
    ·rw[ak hb] at e
     exact(hok b u e).stay (fun _ v _ q=>q) (fun d q=>kp _ _ q) fun d xs q=>kp _ _ q
  | next=>exact False.elim hq
  | brk=>exact False.elim hq
  | cont=>exact False.elim hq
end
abbrev noArgs:Arguments:=⟨[],[],none,[],[],none,[]⟩
theorem zK{K:Zf}{qual:Str}{body:Expr}{scope:Scope}{cl:List (Str×Addr)}{pm cdv ct:Value}:Binds K (PySem.W.kla_fn "<lambda>" qual noArgs body scope cl pm cdv ct) [] []:=.all fun us hl=>by
 have:us=[]:=List.length_eq_zero_iff.mp hl;subst this;rfl
def nC(lsc:Scope):List Str:=(lsc.names.filter fun p=>p.2==.free).map (·.1)
def gj(lsc:Scope)(ρ:Rho):Rho:=(nC lsc).map fun x=>(x,Gp (ρ.lookup x))
def Ub:Option Sl->Bool
 | some (.sh _)=>true
 | _=>false
def vV(sc lsc:Scope)(ρ:Rho):Bool :=
 lsc.kind==.function && !lsc.isCoroutine && !lsc.isGenerator&&ji (lsc.names.map (·.1))&&ji (nC lsc)&&lsc.names.all fun p=>p.2 !=.cell&&(p.2 !=.free||(sc.names.lookup p.1==some .cell&&Ub (ρ.lookup p.1)))
structure LamOk (sc lsc:Scope) (ρ:Rho):Prop where
 kind:lsc.kind=.function
 co:lsc.isCoroutine=false
 gen:lsc.isGenerator=false
 nd:(lsc.names.map (·.1)).Nodup
 ndf:(nC lsc).Nodup
 own:∀ x∈lsc.names,x.2≠.cell
 fr:∀ x,(x,NameKind.free)∈lsc.names->sc.names.lookup x=some .cell/\∃ d,ρ.lookup x=some (.sh d)
theorem zJ{sc lsc:Scope}{ρ:Rho}(h:vV sc lsc ρ=true):LamOk sc lsc ρ:=by
 unfold vV at h;simp only[W2z] at h;obtain⟨⟨⟨⟨⟨h1,h2⟩,h3⟩,h4⟩,h5⟩,h6⟩:=h;refine⟨by simpa using h1,by simpa using h2,by simpa using h3,eV h4,eV h5,fun x hx=>?_,fun x hx=>?_⟩
 ·have:=List.all_eq_true.mp h6 x hx
  rw[W2z] at this;simpa using this.1
 ·have:=List.all_eq_true.mp h6 _ hx
  rw[W2z,P3z,W2z] at this;rcases this.2 with z | ⟨z1,z2⟩
  ·simp at z
  ·refine⟨by simpa using z1,?_⟩
   unfold Ub at z2;split at z2
   ·rename_i d e;exact⟨d,e⟩
   ·cases z2
theorem qG{lsc:Scope}{x:Str}:x∈nC lsc↔(x,NameKind.free)∈lsc.names:=by
 unfold nC;constructor
 ·intro h
  obtain⟨⟨y,k⟩,h1,rfl⟩:=List.mem_map.mp h;obtain⟨h2,h3⟩:=List.mem_filter.mp h1
  have:k=.free:=by simpa using h3
  subst this;exact h2
 ·intro h
  exact List.mem_map.mpr ⟨_,List.mem_filter.mpr ⟨h,by simp⟩,rfl⟩
theorem nY{K:Zf}{Hs:Hp}{ρ:Rho}{σ:St}{N:List Str}(hN:N=ρ.map (·.1))(hst:bV K Hs ρ σ):∀ l:List Str,(∀ x∈l,∃ d,ρ.lookup x=some (.sh d)) ->
  ∃ ws:List V,ws.length=l.length/\(∀ (i:Nat) x v,l[i]?=some x->ws[i]?=some v->∃ j:Nat,N[j]?=some x/\σ[j]?=some (some v))/\bV K Hs (l.map fun x=>(x,Gp (ρ.lookup x))) (ws.map some)
 | [],_=>⟨[],rfl,fun i x v h=>by simp at h,fun i x d h=>by simp at h⟩
 | y::l,h=>by
  obtain⟨ws,h1,h2,h3⟩:=nY hN hst l fun x hx=>h x (W0z _ hx);obtain⟨d,hd⟩:=h y O1z;obtain⟨j,e1,e2⟩:=bR hd;obtain⟨v,e3,e4⟩:=hst j y d e1;refine⟨v::ws,by simp[h1],fun i x v' a1 a2=>?_,fun i x d' a1=>?_⟩
  ·cases i with
   | zero =>
    simp at a1 a2;subst a1 a2;exact⟨j,by rw[hN,List.getElem?_map,e1];rfl,e3⟩
   | succ i=>exact h2 i x v' (by simpa using a1) (by simpa using a2)
  ·cases i with
   | zero =>
    simp at a1;obtain⟨rfl,a2⟩:=a1;rw[hd] at a2;simp[Gp] at a2;subst a2;exact⟨v,rfl,e4⟩
   | succ i =>
    obtain⟨u,q1,q2⟩:=h3 i x d' (by simpa using a1);exact⟨u,by simpa using q1,q2⟩
structure LCx (X:Cx) (p:Addr×Str):Prop where
 lm:X.lm=some p
 qual:p.2=X.env.qual++"<lambda>"
 code:∃ c,X.env.code=.ref c/\PySem.W.CodeHd X.base c p.1
 bi:X.base.BuiltinsAt X.mg p.1
 glob:X.env.globals=mainGlobals
 fn:∀ x,X.fn x=true
def j6(P:Program)(w:World)(K:Zf)(mg:Str->Option Value)(kd:Nat)(exs:List Str)(cv:Str->Option D)(tn:Str):Prop :=
 (tn==("__debug__":Str))=false/\∃ a g dn,mg tn=some (.ref a)/\PySem.W.keepIn K (.ref a)=true/\Binds K g [dn] []/\∀ (base:Heap) (f:Addr) (fd:FuncData) (o:Obj) (Hs0:Hp) (c':Str) (d:D),exs.contains c'=true->cv c'=some d->FnOk P w K mg base (CX1 P w) kd f fd [] (spL K Hs0 c')->base.get? f=some o->o.data=.func fd->Binds K fd [] []->FnOk P w K mg base (CX1 P w) (kd+1) a g [dn] (spT K Hs0 f d)
section
variable {X:Cx} {ρ:Rho} {T:Pg} {F k:Nat} {sc:Scope}
theorem qU{z0:List (Addr×Obj)}{σ:St}{H:Hp}{s:Shared}(I:Inv X z0 σ H s)(hfn:∀ x,X.fn x=true){x:Str}{c:Addr}{v:Option Value}(hc:X.env.cells.lookup x=some c)(h:s.heap.IsCell c v):(xO s.heap H (frs X.stack)).IsCell c v:=by
 obtain⟨o,h1,h2⟩:=h;refine⟨o,mC h1 (I.freeC x c hc) fun z=>?_,h2⟩;rcases List.mem_cons.mp (I.stkSub c z) with e | e
 ·exact I.cne x c hc e
 ·obtain⟨_,o',ho,_⟩:=I.ok.funs.mem e
  exact absurd (M1z (E4z ho) (I.ok.cab x c (hfn x) hc)) (W3z _)
theorem ur{tn c':Str}{exs:List Str}{body:Expr}{lsc:Scope}{lp pp cp:Pos}{p:Addr×Str}{cv:Str->Option D}{d:D}{σ:St}{H Hs Hr:Hp}{Q:VK}(L:LCx X p)(hN:X.N=ρ.map (·.1))(hsc:X.env.scope=sc)(hr:Room (k+3) X.A)(TA:j6 X.prog X.w X.K X.mg (k+1) exs cv tn)
  (hgl : sc.names.lookup tn = some .globalImplicit) (ok : vV sc lsc ρ = true) (hFL : ∀ (base : Heap) (f c1 : Addr) (pm ctv : Value) (cl : List (Str × Addr)) (ws : List V), base.get? f = some (PySem.W.kla_obj "<lambda>" (X.env.qual ++ "<lambda>") noArgs body lsc cl pm c1 ctv) -> base.CodeRec (.ref c1) (X.env.qual ++ "<lambda>") -> LamNames base lsc ((gj lsc ρ).map (·.1)) ws cl -> ((gj lsc ρ).map (·.1)).Nodup -> bV X.K Hr (gj lsc ρ) (ws.map some) ->
   FnOk X.prog X.w X.K X.mg base (CX1 X.prog X.w) (k+1) f (PySem.W.kla_fn "<lambda>" (X.env.qual++"<lambda>") noArgs body lsc cl pm (.ref c1) ctv) [] (spL X.K Hs c'))
  (hin:exs.contains c'=true) (hcv:cv c'=some d)
  (hs:Same Hs H) (hst:bV X.K Hr ρ σ) {l:List (Pos×Addr)} (hT:LamT H p.1 p.2 l) (n1:Hs p.1=none) (n2:∀ q∈l,Hs q.2=none)
  (hq:∀ v H' Hs',ExtL p Hs H Hs' H'->Rep X.K Hs' d v->Q v H'):fU X (.Call (.Name tn pp) [.Lambda noArgs body lsc lp] [] cp) σ H Q:=by
 intro z0 s I;have O:=zJ ok;obtain⟨hdb,a,g,dn,hm,hk,hbG,hG⟩:=TA;obtain⟨c,hcode,C⟩:=L.code
 have hg:Gl X tn:=by show X.env.scope.names.lookup tn=_;rw[hsc];exact hgl
 have free:∀ x,(x,NameKind.free)∈lsc.names->∃ cc,X.env.cells.lookup x=some cc:=fun x hx=>I.ok.has x (.inl (by show X.env.scope.names.lookup x=_;rw[hsc];exact(O.fr x hx).1))
 have hcl:=cX (env:=X.env) (scope:=lsc) free;obtain⟨ws,w1,w2,w3⟩:=nY hN hst (nC lsc) fun x hx=>(O.fr x (qG.mp hx)).2;refine S1z (eX I hg hm ?_ hdb);refine T1z (h₀:=X.base) I.ok.mod.kin hk ?_ rfl rfl;show wpAny _ _ (spliced ((false,eval (.Lambda noArgs body lsc lp) X.env)::backTo cp (starEach [] X.env))) _ _ s;rw[L.qual] at hT;refine R1z (Ej I rfl hcode C hcl L.bi L.glob hT fun f c1 ctv pm s' H1 l1 J T1 hc1 hcP hold hnew keep1 e1 e4 hf1 keep=>?_);refine C2z ⟨J.kIn,?_⟩;have J':=J.untrack hc1;have stk:∀ b∈frs X.stack,H1 b=none:=fun b hb=>J.stkFree b hb
 have hfr:c1∉frs X.stack:=fun z=>by rw[stk c1 z] at hc1;cases hc1
 have ff:f∉frs X.stack:=fun z=>by
  rcases List.mem_cons.mp (I.stkSub f z) with e | e
  ·exact absurd (M1z I.lt (by rw[<- e];exact e4)) (W3z _)
  ·exact I.nofs e4 e
 have rec':(xO s'.heap (del H1 c1) (frs X.stack)).CodeRec (.ref c1) (X.env.qual++"<lambda>"):=by
  obtain⟨c2,oc,vs,t,a1,a2,a3,a4⟩:=Ai.rec J.hok hc1;cases a1;exact⟨c1,oc,vs,t,rfl,mC a2 gw hfr,a3,a4⟩
 have inC:=(lX (cells:=X.env.cells) I.ok.inj lsc.names [] O.nd free (by simp) (by simp)).2;have lk:∀ x cc,(fP X.env.cells lsc.names []).lookup x=some cc->X.env.cells.lookup x=some cc:=fun x cc e=>inC _ (H1z e)
 have has:∀ x,(x,NameKind.free)∈lsc.names->∃ cc,(fP X.env.cells lsc.names []).lookup x=some cc:=fun x hx=>by
  obtain⟨cc,h1⟩:=iI (cells:=X.env.cells) lsc.names [] hx;exact dU (List.contains_iff_mem.mpr (List.mem_map.mpr ⟨_,h1,rfl⟩))
 have eN:(gj lsc ρ).map (·.1)=nC lsc:=by unfold gj;rw[L4z];exact List.map_id (nC lsc)
 obtain⟨m,hns,hloc⟩:=J.loc
 have LN:LamNames (xO s'.heap (del H1 c1) (frs X.stack)) lsc ((gj lsc ρ).map (·.1)) ws (fP X.env.cells lsc.names []):=by
  rw[eN];refine⟨O.kind,O.co,O.gen,O.own,w1,fun i x v a1 a2=>?_,fun x y cc a1 a2=>I.ok.inj x y cc (lk x cc a1) (lk y cc a2),fun x e=>has x (H1z e),fun x cc a1=>?_⟩
  ·have hx:(x,NameKind.free)∈lsc.names:=qG.mp (List.mem_of_getElem? a1)
   obtain⟨j,b4,b5⟩:=w2 i x v a1 a2
   have kx:X.env.kindOf x=some .cell:=by show X.env.scope.names.lookup x=_;rw[hsc];exact(O.fr x hx).1
   obtain⟨u,ru,lku⟩:=hloc j x v b4 b5 (.inr (.inl kx));obtain⟨cc,hcc⟩:=has x hx;refine⟨bC O.nd hx,cc,u,hcc,ru,?_⟩;rcases lku with⟨z,_⟩ | ⟨_,c3,z1,z2⟩
   ·rw[kx] at z;cases z
   ·rw[lk x cc hcc] at z1;cases z1
    exact qU J' L.fn (lk x cc hcc) z2
  ·obtain⟨v,hv⟩:=J.cell x cc (lk x cc a1)
   exact⟨v,qU J' L.fn (lk x cc a1) hv⟩
 have ef:(xO s'.heap (del H1 c1) (frs X.stack)).get? f=some (PySem.W.kla_obj "<lambda>" (X.env.qual++"<lambda>") noArgs body lsc (fP X.env.cells lsc.names []) pm c1 ctv):=mC e1 (dh hf1) ff;have FL:=hFL _ f c1 pm ctv _ ws ef rec' LN (by rw[eN];exact O.ndf) (by unfold gj;exact w3);have FT:=hG _ f _ _ Hs c' d hin hcv FL ef rfl zK
 have sm:Same Hs (del H1 c1):=fun b o e=>by
  have eb:=hs b o e
  have nP:b≠p.1:=fun z=>by rw[z,n1] at e;cases e
  have nc:b≠c1:=fun z=>by
   rcases hold with z1 | ⟨q,hq',z1⟩
   ·rw[z,z1] at eb;cases eb
   ·rw[z,<- z1,n2 q hq'] at e;cases e
  rw[dj nc];exact keep1 b o nP eb
 have hsc1:Hs c1=none:=by
  rcases hold with z | ⟨q,hq',z⟩
  ·cases e:Hs c1 with
   | none=>rfl
   | some o=>rw[hs c1 o e] at z;cases z
  ·rw[<- z];exact n2 q hq'
 refine yC (vs:=[.ref f]) hc1 FT (hr.mono (by omega)) hbG vo J hfr (.cons rfl .nil) ⟨rfl,sm,fun v H2 Hs2 E2 r2 hn2=>hq v _ Hs2 ⟨E2.vis,fun b o hb e=>?_,fun b o e=>?_,fun b o e n=>?_,l1,⟨?_,fun q hq'=>?_⟩,?_,fun q hq'=>?_⟩ r2⟩
 ·have e':=keep1 b o hb e
  by_cases z:b=c1
  ·subst z;rw[aB];exact hc1.symm.trans e'
  ·rw[ak z];exact E2.all b o (by rw[dj z];exact e')
 ·have:=E2.sub b o e
  rw[ak (aq this hn2)];exact this
 ·by_cases z:b=c1
  ·subst z
   cases q:Hs2 b with
   | none=>rfl
   | some o'=>rw[E2.sub b o' q] at hn2;cases hn2
  ·by_cases z2:b=p.1
   ·subst z2;exact E2.hid _ _ (by rw[dj hcP.symm];exact T1.tab) n
   ·exact E2.hid b o (by rw[dj z];exact keep1 b o z2 e) n
 ·rw[ak hcP.symm]
  exact E2.all _ _ (by rw[dj hcP.symm];exact T1.tab)
 ·by_cases z:q.2=c1
  ·rw[z,aB,L.qual];rfl
  ·rw[ak z,L.qual];exact E2.all _ _ (by rw[dj z];exact T1.cod q hq')
 ·exact E2.hid _ _ (by rw[dj hcP.symm];exact T1.tab) n1
 ·by_cases z:q.2=c1
  ·rw[z]
   cases e:Hs2 c1 with
   | none=>rfl
   | some o'=>rw[E2.sub c1 o' e] at hn2;cases hn2
  ·rcases hnew q hq' with z1 | z1
   ·exact E2.hid _ _ (by rw[dj z];exact T1.cod q hq') (n2 q z1)
   ·exact absurd z1 z
end
end L2
namespace DE
open PySem
def toldOf:Expr->Option (Str×Expr×Scope)
 | .Call (.Name tn _) [.Lambda ⟨[],[],none,[],[],none,[]⟩ body lsc _] [] _=>some (tn,body,lsc)
 | _=>none
end DE
namespace L2
open PySem PySem.Spec PyProof.Rows
open DE hiding st
theorem uw{e:Expr}{tn:Str}{body:Expr}{lsc:Scope}(h:toldOf e=some (tn,body,lsc)):∃ pp lp cp,e=.Call (.Name tn pp) [.Lambda noArgs body lsc lp] [] cp:=by
 unfold toldOf at h;split at h
 ·cases h;exact⟨_,_,_,rfl⟩
 ·cases h
structure LamP where
 tn:Str
 cv:Str->Option D
section
variable {X:Cx} {ρ:Rho} {T:Pg} {F k:Nat} {sc:Scope} {Hs0 H0:Hp} {L:LamP} {p:Addr×Str}
end
abbrev Cx.relm(X:Cx)(q:Option (Addr×Str)):Cx:={ X with lm:=q }
section
variable {X:Cx} {z0:List (Addr×Obj)} {σ:St} {H:Hp} {s:Shared} {q:Option (Addr×Str)}
theorem Inv.relm(I:Inv X z0 σ H s)(q:Option (Addr×Str)):Inv (X.relm q) z0 σ H s :=
 ⟨⟨I.ok.mod,I.ok.kind,I.ok.glob,I.ok.blt,I.ok.above,I.ok.inj,I.ok.has,I.ok.cab,I.ok.hd,I.ok.frames,I.ok.stk,I.ok.exf,I.ok.bs,I.ok.bsz,I.ok.noex,I.ok.exfs,I.ok.funs,I.ok.frf⟩,I.os,I.bare,I.base,I.loc,I.cell,I.free,I.freeC,I.pin,I.hok,I.len⟩
theorem Inv.unrelm(I:Inv (X.relm q) z0 σ H s):Inv X z0 σ H s :=
 ⟨⟨I.ok.mod,I.ok.kind,I.ok.glob,I.ok.blt,I.ok.above,I.ok.inj,I.ok.has,I.ok.cab,I.ok.hd,I.ok.frames,I.ok.stk,I.ok.exf,I.ok.bs,I.ok.bsz,I.ok.noex,I.ok.exfs,I.ok.funs,I.ok.frf⟩,I.os,I.bare,I.base,I.loc,I.cell,I.free,I.freeC,I.pin,I.hok,I.len⟩
theorem SP.unrelm{D:Ends}{f:Flow}(h:SP (X.relm q) z0 D f s):SP X z0 D f s:=by
 cases f with
 | next=>obtain⟨σ',H',I,z⟩:=h;exact⟨σ',H',I.unrelm,z⟩
 | brk=>obtain⟨σ',H',I,z⟩:=h;exact⟨σ',H',I.unrelm,z⟩
 | cont=>obtain⟨σ',H',I,z⟩:=h;exact⟨σ',H',I.unrelm,z⟩
 | ret u=>obtain⟨v,σ',H',I,r,z⟩:=h;exact⟨v,σ',H',I.unrelm,r,z⟩
end
section
variable {P:Program} {w:World} {K:Zf} {mg:Str->Option Value} {base:Heap} {T:DE.Pg} {F k:Nat}
def qe(K:Zf)(Pt:Addr):Sp:=fun vs H Q _=>∃ (a:Addr) (ns:List Int),vs=[.ref a]/\SqL K H a (ns.map V.int)/\ns.length<=63/\H Pt=some (g8 Pt #[])/\∀ (H':Hp) (ps':Array Value),H' Pt=some (g8 Pt ps')->Q (.bl true) H'
end
section
variable {P:Program} {w:World} {K:Zf} {mg:Str->Option Value} {T:DE.Pg} {F kd:Nat}
def Ui(T:DE.Pg)(F:Nat)(fd:Fd)(c:Str):Option D:=runC (T.cx (aZ T F 0)) F fd.sc fd.body (bY fd [.exc c])
theorem ux{tn cls dn n:Str}{fdT fdC:Fd}{p1 p2 p3 np p4 p5 p6 p7 hp pos:Pos}(Tx:Text w K mg T)(hT:T.defs.lookup tn=some fdT)(hC:T.defs.lookup cls=some fdC)
  (hbody:fdT.body=[.Try [.Return (some (.Call (.Name dn p1) [] [] p2)) p3] [.ExceptHandler (some (.Name T.top np)) (some n) [.Return (some (.Call (.Name cls p4) [.Name n p5] [] p6)) p7] hp] [] [] pos])
  (hN:fdT.N=[dn,n]) (hps:fdT.ps=[dn]) (ld:fdT.sc.names.lookup dn=some .local) (ln:fdT.sc.names.lookup n=some .local) (lc:fdT.sc.names.lookup T.top=some .globalImplicit) (lcls:fdT.sc.names.lookup cls=some .globalImplicit)
  (pn:aD n=true) (pd:aD dn=true) (pc:aD T.top=true) (h1:fdC.ps.length=1) (hkd:1<=kd):j6 P w K mg kd T.exs (Ui T F fdC) tn:=by
 have FA:=Tx.fns tn fdT hT;obtain⟨nm,t,a,g,m1,m2,m3,m4,m5⟩:=FA.ex;have FB:=Tx.fns cls fdC hC;obtain⟨nm',t',ac,gc,q1,q2,q3,q4,q5⟩:=FB.ex;have S:=FA.fs;rw[hN,hps,m5] at S;rw[hps] at m3;refine⟨FA.nd,a,g,dn,m1,m2.kp,m3,fun base f fd o Hs0 c' d hin hcv GD ho hd hb=>?_⟩;exact Cd m2 (m4.symm.trans hbody) S (m5▸ld) (m5▸ln) (m5▸lc) (m5▸lcls) Tx.exs hin pn pd pc FB.nd q1 q2.kp q3 (fun base=>Jx (k:=0) Tx q2 q4 q5 FB.fs h1 hcv) h1 GD hkd ho hd hb
end
end L2
namespace L2
open PySem PySem.Spec PyProof.Rows
theorem vO{P:Program}{w:World}{K:Zf}{mg mb:Str->Option Value}{k:Nat}{fa a c Pt:Addr}{fd:FuncData}{x:Str}{s₁:Shared}{vs:List Value}{ns:List Int}
  (KX:K.In s₁.heap) (hns:s₁.heap.Ns mainGlobals mg) (hb:s₁.heap.Ns builtinsNs mb) (hbb:∀ x:Str,x≠"__name__"->mb x=bootBuiltins x) (hlim:s₁.heap.NoLimit) (hg:s₁.gens = #[])
  (ha:s₁.heap.get? a=some { cls:=.type "list",data:=.seq vs.toArray }) (hi:IntsAre vs ns) (hl:ns.length<=63) (hr:Room k callerA)
  (hT:s₁.heap.get? Pt=some (PySem.W.tabObj #[])) (hKP:K.lookup Pt=none) (hC:PySem.W.CodeHd s₁.heap c Pt) (hbm:s₁.heap.BuiltinsAt mg Pt)
  (F:∀ base:Heap,K.In base->base.Ns mainGlobals mg->PySem.W.CodeHd base c Pt->base.BuiltinsAt mg Pt->FnOk P w K mg base CX0 k fa fd [x] (qe K Pt)) (hbind:∀ (s:Shared) (u:Value),BindsTo s fd ⟨[u],[]⟩ [(x,u)]) :
  codeAny (model P w) callerA (.call (.ref fa) ⟨[.ref a],[]⟩) (fun r s'=>r=.ok (.ret (.bool true))/\OldK s₁.heap s'.heap/\s'.os=s₁.os/\AllBare s'.gens) s₁:=by
 have rv:=iR hi;have lenV:=hi.length
 have naP:a≠Pt:=fun z=>by rw[z,hT] at ha;cases ha
 have core:∀ H0:Hp,Only H0->SqL K H0 a (ns.map V.int)->HOk P w H0 s₁.heap->(∀ b,H0 b≠none->b=a)->(H0 a≠none->K.lookup a=none) ->
   codeAny (model P w) callerA (.call (.ref fa) ⟨[.ref a],[]⟩) (fun r s'=>r=.ok (.ret (.bool true))/\OldK s₁.heap s'.heap/\s'.os=s₁.os/\AllBare s'.gens) s₁:=by
  intro H0 hO hS hok hA hK
  have h0P:H0 Pt=none:=by
   cases q:H0 Pt with
   | none=>rfl
   | some u=>exact absurd (hA Pt (by rw[q];simp)).symm naP
  have eP:(upd H0 Pt (g8 Pt #[])) Pt=some (g8 Pt #[]):=aB
  have hokH:HOk P w (upd H0 Pt (g8 Pt #[])) s₁.heap:=fun b u e=>by
   by_cases hb:b=Pt
   ·subst hb;rw[aB] at e;cases e;exact Aq hT
   ·rw[ak hb] at e
    exact(hok b u e).stay (fun c v _ q=>q) (fun c q=>by rw[ak (aq q h0P)];exact q) fun c xs q=>by rw[ak (aq q h0P)];exact q
  have hSH:SqL K (upd H0 Pt (g8 Pt #[])) a (ns.map V.int):=by
   rcases hS with(e | ⟨o,e⟩) | e
   ·exact .inl (.inl (by rw[ak naP];exact e))
   ·exact .inl (.inr ⟨o,by rw[ak naP];exact e⟩)
   ·exact .inr e
  have noH:∀ {b:Addr},b≠Pt->b≠a->(upd H0 Pt (g8 Pt #[])) b=none:=fun {b} h1 h2=>by
   rw[ak h1]
   cases q:H0 b with
   | none=>rfl
   | some u=>exact absurd (hA b (by rw[q];simp)) h2
  have un_of:∀ {b:Addr} {o:Obj},s₁.heap.get? b=some o->(upd H0 Pt (g8 Pt #[])) b=none->(nq s₁.heap (upd H0 Pt (g8 Pt #[]))).get? b=some o:=fun e n=>lJ e n;have nsK:∀ {b:Addr} {m:Str->Option Value},s₁.heap.Ns b m->(nq s₁.heap (upd H0 Pt (g8 Pt #[]))).Ns b m:=fun {b m} ⟨o,es,ep,e,d,r⟩=>⟨o,es,ep,un_of e (noH (fun z=>by rw[z,hT] at e;cases e;cases d) (fun z=>by rw[z,ha] at e;cases e;cases d)),d,r⟩
  have hKb:K.In (nq s₁.heap (upd H0 Pt (g8 Pt #[]))):=fun b o e=>un_of (KX b o e) (by
   have hbP:b≠Pt:=fun z=>by rw[z,hKP] at e;cases e
   rw[ak hbP]
   cases q:H0 b with
   | none=>rfl
   | some u =>
    have e':b=a:=hA b (by rw[q];simp)
    subst e'
    rw[hK (by rw[q];simp)] at e;cases e)
  have hM:Mod K mg (nq s₁.heap (upd H0 Pt (g8 Pt #[]))):=⟨hKb,nsK hns,⟨mb,nsK hb,hbb⟩,let ⟨mc,h1,h2⟩:=hlim;⟨mc,nsK h1,h2⟩⟩
  have e0:Env0 P w K mg (nq s₁.heap (upd H0 Pt (g8 Pt #[]))) callerA [] s₁ (upd H0 Pt (g8 Pt #[])):=⟨rfl,hM,fun b o e=>oY e,Nat.le_of_eq (ju _ _),trivial,fun b hb=>absurd (show b∈([]:List Addr) from hb) (by simp),hokH,.of_eq hg⟩
  have hCb:PySem.W.CodeHd (nq s₁.heap (upd H0 Pt (g8 Pt #[]))) c Pt:=by
   obtain⟨o,vs',file,tf,flags,tg,inF,text,tt,e1,e2,r⟩:=hC;exact⟨o,vs',file,tf,flags,tg,inF,text,tt,un_of e1 (noH r.2.2.2.2.2.2.2 (fun z=>by rw[z,ha] at e1;cases e1;exact absurd (show Value.type "list"=Value.type "code" from e2) (by decide))),e2,r⟩
  have hBb:(nq s₁.heap (upd H0 Pt (g8 Pt #[]))).BuiltinsAt mg Pt:=by
   obtain⟨bm,ob,b1,b2,b3,b4,b5,b6,b7,b8⟩:=hbm;exact⟨bm,ob,b1,b2,b3,b4,un_of b5 (noH b4 (fun z=>by rw[z,ha] at b5;cases b5;exact absurd (show Value.type "list"=Value.type "module" from b6) (by decide))),b6,b7,b8⟩
  refine J4z ((F _ hKb (nsK hns) hCb hBb).run callerA [] s₁ _ ⟨[.ref a],[]⟩ [.ref a] [.ref a] (fun v H'=>v=.bl true/\∃ ps',H' Pt=some (g8 Pt ps')) (fun _ _ _=>False) hr e0 (hbind s₁ (.ref a)) (.cons rfl .nil) ⟨a,ns,rfl,hSH,hl,eP,fun H' ps' e=>⟨rfl,ps',e⟩⟩) fun r s' h=>?_
  cases r with
  | error e=>exact False.elim h
  | ok fl =>
   cases fl with
   | next=>exact False.elim h
   | brk=>exact False.elim h
   | cont=>exact False.elim h
   | ret u =>
    obtain⟨v,H',os,bare,un,hok',r',q,ps',hps⟩:=h;subst q;obtain rfl:u=Value.bool true:=r'
    have keep:∀ b o,s₁.heap.get? b=some o->b≠Pt->s'.heap.get? b=some o:=fun b o e hbP=>by
     by_cases hba:b=a
     ·subst hba
      rcases hO b with z | ⟨ob,xs,z⟩
      ·exact un.keep b o e (by rw[ak hbP];exact z) (by intro z;exact absurd (show b∈([]:List Addr) from z) (by simp)) (by simp)
      ·have z1:(upd H0 Pt (g8 Pt #[])) b=some (.frz ob (.lst xs)):=by rw[ak hbP];exact z
       have z2:=un.frzs b ob _ z1;obtain⟨e1,_⟩:=hok b _ z;obtain⟨e2,_⟩:=hok' b _ z2;rw[e] at e1;cases e1;exact e2
     ·exact un.keep b o e (noH hbP hba) (by intro z;exact absurd (show b∈([]:List Addr) from z) (by simp)) (by simp)
    have hPt:s'.heap.get? Pt=some (PySem.W.tabObj ps'):=(hok' Pt _ hps).1;refine⟨rfl,⟨fun b o e=>?_,fun b o e=>?_⟩,os,bare⟩
    ·by_cases hbP:b=Pt
     ·subst hbP
      rw[hT] at e;cases e
      exact .inr (.inl ⟨(hC.tab hT).isCodeTable,rfl,#[],ps',rfl,by rw[hPt];simp⟩)
     ·exact .inl (keep b o e hbP)
    ·by_cases hbP:b=Pt
     ·subst hbP;exact⟨_,hPt⟩
     ·exact⟨o,keep b o e hbP⟩
 cases hk:K.lookup a with
 | some o =>
  have e:=KX a o hk;rw[ha] at e;cases e;refine core (fun _=>none) (fun _=>.inl rfl) (.inr ⟨_,vs.toArray,_,hk,rfl,rfl,rfl,by rw[D2z,lenV];exact G4z hl (by decide),by simpa using rv⟩) (fun b u z=>by have z':(none:Option HO)=some u:=z;cases z') (fun b z=>absurd rfl z) fun z=>absurd rfl z
 | none =>
  refine core (fun b=>if b=a then some (.frz { cls:=.type "list",data:=.seq vs.toArray } (.lst (ns.map V.int))) else none) (fun b=>?_) (.inl (.inr ⟨{ cls:=.type "list",data:=.seq vs.toArray },D5z rfl⟩)) (fun b u z=>?_) (fun b z=>?_) fun _=>hk
  ·by_cases hb:b=a
   ·exact .inr ⟨_,_,D5z hb⟩
   ·exact .inl (E5z hb)
  ·by_cases hb:b=a
   ·have z':=(D5z hb).symm.trans z
    cases z';subst hb;exact⟨ha,by rw[D3z];exact G4z hl (by decide),vs,_,rv,ha⟩
   ·have z':=(E5z hb).symm.trans z
    cases z'
  ·by_cases hb:b=a
   ·exact hb
   ·exact absurd (E5z hb) z
theorem walkL{l:PySem.W.OpenLaw}{k:Nat}{q:Program}{loose:List Str}{XP:(Str->Option Value)->Heap->Prop}{YP:World->Heap->Prop}{d:DefRec}{K:Params->Zf}{x:Str}{c Pt:Addr}
    (hn:l.most=some 63) (hdf:d.params.defaults=[]) (hr:Room k callerA)
    (hY:∀ (w:World) (h:Heap),YP w h->(K w.params).In h/\h.get? Pt=some (PySem.W.tabObj #[])) (hKP:∀ P,(K P).lookup Pt=none) (hKC:∀ P,PySem.W.codeHdIn (K P) c Pt=true)
    (F:∀ (w:World) (mg:Str->Option Value) (fa:Addr) (h:Heap),(K w.params).In h->h.Ns mainGlobals mg->mg d.name=some (.ref fa) ->
      ∃ fd : FuncData, (∀ (s : Shared) (u : Value), BindsTo s fd ⟨[u], []⟩ [(x, u)]) /\
        ∀ base:Heap,(K w.params).In base->base.Ns mainGlobals mg->PySem.W.CodeHd base c Pt->base.BuiltinsAt mg Pt->FnOk l.prog w (K w.params) mg base CX0 k fa fd [x] (qe (K w.params) Pt)) :
    PySem.W.WalkO q loose XP YP l.row.toRowW d [] (fun f vs=>PySem.call f vs):=by
  refine Att.jD hn hdf fun w s₀ s₁ mg mb fa o pm cd doc a vs ns G Y ho hd hcd hmg hobj hints hlen hg=>?_
  obtain⟨KX,hT⟩:=hY w _ Y
  obtain⟨fd,hb,hF⟩:=F w mg fa _ KX G.T.g hmg
  obtain⟨bm,ob,b1,b2,b3,b4,b5,b6⟩:=G.T.bmain
  have hbP:bm≠Pt:=fun z=>by rw[z,hT] at b3;cases b3;cases b4
  have hbG:bm≠mainGlobals:=fun z=>by
    obtain⟨o,es,ep,e,hd,_⟩:=G.T.g
    rw[z,e] at b3;cases b3;rw[hd] at b6;cases b6
  exact vO KX G.T.g G.T.b G.T.builtins G.T.nolimit hg hobj hints hlen hr hT (hKP _) (PySem.W.codeHd_of_K KX (hKC _)) ⟨bm,ob,b1,b2,hbG,hbP,b3,b4,b5,b6⟩ hF hb
end L2
namespace DE
open PySem
def Ls{α:Type}(m:Nat)(h:Nat->α):List α:=(List.range m).map h
theorem mD{l:List D}{j:Nat}{d:D}(h:l[j]?=some d):atD l (j:Int)=some d:=by
 have hj:=(List.getElem?_eq_some_iff.mp h).1;unfold atD ixD;rw[D5z (by omega),D5z (by omega)];simpa using h
theorem uX{n:Nat}:eE 0 (n:Int)=Ls n fun k=>.int k:=by
 unfold eE Ls;simp
def Vu(cx:Cxt)(sc:Scope)(ρ:Rho)(x:Str):Option D:=if aD x then(match sc.names.lookup x with
    | some .local=>(match ρ.lookup x with | some (.sh d)=>some d | _=>none)
    | some .cell=>(match ρ.lookup x with | some (.sh d)=>some d | _=>none)
    | some .free=>(match ρ.lookup x with | some (.sh d)=>some d | _=>none)
    | some .globalImplicit=>cx.cst.lookup x
    | _=>none) else none
def V0(c:Const):Option D:=(match c with
    | .none=>some .non
    | .bool b=>some (.bl b)
    | .int i=>some (.int i)
    | .str x=>some (.str x)
    | _=>none)
section
variable {cx:Cxt} {n:Nat} {sc scope:Scope} {ρ:Rho} {a b c e:Expr} {es:List Expr} {p q:Pos} {x y z d:D} {ds:List D} {nm:Str} {op op':CmpOp}
theorem xName(h:Vu cx sc ρ nm=some d):ev cx (n+1) sc ρ (.Name nm p)=some d:=h
theorem bL{k:Const}{j:Nat}(h:V0 k=some d):ev cx (n+1) sc ρ (.Constant k j p)=some d:=h
theorem jF{o:Operator}(h1:ev cx n sc ρ a=some x)(h2:ev cx n sc ρ b=some y)(h:binop o x y=some d):ev cx (n+1) sc ρ (.BinOp a o b p)=some d:=by
 simp only[ev,h1,h2];exact h
theorem Gm(h1:ev cx n sc ρ a=some x)(h2:ev cx n sc ρ b=some y)(h:cmpop op x y=some d):ev cx (n+1) sc ρ (.Compare a [op] [b] p)=some d:=by
 simp only[ev,h1,h2];exact h
theorem BX{f:Expr->Option D}:jH f []=some []:=rfl
theorem cR{f:Expr->Option D}(h1:f a=some x)(h2:jH f es=some ds):jH f (a::es)=some (x::ds):=by
 simp only[jH,h1,h2];rfl
theorem JK(h1:jH (ev cx n sc ρ) es=some ds)(hz:szl ds.length=true):ev cx (n+1) sc ρ (.List es p)=some (.lst ds):=by
 simp only[ev,h1];show(if szl ds.length=true then _ else _)=_;rw[D5z hz]
theorem Ck{x:D}{i:Int}{xs:List D}(h:items x=some xs):JM x (.int i)=atD xs i:=by cases x<;>simp[items] at h<;>subst h<;>rfl
theorem xIx{i:Int}{xs:List D}(h1:ev cx n sc ρ a=some x)(h2:ev cx n sc ρ b=some (.int i))(h3:items x=some xs)(h4:atD xs i=some d)(hs:aF b=true:=by rfl):ev cx (n+1) sc ρ (.Subscript a b p)=some d:=by
 simp only[ev,h1];show Option.bind _ _=_
 cases b<;>first | (simp[aF] at hs;done) | (simp only[h2];show JM x (.int i)=some d;rw[Ck h3];exact h4)
theorem Gx{B:String}(hg:aU cx sc nm=some B)(hw:Al cx sc B es=.al)(hn:(B=="isinstance"||es.isEmpty)=false)(h1:jH (ev cx n sc ρ) es=some ds)(h:blt B ds=some d):ev cx (n+1) sc ρ (.Call (.Name nm q) es [] p)=some d:=by
 rw[Bool.or_eq_false_iff] at hn;unfold aU at hg;split at hg
 ·rename_i hgl
  simp only[ev,hgl,hg,C5z];split
  ·rename_i he;cases he;simp at hn
  ·rename_i he;cases he
   simp only[hw,hn.2,h1,W1z,A5z];exact h
  ·rename_i he;cases he
 ·cases hg
def isFn(cx:Cxt)(sc:Scope)(nm:Str)(es:List Expr):Bool:=pB cx sc nm&&(cx.blt.lookup nm).isNone&&cx.fns.contains nm && !es.isEmpty
theorem tV(hf:isFn cx sc nm es=true)(h1:jH (ev cx n sc ρ) es=some ds)(h:cx.call nm ds=some d):ev cx (n+1) sc ρ (.Call (.Name nm q) es [] p)=some d:=by
 unfold isFn at hf;rw[W2z,W2z,W2z] at hf;obtain⟨⟨⟨h2,h3⟩,h4⟩,h5⟩:=hf
 have h3':cx.blt.lookup nm=none:=by simpa using h3
 simp only[ev,h2,h3',h4,h5,Bool.and_self,C5z,h1];exact h
theorem wR1{tup:Bool}{j:Int}(hw:BZ cx sc e=.r1 a)(h1:ev cx n sc ρ a=some (.int j))(hz:ig j=true):evI cx tup (ev cx n sc ρ) sc e=some (eE 0 j):=by
 unfold evI;rw[hw];simp only[h1,X2z,asI];show(if ig j=true then _ else _)=_;rw[D5z hz]
variable {F:Nat} {f:Rho->Stmt->Option Fl} {r:List Stmt} {fl:Fl} {m:Nat}
abbrev blk(cx:Cxt)(F m:Nat)(sc:Scope):List Stmt->Rho->Option Fl:=iD (fun ρ s=>st cx F m sc ρ s)
theorem zR:blk cx F m sc [] ρ=some (.nxt ρ):=rfl
def Ce(cx:Cxt)(F m:Nat)(sc:Scope)(r:List Stmt):Fl->Option Fl
 | .ret d=>some (.ret d)
 | .nxt ρ'=>blk cx F m sc r ρ'
theorem gSt{s:Stmt}{fl1:Fl}(h:st cx F m sc ρ s=some fl1)(k:Ce cx F m sc r fl1=some fl):blk cx F m sc (s::r) ρ=some fl:=by
 show(st cx F m sc ρ s).bind _=_;rw[h]
 cases fl1<;>exact k
theorem J3(h:ev cx F sc (frz F e ρ) e=some d):blk cx F (m+1) sc (.Return (some e) p::r) ρ=some (.ret d):=by
 refine gSt (fl1:=.ret d) ?_ rfl;simp only[st,h];rfl
theorem Ud{px:Pos}(ho:(ownIn sc nm&&(ρ.map (·.1)).contains nm)=true)(h:ev cx F sc (frz F e ρ) e=some d)(k:blk cx F (m+1) sc r (cT (frz F e ρ) nm (mX e d))=some fl)(hoo:(ooE cx sc e&&Il (frz F e ρ) nm)=false:=by rfl)(hno:(aX e && !xZ (frz F e ρ) nm)=false:=by rfl)(hle:Gq cx sc e=false:=by rfl)(hrd:rdA e=false:=by rfl):blk cx F (m+1) sc (.Assign [.Name nm px] e p::r) ρ=some fl:=by
 refine gSt (fl1:=.nxt _) ?_ k;simp only[st,h,D5z ho,hoo,hno,hle,hrd,Bool.false_and,W1z,A5z];rfl
theorem Ue{A B:List Stmt}{fl1:Fl}(h:ev cx F sc (frz F c ρ) c=some (.bl true))(k:blk cx F m sc A ρ=some fl1)(k2:Ce cx F (m+1) sc r fl1=some fl):blk cx F (m+1) sc (.If c A B p::r) ρ=some fl:=by
 refine gSt ?_ k2;have k':iD (fun ρ s=>st cx F m sc ρ s) A ρ=some fl1:=k;simp only[st,h,bind,X2z,asB,C5z,k']
theorem VN{A B:List Stmt}{fl1:Fl}(h:ev cx F sc (frz F c ρ) c=some (.bl false))(k:blk cx F m sc B ρ=some fl1)(k2:Ce cx F (m+1) sc r fl1=some fl):blk cx F (m+1) sc (.If c A B p::r) ρ=some fl:=by
 refine gSt ?_ k2;have k':iD (fun ρ s=>st cx F m sc ρ s) B ρ=some fl1:=k;simp only[st,h,bind,X2z,asB,W1z,A5z,k']
theorem QX{A:List Stmt}(h:ev cx F sc (frz F c ρ) c=some (.bl false))(k:blk cx F (m+1) sc r ρ=some fl):blk cx F (m+1) sc (.If c A [] p::r) ρ=some fl :=
 VN h zR k
abbrev cxN(P:Pg)(F k:Nat):Cxt:=⟨P.cst,P.blt,P.defs.map (·.1),P.exs,P.top,true,oA P F k,Gh P F k⟩
theorem Jv{P:Pg}{k:Nat}:P.cx (aZ P F k)=cxN P F k:=by
 have e1:oA P F k=fun f ds=>Rs.val? (aZ P F k f ds):=by funext f ds;exact mj
 have e2:Gh P F k=fun f ds=>Rs.exc? (aZ P F k f ds):=by funext f ds;exact Ag
 unfold cxN;rw[e1,e2];rfl
theorem JH{P:Pg}{k:Nat}{f:Str}{fd:Fd}(hf:P.defs.lookup f=some fd)(hl:(ds.length==fd.ps.length)=true)(h:blk (cxN P F k) F F fd.sc fd.body (bY fd ds)=some (.ret d)):oA P F (k+1) f ds=some d:=by
 have h':iD (fun ρ s=>st (cxN P F k) F F fd.sc ρ s) fd.body (bY fd ds)=some (.ret d):=h;rw[mj];simp only[pO,hf,hl,C5z,tH,Jv,h',Rs.val?]
end
abbrev row(n:Nat)(f:Nat->Int):D:=.tup (Ls n fun j=>.int (f j))
abbrev tbl(m n:Nat)(f:Nat->Nat->Int):D:=.tup (Ls m fun i=>.tup (Ls n fun j=>.int (f i j)))
theorem Ve{n:Nat}(h:n<=100000):ig (n:Int)=true:=by
 unfold ig;rw[S3z (by omega),S3z (by omega)];rfl
theorem oLt{i j:Int}(h:i<j):cmpop .Lt (.int i) (.int j)=some (.bl true):=by
 show some (D.bl (decide (i<j)))=_;rw[S3z h]
theorem Rm{i j:Int}(h:¬ i<j):cmpop .Lt (.int i) (.int j)=some (.bl false):=by
 show some (D.bl (decide (i<j)))=_;rw[A3z h]
theorem Gs{i j:Int}(h:small i=true\/small j=true):binop .Mult (.int i) (.int j)=some (.int (i*j)):=by
 show(if(small i||small j||(mid i&&mid j))=true then _ else _)=_;rw[D5z (by rw[P3z,P3z];exact .inl h)]
theorem Gi{i j:Int}(h:0<j):binop .Mod (.int i) (.int j)=some (.int (i%j)):=by
 show(if decide (0<j)=true then _ else _)=_;rw[D5z (S3z h)]
theorem V1{i j:Int}(h:0<j)(h':j<1073741824):binop .FloorDiv (.int i) (.int j)=some (.int (i / j)):=by
 show(if(decide (0<j)&&decide (j<1073741824))=true then _ else _)=_;rw[D5z (by rw[S3z h,S3z h'];rfl)]
mutual
theorem FZ:∀ d:D,dep d<1000->deq d d=true
 | .non,_=>rfl
 | .bl b,_=>by simp[deq]
 | .int i,_=>by simp[deq]
 | .str x,_=>by simp[deq]
 | .tup xs,h=>by simp only[deq];exact lO xs (by simp only[dep] at h;omega)
 | .lst xs,h=>by simp only[deq];exact lO xs (by simp only[dep] at h;omega)
 | .exc c,h=>absurd h (by simp[dep])
 | .dic _ _,h=>absurd h (by simp[dep])
 | .obj _,h=>absurd h (by simp[dep])
theorem lO:∀ ds:List D,deps ds<1000->nM ds ds=true
 | [],_=>rfl
 | d::ds,h=>by
  simp only[deps] at h;simp only[nM,FZ d (by omega),lO ds (by omega),Bool.and_self]
end
theorem oEq{x y:D}(h1:dep x<=50)(h2:dep y<=50):cmpop .Eq x y=some (.bl (deq x y)):=by
 show(if(decide (dep x<=50)&&decide (dep y<=50))=true then some (D.bl (deq x y)) else none)=_;rw[S3z h1,S3z h2];rfl
theorem wW{b:Nat}:∀ {l:List D},(∀ d∈l,dep d<=b)->deps l<=b
 | [],_=>O4z _
 | d::r,h=>by
  simp only[deps];exact Nat.max_le.mpr ⟨h d O1z,wW fun e he=>h e (W0z _ he)⟩
section
variable {cx:Cxt} {n:Nat} {sc scope:Scope} {ρ:Rho} {a b c e:Expr} {es:List Expr} {p q:Pos} {x y z d:D} {ds:List D} {nm:Str}
theorem Rh{tup:Bool}{j:Nat}(hw:BZ cx sc e=.r1 a)(h1:ev cx n sc ρ a=some (.int j))(hz:j<=100000):evI cx tup (ev cx n sc ρ) sc e=some (Ls j fun k=>.int k):=by
 rw[wR1 hw h1 (Ve hz),uX]
end
section
variable {cx:Cxt} {n:Nat} {sc scope:Scope} {ρ:Rho} {a b c e:Expr} {es:List Expr} {p q:Pos} {x y z d:D} {ds:List D} {nm:Str}
end
section
variable {cx:Cxt} {n:Nat} {sc scope:Scope} {ρ:Rho} {a b c e:Expr} {es:List Expr} {p q:Pos} {x y z d:D} {ds:List D} {nm:Str} {F m:Nat} {r:List Stmt} {fl:Fl} {op op':CmpOp}
end
section
variable {cx:Cxt} {n:Nat} {sc scope:Scope} {ρ:Rho} {a b c e:Expr} {es:List Expr} {p q:Pos} {x y z d:D} {ds:List D} {nm:Str} {F m:Nat} {r:List Stmt} {fl:Fl}
end
section
variable {cx:Cxt} {n:Nat} {sc scope:Scope} {ρ:Rho} {a b c e:Expr} {p q:Pos}
end
def nOw:Sl->Bool
 | .ow _=>false
 | .oo _=>false
 | _=>true
section
variable {cx:Cxt} {sc:Scope} {ρ:Rho} {c e:Expr} {p:Pos} {d:D} {nm:Str} {F m:Nat} {r:List Stmt} {fl:Fl}
theorem vA(h:aX e=false):ooE cx sc e=false:=by
 cases e<;>first | rfl | exact absurd h (by simp[aX])
theorem uM(h:aX e=false):mX e d=.sh d:=by
 unfold mX;split
 ·rw[h];rfl
 ·rfl
theorem Es{px:Pos}{ρ':Rho}(hf:frz F e ρ=ρ')(ho:(ownIn sc nm&&(ρ.map (·.1)).contains nm)=true)(hfr:aX e=false)(h:ev cx F sc ρ' e=some d)(k:blk cx F (m+1) sc r (cT ρ' nm (.sh d))=some fl)(hle:Gq cx sc e=false:=by rfl)(hrd:rdA e=false:=by rfl):blk cx F (m+1) sc (.Assign [.Name nm px] e p::r) ρ=some fl:=by
 refine Ud ho (by rw[hf];exact h) ?_ (by rw[vA hfr];rfl) (by rw[hfr];rfl) hle hrd
 rw[hf,uM hfr];exact k
theorem zT{y:Str}{s:Sl}{ρ:Rho}:frz F e ((y,s)::ρ)=(match s with | .ow ds=>if d9 F y e then(y,.sh (.lst ds)) else(y,.ow ds) | .oo dss=>if d9 F y e then(y,.sh (.lst (dss.map .lst))) else(y,.oo dss) | s=>(y,s))::frz F e ρ:=by
 cases s<;>rfl
theorem zU{y:Str}{s:Sl}{ρ:Rho}(h:nOw s=true):frz F e ((y,s)::ρ)=(y,s)::frz F e ρ:=by
 cases s<;>first | rfl | simp[nOw] at h
theorem Ey{y:Str}{ds:List D}{ρ:Rho}(h:d9 F y e=true):frz F e ((y,.ow ds)::ρ)=(y,.sh (.lst ds))::frz F e ρ:=by
 show(if d9 F y e=true then _ else _)::_=_;rw[D5z h];rfl
end
def upd(f:Nat->Nat->Int)(a b:Nat)(v:Int):Nat->Nat->Int:=fun i j=>if i=a then(if j=b then v else f i j) else f i j
theorem Bu{F:Nat}{e:Expr}:frz F e []=[]:=rfl
theorem bx{F:Nat}{e:Expr}{y:Str}{s:Sl}{ρ ρ':Rho}(h:nOw s=true)(q:frz F e ρ=ρ'):frz F e ((y,s)::ρ)=(y,s)::ρ':=by rw[zU h,q]
def gc(u d:Int):Int:=(Int.gcd u d:Int)
section
variable {cx:Cxt} {sc:Scope} {ρ ρ' ρ2:Rho} {e:Expr} {p:Pos} {d:D} {nm:Str} {F m:Nat} {r:List Stmt} {fl:Fl} {ds:List D}
theorem J4{y:Str}(h:d9 F y e=false)(q:frz F e ρ=ρ'):frz F e ((y,.ow ds)::ρ)=(y,.ow ds)::ρ':=by
 rw[zT,q];simp only[h,W1z,A5z]
theorem Ug{y:Str}(h:d9 F y e=true)(q:frz F e ρ=ρ'):frz F e ((y,.ow ds)::ρ)=(y,.sh (.lst ds))::ρ':=by rw[Ey h,q]
end
end DE
namespace L2
open PySem PySem.Spec PyProof.Rows
open DE (D)
structure Cst where
 tabs:List (Str×D)
 don:List D
 und:List D
def JT(l:List (Str×D))(n:Str)(d:D):List (Str×D):=if(l.any fun p=>decide (p.1=n))=true then l.map (fun p=>if p.1=n then(p.1,d) else p) else l++[(n,d)]
def FW(l:List (Str×D))(n:Str):List (Str×D):=l.filter fun p=>decide (p.1≠n)
def tO(l:List (Str×D))(n:Str):Option D:=(l.find? fun p=>decide (p.1=n)).map (·.2)
def KvR(K:Zf)(Hs:Hp):List (Str×D)->List (Key×V)->Prop
 | [],kvs=>kvs=[]
 | (n,d)::r,kvs=>∃ v q,kvs=(Sum.inr n,v)::q/\Rep K Hs d v/\KvR K Hs r q
section
variable {K:Zf} {Hs Hs' H H':Hp}
theorem KvR.same(e:Same Hs Hs'):∀ {l:List (Str×D)} {kvs:List (Key×V)},KvR K Hs l kvs->KvR K Hs' l kvs
 | [],_,h=>h
 | (n,d)::r,_,h=>by
  obtain⟨v,q,rfl,h1,h2⟩:=h;exact⟨v,q,rfl,h1.same e,KvR.same e h2⟩
theorem KvR.length:∀ {l:List (Str×D)} {kvs:List (Key×V)},KvR K Hs l kvs->kvs.length=l.length
 | [],_,h=>by cases h;rfl
 | (n,d)::r,_,h=>by
  obtain⟨v,q,rfl,h1,h2⟩:=h;simp[h2.length]
theorem KvR.keys:∀ {l:List (Str×D)} {kvs:List (Key×V)},KvR K Hs l kvs->kvs.map (·.1)=(l.map (·.1)).map Sum.inr
 | [],_,h=>by cases h;rfl
 | (n,d)::r,_,h=>by
  obtain⟨v,q,rfl,h1,h2⟩:=h;simp[h2.keys]
theorem KvR.append:∀ {l:List (Str×D)} {kvs:List (Key×V)} {n:Str} {d:D} {v:V},KvR K Hs l kvs->Rep K Hs d v->KvR K Hs (l++[(n,d)]) (kvs++[(Sum.inr n,v)])
 | [],_,n,d,v,h,r=>by cases h;exact⟨v,[],rfl,r,rfl⟩
 | (m,e)::l,_,n,d,v,h,r=>by
  obtain⟨u,q,rfl,h1,h2⟩:=h;exact⟨u,_,rfl,h1,h2.append r⟩
theorem nj{m n:Str}:((Sum.inr m:Key)=Sum.inr n)↔m=n:=⟨fun h=>by cases h;rfl,fun h=>by rw[h]⟩
theorem KvR.any{n:Str}:∀ {l:List (Str×D)} {kvs:List (Key×V)},KvR K Hs l kvs->(kvs.any fun kv=>decide (kv.1=(Sum.inr n:Key)))=(l.any fun p=>decide (p.1=n))
 | [],_,h=>by cases h;rfl
 | (m,e)::l,_,h=>by
  obtain⟨u,q,rfl,h1,h2⟩:=h;rw[C4z,C4z,h2.any];congr 1;exact decide_eq_decide.mpr nj
theorem KvR.repl{n:Str}{d:D}{v:V}(r:Rep K Hs d v):∀ {l:List (Str×D)} {kvs:List (Key×V)},KvR K Hs l kvs->KvR K Hs (l.map (fun p=>if p.1=n then(p.1,d) else p)) (kvs.map (fun kv=>if kv.1=(Sum.inr n:Key) then(kv.1,v) else kv))
 | [],_,h=>by cases h;rfl
 | (m,e)::l,_,h=>by
  obtain⟨u,q,rfl,h1,h2⟩:=h;rw[Z3z,Z3z]
  by_cases hm:m=n
  ·rw[D5z hm,D5z (nj.mpr hm)]
   exact⟨v,_,rfl,r,KvR.repl r h2⟩
  ·rw[E5z hm,E5z (fun z=>hm (nj.mp z))]
   exact⟨u,_,rfl,h1,KvR.repl r h2⟩
theorem KvR.put{l:List (Str×D)}{kvs:List (Key×V)}{n:Str}{d:D}{v:V}(h:KvR K Hs l kvs)(r:Rep K Hs d v):KvR K Hs (JT l n d) (putK kvs (Sum.inr n) v):=by
 unfold JT putK;rw[h.any];split
 ·exact h.repl r
 ·exact h.append r
theorem KvR.drop{n:Str}:∀ {l:List (Str×D)} {kvs:List (Key×V)},KvR K Hs l kvs->KvR K Hs (FW l n) (pH kvs (Sum.inr n))
 | [],_,h=>by cases h;rfl
 | (m,e)::l,_,h=>by
  obtain⟨u,q,rfl,h1,h2⟩:=h;have ih:=KvR.drop (n:=n) h2;unfold FW pH at ih ⊢
  by_cases hm:m=n
  ·rw[List.filter_cons_of_neg (by simpa using hm),List.filter_cons_of_neg (by simpa using hm)]
   exact ih
  ·rw[List.filter_cons_of_pos (by simpa using hm),List.filter_cons_of_pos (by simpa using hm)]
   exact⟨u,_,rfl,h1,ih⟩
theorem KvR.get{n:Str}:∀ {l:List (Str×D)} {kvs:List (Key×V)},KvR K Hs l kvs->(tO l n=none/\jG kvs (Sum.inr n)=none)\/∃ d v,tO l n=some d/\jG kvs (Sum.inr n)=some v/\Rep K Hs d v
 | [],_,h=>by cases h;exact .inl ⟨rfl,rfl⟩
 | (m,e)::l,_,h=>by
  obtain⟨u,q,rfl,h1,h2⟩:=h
  by_cases hm:m=n
  ·refine .inr ⟨e,u,?_,iB (nj.mpr hm),h1⟩
   unfold tO;rw[List.find?_cons_of_pos (by simpa using hm)];rfl
  ·rw[iC (fun z=>hm (nj.mp z))]
   have:tO ((m,e)::l) n=tO l n:=by
    unfold tO;rw[List.find?_cons_of_neg (by simpa using hm)]
   rw[this];exact h2.get
end
abbrev nT:Str:="tables"
abbrev nD:Str:="done"
abbrev nU:Str:="undone"
theorem n1:¬ (nT=nD):=by decide +kernel
theorem n2:¬ (nT=nU):=by decide +kernel
theorem n3:¬ (nD=nU):=by decide +kernel
abbrev fl1(d:Addr):List (Str×V):=[(nT,.ref d)]
abbrev fl2(d dn:Addr):List (Str×V):=[(nT,.ref d),(nD,.ref dn)]
abbrev pD(d dn un:Addr):List (Str×V):=[(nT,.ref d),(nD,.ref dn),(nU,.ref un)]
theorem Vj(d dn:Addr):kY nD (.ref dn) (fl1 d)=fl2 d dn:=by
 show(if nT=nD then _ else _)=_;rw[E5z n1];rfl
theorem put2(d dn un:Addr):kY nU (.ref un) (fl2 d dn)=pD d dn un:=by
 show(if nT=nU then _ else(nT,V.ref d)::(if nD=nU then _ else _))=_;rw[E5z n2,E5z n3];rfl
theorem put3(d dn un un':Addr):kY nU (.ref un') (pD d dn un)=pD d dn un':=by
 show(if nT=nU then _ else(nT,V.ref d)::(if nD=nU then _ else(nD,V.ref dn)::(if nU=nU then _ else _)))=_;rw[E5z n2,E5z n3,D5z rfl]
theorem o9(d dn un:Addr):(pD d dn un).lookup nT=some (.ref d):=by rfl
theorem zE(d dn un:Addr):(pD d dn un).lookup nD=some (.ref dn):=by rfl
theorem Ef(d dn un:Addr):(pD d dn un).lookup nU=some (.ref un):=by rfl
structure CRep (K:Zf) (C:Addr) (Hs H:Hp) (p d dn un:Addr) (S:Cst):Prop where
 ob:∃ dx,H p=some (.ins C dx (pD d dn un))
 dc:∃ kvs,H d=some (.dK kvs)/\KvR K Hs S.tabs kvs
 dl:∃ vs,H dn=some (.lst vs)/\aH K Hs S.don vs
 ul:∃ vs,H un=some (.lst vs)/\aH K Hs S.und vs
 ne:dn≠un
 hp:Hs p=none
 hd:Hs d=none
 hn:Hs dn=none
 hu:Hs un=none
structure ExtM (p d dn un un':Addr) (Hs H Hs' H':Hp):Prop where
 vis:Same Hs Hs'
 all:∀ b o,H b=some o->b≠p->b≠d->b≠dn->b≠un->H' b=some o
 sub:Same Hs' H'
 hid:∀ b o,H b=some o->b≠p->b≠d->b≠dn->b≠un->Hs b=none->Hs' b=none
 nu:un'=un\/H un'=none
theorem bJ{H H1:Hp}(E:Same H H1){b:Addr}(z:H1 b=none):H b=none:=by
 cases q:H b with
 | none=>rfl
 | some o=>rw[E _ _ q] at z;cases z
section
variable {K:Zf} {C:Addr} {Hs H Hs1 H1 Hs2 H2:Hp} {p d dn un un1 un2:Addr} {S:Cst}
theorem CRep.ext(S0:CRep K C Hs H p d dn un S)(E:Ext Hs H Hs1 H1):CRep K C Hs1 H1 p d dn un S:=by
 obtain⟨⟨dx,a1⟩,⟨kvs,b1,b2⟩,⟨vs,c1,c2⟩,⟨us,d1,d2⟩,e,f1,f2,f3,f4⟩:=S0;exact⟨⟨dx,E.all _ _ a1⟩,⟨kvs,E.all _ _ b1,b2.same E.vis⟩,⟨vs,E.all _ _ c1,aH.same E.vis _ _ c2⟩,⟨us,E.all _ _ d1,aH.same E.vis _ _ d2⟩,e,E.hid _ _ a1 f1,E.hid _ _ b1 f2,E.hid _ _ c1 f3,E.hid _ _ d1 f4⟩
theorem ExtM.of(E:Ext Hs H Hs1 H1):ExtM p d dn un un Hs H Hs1 H1:=⟨E.vis,fun b o e _ _ _ _=>E.all b o e,E.sub,fun b o e _ _ _ _=>E.hid b o e,.inl rfl⟩
theorem ExtM.trans(M:ExtM p d dn un un1 Hs H Hs1 H1)(N:ExtM p d dn un1 un2 Hs1 H1 Hs2 H2)(hu:un2=un1\/H un2=none\/un2=un):ExtM p d dn un un2 Hs H Hs2 H2:=by
 have nu:∀ b o,H b=some o->b≠un->b≠un1:=fun b o e h z=>by
  rcases M.nu with q | q
  ·exact h (z.trans q)
  ·rw[z,q] at e;cases e
 refine⟨M.vis.trans N.vis,fun b o e a1 a2 a3 a4=>N.all b o (M.all b o e a1 a2 a3 a4) a1 a2 a3 (nu b o e a4),N.sub,fun b o e a1 a2 a3 a4 n=>N.hid b o (M.all b o e a1 a2 a3 a4) a1 a2 a3 (nu b o e a4) (M.hid b o e a1 a2 a3 a4 n),?_⟩;rcases hu with h | h | h
 ·rw[h];exact M.nu
 ·exact .inr h
 ·exact .inl h
theorem ExtM.pre(E:Ext Hs H Hs1 H1)(M:ExtM p d dn un un2 Hs1 H1 Hs2 H2):ExtM p d dn un un2 Hs H Hs2 H2:=by
 refine(ExtM.of E).trans M ?_;rcases M.nu with z | z
 ·exact .inl z
 ·exact .inr (.inl (bJ E.all z))
theorem CRep.npd(S0:CRep K C Hs H p d dn un S):p≠d:=by obtain⟨⟨dx,a1⟩,⟨kvs,b1,b2⟩,_⟩:=S0;exact m8 a1 b1 (by intro z;cases z)
theorem CRep.npn(S0:CRep K C Hs H p d dn un S):p≠dn:=by obtain⟨⟨dx,a1⟩,_,⟨vs,b1,b2⟩,_⟩:=S0;exact m8 a1 b1 (by intro z;cases z)
theorem CRep.npu(S0:CRep K C Hs H p d dn un S):p≠un:=by obtain⟨⟨dx,a1⟩,_,_,⟨vs,b1,b2⟩,_⟩:=S0;exact m8 a1 b1 (by intro z;cases z)
theorem CRep.ndn(S0:CRep K C Hs H p d dn un S):d≠dn:=by obtain⟨_,⟨dx,a1,_⟩,⟨vs,b1,b2⟩,_⟩:=S0;exact m8 a1 b1 (by intro z;cases z)
theorem CRep.ndu(S0:CRep K C Hs H p d dn un S):d≠un:=by obtain⟨_,⟨dx,a1,_⟩,_,⟨vs,b1,b2⟩,_⟩:=S0;exact m8 a1 b1 (by intro z;cases z)
theorem fO{a:Addr}{o:HO}(hs:Same Hs H)(ha:a=d\/a=dn\/a=un)(n:Hs a=none):ExtM p d dn un un Hs H Hs (upd H a o):=by
 refine⟨.refl _,fun b u e a1 a2 a3 a4=>?_,fun b u e=>?_,fun _ _ _ _ _ _ _ z=>z,.inl rfl⟩
 ·rw[ak (by rcases ha with h | h | h<;>rw[h]<;>assumption)];exact e
 ·rw[ak (fun z=>by rw[z,n] at e;cases e)];exact hs b u e
theorem CRep.setD{t:List (Str×D)}{kvs:List (Key×V)}(S0:CRep K C Hs H p d dn un S)(r:KvR K Hs t kvs):CRep K C Hs (upd H d (.dK kvs)) p d dn un { S with tabs:=t }:=by
 have h1:=S0.npd;have h2:=S0.ndn;have h3:=S0.ndu
 obtain⟨⟨dx,a1⟩,⟨ks,b1,b2⟩,⟨vs,c1,c2⟩,⟨us,d1,d2⟩,e,f1,f2,f3,f4⟩:=S0;exact⟨⟨dx,by rw[ak h1];exact a1⟩,⟨kvs,aB,r⟩,⟨vs,by rw[ak h2.symm];exact c1,c2⟩,⟨us,by rw[ak h3.symm];exact d1,d2⟩,e,f1,f2,f3,f4⟩
theorem CRep.setN{l:List D}{vs:List V}(S0:CRep K C Hs H p d dn un S)(r:aH K Hs l vs):CRep K C Hs (upd H dn (.lst vs)) p d dn un { S with don:=l }:=by
 have h1:=S0.npn;have h2:=S0.ndn
 obtain⟨⟨dx,a1⟩,⟨ks,b1,b2⟩,⟨vs,c1,c2⟩,⟨us,d1,d2⟩,e,f1,f2,f3,f4⟩:=S0;exact⟨⟨dx,by rw[ak h1];exact a1⟩,⟨ks,by rw[ak h2];exact b1,b2⟩,⟨_,aB,r⟩,⟨us,by rw[ak e.symm];exact d1,d2⟩,e,f1,f2,f3,f4⟩
theorem CRep.setU{l:List D}{vs:List V}(S0:CRep K C Hs H p d dn un S)(r:aH K Hs l vs):CRep K C Hs (upd H un (.lst vs)) p d dn un { S with und:=l }:=by
 have h1:=S0.npu;have h2:=S0.ndu
 obtain⟨⟨dx,a1⟩,⟨ks,b1,b2⟩,⟨vs,c1,c2⟩,⟨us,d1,d2⟩,e,f1,f2,f3,f4⟩:=S0;exact⟨⟨dx,by rw[ak h1];exact a1⟩,⟨ks,by rw[ak h2];exact b1,b2⟩,⟨vs,by rw[ak e];exact c1,c2⟩,⟨_,aB,r⟩,e,f1,f2,f3,f4⟩
theorem CRep.newU{dx:Addr}(hs:Same Hs H)(S0:CRep K C Hs H p d dn un S)(hu:H un1=none):CRep K C Hs (upd (upd H un1 (.lst [])) p (.ins C dx (pD d dn un1))) p d dn un1 { S with und:=[] }/\ExtM p d dn un un1 Hs H Hs (upd (upd H un1 (.lst [])) p (.ins C dx (pD d dn un1))):=by
 have h1:=S0.npd;have h2:=S0.npn;have h3:=S0.npu
 obtain⟨⟨dx',a1⟩,⟨ks,b1,b2⟩,⟨vs,c1,c2⟩,⟨us,d1,d2⟩,e,f1,f2,f3,f4⟩:=S0;have k1:=aq a1 hu;have k2:=aq b1 hu;have k3:=aq c1 hu;refine⟨⟨⟨dx,aB⟩,⟨ks,by rw[ak h1.symm,ak k2];exact b1,b2⟩,⟨vs,by rw[ak h2.symm,ak k3];exact c1,c2⟩,⟨[],by rw[ak k1.symm,aB],.nil⟩,k3,f1,f2,f3,bJ hs hu⟩,.refl _,fun b u q a1 a2 a3 a4=>?_,fun b u q=>?_,fun _ _ _ _ _ _ _ z=>z,.inr hu⟩
 ·rw[ak a1,ak (aq q hu)];exact q
 ·rw[ak (fun z=>by rw[z,f1] at q;cases q),ak (aq (hs _ _ q) hu)];exact hs b u q
end
end L2
namespace M84
open PySem L2 DE
def top(i:Nat):Stmt:=PySem.Challenge.pw_minortables_k84_cases_refused.main.body.getD i (.Pass ⟨0,0,0,0⟩)
def cN(t:Stmt):Fd:=⟨(cu t).args.map (·.arg),(cu t).args.map (·.arg)++(((aA t).names.filter fun p=>(p.2==.local||p.2==.cell) && !((cu t).args.map (·.arg)).contains p.1).map (·.1)),aA t,aR t⟩
noncomputable def cs:List (Str×D):=[("MOST_LINES",.int 4),("MOST_NUMBER",.int 99),("LETTERS",.str "abcdefghijklmnopqrstuvwxyz"),("MOST_LETTERS",.int 4)]
noncomputable def bl:List (Str×String):=[("len","len"),("all","all"),("sum","sum"),("tuple","tuple"),("int","int"),("bool","bool"),("str","str"),("isinstance","isinstance"),("range","range"),("zip","zip"),("reversed","reversed"),("sorted","sorted"),("ValueError","ValueError")]
def df:List (Str×Fd):=[(("is_whole":Str),cN (top 13)),(("is_whole_within":Str),cN (top 14)),(("is_short_tuple":Str),cN (top 15)),(("has_lines":Str),cN (top 16)),(("numbers_of":Str),cN (top 17)),(("has_table_form":Str),cN (top 18)),(("need_table":Str),cN (top 19)),(("need_same_size":Str),cN (top 20)),(("need_size":Str),cN (top 21)),(("is_small_row":Str),cN (top 24)),(("is_table":Str),cN (top 25)),(("column_of":Str),cN (top 26)),(("columns_of":Str),cN (top 27)),(("turned":Str),cN (top 28)),(("flipped":Str),cN (top 29)),(("row_by_column":Str),cN (top 30)),(("row_by_columns":Str),cN (top 31)),(("times":Str),cN (top 32)),(("row_plus":Str),cN (top 33)),(("plus":Str),cN (top 34)),(("set_below":Str),cN (top 36)),(("set_beside":Str),cN (top 37)),(("is_name":Str),cN (top 41)),(("need_name":Str),cN (top 42)),(("joined":Str),cN (top 43)),(("_law_cell":Str),cN (top 46)),(("_law_pick":Str),cN (top 47)),(("_law_class":Str),cN (top 48)),(("_law_told":Str),cN (top 49)),(("law":Str),cN (top 50))]
noncomputable def xs:List Str:=["NoTable","NoFit","NoPlace","NoStep","NoSteps","NoText","NoName","NoBack"]
def T:Pg:=⟨cs,bl,df,xs,"MinorError"⟩
def BnO(nm:Str)(t:Stmt):Prop:=∀ (kV doc pm:Value) (an:Option Addr) (cdv ct:Value) (us:List Value),us.length=(cN t).ps.length->bindArgs (PySem.W.fnOf nm nm (cu t) (aR t) (aA t) .none kV doc pm an cdv ct) ⟨us,[]⟩=pure ((cN t).ps.zip us)
def fsB(fd:Fd):Bool:=decide (fd.sc.kind=.function) && !fd.sc.isCoroutine && !fd.sc.isGenerator&&decide fd.N.Nodup&&decide (fd.N.take fd.ps.length=fd.ps)&&fd.ps.all (fun x=>decide (fd.sc.names.lookup x=some .local)||decide (fd.sc.names.lookup x=some .cell))&&fd.sc.names.all fun y=>decide (y.2≠.free)
theorem Ew{fd:Fd}(h:fsB fd=true):FnScope fd.N fd.ps fd.sc:=by
 unfold fsB at h;simp only[W2z,J2z,I2z,List.all_eq_true,P3z] at h;obtain⟨⟨⟨⟨⟨⟨h1,h2⟩,h3⟩,h4⟩,h5⟩,h6⟩,h7⟩:=h;exact⟨h1,h2,h3,h4,h5,h6,h7⟩
theorem aY{K:Zf}{h:Heap}{mg:Str->Option Value}{x nm:Str}{t:Stmt}(X:K.In h)(G:h.Ns mainGlobals mg)(f:Addr)(dc pm cd:Value)(hb:BnO nm t)(a:PySem.W.nsIn K mainGlobals x=some (some (.ref f)))
  (l:K.lookup f=some ⟨.type "function",none,.func (PySem.W.fnOf nm nm (cu t) (aR t) (aA t) .none .none dc pm none cd .none),#[]⟩) (c:(PySem.W.codeIn K cd nm&&PySem.W.keepIn K (.ref f)&&fsB (cN t) && !(x==("__debug__":Str)))=true):FunAt K mg x (cN t):=by
 simp only[W2z,I2z] at c;obtain⟨⟨⟨c,k⟩,hs⟩,hd⟩:=c;exact⟨⟨nm,t,f,_,D4z X G a,fun_mk l c k,(fun_mk l c k).binds hb,rfl,rfl⟩,Ew hs,hd⟩
theorem len1{us:List Value}(h:us.length=1):∃ a,us=[a]:=List.length_eq_one_iff.mp h
theorem len2{us:List Value}(h:us.length=2):∃ a b,us=[a,b]:=by cases us with | nil=>cases h | cons a r=>obtain⟨b,z⟩:=len1 (us:=r) (Nat.succ.inj h);exact⟨a,b,congrArg (List.cons a) z⟩
theorem Jb{us:List Value}(h:us.length=3):∃ a b c,us=[a,b,c]:=by cases us with | nil=>cases h | cons a r=>obtain⟨b,c,z⟩:=len2 (us:=r) (Nat.succ.inj h);exact⟨a,b,c,congrArg (List.cons a) z⟩
theorem b13:BnO "is_whole" (top 13):=fun _ _ _ _ _ _ _ h=>by obtain⟨_,rfl⟩:=len1 h;rfl
theorem b14:BnO "is_whole_within" (top 14):=fun _ _ _ _ _ _ _ h=>by obtain⟨_,_,_,rfl⟩:=Jb h;rfl
theorem b15:BnO "is_short_tuple" (top 15):=fun _ _ _ _ _ _ _ h=>by obtain⟨_,rfl⟩:=len1 h;rfl
theorem b16:BnO "has_lines" (top 16):=fun _ _ _ _ _ _ _ h=>by obtain⟨_,rfl⟩:=len1 h;rfl
theorem b17:BnO "numbers_of" (top 17):=fun _ _ _ _ _ _ _ h=>by obtain⟨_,rfl⟩:=len1 h;rfl
theorem b18:BnO "has_table_form" (top 18):=fun _ _ _ _ _ _ _ h=>by obtain⟨_,rfl⟩:=len1 h;rfl
theorem b19:BnO "need_table" (top 19):=fun _ _ _ _ _ _ _ h=>by obtain⟨_,rfl⟩:=len1 h;rfl
theorem b20:BnO "need_same_size" (top 20):=fun _ _ _ _ _ _ _ h=>by obtain⟨_,_,rfl⟩:=len2 h;rfl
theorem b21:BnO "need_size" (top 21):=fun _ _ _ _ _ _ _ h=>by obtain⟨_,_,rfl⟩:=len2 h;rfl
theorem b24:BnO "is_small_row" (top 24):=fun _ _ _ _ _ _ _ h=>by obtain⟨_,rfl⟩:=len1 h;rfl
theorem b25:BnO "is_table" (top 25):=fun _ _ _ _ _ _ _ h=>by obtain⟨_,rfl⟩:=len1 h;rfl
theorem b26:BnO "column_of" (top 26):=fun _ _ _ _ _ _ _ h=>by obtain⟨_,_,rfl⟩:=len2 h;rfl
theorem b27:BnO "columns_of" (top 27):=fun _ _ _ _ _ _ _ h=>by obtain⟨_,rfl⟩:=len1 h;rfl
theorem b28:BnO "turned" (top 28):=fun _ _ _ _ _ _ _ h=>by obtain⟨_,rfl⟩:=len1 h;rfl
theorem b29:BnO "flipped" (top 29):=fun _ _ _ _ _ _ _ h=>by obtain⟨_,rfl⟩:=len1 h;rfl
theorem b30:BnO "row_by_column" (top 30):=fun _ _ _ _ _ _ _ h=>by obtain⟨_,_,rfl⟩:=len2 h;rfl
theorem b31:BnO "row_by_columns" (top 31):=fun _ _ _ _ _ _ _ h=>by obtain⟨_,_,rfl⟩:=len2 h;rfl
theorem b32:BnO "times" (top 32):=fun _ _ _ _ _ _ _ h=>by obtain⟨_,_,rfl⟩:=len2 h;rfl
theorem b33:BnO "row_plus" (top 33):=fun _ _ _ _ _ _ _ h=>by obtain⟨_,_,rfl⟩:=len2 h;rfl
theorem b34:BnO "plus" (top 34):=fun _ _ _ _ _ _ _ h=>by obtain⟨_,_,rfl⟩:=len2 h;rfl
theorem b36:BnO "set_below" (top 36):=fun _ _ _ _ _ _ _ h=>by obtain⟨_,_,rfl⟩:=len2 h;rfl
theorem b37:BnO "set_beside" (top 37):=fun _ _ _ _ _ _ _ h=>by obtain⟨_,_,rfl⟩:=len2 h;rfl
theorem b41:BnO "is_name" (top 41):=fun _ _ _ _ _ _ _ h=>by obtain⟨_,rfl⟩:=len1 h;rfl
theorem b42:BnO "need_name" (top 42):=fun _ _ _ _ _ _ _ h=>by obtain⟨_,rfl⟩:=len1 h;rfl
theorem b43:BnO "joined" (top 43):=fun _ _ _ _ _ _ _ h=>by obtain⟨_,_,_,rfl⟩:=Jb h;rfl
theorem b46:BnO "_law_cell" (top 46):=fun _ _ _ _ _ _ _ h=>by obtain⟨_,_,rfl⟩:=len2 h;rfl
theorem b47:BnO "_law_pick" (top 47):=fun _ _ _ _ _ _ _ h=>by obtain⟨_,_,_,rfl⟩:=Jb h;rfl
theorem b48:BnO "_law_class" (top 48):=fun _ _ _ _ _ _ _ h=>by obtain⟨_,rfl⟩:=len1 h;rfl
theorem b49:BnO "_law_told" (top 49):=fun _ _ _ _ _ _ _ h=>by obtain⟨_,rfl⟩:=len1 h;rfl
theorem b50:BnO "law" (top 50):=fun _ _ _ _ _ _ _ h=>by obtain⟨_,rfl⟩:=len1 h;rfl
theorem in_of{α:Type}{Q:Str->α->Prop}:∀ {l:List (Str×α)},(∀ p∈l,Q p.1 p.2)->∀ f fd,l.lookup f=some fd->Q f fd
 | (y,e)::r,hp,f,fd,h=>by
  rw[R2z] at h
  cases hb:f==y with
  | true =>
   rw[hb] at h
   have e1:f=y:=by simpa using hb
   cases h;subst e1;exact hp _ O1z
  | false =>
   rw[hb] at h;exact in_of (fun p hm=>hp p (W0z _ hm)) f fd h
theorem aC{α:Type}{Q:α->Prop}{a:α}{l:List α}(h:Q a)(t:∀ p∈l,Q p):∀ p∈a::l,Q p:=List.forall_mem_cons.mpr ⟨h,t⟩
theorem aN{α:Type}{Q:α->Prop}:∀ p∈([]:List α),Q p:=List.forall_mem_nil _
theorem cA{K:Zf}{h:Heap}{mg:Str->Option Value}{x:Str}{i:Int}(X:K.In h)(G:h.Ns mainGlobals mg)(tk:Tok)(e:PySem.W.nsIn K mainGlobals x=some (some (.int i tk))):∃ v u,(∀ H,Rep K H (D.int i) v)/\mg x=some u/\RelV v u:=⟨.int i,_,fun _=>by simp[Rep],D4z X G e,⟨_,rfl⟩⟩
theorem cS{K:Zf}{h:Heap}{mg:Str->Option Value}{x y:Str}(X:K.In h)(G:h.Ns mainGlobals mg)(tk:Tok)(e:PySem.W.nsIn K mainGlobals x=some (some (.str y tk))):∃ v u,(∀ H,Rep K H (D.str y) v)/\mg x=some u/\RelV v u:=⟨.str y,_,fun _=>by simp[Rep],D4z X G e,⟨_,rfl⟩⟩
theorem bA{K:Zf}{h:Heap}{mg:Str->Option Value}{x:Str}{b:String}(X:K.In h)(G:h.Ns mainGlobals mg)(e:PySem.W.nsIn K mainGlobals x=some none)(q:x=Str.ofString b):mg x=none/\x=Str.ofString b:=⟨PySem.W.mg_none_of X G e,q⟩
theorem QK:T.defs.lookup ("law":Str)=some (cN (top 50)):=by rfl'
theorem fin{l:PySem.W.OpenLaw}{w:World}{K:Zf}{h:Heap}{mg:Str->Option Value}{fa:Addr}(hlaw:∀ ns:List Int,ns.length<=63->oA T 60 40 "law" [.lst (ns.map D.int)]=some (.bl true))(TX:Text w K mg T)(X:K.In h)(G:h.Ns mainGlobals mg)(hfa:mg "law"=some (.ref fa))(f:Addr)(dc pm cd:Value)(a:PySem.W.nsIn K mainGlobals "law"=some (some (.ref f)))
  (lk:K.lookup f=some ⟨.type "function",none,.func (PySem.W.fnOf "law" "law" (cu (top 50)) (aR (top 50)) (aA (top 50)) .none .none dc pm none cd .none),#[]⟩) (c:PySem.W.codeIn K cd "law"=true) (kp:PySem.W.keepIn K (.ref f)=true) :
  ∃ fd:FuncData,(∀ (s:Shared) (v:Value),BindsTo s fd ⟨[v],[]⟩ [("_law_script",v)])/\∀ base:Heap,K.In base->base.Ns mainGlobals mg->FnOk l.prog w K mg base CX0 40 fa fd ["_law_script"] (qd K):=by
 have e:=hfa.symm.trans (D4z X G a);cases e;refine⟨_,fun s v=>.of_eq (b50 .none dc pm none cd .none [v] rfl),fun base _ _=>?_⟩;exact Jc (fd:=cN (top 50)) (t:=top 50) (f:="law") TX QK (fun_mk lk c kp) rfl rfl (Ew (by decide +kernel)) rfl hlaw
theorem walk{l:PySem.W.OpenLaw}{q:Program}{loose:List Str}{XP:(Str->Option Value)->Heap->Prop}{YP:World->Heap->Prop}{d:DefRec}{K:Params->Zf}(hn:l.most=some 63)(hdf:d.params.defaults=[])
  (hY:∀ (w:World) (h:Heap),YP w h->(K w.params).In h)
  (F : ∀ (w : World) (mg : Str -> Option Value) (fa : Addr) (h : Heap), (K w.params).In h -> h.Ns mainGlobals mg -> mg d.name = some (.ref fa) ->
   ∃ fd:FuncData,(∀ (s:Shared) (u:Value),BindsTo s fd ⟨[u],[]⟩ [("_law_script",u)])/\∀ base:Heap,(K w.params).In base->base.Ns mainGlobals mg->FnOk l.prog w (K w.params) mg base CX0 40 fa fd ["_law_script"] (qd (K w.params))) :
  PySem.W.WalkO q loose XP YP l.row.toRowW d [] (fun f vs=>PySem.call f vs) :=
 L2.Ca (n:=63) (k:=40) (x:="_law_script") (CX:=fun _=>CX0) (sp:=fun w=>qd (K w.params)) hn (by decide) hdf ⟨rfl,by decide,by decide⟩ hY F (fun _ _ a ns hl _ hS=>⟨a,ns,rfl,hS,hl,fun _=>rfl⟩) fun _ _ _ _ _ z=>z
end M84
local macro_rules | `(tactic| walk_at "xs") => `(tactic| first | exact DE.bLen | exact DE.bLenL | exact DE.bSum | rfl | assumption | omega)
local macro_rules | `(tactic| walk_at "xm") => `(tactic| first | exact DE.BX | (refine' DE.cR ?hA ?hB; (case hA => walk_at "xv"); (case hB => walk_at "xm")))
local macro_rules | `(tactic| walk_at "xi") => `(tactic| first
 | (refine' DE.wSqT ?hA ?hB; (case hA => rfl); (case hB => walk_at "xv"))
 | (refine' DE.wSq ?hA ?hB ?hC; (case hA => rfl); (case hB => walk_at "xv"); (case hC => rfl))
 | (refine' DE.Rh ?hA ?hB ?hC; (case hA => rfl); (case hB => walk_at "xv"); (case hC => omega))
 | (refine' DE.wR2 ?hA ?hB ?hC ?hD; (case hA => rfl); (case hB => walk_at "xv"); (case hC => walk_at "xv"); (case hD => walk_at "xs"))
 | (refine' DE.wZpL ?hA ?hB ?hC; (case hA => rfl); (case hB => walk_at "xv"); (case hC => walk_at "xv"))
 | (refine' DE.wRvL ?hA ?hB; (case hA => rfl); (case hB => walk_at "xv"))
 | (refine' DE.wRvLL ?hA ?hB; (case hA => rfl); (case hB => walk_at "xv"))
 | (refine' DE.wEnL ?hA ?hB; (case hA => rfl); (case hB => walk_at "xv")))
local macro_rules | `(tactic| walk_at "xl") => `(tactic| (refine' DE.xComp ?hA ?hB ?hC (DE.compGo_Ls ?hD); (case hA => rfl); (case hB => walk_at "xi"); (case hC => (exact DE.szlLs (by omega))); (case hD => (intro i hi; refine' DE.cStep ?hE ?hF; (case hE => rfl); (case hF => walk_at "xv")))))
local macro_rules | `(tactic| walk_at "xv") => `(tactic| first
 | exact DE.xName rfl
 | exact DE.bL rfl
 | (refine' DE.jF ?hA ?hB ?hC; (case hA => walk_at "xv"); (case hB => walk_at "xv"); (case hC => walk_at "xs"))
 | (refine' DE.Gm ?hA ?hB ?hC; (case hA => walk_at "xv"); (case hB => walk_at "xv"); (case hC => walk_at "xs"))
 | (refine' DE.xIx0 ?hA ?hB ?hC ?hD ?hE; (case hA => walk_at "xv"); (case hB => walk_at "xv"); (case hC => omega); (case hD => rfl); (case hE => rfl))
 | (refine' DE.xIxL ?hA ?hB ?hC ?hD ?hE; (case hA => walk_at "xv"); (case hB => walk_at "xv"); (case hC => omega); (case hD => rfl); (case hE => rfl))
 | (refine' DE.xIxLl ?hA ?hB ?hC ?hD ?hE; (case hA => walk_at "xv"); (case hB => walk_at "xv"); (case hC => omega); (case hD => rfl); (case hE => rfl))
 | (refine' DE.xIsi ?hA ?hB ?hC ?hD ?hE ?hF ?hG; (case hA => rfl); (case hB => rfl); (case hC => rfl); (case hD => walk_at "xv"); (case hE => rfl); (case hF => rfl); (case hG => rfl))
 | (refine' DE.Gx ?hA ?hB ?hC ?hD ?hE; (case hA => rfl); (case hB => rfl); (case hC => rfl); (case hD => walk_at "xm"); (case hE => walk_at "xs"))
 | (refine' DE.tV ?hA ?hB ?hC; (case hA => rfl); (case hB => walk_at "xm"); (case hC => walk_at "xc"))
 | (refine' DE.xTvL ?hA ?hB ?hC; (case hA => rfl); (case hB => rfl); (case hC => walk_at "xv"))
 | (refine' DE.xTup ?hA ?hB; (case hA => walk_at "xm"); (case hB => rfl))
 | (refine' DE.JK ?hA ?hB; (case hA => walk_at "xm"); (case hB => rfl))
 | walk_at "xl"
 | (refine' DE.xNeg ?hA; (case hA => walk_at "xv"))
 | (refine' DE.xNot ?hA; (case hA => walk_at "xv")))
local macro_rules|`(tactic|nofun)=>`(tactic|walk_at "xv")
namespace L2
open PySem PySem.Spec PyProof.Rows
open DE (D)
inductive MR where
 | val (d:D) (S:Cst)
 | exc (c:Str)
def Gu(K:Zf)(C p d dn un:Addr)(Hs H:Hp)(Q:VK)(E:XK):MR->Prop
 | .val r S=>∀ v H' Hs' un',ExtM p d dn un un' Hs H Hs' H'->CRep K C Hs' H' p d dn un' S->Rep K Hs' r v->Q v H'
 | .exc c=>∀ Cc H' Hs',PySem.W.nsIn K mainGlobals c=some (some (.ref Cc))->Ext Hs H Hs' H'->E (.ref Cc) none H'
def spM(K:Zf)(C:Addr)(n:Nat)(f:Cst->List D->Option MR):Sp:=fun vs H Q E=>∃ (p d dn un:Addr) (Hs:Hp) (S:Cst) (ds:List D) (us:List V) (o:MR),
 vs=.ref p::us/\ds.length=n/\Same Hs H/\CRep K C Hs H p d dn un S/\aH K Hs ds us/\f S ds=some o/\Gu K C p d dn un Hs H Q E o
theorem fL{K:Zf}{C:Addr}{n:Nat}{f:Cst->List D->Option MR}{vs:List V}{H:Hp}{Q:VK}{E:XK}(h:spM K C n f vs H Q E):vs.length=n+1:=by
 obtain⟨p,d,dn,un,Hs,S,ds,us,o,rfl,e,_,_,r,_⟩:=h;rw[O2z,<- r.length,e]
def rR(S:Cst)(n:Str):D->Option Cst
 | .non=>if(tO S.tabs n).isSome then some { S with tabs:=FW S.tabs n } else none
 | .obj _=>none
 | t=>if decide (S.tabs.length<1000) then some { S with tabs:=JT S.tabs n t } else none
def iU(w n:Str)(old t:D):D:=.tup [.str w,.str n,old,t]
def doS(S:Cst)(w n:Str)(t:D):Option Cst:=if decide (S.don.length<1000) then rR { S with don:=S.don++[iU w n ((tO S.tabs n).getD .non) t],und:=[] } n t else none
structure CTxt (K:Zf) (mg:Str->Option Value) (C:Addr):Prop where
 cl:Cls K C
 nT:gG K C nT
 nD:gG K C nD
 nU:gG K C nU
 mgC:mg "Case"=some (.ref C)
def bZ(P:Program)(w:World)(K:Zf)(mg:Str->Option Value)(C:Addr)(nm:Str)(ps:List Str)(k:Nat)(sp:Sp):Prop :=
 ∃ f fd,Meth K C nm f/\Binds K fd ps []/\∀ base:Heap,FnOk P w K mg base (CX1 P w) k f fd ps sp
def gH(P:Program)(w:World)(K:Zf)(mg:Str->Option Value)(nm:Str)(ps:List Str)(k:Nat)(sp:Sp):Prop :=
 ∃ f fd,mg nm=some (.ref f)/\PySem.W.keepIn K (.ref f)=true/\Binds K fd ps []/\∀ base:Heap,FnOk P w K mg base (CX1 P w) k f fd ps sp
theorem gA{P:Program}{w:World}{K:Zf}{mg:Str->Option Value}{T:DE.Pg}{F k:Nat}{f:Str}{fd:DE.Fd}(X:Text w K mg T)(h:T.defs.lookup f=some fd):gH P w K mg f fd.ps k (spX K (vR (DE.aZ T F k)) (xR (DE.aZ T F k)) f fd.ps):=by
 have FA:=X.fns f fd h;obtain⟨nm',t',a',g',m1,m2,m3,m4,m5⟩:=FA.ex;exact⟨a',g',m1,m2.kp,m3,fun base=>oJ X k nm' f fd t' a' g' h m2 m4 m5 FA.fs⟩
section
variable {P:Program} {w:World} {K:Zf} {mg:Str->Option Value} {base:Heap} {N:List Str} {qual:Str} {scope:Scope} {f:Addr} {cd:Value} {A:Around} {outer:List Env} {s:Shared} {H:Hp} {E:XK}
theorem iG{x top:Str}{exs:List Str}{np cpos pos p1:Pos}{txt:Str}{j:Nat}(XT:XText K mg exs top)(hin:exs.contains x=true)(hh:(A.deeper (envOfC qual scope s.heap.objs.size f cd)).handled=none)(hg:Gl (dW (CX1 P w) P w K mg base N qual scope f cd A outer s H E) x)(hd:(x==("__debug__":Str))=false) :
  PS (dW (CX1 P w) P w K mg base N qual scope f cd A outer s H E) (.Raise (some (.Call (.Name x np) [.Constant (.str txt) j p1] [] cpos)) none pos) (fun _ _ H1=>∀ C,PySem.W.nsIn K mainGlobals x=some (some (.ref C))->E (.ref C) none H1):=by
 intro z0 s1 σ H1 D I h;obtain⟨C,M,e1,_,e2,_⟩:=XT.cls x hin;exact qu I hh hg (XT.glob _ _ e1) hd e2 fun s2 h' e args I2 hm=>jO I2 hm (h C e1)
end
end L2
namespace M84
open PySem PySem.Spec PyProof.Rows L2
open DE (D)
abbrev fX:Stmt:=top 44
abbrev uQ:Stmt:=inClass fX 1
abbrev sDo:Stmt:=inClass fX 2
section
variable {P:Program} {w:World} {K:Zf} {mg:Str->Option Value} {base:Heap} {C:Addr}
def yt(K:Zf)(C:Addr):Sp:=fun vs H Q _=>∃ (p d dn un:Addr) (n:Str) (t:D) (v:V) (Hs:Hp) (S S':Cst),vs=[.ref p,.str n,v]/\Same Hs H/\CRep K C Hs H p d dn un S/\Rep K Hs t v/\rR S n t=some S' /\
 ∀ H',ExtM p d dn un un Hs H Hs H'->CRep K C Hs H' p d dn un S'->Q .non H'
theorem scS:FnScope ["self","name","table"] ["self","name","table"] (aA uQ):=⟨rfl,rfl,rfl,by decide +kernel,rfl,by decide +kernel,by decide +kernel⟩
theorem Io{f:Addr}{fd:FuncData}(F:Fun K "set_to" "Case.set_to" uQ f fd)(T:CTxt K mg C):FnOk P w K mg base (CX1 P w) 1 f fd ["self","name","table"] (yt K C):=by
  refine F.okX scS (fun vs H Q E h=>?_) (fun cdv A outer s H vs Q E hr h=>?_)
  · obtain⟨p,d,dn,un,n,t,v,Hs,S,S',rfl,_⟩:=h
    rfl
  · obtain⟨p,d,dn,un,n,t,v,Hs,S,S',rfl,hs,S0,rt,h,k⟩:=h
    have hu:=zO hr
    obtain⟨dx,h1⟩:=S0.ob
    obtain⟨kvs,h2,h3⟩:=S0.dc
    refine⟨_,aV (jf (uY (HY (pv 2))) (aV (bh (yN (dg (pv 0) rfl) (pv 1) ?m1))) (aV (Dh hu (dg (pv 0) rfl) (pv 1) (pv 2) rfl))),?_⟩
    case m1=>exact⟨rfl,rfl,rfl,rfl⟩
    by_cases hn:t=.non
    · subst hn
      have ev:=iZ rt
      subst ev
      refine⟨_,rfl,true,rfl,jZ ?_⟩
      simp only[rR] at h
      split at h
      · rename_i hg
        cases h
        rcases h3.get (n:=n) with⟨z,_⟩ | ⟨d',v,_,e2,_⟩
        · rw[z] at hg;cases hg
        · exact⟨_,rfl,p,C,dx,_,_,rfl,h1,T.cl,T.nT,o9 _ _ _,d,rfl,.inl ⟨_,.inl h2⟩,_,rfl,kvs,Sum.inr n,v,h2,rfl,e2,k _ (fO hs (.inl rfl) S0.hd) (S0.setD h3.drop)⟩
      · cases h
    · have hv:v≠.non:=fun z=>hn (by
        have e:=lH rt
        rw[z,S3z rfl] at e
        cases t<;>first | rfl | simp[DE.zM] at e)
      have h':S.tabs.length<1000/\S'={ S with tabs:=JT S.tabs n t }:=by
        cases t<;>simp[rR] at h hn ⊢ <;> exact⟨h.1,h.2.symm⟩
      obtain⟨h4,rfl⟩:=h'
      refine⟨_,rfl,false,by rw[A3z hv],jL ?_⟩
      have hl : kvs.length < sizeLine := by have := h3.length; have : (1000 : Nat) <= sizeLine := by decide
                                            omega
      exact⟨_,rfl,_,rfl,p,C,dx,_,_,rfl,h1,T.cl,T.nT,o9 _ _ _,_,rfl,d,_,rfl,JD.k (k:=Sum.inr n) h2 hl,k _ (fO hs (.inl rfl) S0.hd) (S0.setD (h3.put rt))⟩
def Cu(K:Zf)(C:Addr):Sp:=fun vs H Q _=>∃ (p d dn un:Addr) (wd n:Str) (t:D) (v:V) (Hs:Hp) (S S':Cst),vs=[.ref p,.str wd,.str n,v]/\Same Hs H/\CRep K C Hs H p d dn un S/\Rep K Hs t v/\doS S wd n t=some S' /\
 ∀ H' Hs' un',ExtM p d dn un un' Hs H Hs' H'->CRep K C Hs' H' p d dn un' S'->Q .non H'
theorem scD:FnScope ["self","word","name","table"] ["self","word","name","table"] (aA sDo):=⟨rfl,rfl,rfl,by decide +kernel,rfl,by decide +kernel,by decide +kernel⟩
theorem K3{f:Addr}{fd:FuncData}(F:Fun K "do" "Case.do" sDo f fd)(T:CTxt K mg C)(G:bZ P w K mg C "set_to" ["self","name","table"] 1 (yt K C)):FnOk P w K mg base (CX1 P w) 2 f fd ["self","word","name","table"] (Cu K C):=by
 obtain⟨g,gd,mG,bG,GS⟩:=G;refine F.okX scD (fun vs H Q E h=>?_) (fun cdv A outer s H vs Q E hr h=>?_)
 ·obtain⟨p,d,dn,un,wd,n,t,v,Hs,S,S',rfl,_⟩:=h
  rfl
 ·obtain⟨p,d,dn,un,wd,n,t,v,Hs,S,S',rfl,hs,S0,rt,h,k⟩:=h
  have hu:=zO hr;obtain⟨dx,h1⟩:=S0.ob;obtain⟨kvs,h2,h3⟩:=S0.dc;obtain⟨ls,h4,h5⟩:=S0.dl
  refine⟨_,aL (bh (jJ M0z I0z J0z dR (dg (pv 0) rfl) (au (vf (au (pv 1) (au (pv 2) (au (yP hu (dg (pv 0) rfl) (pv 2) ?m1) (au (pv 3) aK))))) aK)))
   (aL (qy (pv 0) (jT aK) rfl)
   (aV (bh (cj (pv 0) T.cl mG (GS _) hr bG .nil aP (au (pv 2) (au (pv 3) aK)))))),?_⟩
  case m1=>exact⟨rfl,rfl,rfl,rfl⟩
  unfold doS at h;split at h
  ·rename_i hl
   have hl':S.don.length<1000:=N2z hl
   have lin:(1000:Nat)<=sizeLine:=by decide
   have hll:=h5.length;refine⟨_,rfl,p,C,dx,_,_,rfl,h1,T.cl,T.nD,zE _ _ _,.inl ⟨rfl,_,SqL.of h4⟩,_,rfl,_,rfl,_,rfl,p,C,dx,_,_,rfl,h1,T.cl,T.nT,o9 _ _ _,d,rfl,.inl ⟨_,.inl h2⟩,_,rfl,_,pU.k (k:=Sum.inr n) h2,_,rfl,(by show 4<=sizeLine;decide),fun x hx=>?_⟩;have E1:Ext Hs H _ _:=Ext.new hs (.tup [.str wd,.str n,(jG kvs (Sum.inr n)).getD .non,v]) hx;have S1:=S0.ext E1
   have rold:Rep K Hs ((tO S.tabs n).getD .non) ((jG kvs (Sum.inr n)).getD .non):=by
    rcases h3.get (n:=n) with⟨z1,z2⟩ | ⟨d',v',z1,z2,z3⟩
    ·rw[z1,z2];simp[Rep]
    ·rw[z1,z2];exact z3
   have rst:Rep K (upd Hs x (.tup [.str wd,.str n,(jG kvs (Sum.inr n)).getD .non,v])) (iU wd n ((tO S.tabs n).getD .non) t) (.ref x):=by
    simp only[iU,Rep];exact⟨x,_,rfl,.inl (.inl aB),aH.same E1.vis _ _ (.cons (by simp[Rep]) (.cons (by simp[Rep]) (.cons rold (.cons rt .nil))))⟩
   have l1:=E1.all _ _ h4;have S2:=S1.setN (aH.append (aH.same E1.vis _ _ h5) (.cons rst .nil));have M2:=(fO (p:=p) (d:=d) (dn:=dn) (un:=un) (o:=.lst (ls++[.ref x])) E1.sub (.inr (.inl rfl)) S1.hn).pre E1;refine⟨dn,_,_,rfl,rfl,l1,(by omega),?_⟩;refine⟨by decide,fun un' hun=>?_⟩;obtain⟨dx2,p2⟩:=S2.ob;have npu:p≠un':=aq p2 hun;refine⟨_,rfl,p,C,dx2,_,rfl,(by rw[ak npu];exact p2),T.cl,T.nU,(by show 3<1000;decide),?_⟩;rw[put3];obtain⟨S3,M3⟩:=S2.newU (dx:=dx2) M2.sub hun
   have hun0:H un'=none:=by
    have hne:un'≠dn:=fun z=>by rw[z,aB] at hun;cases hun
    rw[ak hne] at hun;exact bJ E1.all hun
   have M4:=M2.trans M3 (.inr (.inl hun0));exact⟨_,rfl,p,dx2,_,rfl,aB,rfl,_,rfl,_,rfl,p,d,dn,un',n,t,v,_,_,S',rfl,M4.sub,S3,rt.same E1.vis,h,fun H' M5 S5=>k H' _ un' (M4.trans M5 (.inl rfl)) S5⟩
  ·cases h
end
end M84
namespace L2
open PySem PySem.Spec PyProof.Rows
open DE (D)
theorem FnOk.weak{P:Program}{w:World}{K:Zf}{mg:Str->Option Value}{base:Heap}{CX:CXT}{k:Nat}{f:Addr}{fd:FuncData}{ps:List Str}{sp sp':Sp}(F:FnOk P w K mg base CX k f fd ps sp)(h:∀ vs H Q E,sp' vs H Q E->sp vs H Q E):FnOk P w K mg base CX k f fd ps sp' :=
 ⟨fun vs H Q E q=>F.len vs H Q E (h _ _ _ _ q),fun A outer s H args us vs Q E a b c d e=>F.run A outer s H args us vs Q E a b c d (h _ _ _ _ e)⟩
def V3(K:Zf)(Hs H:Hp)(Q:VK)(E:XK):Sum D Str->Prop
 | .inl r=>∀ v H' Hs',Ext Hs H Hs' H'->Rep K Hs' r v->Q v H'
 | .inr c=>∀ Cc H' Hs',PySem.W.nsIn K mainGlobals c=some (some (.ref Cc))->Ext Hs H Hs' H'->E (.ref Cc) none H'
def spR(K:Zf)(C:Addr)(n:Nat)(f:Cst->List D->Option (Sum D Str)):Sp:=fun vs H Q E=>∃ (p d dn un:Addr) (Hs:Hp) (S:Cst) (ds:List D) (us:List V) (o:Sum D Str),
 vs=.ref p::us/\ds.length=n/\Same Hs H/\CRep K C Hs H p d dn un S/\aH K Hs ds us/\f S ds=some o/\V3 K Hs H Q E o
theorem oU{K:Zf}{C:Addr}{n:Nat}{f:Cst->List D->Option (Sum D Str)}{vs:List V}{H:Hp}{Q:VK}{E:XK}(h:spR K C n f vs H Q E):vs.length=n+1:=by
 obtain⟨p,d,dn,un,Hs,S,ds,us,o,rfl,e,_,_,r,_⟩:=h;rw[O2z,<- r.length,e]
def toM(S:Cst):Sum D Str->MR
 | .inl d=>.val d S
 | .inr c=>.exc c
theorem Hl{K:Zf}{C:Addr}{n:Nat}{f:Cst->List D->Option (Sum D Str)}{vs:List V}{H:Hp}{Q:VK}{E:XK}(h:spM K C n (fun S ds=>(f S ds).map (toM S)) vs H Q E):spR K C n f vs H Q E:=by
 obtain⟨p,d,dn,un,Hs,S,ds,us,o,rfl,e,hs,S0,r,ho,k⟩:=h;obtain⟨o',h1,rfl⟩:=Q0z.mp ho;refine⟨p,d,dn,un,Hs,S,ds,us,o',rfl,e,hs,S0,r,h1,?_⟩
 cases o' with
 | inl r=>exact fun v H' Hs' E1 r1=>k v H' Hs' un (.of E1) (S0.ext E1) r1
 | inr c=>exact k
section
variable (call:Str->List D->Option D) (callx:Str->List D->Option Str)
def ndN(x:D):Option (Sum Str Str):=match callx "need_name" [x] with
 | some c=>some (.inr c)
 | none=>match call "need_name" [x],x with
  | some _,.str s=>some (.inl s)
  | _,_=>none
def jK(S:Cst):List D->Option (Sum D Str)
 | [n]=>match ndN call callx n with
  | some (.inr c)=>some (.inr c)
  | some (.inl s)=>match tO S.tabs s with
   | some d=>some (.inl d)
   | none=>some (.inr "NoName")
  | none=>none
 | _=>none
def JX(S:Cst):List D->Option MR
 | [n,t]=>match call "is_table" [t] with
  | some (.bl false)=>some (.exc "NoTable")
  | some (.bl true)=>match ndN call callx n with
   | some (.inr c)=>some (.exc c)
   | some (.inl s)=>(doS S "put" s t).map (.val (.bl (tO S.tabs s).isSome))
   | none=>none
  | _=>none
 | _=>none
def sE(S:Cst):List D->Option MR
 | [.str s]=>match jK call callx S [.str s] with
  | some (.inl d)=>(doS S "take" s .non).map (.val d)
  | some (.inr c)=>some (.exc c)
  | none=>none
 | [n]=>match jK call callx S [n] with
  | some (.inr c)=>some (.exc c)
  | _=>none
 | _=>none
def doF(fn wd:Str)(S:Cst)(s:Str)(d:D):Option MR:=match callx fn [d] with
 | some c=>some (.exc c)
 | none=>match call fn [d] with
  | some t=>(doS S wd s t).map (.val t)
  | none=>none
def iy(fn wd:Str)(S:Cst):List D->Option MR
 | [.str s]=>match jK call callx S [.str s] with
  | some (.inl d)=>doF call callx fn wd S s d
  | some (.inr c)=>some (.exc c)
  | none=>none
 | [n]=>match jK call callx S [n] with
  | some (.inr c)=>some (.exc c)
  | _=>none
 | _=>none
theorem DY{x:D}{c:Str}(h:ndN call callx x=some (.inr c)):callx "need_name" [x]=some c:=by
 unfold ndN at h;split at h
 ·rename_i c' e;cases h;exact e
 ·split at h
  ·cases h
  ·cases h
theorem yZ{x:D}{s:Str}(h:ndN call callx x=some (.inl s)):x=.str s/\∃ d,call "need_name" [x]=some d:=by
 unfold ndN at h;split at h
 ·cases h
 ·split at h
  ·cases h;exact⟨rfl,_,by assumption⟩
  ·cases h
end
end L2
namespace M84
open PySem PySem.Spec PyProof.Rows L2
open DE (D)
abbrev Ko:Stmt:=inClass fX 3
abbrev Km:Stmt:=inClass fX 4
abbrev Cz:Stmt:=inClass fX 5
section
variable {P:Program} {w:World} {K:Zf} {mg:Str->Option Value} {base:Heap} {C:Addr} {call:Str->List D->Option D} {callx:Str->List D->Option Str} {kk:Nat} {exs:List Str} {tp:Str}
theorem scT:FnScope ["self","name"] ["self","name"] (aA Km):=⟨rfl,rfl,rfl,by decide +kernel,rfl,by decide +kernel,by decide +kernel⟩
theorem Im{f:Addr}{fd:FuncData}(F:Fun K "table_of" "Case.table_of" Km f fd)(T:CTxt K mg C)(XT:XText K mg exs tp)(hin:exs.contains "NoName"=true)(GN:gH P w K mg "need_name" ["thing"] kk (spX K call callx "need_name" ["thing"])) :
  FnOk P w K mg base (CX1 P w) (kk+1) f fd ["self","name"] (spR K C 1 (jK call callx)):=by
 obtain⟨fn,fdn,mgN,kN,bN,gN⟩:=GN;refine F.okX scT (fun vs H Q E h=>oU h) (fun cdv A outer s H vs Q E hr h=>?_);obtain⟨p,d,dn,un,Hs,S,ds,us,o,rfl,e,hs,S0,r,ho,k⟩:=h;obtain⟨x,rfl⟩:∃ x,ds=[x]:=List.length_eq_one_iff.mp e
 obtain⟨v,rfl,rv⟩:∃ v,us=[v]/\Rep K Hs x v:=by
  simp only[aH] at r;obtain⟨v,q,rfl,r1,rfl⟩:=r;exact⟨v,rfl,r1⟩
 have hu:=zO hr
 refine⟨_,aL (bh (dZ (gN _) hr rfl mgN kN bN .nil aP (au (pv 1) aK)))
  (aL (jf (uY (vm hu (pv 1) (dg (pv 0) rfl))) (aV (iG XT hin hr.hd rfl (by decide +kernel))) fM)
  (aV (cF (Dn hu (dg (pv 0) rfl) (pv 1) (fun _ _=>rfl))))),?_⟩
 simp only[jK] at ho;refine⟨_,rfl,rfl,Hs,[x],hs,.cons rv .nil,?_⟩;split at ho
 ·rename_i c hn
  cases ho;exact .inr ⟨c,DY _ _ hn,k⟩
 ·rename_i sn hn
  obtain⟨rfl,dd,hc⟩:=yZ _ _ hn;refine .inl ⟨dd,hc,fun v1 H1 Hs1 E1 _=>?_⟩;cases (show v=.str sn by simpa[Rep] using rv);have S1:=S0.ext E1;obtain⟨dx,h1⟩:=S1.ob;obtain⟨kvs,h2,h3⟩:=S1.dc;refine⟨_,rfl,_,rfl,p,C,dx,_,_,rfl,h1,T.cl,T.nT,o9 _ _ _,d,_,rfl,pU.k (k:=Sum.inr sn) h2,?_⟩;rcases h3.get (n:=sn) with⟨z1,z2⟩ | ⟨d',v',z1,z2,z3⟩
  ·rw[z1] at ho
   cases ho;rw[z2];exact⟨true,rfl,jZ fun Cc hC=>k Cc H1 Hs1 hC E1⟩
  ·rw[z1] at ho
   cases ho;rw[z2];exact⟨false,rfl,jL ⟨_,rfl,p,C,dx,_,_,rfl,h1,T.cl,T.nT,o9 _ _ _,_,rfl,d,v',rfl,z2▸pU.k (k:=Sum.inr sn) h2,k v' H1 Hs1 E1 z3⟩⟩
 ·cases ho
end
abbrev Cy:Stmt:=inClass fX 7
abbrev CK:Stmt:=inClass fX 8
theorem repL1{K:Zf}{Hs:Hp}{x:D}{us:List V}(r:aH K Hs [x] us):∃ v,us=[v]/\Rep K Hs x v:=by
 simp only[aH] at r;obtain⟨v,q,rfl,r1,rfl⟩:=r;exact⟨v,rfl,r1⟩
theorem repL2{K:Zf}{Hs:Hp}{x y:D}{us:List V}(r:aH K Hs [x,y] us):∃ v u,us=[v,u]/\Rep K Hs x v/\Rep K Hs y u:=by
 simp only[aH] at r;obtain⟨v,q,rfl,r1,u,q',rfl,r2,rfl⟩:=r;exact⟨v,u,rfl,r1,r2⟩
section
variable {P:Program} {w:World} {K:Zf} {mg:Str->Option Value} {base:Heap} {C:Addr} {call:Str->List D->Option D} {callx:Str->List D->Option Str} {kk:Nat} {exs:List Str} {tp:Str}
theorem scP:FnScope ["self","name","table","had"] ["self","name","table"] (aA Ko):=⟨rfl,rfl,rfl,by decide +kernel,rfl,by decide +kernel,by decide +kernel⟩
theorem Ip{f:Addr}{fd:FuncData}(F:Fun K "put" "Case.put" Ko f fd)(T:CTxt K mg C)(XT:XText K mg exs tp)(hin:exs.contains "NoTable"=true)(hkk:2<=kk)(GN:gH P w K mg "need_name" ["thing"] kk (spX K call callx "need_name" ["thing"]))
  (GT:gH P w K mg "is_table" ["thing"] kk (spX K call callx "is_table" ["thing"])) (GO:bZ P w K mg C "do" ["self","word","name","table"] 2 (Cu K C)):FnOk P w K mg base (CX1 P w) (kk+1) f fd ["self","name","table"] (spM K C 2 (JX call callx)):=by
 obtain⟨fn,fdn,mgN,kN,bN,gN⟩:=GN;obtain⟨ft,fdt,mgT,kT,bT,gT⟩:=GT;obtain⟨fo,fdo,mO,bO,gO⟩:=GO;refine F.okX scP (fun vs H Q E h=>fL h) (fun cdv A outer s H vs Q E hr h=>?_);obtain⟨p,d,dn,un,Hs,S,ds,us,o,rfl,e,hs,S0,r,ho,k⟩:=h
 obtain⟨x,t,rfl⟩:∃ x t,ds=[x,t]:=by
  obtain⟨x,q,rfl⟩:=List.exists_cons_of_length_eq_add_one e;obtain⟨t,rfl⟩:=List.length_eq_one_iff.mp (by simpa using e);exact⟨x,t,rfl⟩
 obtain⟨v,u,rfl,rv,ru⟩:=repL2 r;have hu:=zO hr;have hr2:Room 2 _:=hr.mono hkk
 refine⟨_,aL (jf (qx (qw (dZ (gT _) hr rfl mgT kT bT .nil aP (au (pv 2) aK)))) (aV (iG XT hin hr.hd rfl (by decide +kernel))) fM)
  (aL (bh (dZ (gN _) hr rfl mgN kN bN .nil aP (au (pv 1) aK)))
  (aL (cU (i:=3) scP.nd rfl (Or.inl rfl) (HW (Ie hu (pv 1) (dg (pv 0) rfl))))
  (aL (bh (cj (pv 0) T.cl mO (gO _) hr2 bO .nil aP (au jg (au (pv 1) (au (pv 2) aK)))))
  (aV (cF (pv 3)))))),?_⟩
 simp only[JX] at ho;refine⟨_,rfl,rfl,Hs,[t],hs,.cons ru .nil,?_⟩;split at ho
 ·rename_i ht
  cases ho;refine .inl ⟨_,ht,fun v1 H1 Hs1 E1 r1=>?_⟩;cases cC r1;exact⟨false,rfl,jZ fun Cc hC=>k Cc H1 Hs1 hC E1⟩
 ·rename_i ht
  refine .inl ⟨_,ht,fun v1 H1 Hs1 E1 r1=>?_⟩;cases cC r1;refine⟨true,rfl,jL ?_⟩;refine⟨_,rfl,rfl,Hs1,[x],E1.sub,.cons (rv.same E1.vis) .nil,?_⟩;split at ho
  ·rename_i c hn
   cases ho;exact .inr ⟨c,DY _ _ hn,fun Cc H2 Hs2 hC E2=>k Cc H2 Hs2 hC (E1.trans E2)⟩
  ·rename_i sn hn
   obtain⟨rfl,dd,hc⟩:=yZ _ _ hn;obtain⟨S',hd,rfl⟩:=Q0z.mp ho;refine .inl ⟨dd,hc,fun v2 H2 Hs2 E2 _=>?_⟩;cases (show v=.str sn by simpa[Rep] using rv);have E12:=E1.trans E2;have S1:=S0.ext E12;obtain⟨dx,h1⟩:=S1.ob;obtain⟨kvs,h2,h3⟩:=S1.dc;refine⟨_,rfl,_,rfl,p,C,dx,_,_,rfl,h1,T.cl,T.nT,o9 _ _ _,d,_,rfl,pU.k (k:=Sum.inr sn) h2,?_⟩;refine⟨_,rfl,p,dx,_,rfl,h1,rfl,_,rfl,_,rfl,p,d,dn,un,"put",sn,t,u,Hs2,S,S',rfl,E12.sub,S1,ru.same E12.vis,hd,fun H3 Hs3 un3 M3 S3=>?_⟩;refine⟨_,rfl,k _ H3 Hs3 un3 (M3.pre E12) S3 ?_⟩;rcases h3.get (n:=sn) with⟨z1,z2⟩ | ⟨d',v',z1,z2,z3⟩
   ·rw[z1,z2];simp[Rep]
   ·rw[z1,z2];simp[Rep]
  ·cases ho
 ·cases ho
theorem scK:FnScope ["self","name","table"] ["self","name"] (aA Cz):=⟨rfl,rfl,rfl,by decide +kernel,rfl,by decide +kernel,by decide +kernel⟩
theorem oN{S:Cst}{x d:D}(h:jK call callx S [x]=some (.inl d)):∃ s,x=.str s:=by
 simp only[jK] at h;split at h
 ·cases h
 ·rename_i s e;exact⟨s,(yZ _ _ e).1⟩
 ·cases h
theorem DK{f:Addr}{fd:FuncData}(F:Fun K "take" "Case.take" Cz f fd)(T:CTxt K mg C)(hkk:1<=kk)(GT:bZ P w K mg C "table_of" ["self","name"] (kk+1) (spR K C 1 (jK call callx)))(GO:bZ P w K mg C "do" ["self","word","name","table"] 2 (Cu K C)) :
  FnOk P w K mg base (CX1 P w) (kk+2) f fd ["self","name"] (spM K C 1 (sE call callx)):=by
 obtain⟨ft,fdt,mT,bT,gT⟩:=GT;obtain⟨fo,fdo,mO,bO,gO⟩:=GO;refine F.okX scK (fun vs H Q E h=>fL h) (fun cdv A outer s H vs Q E hr h=>?_);obtain⟨p,d,dn,un,Hs,S,ds,us,o,rfl,e,hs,S0,r,ho,k⟩:=h;obtain⟨x,rfl⟩:∃ x,ds=[x]:=List.length_eq_one_iff.mp e;obtain⟨v,rfl,rv⟩:=repL1 r;have hr2:Room 2 _:=hr.mono (by omega);obtain⟨dx,h1⟩:=S0.ob
 refine⟨_,aL (cU (i:=2) scK.nd rfl (Or.inl rfl) (cj (pv 0) T.cl mT (gT _) hr bT .nil aP (au (pv 1) aK)))
  (aL (bh (cj (pv 0) T.cl mO (gO _) hr2 bO .nil aP (au jg (au (pv 1) (au Bg aK)))))
  (aV (cF (pv 2)))),?_⟩
 refine⟨_,rfl,p,dx,_,rfl,h1,rfl,_,rfl,p,d,dn,un,Hs,S,[x],[v],?_⟩
 cases hm:jK call callx S [x] with
 | none=>cases x<;>simp[sE,hm] at ho
 | some o' =>
  refine⟨o',rfl,rfl,hs,S0,.cons rv .nil,rfl,?_⟩
  cases o' with
  | inr c =>
   have:o=.exc c:=by cases x<;>simp[sE,hm] at ho<;>exact ho.symm
   subst this;exact k
  | inl t =>
   obtain⟨sn,rfl⟩:=oN hm;simp only[sE,hm] at ho;obtain⟨S',hd,rfl⟩:=Q0z.mp ho;cases (show v=.str sn by simpa[Rep] using rv);intro v1 H1 Hs1 E1 r1;have S1:=S0.ext E1;obtain⟨dx1,h2⟩:=S1.ob;refine⟨_,rfl,p,dx1,_,rfl,h2,rfl,_,rfl,p,d,dn,un,"take",sn,.non,.non,Hs1,S,S',rfl,E1.sub,S1,by simp[Rep],hd,fun H3 Hs3 un3 M3 S3=>?_⟩;exact⟨_,rfl,k _ H3 Hs3 un3 (M3.pre E1) S3 (r1.same M3.vis)⟩
theorem scU:FnScope ["self","name","table"] ["self","name"] (aA Cy):=⟨rfl,rfl,rfl,by decide +kernel,rfl,by decide +kernel,by decide +kernel⟩
theorem DG{f:Addr}{fd:FuncData}(F:Fun K "turn" "Case.turn" Cy f fd)(T:CTxt K mg C)(hkk:1<=kk)(GF:gH P w K mg "turned" ["table"] kk (spX K call callx "turned" ["table"]))(GT:bZ P w K mg C "table_of" ["self","name"] (kk+1) (spR K C 1 (jK call callx)))(GO:bZ P w K mg C "do" ["self","word","name","table"] 2 (Cu K C)) :
  FnOk P w K mg base (CX1 P w) (kk+2) f fd ["self","name"] (spM K C 1 (iy call callx "turned" "turn")):=by
 obtain⟨ff,fdf,mgF,kF,bF,gF⟩:=GF;obtain⟨ft,fdt,mT,bT,gT⟩:=GT;obtain⟨fo,fdo,mO,bO,gO⟩:=GO;refine F.okX scU (fun vs H Q E h=>fL h) (fun cdv A outer s H vs Q E hr h=>?_);obtain⟨p,d,dn,un,Hs,S,ds,us,o,rfl,e,hs,S0,r,ho,k⟩:=h;obtain⟨x,rfl⟩:∃ x,ds=[x]:=List.length_eq_one_iff.mp e;obtain⟨v,rfl,rv⟩:=repL1 r;have hr2:Room 2 _:=hr.mono (by omega);have hr1:Room kk _:=hr.mono (by omega);obtain⟨dx,h1⟩:=S0.ob
 refine⟨_,aL (cU (i:=2) scU.nd rfl (Or.inl rfl) (dZ (gF _) hr1 rfl mgF kF bF .nil aP (au (cj (pv 0) T.cl mT (gT _) hr bT .nil aP (au (pv 1) aK)) aK)))
  (aL (bh (cj (pv 0) T.cl mO (gO _) hr2 bO .nil aP (au jg (au (pv 1) (au (pv 2) aK)))))
  (aV (cF (pv 2)))),?_⟩
 refine⟨_,rfl,p,dx,_,rfl,h1,rfl,_,rfl,p,d,dn,un,Hs,S,[x],[v],?_⟩
 cases hm:jK call callx S [x] with
 | none=>cases x<;>simp[iy,hm] at ho
 | some o' =>
  refine⟨o',rfl,rfl,hs,S0,.cons rv .nil,rfl,?_⟩
  cases o' with
  | inr c =>
   have:o=.exc c:=by cases x<;>simp[iy,hm] at ho<;>exact ho.symm
   subst this;exact k
  | inl t =>
   obtain⟨sn,rfl⟩:=oN hm;simp only[iy,hm,doF] at ho;cases (show v=.str sn by simpa[Rep] using rv);intro v1 H1 Hs1 E1 r1;refine⟨rfl,Hs1,[t],E1.sub,.cons r1 .nil,?_⟩;split at ho
   ·rename_i c hc
    cases ho;exact .inr ⟨c,hc,fun Cc H2 Hs2 hC E2=>k Cc H2 Hs2 hC (E1.trans E2)⟩
   ·split at ho
    ·rename_i t' ht
     obtain⟨S',hd,rfl⟩:=Q0z.mp ho;refine .inl ⟨t',ht,fun v2 H2 Hs2 E2 r2=>?_⟩;have E12:=E1.trans E2;have S1:=S0.ext E12;obtain⟨dx1,h2⟩:=S1.ob;refine⟨_,rfl,p,dx1,_,rfl,h2,rfl,_,rfl,_,rfl,p,d,dn,un,"turn",sn,t',v2,Hs2,S,S',rfl,E12.sub,S1,r2,hd,fun H3 Hs3 un3 M3 S3=>?_⟩;exact⟨_,rfl,k _ H3 Hs3 un3 (M3.pre E12) S3 (r2.same M3.vis)⟩
    ·cases ho
theorem scF:FnScope ["self","name","table"] ["self","name"] (aA CK):=⟨rfl,rfl,rfl,by decide +kernel,rfl,by decide +kernel,by decide +kernel⟩
theorem DQ{f:Addr}{fd:FuncData}(F:Fun K "flip" "Case.flip" CK f fd)(T:CTxt K mg C)(hkk:1<=kk)(GF:gH P w K mg "flipped" ["table"] kk (spX K call callx "flipped" ["table"]))(GT:bZ P w K mg C "table_of" ["self","name"] (kk+1) (spR K C 1 (jK call callx)))(GO:bZ P w K mg C "do" ["self","word","name","table"] 2 (Cu K C)) :
  FnOk P w K mg base (CX1 P w) (kk+2) f fd ["self","name"] (spM K C 1 (iy call callx "flipped" "flip")):=by
 obtain⟨ff,fdf,mgF,kF,bF,gF⟩:=GF;obtain⟨ft,fdt,mT,bT,gT⟩:=GT;obtain⟨fo,fdo,mO,bO,gO⟩:=GO;refine F.okX scF (fun vs H Q E h=>fL h) (fun cdv A outer s H vs Q E hr h=>?_);obtain⟨p,d,dn,un,Hs,S,ds,us,o,rfl,e,hs,S0,r,ho,k⟩:=h;obtain⟨x,rfl⟩:∃ x,ds=[x]:=List.length_eq_one_iff.mp e;obtain⟨v,rfl,rv⟩:=repL1 r;have hr2:Room 2 _:=hr.mono (by omega);have hr1:Room kk _:=hr.mono (by omega);obtain⟨dx,h1⟩:=S0.ob
 refine⟨_,aL (cU (i:=2) scF.nd rfl (Or.inl rfl) (dZ (gF _) hr1 rfl mgF kF bF .nil aP (au (cj (pv 0) T.cl mT (gT _) hr bT .nil aP (au (pv 1) aK)) aK)))
  (aL (bh (cj (pv 0) T.cl mO (gO _) hr2 bO .nil aP (au jg (au (pv 1) (au (pv 2) aK)))))
  (aV (cF (pv 2)))),?_⟩
 refine⟨_,rfl,p,dx,_,rfl,h1,rfl,_,rfl,p,d,dn,un,Hs,S,[x],[v],?_⟩
 cases hm:jK call callx S [x] with
 | none=>cases x<;>simp[iy,hm] at ho
 | some o' =>
  refine⟨o',rfl,rfl,hs,S0,.cons rv .nil,rfl,?_⟩
  cases o' with
  | inr c =>
   have:o=.exc c:=by cases x<;>simp[iy,hm] at ho<;>exact ho.symm
   subst this;exact k
  | inl t =>
   obtain⟨sn,rfl⟩:=oN hm;simp only[iy,hm,doF] at ho;cases (show v=.str sn by simpa[Rep] using rv);intro v1 H1 Hs1 E1 r1;refine⟨rfl,Hs1,[t],E1.sub,.cons r1 .nil,?_⟩;split at ho
   ·rename_i c hc
    cases ho;exact .inr ⟨c,hc,fun Cc H2 Hs2 hC E2=>k Cc H2 Hs2 hC (E1.trans E2)⟩
   ·split at ho
    ·rename_i t' ht
     obtain⟨S',hd,rfl⟩:=Q0z.mp ho;refine .inl ⟨t',ht,fun v2 H2 Hs2 E2 r2=>?_⟩;have E12:=E1.trans E2;have S1:=S0.ext E12;obtain⟨dx1,h2⟩:=S1.ob;refine⟨_,rfl,p,dx1,_,rfl,h2,rfl,_,rfl,_,rfl,p,d,dn,un,"flip",sn,t',v2,Hs2,S,S',rfl,E12.sub,S1,r2,hd,fun H3 Hs3 un3 M3 S3=>?_⟩;exact⟨_,rfl,k _ H3 Hs3 un3 (M3.pre E12) S3 (r2.same M3.vis)⟩
    ·cases ho
end
end M84
namespace L2
open PySem PySem.Spec PyProof.Rows
open DE (D)
section
variable (call:Str->List D->Option D) (callx:Str->List D->Option Str)
def Bo(S:Cst)(n:D)(x y w:D):Option MR:=match callx "joined" [w,x,y] with
 | some c=>some (.exc c)
 | none=>match call "joined" [w,x,y] with
  | some t=>match call "is_table" [t] with
   | some (.bl false)=>some (.exc "NoFit")
   | some (.bl true)=>match n with
    | .str s=>(doS S "join" s t).map (.val t)
    | _=>none
   | _=>none
  | none=>none
def zA(S:Cst):List D->Option MR
 | [n,w,a,b]=>match ndN call callx n with
  | some (.inr c)=>some (.exc c)
  | some (.inl _)=>match jK call callx S [a] with
   | some (.inr c)=>some (.exc c)
   | some (.inl x)=>match jK call callx S [b] with
    | some (.inr c)=>some (.exc c)
    | some (.inl y)=>Bo call callx S n x y w
    | none=>none
   | none=>none
  | none=>none
 | _=>none
end
def undo(l:List D):Option (List D×Str×Str×D×D):=match l.getLast? with
 | some (.tup [.str w,.str n,o,t])=>some (l.dropLast,w,n,o,t)
 | _=>none
def sG(S:Cst):List D->Option MR
 | []=>match S.don with
  | []=>some (.exc "NoBack")
  | _=>if decide (S.und.length<1000) then match undo S.don with
   | some (l,w,n,o,t)=>(rR { S with don:=l,und:=S.und++[iU w n o t] } n o).map (.val (.str w))
   | none=>none else none
 | _=>none
def jW(S:Cst):List D->Option MR
 | []=>match S.und with
  | []=>some (.exc "NoBack")
  | _=>if decide (S.don.length<1000) then match undo S.und with
   | some (l,w,n,o,t)=>(rR { S with und:=l,don:=S.don++[iU w n o t] } n t).map (.val (.str w))
   | none=>none else none
 | _=>none
def lF(S:Cst):List D->Option (Sum D Str)
 | []=>some (.inl (.tup [.int S.don.length,.int S.und.length]))
 | _=>none
def two:List Str->Bool
 | []=>true
 | [_]=>true
 | [a,b] => !sortedS [b,a]
 | _=>false
def qH(S:Cst):List D->Option (Sum D Str)
 | []=>if two (S.tabs.map (·.1)) then some (.inl (.lst (S.tabs.map fun p=>.str p.1))) else none
 | _=>none
theorem GQ{l:List Str}:∀ {ks:List Str},two ks=true->l.Perm ks->sortedS l=true->l=ks
 | [],_,h,_=>h.eq_nil
 | [a],_,h,_=>List.perm_singleton.mp h
 | [a,b],h2,h,hs=>by
  have hl:=h.length_eq
  match l,hl with
  | [x,y],_ =>
   have hx:x=a\/x=b:=by have:=h.mem_iff (a:=x);simpa using this
   rcases hx with rfl | rfl
   ·have:=(List.perm_cons x).mp h
    rw[List.perm_singleton.mp this]
   ·have h3:=(List.perm_cons x).mp (h.trans (List.Perm.swap x a []))
    rw[List.perm_singleton.mp h3] at hs;simp only[two,hs] at h2;cases h2
 | _::_::_::_,h2,_,_=>by simp[two] at h2
theorem uc{K:Zf}{Hs:Hp}{l l':List D}{vs:List V}{w n:Str}{o t:D}(r:aH K Hs l vs)(h:undo l=some (l',w,n,o,t)):∃ v,vs[vs.length-1]?=some v/\Rep K Hs (iU w n o t) v/\aH K Hs l' vs.dropLast:=by
 unfold undo at h;split at h
 ·rename_i e
  cases h;rw[List.getLast?_eq_getElem?] at e;obtain⟨v,h1,h2⟩:=r.get e;refine⟨v,by rw[<- r.length];exact h1,h2,?_⟩;rw[List.dropLast_eq_take,List.dropLast_eq_take,<- r.length];exact r.take _
 ·cases h
end L2
namespace M84
open PySem PySem.Spec PyProof.Rows L2
open DE (D)
abbrev CJ:Stmt:=inClass fX 0
abbrev CG:Stmt:=inClass fX 6
abbrev ql:Stmt:=inClass fX 9
abbrev sGo:Stmt:=inClass fX 10
abbrev CN:Stmt:=inClass fX 11
abbrev uR:Stmt:=inClass fX 12
abbrev kJ:Stmt:=inClass fX 13
theorem CT{K:Zf}{Hs:Hp}{x y z t:D}{us:List V}(r:aH K Hs [x,y,z,t] us):∃ v u q s,us=[v,u,q,s]/\Rep K Hs x v/\Rep K Hs y u/\Rep K Hs z q/\Rep K Hs t s:=by
 simp only[aH] at r;obtain⟨v,_,rfl,r1,u,_,rfl,r2,q,_,rfl,r3,s,_,rfl,r4,rfl⟩:=r;exact⟨v,u,q,s,rfl,r1,r2,r3,r4⟩
section
variable {P:Program} {w:World} {K:Zf} {mg:Str->Option Value} {base:Heap} {C:Addr} {call:Str->List D->Option D} {callx:Str->List D->Option Str} {kk:Nat} {exs:List Str} {tp:Str}
theorem scJ:FnScope ["self","name","word","one","other","table"] ["self","name","word","one","other"] (aA CG):=⟨rfl,rfl,rfl,by decide +kernel,rfl,by decide +kernel,by decide +kernel⟩
theorem DN{f:Addr}{fd:FuncData}(F:Fun K "join" "Case.join" CG f fd)(T:CTxt K mg C)(XT:XText K mg exs tp)(hin:exs.contains "NoFit"=true)(hkk:1<=kk)(GN:gH P w K mg "need_name" ["thing"] kk (spX K call callx "need_name" ["thing"]))(GB:gH P w K mg "is_table" ["thing"] kk (spX K call callx "is_table" ["thing"]))
  (GF:gH P w K mg "joined" ["word","one","other"] kk (spX K call callx "joined" ["word","one","other"])) (GT:bZ P w K mg C "table_of" ["self","name"] (kk+1) (spR K C 1 (jK call callx))) (GO:bZ P w K mg C "do" ["self","word","name","table"] 2 (Cu K C)) :
  FnOk P w K mg base (CX1 P w) (kk+2) f fd ["self","name","word","one","other"] (spM K C 4 (zA call callx)):=by
 obtain⟨fn,fdn,mgN,kN,bN,gN⟩:=GN;obtain⟨fb,fdb,mgB,kB,bB,gB⟩:=GB;obtain⟨ff,fdf,mgF,kF,bF,gF⟩:=GF;obtain⟨ft,fdt,mT,bT,gT⟩:=GT;obtain⟨fo,fdo,mO,bO,gO⟩:=GO;refine F.okX scJ (fun vs H Q E h=>fL h) (fun cdv A outer s H vs Q E hr h=>?_);obtain⟨p,d,dn,un,Hs,S,ds,us,o,rfl,e,hs,S0,r,ho,k⟩:=h
 match ds,e with
 | [n,wd,a,b],_ =>
 obtain⟨vn,vw,va,vb,rfl,rn,rw',ra,rb⟩:=CT r;have hr2:Room 2 _:=hr.mono (by omega);have hr1:Room kk _:=hr.mono (by omega)
 refine⟨_,aL (bh (dZ (gN _) hr1 rfl mgN kN bN .nil aP (au (pv 1) aK)))
  (aL (cU (i:=5) scJ.nd rfl (Or.inl rfl) (dZ (gF _) hr1 rfl mgF kF bF .nil aP (au (pv 2) (au (cj (pv 0) T.cl mT (gT _) hr bT .nil aP (au (pv 3) aK)) (au (cj (pv 0) T.cl mT (gT _) hr bT .nil aP (au (pv 4) aK)) aK)))))
  (aL (jf (qx (qw (dZ (gB _) hr1 rfl mgB kB bB .nil aP (au (pv 5) aK)))) (aV (iG XT hin hr.hd rfl (by decide +kernel))) fM)
  (aL (bh (cj (pv 0) T.cl mO (gO _) hr2 bO .nil aP (au jg (au (pv 1) (au (pv 5) aK)))))
  (aV (cF (pv 5)))))),?_⟩
 simp only[zA] at ho;refine⟨_,rfl,rfl,Hs,[n],hs,.cons rn .nil,?_⟩;split at ho
 ·rename_i c hn
  cases ho;exact .inr ⟨c,DY _ _ hn,k⟩
 ·rename_i sn hn
  obtain⟨rfl,dd,hc⟩:=yZ _ _ hn;cases (show vn=.str sn by simpa[Rep] using rn);refine .inl ⟨dd,hc,fun v1 H1 Hs1 E1 _=>?_⟩;have S1:=S0.ext E1;obtain⟨dx1,q1⟩:=S1.ob;refine⟨_,rfl,_,rfl,p,dx1,_,rfl,q1,rfl,_,rfl,p,d,dn,un,Hs1,S,[a],[va],?_⟩
  cases hm:jK call callx S [a] with
  | none=>rw[hm] at ho;cases ho
  | some o1 =>
   rw[hm] at ho;refine⟨o1,rfl,rfl,E1.sub,S1,.cons (ra.same E1.vis) .nil,rfl,?_⟩
   cases o1 with
   | inr c=>cases ho;exact fun Cc H2 Hs2 hC E2=>k Cc H2 Hs2 hC (E1.trans E2)
   | inl x =>
    intro v2 H2 Hs2 E2 r2;have E12:=E1.trans E2;have S2:=S0.ext E12;obtain⟨dx2,q2⟩:=S2.ob;refine⟨_,rfl,p,dx2,_,rfl,q2,rfl,_,rfl,p,d,dn,un,Hs2,S,[b],[vb],?_⟩
    cases hm2:jK call callx S [b] with
    | none=>simp only[hm2] at ho;cases ho
    | some o2 =>
     simp only[hm2] at ho;refine⟨o2,rfl,rfl,E2.sub,S2,.cons (rb.same E12.vis) .nil,rfl,?_⟩
     cases o2 with
     | inr c=>cases ho;exact fun Cc H2 Hs2 hC E2=>k Cc H2 Hs2 hC (E12.trans E2)
     | inl y =>
      intro v3 H3 Hs3 E3 r3;have E13:=E12.trans E3;simp only[Bo] at ho;refine⟨rfl,Hs3,[wd,x,y],E3.sub,.cons (rw'.same E13.vis) (.cons (r2.same E3.vis) (.cons r3 .nil)),?_⟩;split at ho
      ·rename_i c hc
       cases ho;exact .inr ⟨c,hc,fun Cc H2 Hs2 hC E2=>k Cc H2 Hs2 hC (E13.trans E2)⟩
      ·split at ho
       ·rename_i t ht
        refine .inl ⟨t,ht,fun v4 H4 Hs4 E4 r4=>?_⟩;have E14:=E13.trans E4;refine⟨_,rfl,rfl,Hs4,[t],E4.sub,.cons r4 .nil,?_⟩;split at ho
        ·rename_i hb
         cases ho;refine .inl ⟨_,hb,fun v5 H5 Hs5 E5 r5=>?_⟩;cases cC r5;exact⟨false,rfl,jZ fun Cc hC=>k Cc H5 Hs5 hC (E14.trans E5)⟩
        ·rename_i hb
         refine .inl ⟨_,hb,fun v5 H5 Hs5 E5 r5=>?_⟩;cases cC r5;refine⟨true,rfl,jL ?_⟩;obtain⟨S',hd,rfl⟩:=Q0z.mp ho;have E15:=E14.trans E5;have S5:=S0.ext E15;obtain⟨dx5,q5⟩:=S5.ob;refine⟨_,rfl,p,dx5,_,rfl,q5,rfl,_,rfl,_,rfl,p,d,dn,un,"join",sn,t,v4,Hs5,S,S',rfl,E15.sub,S5,r4.same E5.vis,hd,fun H6 Hs6 un6 M6 S6=>?_⟩;exact⟨_,rfl,k _ H6 Hs6 un6 (M6.pre E15) S6 (r4.same (E5.vis.trans M6.vis))⟩
        ·cases ho
       ·cases ho
 ·cases ho
end
def mGo(bk:Bool)(S:Cst):Option MR:=if bk then sG S [] else jW S []
def JN(K:Zf)(C:Addr):Sp:=fun vs H Q E=>∃ (p d dn un:Addr) (Hs:Hp) (S:Cst) (bk:Bool) (o:MR),vs=[.ref p,.ref (if bk=true then dn else un),.ref (if bk=true then un else dn),.int (if bk=true then 2 else 3)]/\Same Hs H/\CRep K C Hs H p d dn un S/\mGo bk S=some o/\Gu K C p d dn un Hs H Q E o
section
variable {P:Program} {w:World} {K:Zf} {mg:Str->Option Value} {base:Heap} {C:Addr} {kk:Nat} {exs:List Str} {tp:Str}
theorem scG:FnScope ["self","some","others","place","step"] ["self","some","others","place"] (aA sGo):=⟨rfl,rfl,rfl,by decide +kernel,rfl,by decide +kernel,by decide +kernel⟩
theorem K1{f:Addr}{fd:FuncData}(F:Fun K "go" "Case.go" sGo f fd)(T:CTxt K mg C)(XT:XText K mg exs tp)(hin:exs.contains "NoBack"=true)(hlen:mg "len"=none)(G:bZ P w K mg C "set_to" ["self","name","table"] 1 (yt K C)):FnOk P w K mg base (CX1 P w) 2 f fd ["self","some","others","place"] (JN K C):=by
 obtain⟨g,gd,mG,bG,GS⟩:=G;refine F.okX scG (fun vs H Q E h=>by obtain⟨p,d,dn,un,Hs,S,bk,o,rfl,_⟩:=h;rfl) (fun cdv A outer s H vs Q E hr h=>?_);obtain⟨p,d,dn,un,Hs,S,bk,o,rfl,hs,S0,ho,k⟩:=h
 refine⟨_,aL (jf (uY (Ib (bQ dB rfl hlen PySem.boot_len (au (pv 1) aK)) jU)) (aV (iG XT hin hr.hd rfl (by decide +kernel))) fM)
  (aL (cU (i:=4) scG.nd rfl (Or.inl rfl) (HX M0z PySem.F.slot_list_pop PySem.F.type_list_pop IW (pv 1)))
  (aL (bh (jJ M0z I0z J0z dR (pv 2) (au (pv 4) aK)))
  (aL (bh (cj (pv 0) T.cl mG (GS _) hr bG .nil aP (au (vg qJ (pv 4) jU (fun _ _=>rfl)) (au (vg qJ (pv 4) (pv 3) (fun _ _=>rfl)) aK))))
  (aV (cF (vg qJ (pv 4) jU (fun _ _=>rfl))))))),?_⟩
 cases bk with
 | true =>
  obtain⟨la,a1,a2⟩:=S0.dl;obtain⟨lb,b1,b2⟩:=S0.ul;have la':=a2.length;have lb':=b2.length
  replace ho:sG S []=some o:=ho
  simp only[sG] at ho;refine⟨_,rfl,dn,la,rfl,.inl (SqL.of a1),?_⟩;refine⟨_,_,rfl,rfl,?_⟩;split at ho
  ·rename_i hnil
   cases ho
   have e0:((la.length:Nat):Int)=0:=by rw[<- la',hnil];rfl
   exact⟨true,congrArg V.bl (S3z e0),jZ fun Cc hC=>k Cc H Hs hC (.refl hs)⟩
  ·rename_i hne
   split at ho
   ·rename_i hl
    split at ho
    ·rename_i l wd n old t hun
     obtain⟨S',hd,rfl⟩:=Q0z.mp ho;obtain⟨v,e1,rst,rl⟩:=uc a2 hun
     have lpos:0<la.length:=Nat.pos_of_ne_zero fun z=>by rw[<- la'] at z;exact hne (List.length_eq_zero_iff.mp z)
     have e0:¬ ((la.length:Nat):Int)=0:=by omega
     refine⟨false,congrArg V.bl (A3z e0),jL ?_⟩;refine⟨_,rfl,.inl ⟨rfl,_,SqL.of a1⟩,dn,la,v,rfl,rfl,a1,e1,?_⟩;have S1:=S0.setN rl;have M1:=fO (p:=p) (d:=d) (dn:=dn) (un:=un) (o:=.lst la.dropLast) hs (.inr (.inl rfl)) S0.hn;obtain⟨lb2,c1,c2⟩:=S1.ul
     have ee:lb2=lb:=by
      rw[ak (S0.ne.symm)] at c1;rw[b1] at c1;cases c1;rfl
     subst ee;have lz:lb2.length<sizeLine:=M1z (by rw[<- lb'];exact N2z hl) (show(1000:Nat)<=sizeLine by decide);refine⟨_,rfl,.inl ⟨rfl,_,SqL.of c1⟩,_,rfl,un,lb2,v,rfl,rfl,c1,lz,?_⟩;have S2:=S1.setU (aH.append c2 (.cons rst .nil));have M2:=M1.trans (fO (p:=p) (d:=d) (dn:=dn) (un:=un) (o:=.lst (lb2++[v])) M1.sub (.inr (.inr rfl)) S1.hu) (.inl rfl);obtain⟨dx2,q2⟩:=S2.ob;simp only[iU,Rep] at rst;obtain⟨x,ws,rfl,sq,rws⟩:=rst;obtain⟨w1,w2,w3,w4,rfl,g1,g2,g3,g4⟩:=CT rws;have sq2:SqT K _ x [w1,w2,w3,w4]:=M2.sub.tup sq;cases (show w2=.str n by simpa[Rep] using g2);refine⟨_,rfl,p,dx2,_,rfl,q2,rfl,_,rfl,x,_,1,_,rfl,rfl,sq2,rfl,_,rfl,_,rfl,x,_,2,_,rfl,rfl,sq2,rfl,?_⟩;refine⟨p,d,dn,un,n,old,_,Hs,_,S',rfl,M2.sub,S2,g3,hd,fun H3 M3 S3=>?_⟩;refine⟨_,rfl,x,_,0,_,rfl,rfl,M3.sub.tup sq,rfl,k _ H3 Hs un (M2.trans M3 (.inl rfl)) S3 g1⟩
    ·cases ho
   ·cases ho
 | false =>
  obtain⟨la,a1,a2⟩:=S0.ul;obtain⟨lb,b1,b2⟩:=S0.dl;have la':=a2.length;have lb':=b2.length
  replace ho:jW S []=some o:=ho
  simp only[jW] at ho;refine⟨_,rfl,un,la,rfl,.inl (SqL.of a1),?_⟩;refine⟨_,_,rfl,rfl,?_⟩;split at ho
  ·rename_i hnil
   cases ho
   have e0:((la.length:Nat):Int)=0:=by rw[<- la',hnil];rfl
   exact⟨true,congrArg V.bl (S3z e0),jZ fun Cc hC=>k Cc H Hs hC (.refl hs)⟩
  ·rename_i hne
   split at ho
   ·rename_i hl
    split at ho
    ·rename_i l wd n old t hun
     obtain⟨S',hd,rfl⟩:=Q0z.mp ho;obtain⟨v,e1,rst,rl⟩:=uc a2 hun
     have lpos:0<la.length:=Nat.pos_of_ne_zero fun z=>by rw[<- la'] at z;exact hne (List.length_eq_zero_iff.mp z)
     have e0:¬ ((la.length:Nat):Int)=0:=by omega
     refine⟨false,congrArg V.bl (A3z e0),jL ?_⟩;refine⟨_,rfl,.inl ⟨rfl,_,SqL.of a1⟩,un,la,v,rfl,rfl,a1,e1,?_⟩;have S1:=S0.setU rl;have M1:=fO (p:=p) (d:=d) (dn:=dn) (un:=un) (o:=.lst la.dropLast) hs (.inr (.inr rfl)) S0.hu;obtain⟨lb2,c1,c2⟩:=S1.dl
     have ee:lb2=lb:=by
      rw[ak (S0.ne)] at c1;rw[b1] at c1;cases c1;rfl
     subst ee;have lz:lb2.length<sizeLine:=M1z (by rw[<- lb'];exact N2z hl) (show(1000:Nat)<=sizeLine by decide);refine⟨_,rfl,.inl ⟨rfl,_,SqL.of c1⟩,_,rfl,dn,lb2,v,rfl,rfl,c1,lz,?_⟩;have S2:=S1.setN (aH.append c2 (.cons rst .nil));have M2:=M1.trans (fO (p:=p) (d:=d) (dn:=dn) (un:=un) (o:=.lst (lb2++[v])) M1.sub (.inr (.inl rfl)) S1.hn) (.inl rfl);obtain⟨dx2,q2⟩:=S2.ob;simp only[iU,Rep] at rst;obtain⟨x,ws,rfl,sq,rws⟩:=rst;obtain⟨w1,w2,w3,w4,rfl,g1,g2,g3,g4⟩:=CT rws;have sq2:SqT K _ x [w1,w2,w3,w4]:=M2.sub.tup sq;cases (show w2=.str n by simpa[Rep] using g2);refine⟨_,rfl,p,dx2,_,rfl,q2,rfl,_,rfl,x,_,1,_,rfl,rfl,sq2,rfl,_,rfl,_,rfl,x,_,3,_,rfl,rfl,sq2,rfl,?_⟩;refine⟨p,d,dn,un,n,t,_,Hs,_,S',rfl,M2.sub,S2,g4,hd,fun H3 M3 S3=>?_⟩;refine⟨_,rfl,x,_,0,_,rfl,rfl,M3.sub.tup sq,rfl,k _ H3 Hs un (M2.trans M3 (.inl rfl)) S3 g1⟩
    ·cases ho
   ·cases ho
end
section
variable {P:Program} {w:World} {K:Zf} {mg:Str->Option Value} {base:Heap} {C:Addr} {kk:Nat} {exs:List Str} {tp:Str}
theorem scB:FnScope ["self"] ["self"] (aA CN):=⟨rfl,rfl,rfl,by decide +kernel,rfl,by decide +kernel,by decide +kernel⟩
theorem scO:FnScope ["self"] ["self"] (aA uR):=⟨rfl,rfl,rfl,by decide +kernel,rfl,by decide +kernel,by decide +kernel⟩
theorem DR{f:Addr}{fd:FuncData}(F:Fun K "back" "Case.back" CN f fd)(T:CTxt K mg C)(G:bZ P w K mg C "go" ["self","some","others","place"] 2 (JN K C)):FnOk P w K mg base (CX1 P w) 3 f fd ["self"] (spM K C 0 sG):=by
 obtain⟨g,gd,mG,bG,GS⟩:=G;refine F.okX scB (fun vs H Q E h=>fL h) (fun cdv A outer s H vs Q E hr h=>?_);obtain⟨p,d,dn,un,Hs,S,ds,us,o,rfl,e,hs,S0,r,ho,k⟩:=h;cases List.length_eq_zero_iff.mp e;cases (show us=[] by simpa[aH] using r);obtain⟨dx,h1⟩:=S0.ob;refine⟨_,aV (cF (cj (pv 0) T.cl mG (GS _) hr bG .nil aP (au (dg (pv 0) rfl) (au (dg (pv 0) rfl) (au jU aK))))),?_⟩;exact⟨_,rfl,p,dx,_,rfl,h1,rfl,_,rfl,p,C,dx,_,_,rfl,h1,T.cl,T.nD,zE _ _ _,_,rfl,p,C,dx,_,_,rfl,h1,T.cl,T.nU,Ef _ _ _,p,d,dn,un,Hs,S,true,o,rfl,hs,S0,ho,k⟩
theorem yW{f:Addr}{fd:FuncData}(F:Fun K "forth" "Case.forth" uR f fd)(T:CTxt K mg C)(G:bZ P w K mg C "go" ["self","some","others","place"] 2 (JN K C)):FnOk P w K mg base (CX1 P w) 3 f fd ["self"] (spM K C 0 jW):=by
 obtain⟨g,gd,mG,bG,GS⟩:=G;refine F.okX scO (fun vs H Q E h=>fL h) (fun cdv A outer s H vs Q E hr h=>?_);obtain⟨p,d,dn,un,Hs,S,ds,us,o,rfl,e,hs,S0,r,ho,k⟩:=h;cases List.length_eq_zero_iff.mp e;cases (show us=[] by simpa[aH] using r);obtain⟨dx,h1⟩:=S0.ob;refine⟨_,aV (cF (cj (pv 0) T.cl mG (GS _) hr bG .nil aP (au (dg (pv 0) rfl) (au (dg (pv 0) rfl) (au jU aK))))),?_⟩;exact⟨_,rfl,p,dx,_,rfl,h1,rfl,_,rfl,p,C,dx,_,_,rfl,h1,T.cl,T.nU,Ef _ _ _,_,rfl,p,C,dx,_,_,rfl,h1,T.cl,T.nD,zE _ _ _,p,d,dn,un,Hs,S,false,o,rfl,hs,S0,ho,k⟩
theorem scN:FnScope ["self"] ["self"] (aA ql):=⟨rfl,rfl,rfl,by decide +kernel,rfl,by decide +kernel,by decide +kernel⟩
theorem yV{f:Addr}{fd:FuncData}(F:Fun K "names" "Case.names" ql f fd)(T:CTxt K mg C)(hsrt:mg "sorted"=none):FnOk P w K mg base (CX1 P w) 1 f fd ["self"] (spR K C 0 qH):=by
 refine F.okX scN (fun vs H Q E h=>oU h) (fun cdv A outer s H vs Q E hr h=>?_);obtain⟨p,d,dn,un,Hs,S,ds,us,o,rfl,e,hs,S0,r,ho,k⟩:=h;cases List.length_eq_zero_iff.mp e;cases (show us=[] by simpa[aH] using r);obtain⟨dx,h1⟩:=S0.ob;obtain⟨kvs,h2,h3⟩:=S0.dc;simp only[qH] at ho;split at ho
 ·rename_i h4
  cases ho;refine⟨_,aV (cF (bQ (nZ rfl) rfl hsrt (by decide +kernel) (au (dg (pv 0) rfl) aK))),?_⟩;refine⟨_,rfl,p,C,dx,_,_,rfl,h1,T.cl,T.nT,o9 _ _ _,d,kvs,_,rfl,h2,h3.keys,?_,fun a ss ha hp hss=>?_⟩
  ·have:∀ l:List Str,two l=true->l.length<64:=fun l h=>by
    match l with
    | []=>decide
    | [_]=>show 1<64;decide
    | [_,_]=>show 2<64;decide
    | _::_::_::_=>simp[two] at h
   exact this _ h4
  ·cases GQ h4 hp hss
   have rl:aH K Hs (S.tabs.map fun p=>D.str p.1) ((S.tabs.map (·.1)).map V.str):=by
    generalize S.tabs=l
    induction l with
    | nil=>exact .nil
    | cons a l ih=>exact .cons (by simp[Rep]) ih
   exact jj (X:=dW (CX1 P w) P w K mg base ["self"] "Case.names" (aA ql) f cdv A outer s H E) hs rl ha fun v H' Hs' E1 r1=>k v H' Hs' E1 r1
 ·cases ho
theorem scC:FnScope ["self"] ["self"] (aA kJ):=⟨rfl,rfl,rfl,by decide +kernel,rfl,by decide +kernel,by decide +kernel⟩
theorem vB{f:Addr}{fd:FuncData}(F:Fun K "counts" "Case.counts" kJ f fd)(T:CTxt K mg C)(hlen:mg "len"=none):FnOk P w K mg base (CX1 P w) 1 f fd ["self"] (spR K C 0 lF):=by
 refine F.okX scC (fun vs H Q E h=>oU h) (fun cdv A outer s H vs Q E hr h=>?_);obtain⟨p,d,dn,un,Hs,S,ds,us,o,rfl,e,hs,S0,r,ho,k⟩:=h;cases List.length_eq_zero_iff.mp e;cases (show us=[] by simpa[aH] using r);obtain⟨dx,h1⟩:=S0.ob;obtain⟨ls,h2,h3⟩:=S0.dl;obtain⟨lu,h4,h5⟩:=S0.ul;simp only[lF] at ho;cases ho;refine⟨_,aV (cF (vf (au (bQ dB rfl hlen PySem.boot_len (au (dg (pv 0) rfl) aK)) (au (bQ dB rfl hlen PySem.boot_len (au (dg (pv 0) rfl) aK)) aK)))),?_⟩;refine⟨_,rfl,p,C,dx,_,_,rfl,h1,T.cl,T.nD,zE _ _ _,dn,_,rfl,.inl (SqL.of h2),_,rfl,p,C,dx,_,_,rfl,h1,T.cl,T.nU,Ef _ _ _,un,_,rfl,.inl (SqL.of h4),(by show 2<=sizeLine;decide),fun a ha=>?_⟩;exact gJ (X:=dW (CX1 P w) P w K mg base ["self"] "Case.counts" (aA kJ) f cdv A outer s H E) hs (.cons (by simp[Rep,h3.length]) (.cons (by simp[Rep,h5.length]) .nil)) ha fun v H' Hs' E1 r1=>k v H' Hs' E1 r1
def Ay(K:Zf)(C:Addr):Sp:=fun vs H Q _=>∃ (p dx:Addr) (Hs:Hp),vs=[.ref p]/\H p=some (.ins C dx [])/\Same Hs H/\Hs p=none/\∀ (d dn un:Addr) (H':Hp),CRep K C Hs H' p d dn un ⟨[],[],[]⟩->H d=none->H dn=none->H un=none->(∀ b o,H b=some o->b≠p->H' b=some o)->Q .non H'
theorem scI:FnScope ["self"] ["self"] (aA CJ):=⟨rfl,rfl,rfl,by decide +kernel,rfl,by decide +kernel,by decide +kernel⟩
theorem DP{f:Addr}{fd:FuncData}(F:Fun K "__init__" "Case.__init__" CJ f fd)(T:CTxt K mg C):FnOk P w K mg base (CX1 P w) 1 f fd ["self"] (Ay K C):=by
 refine F.okX scI (fun vs H Q E h=>?_) (fun cdv A outer s H vs Q E hr h=>?_)
 ·obtain⟨p,dx,Hs,rfl,_⟩:=h
  rfl
 ·obtain⟨p,dx,Hs,rfl,hp,hs,hsp,k⟩:=h
  refine⟨_,aL (qy (pv 0) yO rfl) (aL (qy (pv 0) (jT aK) rfl) (aV (qy (pv 0) (jT aK) rfl))),?_⟩;intro d hd;have npd:p≠d:=aq hp hd;refine⟨_,rfl,p,C,dx,[],rfl,(by rw[ak npd];exact hp),T.cl,T.nT,(by show 0<1000;decide),⟨by decide,fun dn hdn=>?_⟩⟩
  have npn:p≠dn:=fun z=>by subst z;rw[aB] at hdn;cases hdn
  have nnd:dn≠d:=fun z=>by subst z;rw[ak npn.symm,aB] at hdn;cases hdn
  refine⟨_,rfl,p,C,dx,fl1 d,rfl,(by rw[ak npn,aB];rfl),T.cl,T.nD,(by show 1<1000;decide),⟨by decide,fun un hun=>?_⟩⟩
  rw[Vj] at hun ⊢
  have npu:p≠un:=fun z=>by subst z;rw[aB] at hun;cases hun
  have nun:un≠dn:=fun z=>by subst z;rw[ak npu.symm,aB] at hun;cases hun
  have nud:un≠d:=fun z=>by subst z;rw[ak npu.symm,ak nun,ak npu.symm,aB] at hun;cases hun
  refine⟨_,rfl,p,C,dx,fl2 d dn,rfl,(by rw[ak npu,aB]),T.cl,T.nU,(by show 2<1000;decide),?_⟩
  rw[put2]
  have hdn0:H dn=none:=by rw[ak npn.symm,ak nnd] at hdn;exact hdn
  have hun0:H un=none:=by rw[ak npu.symm,ak nun,ak npu.symm,ak nud] at hun;exact hun
  refine k d dn un _ ⟨⟨dx,aB⟩,⟨[],?_,rfl⟩,⟨[],?_,.nil⟩,⟨[],?_,.nil⟩,nun.symm,hsp,bJ hs hd,bJ hs hdn0,bJ hs hun0⟩ hd hdn0 hun0 fun b o e hb=>?_
  ·rw[ak npd.symm,ak nud.symm,ak npd.symm,ak nnd.symm,ak npd.symm,aB]
  ·rw[ak npn.symm,ak nun.symm,ak npn.symm,aB]
  ·rw[ak npu.symm,aB]
  ·rw[ak hb,ak (aq e hun0),ak hb,ak (aq e hdn0),ak hb,ak (aq e hd)];exact e
end
end M84
namespace L2
open PySem PySem.Spec PyProof.Rows
open DE hiding st
abbrev mF:=List (Str×Nat×(Cst->List D->Option MR))
structure CaseOk (P:Program) (w:World) (K:Zf) (mg:Str->Option Value) (k:Nat) (C:Addr) (ms:mF):Prop where
 cl:Cls K C
 met:∀ m n f,ms.lookup m=some (n,f)->(pD 0 0 0).lookup m=none/\∃ ps,bZ P w K mg C m ps k (spM K C n f)
def Bm(cx:Cxt)(ms:mF)(F:Nat)(sc:Scope)(ρ:Rho)(S:Cst):Expr->Option (Addr×MR)
 | .Call (.Attribute (.Name x px) m ap) args [] cp=>match ev cx F sc ρ (.Name x px) with
  | some (.obj a)=>if ap.endLine==cp.line&&decide (args.length<30) then(jH (ev cx F sc ρ) args).bind fun ds=>match ms.lookup m with
   | some (n,f)=>if ds.length==n then(f S ds).map fun o=>(a,o) else none
   | none=>none else none
  | _=>none
 | _=>none
theorem Gu.pre{K:Zf}{C p d dn un:Addr}{Hs H Hs1 H1:Hp}{Q:VK}{E:XK}{o:MR}(h:Gu K C p d dn un Hs H Q E o)(E1:Ext Hs H Hs1 H1):Gu K C p d dn un Hs1 H1 Q E o:=by
 cases o with
 | val r S=>exact fun v H' Hs' un' M S' r'=>h v H' Hs' un' (M.pre E1) S' r'
 | exc c=>exact fun Cc H' Hs' hC E2=>h Cc H' Hs' hC (E1.trans E2)
theorem Ja(a b c:Addr){m:Str}(h:(pD 0 0 0).lookup m=none):(pD a b c).lookup m=none:=by
 simp only[pD,List.lookup] at h ⊢
 cases e1:m==nT<;>cases e2:m==nD<;>cases e3:m==nU<;>simp[e1,e2,e3] at h ⊢
theorem tL{l:List (Bool×Sem Value)}(h:l.any (·.1)=false):l.all (fun q => !q.1)=true:=by
 rw[List.all_eq_true];intro q hq;rw[List.any_eq_false] at h;simpa using h q hq
theorem xG{x m:Str}{px ap cp:Pos}{args:List Expr}{env:Env}(hp:(backTo cp (starEach args env)).any (·.1)=false)(hl:args.length<30)(hline:(ap.endLine==cp.line)=true) :
  eval (.Call (.Attribute (.Name x px) m ap) args [] cp) env=(do
   let ov <- eval (.Name x px) env
   standAt ap.atName
   let (f,first) <- holding [ov] (getMethod ov m (do return (<- importBound (.Name x px) env).getD true))
   callWith cp f first (backTo cp (starEach args env)) (backToKw cp (keywordEach [] env))):=by
 have hf:methodCallForm (args.length+([]:List Keyword).length) (backTo cp (starEach args env)) (backToKw cp (keywordEach [] env))=true:=by
  unfold methodCallForm;rw[tL hp];show(true&&true&&decide (args.length<30))=true;rw[S3z hl];rfl
 show(do
  let ov <- attributeBase (.Name x px) m env (eval (.Name x px) env)
  standAt ap.atName
  methodCall (.Name x px) m ap cp env ov (args.length+([]:List Keyword).length) (backTo cp (starEach args env)) (backToKw cp (keywordEach [] env)))=_
 unfold methodCall;rw[hf];unfold methodCallPos;rw[D5z (by rw[hline];rfl)];rfl
theorem vK{cx:Cxt}{k:Nat}{X:Cx}{sc:Scope}{ρ:Rho}{ms:mF}{F kM:Nat}{p C d dn un:Addr}{S:Cst}{e:Expr}{o:MR}{σ:St}{H Hs:Hp}{Q:VK}{E:XK}(G:Good cx k X sc)(hN:X.N=ρ.map (·.1))(CO:CaseOk X.prog X.w X.K X.mg kM C ms)(hr:Room kM X.A)(hx:Passes (CX1 X.prog X.w) X E)
  (h:Bm cx ms F sc ρ S e=some (p,o)) (hs:Same Hs H) (hst:bV X.K Hs ρ σ) (S0:CRep X.K C Hs H p d dn un S) (k:Gu X.K C p d dn un Hs H Q E o):fU X e σ H Q/\aF e=true:=by
 unfold Bm at h;split at h
 ·rename_i x px m ap args cp
  split at h
  ·rename_i a ha
   split at h
   ·rename_i hp
    rw[W2z] at hp;obtain⟨hline,hl30⟩:=hp;have hl30:args.length<30:=N2z hl30;obtain⟨ds,h1,h2⟩:=Option.bind_eq_some_iff.mp h;split at h2
    ·rename_i n f hm
     split at h2
     ·rename_i hl
      obtain⟨o',h2,h5⟩:=Q0z.mp h2;cases h5;have hn:=(cH cx F G hN ha).1;obtain⟨hA,hpl⟩:=dH (X:=X) (ρ:=ρ) (fun e _ d he=>⟨(cH cx F G hN he).1,aQ he⟩) h1;obtain⟨nf,ps,g,gd,mG,bG,GS⟩:=CO.met m n f hm;refine⟨?_,rfl⟩
      cases args with
      | nil =>
       simp only[jH,K2z] at h1;subst h1;refine(yL ao CO.cl mG (GS _) hr bG .nil hx (xG rfl hl30 hline)).sem (hn σ H Hs _ hs hst fun v H1 Hs1 E1 r1=>?_);cases (show v=.ref p by simpa[Rep] using r1);have S1:=S0.ext E1;obtain⟨dx,h3⟩:=S1.ob;exact⟨p,dx,_,rfl,h3,Ja _ _ _ nf,p,d,dn,un,Hs1,S,[],[],o,rfl,by simpa using hl,E1.sub,S1,.nil,h2,k.pre E1⟩
      | cons e1 es =>
       refine(cj ao CO.cl mG (GS _) hr bG .nil hx cG (aj (hpl e1 (by simp))) (dJ fun e' he=>hpl e' (W0z _ he)) (xG (dJ hpl) hl30 hline)).sem (hn σ H Hs _ hs hst fun v H1 Hs1 E1 r1=>?_);cases (show v=.ref p by simpa[Rep] using r1);have S1:=S0.ext E1;obtain⟨dx,h3⟩:=S1.ob;refine⟨p,dx,_,rfl,h3,Ja _ _ _ nf,hA σ H1 Hs1 _ E1.sub (hst.same E1.vis) fun vs H2 Hs2 E2 r2=>?_⟩;have E12:=E1.trans E2;exact⟨p,d,dn,un,Hs2,S,ds,vs,o,by rw[E3z],by simpa using hl,E2.sub,S0.ext E12,r2,h2,k.pre E12⟩
     ·cases h2
    ·cases h2
   ·cases h
  ·cases h
 ·cases h
def big(Hs H:Hp)(p d dn un:Addr):Hp:=fun b=>match Hs b with
 | some o=>some o
 | none=>if b=p\/b=d\/b=dn\/b=un then H b else none
def mix(A B:Hp):Hp:=fun b=>match A b with
 | some o=>some o
 | none=>B b
section
variable {Hs H:Hp} {p d dn un:Addr}
theorem pQ:Same Hs (big Hs H p d dn un):=fun b o e=>by unfold big;rw[e]
theorem pR(hs:Same Hs H):Same (big Hs H p d dn un) H:=fun b o e=>by
 unfold big at e;split at e
 ·rename_i q;cases e;exact hs _ _ q
 ·split at e
  ·exact e
  ·cases e
theorem gZ{b:Addr}{o:HO}(h:b=p\/b=d\/b=dn\/b=un)(n:Hs b=none)(e:H b=some o):big Hs H p d dn un b=some o:=by
 unfold big;rw[n];simp only;rw[D5z h];exact e
theorem mz{b:Addr}(h:¬ (b=p\/b=d\/b=dn\/b=un))(n:Hs b=none):big Hs H p d dn un b=none:=by
 unfold big;rw[n];simp only;rw[E5z h]
theorem CRep.big{K:Zf}{C:Addr}{S:Cst}{H1:Hp}(S0:CRep K C Hs H p d dn un S)(sm:Same (big Hs H p d dn un) H1):CRep K C Hs H1 p d dn un S:=by
 obtain⟨⟨dx,a1⟩,⟨kvs,b1,b2⟩,⟨vs,c1,c2⟩,⟨us,d1,d2⟩,e,f1,f2,f3,f4⟩:=S0;exact⟨⟨dx,sm _ _ (gZ (.inl rfl) f1 a1)⟩,⟨kvs,sm _ _ (gZ (.inr (.inl rfl)) f2 b1),b2⟩,⟨vs,sm _ _ (gZ (.inr (.inr (.inl rfl))) f3 c1),c2⟩,⟨us,sm _ _ (gZ (.inr (.inr (.inr rfl))) f4 d1),d2⟩,e,f1,f2,f3,f4⟩
theorem Ec{Hb H1 Hs' H':Hp}(v:Same Hs Hb)(s:Same Hb H1)(E:Ext Hs H1 Hs' H'):Ext Hb H1 (mix Hs' Hb) H':=by
 have key:∀ b,Hs b=none->∀ o,Hb b=some o->Hs' b=none:=fun b n o e=>E.hid b o (s _ _ e) n;refine⟨fun b o e=>?_,E.all,fun b o e=>?_,fun b o e n=>?_⟩
 ·unfold mix
  cases q:Hs b with
  | none=>rw[key b q o e];exact e
  | some o' =>
   have:=v _ _ q;rw[e] at this;cases this;rw[E.vis _ _ q]
 ·unfold mix at e
  split at e
  ·rename_i q;cases e;exact E.sub _ _ q
  ·exact E.all _ _ (s _ _ e)
 ·unfold mix
  rw[E.hid b o e (bJ v n)];exact n
end
section
variable {P:Program} {w:World} {K:Zf} {mg:Str->Option Value} {base:Heap} {T:Pg} {F k:Nat}
theorem Ei(X:Text w K mg T){f c':Addr}{name qual:Str}{params:Arguments}{body:Expr}{scope:Scope}{pm ctv:Value}{cl:List (Str×Addr)}{ws:List V}{ρ:Rho}{Hs H0:Hp}{c:Str}{ms:mF}{p C d dn un:Addr}{S:Cst}
    (lk:base.get? f=some (PySem.W.kla_obj name qual params body scope cl pm c' ctv)) (hcd:base.CodeRec (.ref c') qual) (L:LamNames base scope (ρ.map (·.1)) ws cl) (hnd:(ρ.map (·.1)).Nodup)
    (hr:bV K Hs ρ (ws.map some)) (CO:CaseOk P w K mg k C ms) (S0:CRep K C Hs H0 p d dn un S) (he:Bm (T.cx (aZ T F k)) ms F scope ρ S body=some (p,.exc c)) :
    FnOk P w K mg base (CX1 P w) (k+1) f (PySem.W.kla_fn name qual params body scope cl pm (.ref c') ctv) [] (spL K (big Hs H0 p d dn un) c):=by
  refine Jd lk hcd L (fun vs H Q E h=>by rw[h.1];rfl) fun A outer s H Q E hroom h=>?_
  obtain⟨_,hsm,hE⟩:=h
  refine⟨fU _ body,ao,?_⟩
  have G:Good (T.cx (aZ T F k)) k (lV (CX1 P w) P w K mg base (ρ.map (·.1)) qual scope f (.ref c') cl A outer s H E) scope :=
    { calm := rfl, room := hroom, sce := rfl, kind := L.kind, nd := hnd, cst := X.cst, blt := X.blt, exs := X.exs, kw := X.kw
      fns:=fun f' hf'=>by
        obtain⟨fd',hl'⟩:=dU (l:=T.defs) hf'
        have FA:=X.fns f' fd' hl'
        obtain⟨nm',t',a',g',m1,m2,m3,m4,m5⟩:=FA.ex
        exact⟨FA.nd,a',g',fd'.ps,fun ds d h=>dz hl' ds _ (eZ h),fun ds c h=>dz hl' ds _ (fD h),m1,m2.kp,m3,oJ X k nm' f' fd' t' a' g' hl' m2 m4 m5 FA.fs⟩ }
  exact(vK G rfl CO hroom yR he (pQ.trans hsm) hr (S0.big hsm) fun Cc H' Hs' hC E1=>hE Cc H' _ hC (Ec pQ hsm E1)).1
end
section
variable {X:Cx} {ρ:Rho} {T:Pg} {F k:Nat} {sc:Scope} {Hs0 H0:Hp} {L:LamP} {pl:Addr×Str} {ms:mF} {C p d dn un:Addr} {S:Cst}
theorem CRep.noext{K:Zf}{Hs H:Hp}{b:Addr}{φ:Heap->Prop}(S0:CRep K C Hs H p d dn un S)(h:H b=some (.ext φ)):¬ (b=p\/b=d\/b=dn\/b=un):=by
 obtain⟨⟨dx,a1⟩,⟨kvs,b1,b2⟩,⟨vs,c1,c2⟩,⟨us,d1,d2⟩,_⟩:=S0;rintro(rfl | rfl | rfl | rfl)
 ·rw[a1] at h;cases h
 ·rw[b1] at h;cases h
 ·rw[c1] at h;cases h
 ·rw[d1] at h;cases h
theorem uq{tn c' x:Str}{body:Expr}{lsc:Scope}{lp pp cp:Pos}{cv:Str->Option D}{σ:St}{H Hs:Hp}{Q:VK}(Tx:Text X.w X.K X.mg T)(Lc:LCx X pl)(hN:X.N=ρ.map (·.1))(hsc:X.env.scope=sc)(hr:Room (k+3) X.A)(TA:j6 X.prog X.w X.K X.mg (k+1) T.exs cv tn)
  (hgl:sc.names.lookup tn=some .globalImplicit) (ok:vV sc lsc ρ=true) (CO:CaseOk X.prog X.w X.K X.mg k C ms) (S0:CRep X.K C Hs H p d dn un S) (he:Bm (T.cx (aZ T F k)) ms F lsc (gj lsc ρ) S body=some (p,.exc c')) (hin:T.exs.contains c'=true) (hcv:cv c'=some (.str x))
  (hs:Same Hs H) (hst:bV X.K Hs ρ σ) {l:List (Pos×Addr)} (hT:LamT H pl.1 pl.2 l) (n1:Hs pl.1=none) (n2:∀ q∈l,Hs q.2=none)
  (hq:∀ H',ExtL pl Hs H Hs H'->Q (.str x) H'):fU X (.Call (.Name tn pp) [.Lambda noArgs body lsc lp] [] cp) σ H Q:=by
 refine ur (Hs:=big Hs H p d dn un) (Hr:=Hs) Lc hN hsc hr TA hgl ok (fun base f c1 pm ctv cl ws a1 a2 a3 a4 a5=>Ei Tx a1 a2 a3 a4 a5 CO S0 he) hin hcv (pR hs) hst hT (mz (S0.noext hT.tab) n1) (fun q h=>mz (S0.noext (hT.cod q h)) (n2 q h)) fun v H' Hs' E r=>?_;cases (show v=.str x by simpa[Rep] using r);obtain⟨l',T',m1,m2⟩:=E.lam;have vv:Same Hs Hs':=pQ.trans E.vis;exact hq H' ⟨.refl _,E.all,fun b o e=>E.sub b o (vv b o e),fun _ _ _ z=>z,l',T',bJ vv m1,fun q h=>bJ vv (m2 q h)⟩
def Ek(cx:Cxt)(L:LamP)(ms:mF)(S:Cst)(F:Nat)(sc:Scope)(ρ:Rho)(e:Expr):Option (Addr×D) :=
 match toldOf e with
 | some (tn,body,lsc)=>if tn==L.tn&&sc.names.lookup tn==some .globalImplicit&&vV sc lsc ρ then
   match Bm cx ms F lsc (gj lsc ρ) S body with
   | some (a,.exc c)=>if cx.exs.contains c then(match L.cv c with
    | some (.str x)=>some (a,.str x)
    | _=>none) else none
   | _=>none
  else none
 | none=>none
def Gb(cx:Cxt)(L:LamP)(ms:mF)(S:Cst)(F:Nat)(sc:Scope)(ρ:Rho):Expr->Option (Addr×Bool)
 | .Compare l [op] [r] _=>match Ek cx L ms S F sc ρ l with
  | some (a,x)=>((ev cx F sc ρ r).bind fun y=>(cmpop op x y).bind asB).map fun b=>(a,b)
  | none=>none
 | _=>none
def kE(f:Rho->Stmt->Option (List Addr×Rho)):List Stmt->Rho->Option (List Addr×Rho)
 | [],ρ=>some ([],ρ)
 | s::r,ρ=>match f ρ s with
  | some (l,ρ')=>(kE f r ρ').map fun q=>(l++q.1,q.2)
  | none=>none
def zV(f:D->Rho->Option (List Addr×Rho)):List D->Rho->Option (List Addr×Rho)
 | [],ρ=>some ([],ρ)
 | d::r,ρ=>match f d ρ with
  | some (l,ρ')=>(zV f r ρ').map fun q=>(l++q.1,q.2)
  | none=>none
def plW:Option Fl->Option (List Addr×Rho)
 | some (.nxt ρ)=>some ([],ρ)
 | _=>none
def stW(cx:Cxt)(L:LamP)(ms:mF)(S:Cst)(F:Nat):Nat->Scope->Rho->Stmt->Option (List Addr×Rho)
 | 0,_,_,_=>none
 | n+1,sc,ρ,s=>match s with
  | .Assign [.Name x px] (.List [e] p') pos=>match Ek cx L ms S F sc ρ e with
   | some (a,d)=>if ownIn sc x&&(ρ.map (·.1)).contains x&&xZ ρ x then some ([a],cT ρ x (.ow [d])) else none
   | none=>plW (DE.st cx F (n+1) sc ρ (.Assign [.Name x px] (.List [e] p') pos))
  | .Expr (.Call (.Attribute (.Name x px) m ap) [e] [] cp) pos=>match Ek cx L ms S F sc ρ e with
   | some (a,d)=>match ρ.lookup x with
    | some (.ow ds)=>if ownIn sc x&&aD x&&ap.endLine==cp.line&&m=="append"&&szl (ds.length+1) then some ([a],cT ρ x (.ow (ds++[d]))) else none
    | _=>none
   | none=>plW (DE.st cx F (n+1) sc ρ (.Expr (.Call (.Attribute (.Name x px) m ap) [e] [] cp) pos))
  | .If c a b pos=>match (ev cx F sc (frz F c ρ) c).bind asB with
   | some k=>kE (fun ρ s=>stW cx L ms S F n sc ρ s) (if k then a else b) ρ
   | none=>match Gb cx L ms S F sc ρ c with
    | some (q,k)=>(kE (fun ρ s=>stW cx L ms S F n sc ρ s) (if k then a else b) ρ).map fun r=>(q::r.1,r.2)
    | none=>none
  | .For tg iter body [] _=>match evI cx (eY tg) (ev cx F sc (frz F iter ρ)) sc iter with
   | some l=>zV (fun d ρ=>match iz sc tg d ρ with
    | some ρ1=>kE (fun ρ s=>stW cx L ms S F n sc ρ s) body ρ1
    | none=>none) l (frz F iter ρ)
   | none=>none
  | s=>plW (DE.st cx F (n+1) sc ρ s)
structure GoodM (T:Pg) (F k:Nat) (L:LamP) (ms:mF) (pl:Addr×Str) (X:Cx) (sc:Scope) (C p d dn un:Addr) (S:Cst) (Hs0 H0:Hp):Prop where
 s:GoodS (T.cx (aZ T F k)) (k+3) X sc
 t:Text X.w X.K X.mg T
 l:LCx X pl
 told:j6 X.prog X.w X.K X.mg (k+1) T.exs L.cv L.tn
 co:CaseOk X.prog X.w X.K X.mg k C ms
 cr:CRep X.K C Hs0 H0 p d dn un S
theorem gb{e:Expr}{dd:D}{σ:St}{H Hs:Hp}{Q:VK}(G:GoodM T F k L ms pl X sc C p d dn un S Hs0 H0)(hN:X.N=ρ.map (·.1))(h:Ek (T.cx (aZ T F k)) L ms S F sc ρ e=some (p,dd))(hd:Hd X.K X.lm Hs0 H0 Hs H ρ σ)(hq:∀ v H' Hs',ExtL pl Hs H Hs' H'->Rep X.K Hs' dd v->Q v H'):fU X e σ H Q/\aF e=true:=by
 unfold Ek at h;split at h
 ·rename_i tn body lsc ht
  obtain⟨pp,lp,cp,rfl⟩:=uw ht;split at h
  ·rename_i hc
   rw[W2z,W2z] at hc;split at h
   ·rename_i a c hm
    split at h
    ·rename_i hin
     split at h
     ·rename_i x hcv
      cases h
      have etn:tn=L.tn:=by simpa using hc.1.1
      subst etn;obtain⟨_,l,hT,n1,n2⟩:=hd.lam pl G.l.lm;exact⟨uq G.t G.l hN G.s.good.sce G.s.good.room G.told (by simpa using hc.1.2) hc.2 G.co (G.cr.ext hd.ext) hm hin hcv hd.ext.sub hd.sh hT n1 n2 fun H' E=>hq _ H' Hs E (by simp[Rep]),rfl⟩
     ·cases h
    ·cases h
   ·cases h
  ·cases h
 ·cases h
theorem wZ{c:Expr}{t:Bool}{σ:St}{H Hs:Hp}{Q:Bool->Hp->Prop}(G:GoodM T F k L ms pl X sc C p d dn un S Hs0 H0)(hN:X.N=ρ.map (·.1))(h:Gb (T.cx (aZ T F k)) L ms S F sc ρ c=some (p,t))(hd:Hd X.K X.lm Hs0 H0 Hs H ρ σ)(hq:∀ Hs' H',Same Hs Hs'->Hd X.K X.lm Hs0 H0 Hs' H' ρ σ->Q t H'):kj X c σ H Q:=by
 unfold Gb at h;split at h
 ·rename_i l op r pos
  split at h
  ·rename_i a x hx
   obtain⟨b',h,h4⟩:=Q0z.mp h;cases h4;obtain⟨y,hy,h1⟩:=Option.bind_eq_some_iff.mp h;obtain⟨b,h2,h3⟩:=Option.bind_eq_some_iff.mp h1
   have eb:b=.bl t:=by
    cases b<;>simp[asB] at h3
    rw[h3]
   subst eb;refine(kZ (fK G.s.good.room op) ao ao (bW (aQ hy))).sem ((gb G hN hx hd fun v H1 Hs1 E1 r1=>?_).1);have h1:=hd.stepL G.l.lm E1;refine(cH _ F G.s.good hN hy).1 σ H1 Hs1 _ h1.ext.sub h1.sh fun u H2 Hs2 E2 r2=>?_;exact⟨Hs2,x,y,_,E2.sub,Rep.same E2.vis x v r1,r2,h2,t,rfl,t,rfl,hq Hs2 H2 (E1.vis.trans E2.vis) (h1.step E2)⟩
  ·cases h
 ·cases h
theorem Cp{x:Str}{e:Expr}{dd:D}{px p' pos:Pos}(G:GoodM T F k L ms pl X sc C p d dn un S Hs0 H0)(hN:X.N=ρ.map (·.1))(hx:ownIn sc x=true)(hc:(ρ.map (·.1)).contains x=true)(hno:xZ ρ x=true)(h:Ek (T.cx (aZ T F k)) L ms S F sc ρ e=some (p,dd)) :
  Runs X Hs0 H0 ρ (.nxt (cT ρ x (.ow [dd]))) (fW X (.Assign [.Name x px] (.List [e] p') pos)):=by
 intro σ H Hs D hd _ hn hr;obtain⟨ox,of⟩:=G.s.own.own x hx;obtain⟨i,hi⟩:=bU hc
 have hnd:(ρ.map (·.1)).Nodup:=by rw[<- hN];exact G.s.good.nd
 have pl:aF e=true:=(gb (Q:=fun _ _=>True) G hN h hd fun _ _ _ _ _=>trivial).2;refine PS.sem (cU G.s.good.nd (by rw[hN];exact hi) ox (jT (au ao aK (aj pl))) rfl of) ?_;refine(gb G hN h hd fun v H1 Hs1 E1 r1=>?_).1;refine⟨by show 1<=sizeLine;decide,fun a ha=>?_⟩;have h1:=hd.stepL G.l.lm E1;have ha':Hs1 a=none:=E1.sub.free ha;have E2:Ext Hs1 H1 Hs1 (upd H1 a (.lst [v])):=⟨.refl _,fun b u q=>by rw[ak (aq q ha)];exact q,fun b u q=>by rw[ak (aq (E1.sub b u q) ha)];exact E1.sub b u q,fun _ _ _ z=>z⟩;have h2:=h1.step E2;refine hn _ _ Hs1 _ rfl E1.vis (by rw[aJ];exact hN) (h2.own hnd hi aB (.cons r1 .nil) ha' (h1.ext.all.free ha) (vI hnd hi hno) fun j y es hj q1 q2=>?_);obtain⟨b,us,k1,k2,_⟩:=h1.ow j y es q1;rw[k1] at q2;cases q2;rw[ha] at k2;cases k2
theorem Cq{x:Str}{e:Expr}{dd:D}{ds:List D}{px ap cp pos:Pos}(G:GoodM T F k L ms pl X sc C p d dn un S Hs0 H0)(hN:X.N=ρ.map (·.1))(hx:ρ.lookup x=some (.ow ds))(ho:ownIn sc x=true)(hp:aD x=true)(hline:(ap.endLine==cp.line)=true)(hz:szl (ds.length+1)=true)(h:Ek (T.cx (aZ T F k)) L ms S F sc ρ e=some (p,dd)) :
  Runs X Hs0 H0 ρ (.nxt (cT ρ x (.ow (ds++[dd])))) (fW X (.Expr (.Call (.Attribute (.Name x px) "append" ap) [e] [] cp) pos)):=by
 obtain⟨i,hi,_⟩:=bR hx
 have nd:(ρ.map (·.1)).Nodup:=by rw[<- hN];exact G.s.good.nd
 intro σ H Hs D hd _ hn hr;have hpl:aF e=true:=(gb (Q:=fun _ _=>True) G hN h hd fun _ _ _ _ _=>trivial).2;obtain⟨a,vs,k1,k2,k3,k4,k5⟩:=hd.ow i x ds hi;unfold aD at hp;rw[W2z,V4z,V4z] at hp;have vis:Vis X.env.scope x:=(G.s.own.own x ho).1.elim .inl fun q=>.inr (.inl q);refine PS.sem (bh (jJ M0z I0z J0z dR (eO (i:=i) (by rw[hN,List.getElem?_map,hi];rfl) vis (by simpa using hp.1) (by simpa using hp.2)) (au ao aK (aj hpl)) rfl (by rw[aj hpl];rfl) hline (aj hpl) rfl) rfl) ?_;refine⟨_,k1,.inl ⟨rfl,vs,.of k2⟩,?_⟩;refine(gb G hN h hd fun v H1 Hs1 E1 r1=>?_).1;have h1:=hd.stepL G.l.lm E1;obtain⟨a',vs',g1,g2,g3,g4,g5⟩:=h1.ow i x ds hi;rw[k1] at g1;cases g1;refine⟨a,vs',v,rfl,rfl,g2,by have:=g3.length;have:=pY hz;omega,?_⟩;exact hn _ _ Hs1 _ rfl E1.vis (by rw[aJ];exact hN) (h1.app nd hi k1 (aH.append g3 (.cons r1 .nil)))
def upF(p:Addr):Option (List Addr×Rho)->Option Fl
 | some (l,ρ)=>if l.all (· ==p) then some (.nxt ρ) else none
 | none=>none
theorem Am{o:Option (List Addr×Rho)}{l:List Addr}{ρ':Rho}(h:o=some (l,ρ'))(ha:∀ a∈l,a=p):upF p o=some (.nxt ρ'):=by
 subst h;exact D5z (List.all_eq_true.mpr fun a h=>beq_iff_eq.mpr (ha a h))
theorem Bj{o:Option (List Addr×Rho)}{fl:Fl}(h:upF p o=some fl):∃ l ρ',o=some (l,ρ')/\(∀ a∈l,a=p)/\fl=.nxt ρ':=by
 unfold upF at h;split at h
 ·rename_i l ρ'
  split at h
  ·rename_i hl
   cases h;exact⟨l,ρ',rfl,fun a h=>beq_iff_eq.mp (List.all_eq_true.mp hl a h),rfl⟩
  ·cases h
 ·cases h
theorem uO{f:Rho->Stmt->Option (List Addr×Rho)}:∀ (l:List Stmt) {ρ:Rho} {as:List Addr} {ρ':Rho},kE f l ρ=some (as,ρ')->(∀ a∈as,a=p)->iD (fun ρ s=>upF p (f ρ s)) l ρ=some (.nxt ρ')
 | [],ρ,as,ρ',h,_=>by cases h;rfl
 | s::r,ρ,as,ρ',h,ha=>by
  unfold kE at h;split at h
  ·rename_i l ρ1 h1
   obtain⟨q,h2,h3⟩:=Q0z.mp h;cases h3;unfold iD;rw[Am h1 fun a h=>ha a (X0z _ h)];exact uO r h2 fun a h=>ha a (S0z _ h)
  ·cases h
theorem wC{f:D->Rho->Option (List Addr×Rho)}:∀ (l:List D) {ρ:Rho} {as:List Addr} {ρ':Rho},zV f l ρ=some (as,ρ')->(∀ a∈as,a=p)->nF (fun d ρ=>upF p (f d ρ)) l ρ=some (.nxt ρ')
 | [],ρ,as,ρ',h,_=>by cases h;rfl
 | s::r,ρ,as,ρ',h,ha=>by
  unfold zV at h;split at h
  ·rename_i l ρ1 h1
   obtain⟨q,h2,h3⟩:=Q0z.mp h;cases h3;unfold nF;rw[Am h1 fun a h=>ha a (X0z _ h)];exact wC r h2 fun a h=>ha a (S0z _ h)
  ·cases h
theorem u6{o:Option Fl}{as:List Addr}{ρ':Rho}(h:plW o=some (as,ρ')):o=some (.nxt ρ'):=by
 unfold plW at h;split at h
 ·cases h;rfl
 ·cases h
theorem Ax:∀ (n:Nat) {ρ:Rho} {s:Stmt} {as:List Addr} {ρ':Rho},GoodM T F k L ms pl X sc C p d dn un S Hs0 H0->X.N=ρ.map (·.1)->stW (T.cx (aZ T F k)) L ms S F n sc ρ s=some (as,ρ')->(∀ a∈as,a=p)->Runs X Hs0 H0 ρ (.nxt ρ') (fW X s)
 | 0,ρ,s,as,ρ',_,_,h,_=>by cases h
 | n+1,ρ,s,as,ρ',G,hN,h,ha=>by
  have block:∀ (l:List Stmt) {ρ:Rho} {as:List Addr} {ρ':Rho},X.N=ρ.map (·.1)->kE (fun ρ s=>stW (T.cx (aZ T F k)) L ms S F n sc ρ s) l ρ=some (as,ρ')->(∀ a∈as,a=p)->Runs X Hs0 H0 ρ (.nxt ρ') (dX X l):=fun l ρ as ρ' hN h ha=>zP (fun ρ s fl hN h=>by
   obtain⟨l,ρ',h1,h2,rfl⟩:=Bj h
   exact Ax n G hN h1 h2) l ρ _ hN (uO l h ha)
  have ifs:∀ {c:Expr} {a b:List Stmt} {pos:Pos} {t:Bool} {ρ':Rho} {as:List Addr},(∀ σ H Hs (Q:Bool->Hp->Prop),Hd X.K X.lm Hs0 H0 Hs H ρ σ->(∀ Hs' H',Same Hs Hs'->Hd X.K X.lm Hs0 H0 Hs' H' ρ σ->Q t H')->kj X c σ H Q)->kE (fun ρ s=>stW (T.cx (aZ T F k)) L ms S F n sc ρ s) (if t then a else b) ρ=some (as,ρ')->(∀ q∈as,q=p)->Runs X Hs0 H0 ρ (.nxt ρ') (fW X (.If c a b pos)):=fun {c a b pos t ρ' as} hc h ha=>by
   intro σ H Hs D hd _ hn hr;refine PS.sem (jf cL bf bf) (hc σ H Hs _ hd fun Hs' H' sm h'=>?_)
   cases t with
   | true=>exact jZ (block a hN h ha σ H' Hs' D h' hN (fun ρ2 σ2 Hs2 H2 q2 sm2=>hn ρ2 σ2 Hs2 H2 q2 (sm.trans sm2)) hr)
   | false=>exact jL (block b hN h ha σ H' Hs' D h' hN (fun ρ2 σ2 Hs2 H2 q2 sm2=>hn ρ2 σ2 Hs2 H2 q2 (sm.trans sm2)) hr)
  unfold stW at h;split at h
  ·split at h
   ·rename_i a d hl
    split at h
    ·rename_i hc
     rw[W2z,W2z] at hc;cases h;have ea:p=a:=(ha a (by simp)).symm;subst ea;exact Cp G hN hc.1.1 hc.1.2 hc.2 hl
    ·cases h
   ·exact mV _ F (n+1) G.s hN (u6 h)
  ·split at h
   ·rename_i a d hl
    split at h
    ·rename_i ds hx
     split at h
     ·rename_i hc
      simp only[W2z] at hc;obtain⟨⟨⟨⟨c1,c2⟩,c3⟩,c4⟩,c5⟩:=hc;cases h;have em:=eq_of_beq c4;subst em;have ea:p=a:=(ha a (by simp)).symm;subst ea;exact Cq G hN hx c1 c2 c3 c5 hl
     ·cases h
    ·cases h
   ·exact mV _ F (n+1) G.s hN (u6 h)
  ·split at h
   ·rename_i t hk
    exact ifs (fun σ H Hs Q hd hq=>wG G.s hN (dF hk) hd hq) h ha
   ·split at h
    ·rename_i q t hc
     obtain⟨r,h1,h2⟩:=Q0z.mp h;cases h2;have ea:p=q:=(ha q (by simp)).symm;subst ea;exact ifs (fun σ H Hs Q hd hq=>wZ G hN hc hd hq) h1 fun a h=>ha a (W0z _ h)
    ·cases h
  ·split at h
   ·rename_i l hI
    refine Aw G.s hN hI (fun d ρ1 fl hf hN1=>?_) (wC l h ha);obtain⟨l',ρ',h1,h2,rfl⟩:=Bj hf;split at h1
    ·rename_i ρ2 g1
     exact⟨ρ2,g1,fun hN2=>block _ hN2 h1 h2⟩
    ·cases h1
   ·cases h
  ·exact mV _ F (n+1) G.s hN (u6 h)
end
section
variable {K:Zf} {lm:Option (Addr×Str)} {Hs0 H0 Hs H Hs' H':Hp} {ρ:Rho} {σ:St} {C p d dn un un':Addr} {S S':Cst}
theorem CRep.core(S0:CRep K C Hs H p d dn un S):CRep K C Hs (L2.big Hs H p d dn un) p d dn un S:=by
 obtain⟨⟨dx,a1⟩,⟨kvs,b1,b2⟩,⟨vs,c1,c2⟩,⟨us,d1,d2⟩,e,f1,f2,f3,f4⟩:=S0;exact⟨⟨dx,gZ (.inl rfl) f1 a1⟩,⟨kvs,gZ (.inr (.inl rfl)) f2 b1,b2⟩,⟨vs,gZ (.inr (.inr (.inl rfl))) f3 c1,c2⟩,⟨us,gZ (.inr (.inr (.inr rfl))) f4 d1,d2⟩,e,f1,f2,f3,f4⟩
theorem CRep.m8(S0:CRep K C Hs H p d dn un S){b:Addr}(h:H b=none):b≠p/\b≠d/\b≠dn/\b≠un:=by
 obtain⟨⟨dx,a1⟩,⟨kvs,b1,b2⟩,⟨vs,c1,c2⟩,⟨us,d1,d2⟩,_⟩:=S0
 refine⟨?_,?_,?_,?_⟩<;>rintro rfl
 ·rw[a1] at h;cases h
 ·rw[b1] at h;cases h
 ·rw[c1] at h;cases h
 ·rw[d1] at h;cases h
theorem Hd.rebase{H0':Hp}(h:Hd K lm Hs0 H0 Hs H ρ σ)(vis:Same Hs Hs')(ext:Ext Hs' H0' Hs' H')(key:∀ b o,H b=some o->Hs b=none->(H0 b=none\/∃ f,o=.ext f)->H' b=some o/\Hs' b=none/\H0' b=none):Hd K lm Hs' H0' Hs' H' ρ σ:=by
 refine⟨ext,h.len,h.sh.same vis,fun i x ds e=>?_,h.dis,fun i x dss e=>?_,fun q hq=>?_⟩
 ·obtain⟨a,vs,h1,h2,h3,h4,h5⟩:=h.ow i x ds e
  obtain⟨k1,k2,k3⟩:=key a _ h2 h4 (.inl h5);exact⟨a,vs,h1,k1,aH.same vis ds vs h3,k2,k3⟩
 ·obtain⟨⟨a,bs,h1,k1,k2,k3,k4,k5,k6,k7⟩,h3⟩:=h.oo i x dss e
  obtain⟨m1,m2,m3⟩:=key a _ k1 k2 (.inl k3);refine⟨⟨a,bs,h1,m1,m2,m3,k4,k5,k6,fun j b e=>?_⟩,h3⟩;obtain⟨q1,q2,ds,us,q3,q4,q5⟩:=k7 j b e;obtain⟨n1,n2,n3⟩:=key b _ q4 q1 (.inl q2);exact⟨n2,n3,ds,us,q3,n1,aH.same vis ds us q5⟩
 ·obtain⟨_,l,T,n1,n2⟩:=h.lam q hq
  obtain⟨m1,m2,m3⟩:=key q.1 _ T.tab n1 (.inr ⟨_,rfl⟩);have mc:∀ r∈l,_:=fun r hr=>key r.2 _ (T.cod r hr) (n2 r hr) (.inr ⟨_,rfl⟩);exact⟨m3,l,⟨m1,fun r hr=>(mc r hr).1⟩,m2,fun r hr=>(mc r hr).2.1⟩
theorem Hd.stepM(h:Hd K lm Hs0 H0 Hs H ρ σ)(S0:CRep K C Hs0 H0 p d dn un S)(E:ExtM p d dn un un' Hs H Hs' H'):Hd K lm Hs' (big Hs' H' p d dn un') Hs' H' ρ σ:=by
 have S1:=S0.ext h.ext;refine h.rebase E.vis ⟨.refl _,pR E.sub,E.sub,fun _ _ _ z=>z⟩ fun b o e n hb=>?_
 have hne:b≠p/\b≠d/\b≠dn/\b≠un:=by
  rcases hb with hb | ⟨f,rfl⟩
  ·exact S0.m8 hb
  ·have:=S1.noext e
   exact⟨fun z=>this (.inl z),fun z=>this (.inr (.inl z)),fun z=>this (.inr (.inr (.inl z))),fun z=>this (.inr (.inr (.inr z)))⟩
 obtain⟨a1,a2,a3,a4⟩:=hne;have n':=E.hid b o e a1 a2 a3 a4 n;refine⟨E.all b o e a1 a2 a3 a4,n',mz (fun z=>?_) n'⟩;rcases z with z | z | z | z
 ·exact a1 z
 ·exact a2 z
 ·exact a3 z
 ·rcases E.nu with q | q
  ·exact a4 (z.trans q)
  ·rw[z,q] at e;cases e
theorem Hd.stepN(h:Hd K lm Hs0 H0 Hs H ρ σ)(all:Same H H')(n1:H p=none)(n2:H d=none)(n3:H dn=none)(n4:H un=none):Hd K lm Hs (big Hs H' p d dn un) Hs H' ρ σ:=by
 have sub:Same Hs H':=h.ext.sub.trans all;refine h.rebase (.refl _) ⟨.refl _,pR sub,sub,fun _ _ _ z=>z⟩ fun b o e n _=>⟨all b o e,n,mz (fun z=>?_) n⟩;rcases z with rfl | rfl | rfl | rfl
 ·rw[n1] at e;cases e
 ·rw[n2] at e;cases e
 ·rw[n3] at e;cases e
 ·rw[n4] at e;cases e
end
section
variable {X:Cx} {e:Expr} {σ:St} {H:Hp}
theorem mL{Q R:VK}(h:fU X e σ H Q)(q:∀ v H',Q v H'->R v H'):fU X e σ H R:=fun z0 s I=>thn (h z0 s I) fun v s1 ⟨x,H1,I1,r1,q1⟩=>⟨x,H1,I1,r1,q _ _ q1⟩
theorem rK{Q R:Bool->Hp->Prop}(h:kj X e σ H Q)(q:∀ v H',Q v H'->R v H'):kj X e σ H R:=fun z0 s I=>thn (h z0 s I) fun v s1 ⟨H1,I1,q1⟩=>⟨H1,I1,q _ _ q1⟩
theorem rJ{Q R:Bool->Hp->Prop}(h:oO X e σ H Q)(q:∀ v H',Q v H'->R v H'):oO X e σ H R:=fun wh z0 s I=>thn (h wh z0 s I) fun v s1 ⟨H1,I1,q1⟩=>⟨H1,I1,q _ _ q1⟩
end
section
variable {X:Cx} {ρ:Rho} {T:Pg} {F k:Nat} {sc:Scope} {Hs0 H0:Hp} {L:LamP} {pl:Addr×Str} {ms:mF} {C p d dn un:Addr} {S S':Cst}
theorem tY{e:Expr}{r:D}{σ:St}{H Hs:Hp}{Q:VK}(G:GoodM T F k L ms pl X sc C p d dn un S Hs0 H0)(hN:X.N=ρ.map (·.1))(h:Bm (T.cx (aZ T F k)) ms F sc ρ S e=some (p,.val r S'))(hd:Hd X.K X.lm Hs0 H0 Hs H ρ σ)
  (hq:∀ v H' Hs' un',GoodM T F k L ms pl X sc C p d dn un' S' Hs' (big Hs' H' p d dn un')->Hd X.K X.lm Hs' (big Hs' H' p d dn un') Hs' H' ρ σ->Rep X.K Hs' r v->Q v H'):fU X e σ H Q/\aF e=true :=
 vK (E:=E0) G.s.good hN G.co (G.s.good.room.mono (by omega)) vo h hd.ext.sub hd.sh (G.cr.ext hd.ext) fun v H' Hs' un' M S1 r1=>hq v H' Hs' un' ⟨G.s,G.t,G.l,G.told,G.co,S1.core⟩ (hd.stepM G.cr M) r1
def Q6(cx:Cxt)(ms:mF)(F:Nat)(sc:Scope)(ρ:Rho)(t:Bool)(S:Cst):Expr->Option (Addr×Cst)
 | .Compare l [op] [r] _=>match Bm cx ms F sc ρ S l with
  | some (a,.val x S')=>if((ev cx F sc ρ r).bind fun y=>(cmpop op x y).bind asB)==some t then some (a,S') else none
  | _=>none
 | _=>none
def Aft(T:Pg)(F k:Nat)(L:LamP)(ms:mF)(pl:Addr×Str)(X:Cx)(sc:Scope)(C p d dn:Addr)(S':Cst)(ρ:Rho)(σ:St)(Q:Hp->Prop):Prop:=∀ H' Hs' Hs1 H1 un',GoodM T F k L ms pl X sc C p d dn un' S' Hs1 H1->Hd X.K X.lm Hs1 H1 Hs' H' ρ σ->Q H'
theorem iH{e:Expr}{b:Bool}{σ:St}{H Hs:Hp}(G:GoodM T F k L ms pl X sc C p d dn un S Hs0 H0)(hN:X.N=ρ.map (·.1))(h:Q6 (T.cx (aZ T F k)) ms F sc ρ b S e=some (p,S'))(hd:Hd X.K X.lm Hs0 H0 Hs H ρ σ){Q:Hp->Prop}
  (hq:Aft T F k L ms pl X sc C p d dn S' ρ σ Q):fU X e σ H (fun v H'=>v=.bl b/\Q H')/\kj X e σ H (fun c H'=>c=b/\Q H'):=by
 unfold Q6 at h;split at h
 ·rename_i l op r pos
  split at h
  ·rename_i a x S1 hx
   split at h
   ·rename_i hc
    cases h;obtain⟨y,hy,h1⟩:=Option.bind_eq_some_iff.mp (eq_of_beq hc);obtain⟨b2,h2,h3⟩:=Option.bind_eq_some_iff.mp h1
    have eb:b2=.bl b:=by
     cases b2<;>simp[asB] at h3
     rw[h3]
    subst eb
    have key:∀ {Q':VK},(∀ H',Q H'->Q' (.bl b) H')->tOp (JR X op) (fU X l) (fU X r) σ H Q':=fun {Q'} hQ=>by
     refine(tY G hN hx hd fun v H1 Hs1 un1 G1 h1 r1=>?_).1;refine(cH _ F G.s.good hN hy).1 σ H1 Hs1 _ h1.ext.sub h1.sh fun u H2 Hs2 E2 r2=>?_;exact⟨Hs2,x,y,_,E2.sub,Rep.same E2.vis x v r1,r2,h2,b,rfl,hQ _ (hq _ _ _ _ _ G1 (h1.step E2))⟩
    exact⟨(lC (fK G.s.good.room op) ao ao (bW (aQ hy))).sem (key fun H' q=>⟨rfl,q⟩),(kZ (fK G.s.good.room op) ao ao (bW (aQ hy))).sem (key fun H' q=>⟨b,rfl,rfl,q⟩)⟩
   ·cases h
  ·cases h
 ·cases h
def JB(cx:Cxt)(ms:mF)(F:Nat)(sc:Scope)(ρ:Rho)(t:Bool):List Expr->Cst->Option (List Addr×Cst)
 | [],_=>none
 | e::r,S=>match Q6 cx ms F sc ρ t S e with
  | some (a,S')=>if r.isEmpty then some ([a],S') else(JB cx ms F sc ρ t r S').map fun q=>(a::q.1,q.2)
  | none=>none
theorem iQ{pos:Pos}{σ:St}{Q:Hp->Prop}(hN:X.N=ρ.map (·.1)):∀ (es:List Expr) {t:Bool} {as:List Addr} {H Hs Hs0 H0:Hp} {un:Addr} {S S':Cst},GoodM T F k L ms pl X sc C p d dn un S Hs0 H0->JB (T.cx (aZ T F k)) ms F sc ρ t es S=some (as,S')->(∀ a∈as,a=p)->Hd X.K X.lm Hs0 H0 Hs H ρ σ->Aft T F k L ms pl X sc C p d dn S' ρ σ Q ->
  (t=false->oO X (.BoolOp .Or es pos) σ H (fun c H'=>c=t/\Q H'))/\(t=true->fU X (.BoolOp .And es pos) σ H (fun v H'=>v=.bl t/\Q H'))
 | [],_,_,_,_,_,_,_,_,_,_,h,_,_,_=>by cases h
 | e::r,t,as,H,Hs,Hs0,H0,un,S,S',G,h,ha,hd,hq=>by
  unfold JB at h;split at h
  ·rename_i a S1 hc
   cases r with
   | nil =>
    cases h;have ea:p=a:=(ha a (by simp)).symm;subst ea;exact⟨fun _=>(Ba cL).sem (iH G hN hc hd hq).2,fun _=>(Bf ao).sem (iH G hN hc hd hq).1⟩
   | cons e' r' =>
    obtain⟨q,h1,h2⟩:=Q0z.mp h;cases h2;have ea:p=a:=(ha a (by simp)).symm;subst ea;refine⟨fun ht=>?_,fun ht=>?_⟩
    ·refine(CZ cL jP).sem (rK ((iH G hN hc hd (Q:=fun H'=>oO X (.BoolOp .Or (e'::r') pos) σ H' (fun c H'=>c=t/\Q H')) fun H' Hs' Hs1 H1 un' G1 h1'=>(iQ hN (e'::r') G1 h1 (fun a h=>ha a (W0z _ h)) h1' hq).1 ht).2) fun c H' q=>?_)
     rw[q.1,ht];exact jL (ht▸q.2)
    ·refine(vh ao ao).sem (mL ((iH G hN hc hd (Q:=fun H'=>fU X (.BoolOp .And (e'::r') pos) σ H' (fun v H'=>v=.bl t/\Q H')) fun H' Hs' Hs1 H1 un' G1 h1'=>(iQ hN (e'::r') G1 h1 (fun a h=>ha a (W0z _ h)) h1' hq).2 ht).1) fun v H' q=>?_)
     exact⟨true,by rw[q.1,ht],jZ q.2⟩
  ·cases h
def yp(cx:Cxt)(L:LamP)(ms:mF)(F:Nat)(sc:Scope)(ρ:Rho)(S:Cst):Stmt->Option (List Addr×Option (Rho×Cst))
 | .Expr (.Call f args kws cp) pos=>match Bm cx ms F sc ρ S (.Call f args kws cp) with
  | some (a,.val _ S')=>some ([a],some (ρ,S'))
  | _=>none
 | .If (.BoolOp .Or es p1) a [] pos=>(JB cx ms F sc ρ false es S).map fun q=>(q.1,some (ρ,q.2))
 | .Return (some (.BoolOp .And es p1)) pos=>(JB cx ms F sc ρ true es S).map fun q=>(q.1,none)
 | s=>(stW cx L ms S F F sc ρ s).map fun q=>(q.1,some (q.2,S))
def qm(cx:Cxt)(L:LamP)(ms:mF)(F:Nat)(sc:Scope):List Stmt->Rho->Cst->Option (List Addr×Option (Rho×Cst))
 | [],ρ,S=>some ([],some (ρ,S))
 | s::r,ρ,S=>match yp cx L ms F sc ρ S s with
  | some (l,some (ρ',S'))=>(qm cx L ms F sc r ρ' S').map fun q=>(l++q.1,q.2)
  | o=>o
theorem pZ{D0:Ends}{s:Stmt}{as:List Addr}{o:Option (Rho×Cst)}{Hs H:Hp}{σ:St}(G:GoodM T F k L ms pl X sc C p d dn un S Hs0 H0)(hN:X.N=ρ.map (·.1))(h:yp (T.cx (aZ T F k)) L ms F sc ρ S s=some (as,o))(ha:∀ a∈as,a=p)(hd:Hd X.K X.lm Hs0 H0 Hs H ρ σ)
  (kn:∀ ρ' S' σ',o=some (ρ',S')->X.N=ρ'.map (·.1)->Aft T F k L ms pl X sc C p d dn S' ρ' σ' (D0.nx σ')) (kr:o=none->∀ H',LmT X.lm H'->D0.rt (.bl true) H'):fW X s D0 σ H:=by
 unfold yp at h;split at h
 ·split at h
  ·rename_i a dd S' hm
   cases h;have ea:p=a:=(ha a (by simp)).symm;subst ea;exact PS.sem (bh ao) ((tY G hN hm hd fun v H' Hs' un' G1 h1 _=>kn ρ S' σ rfl hN _ _ _ _ _ G1 h1).1)
  ·cases h
 ·obtain⟨q,h1,h2⟩:=Q0z.mp h
  cases h2;refine PS.sem (jf (PW.pt jP) bf fM) (rJ ((iQ hN _ G h1 ha hd (kn ρ q.2 σ rfl hN)).1 rfl) fun c H' q=>?_);rw[q.1];exact jL q.2
 ·obtain⟨q,h1,h2⟩:=Q0z.mp h
  cases h2;refine PS.sem (cF ao) (mL ((iQ hN _ G h1 ha hd (Q:=fun H'=>LmT X.lm H') fun H' Hs' Hs1 H1 un' G1 h1=>h1.lmt).2 rfl) fun v H' q=>?_);rw[q.1];exact kr rfl H' q.2
 ·obtain⟨q,h1,h2⟩:=Q0z.mp h
  cases h2;exact Ax F G hN h1 ha σ H Hs D0 hd hN (fun ρ2 σ2 Hs2 H2 q2 sm2 hN2 h2=>by cases q2;exact kn _ S σ2 rfl hN2 _ _ _ _ _ G h2) (fun _ _ _ _ q=>by cases q)
theorem uV{D0:Ends}(hret:∀ H',LmT X.lm H'->D0.rt (.bl true) H'):∀ (l:List Stmt) {ρ:Rho} {S:Cst} {un:Addr} {Hs0 H0 Hs H:Hp} {σ:St} {as:List Addr},GoodM T F k L ms pl X sc C p d dn un S Hs0 H0->X.N=ρ.map (·.1)->qm (T.cx (aZ T F k)) L ms F sc l ρ S=some (as,none)->(∀ a∈as,a=p)->Hd X.K X.lm Hs0 H0 Hs H ρ σ->dX X l D0 σ H
 | [],_,_,_,_,_,_,_,_,_,_,_,h,_,_=>by cases h
 | s::r,ρ,S,un,Hs0,H0,Hs,H,σ,as,G,hN,h,ha,hd=>by
  refine PSs.sem (aL jQ bf) ?_;unfold qm at h;split at h
  ·rename_i l ρ' S' hs
   obtain⟨q,h1,h2⟩:=Q0z.mp h;obtain⟨q1,q2⟩:=q;cases h2;refine pZ G hN hs (fun a h=>ha a (X0z _ h)) hd (fun ρ2 S2 σ2 e hN2 H' Hs' Hs1 H1 un' G1 h3=>?_) (fun e=>by cases e);cases e;exact uV hret r G1 hN2 h1 (fun a h=>ha a (S0z _ h)) h3
  ·exact pZ G hN h ha hd (fun ρ2 S2 σ2 e=>by cases e) (fun _=>hret)
theorem kO{cx:Cxt}{r:List Stmt}{bs:List Addr}{o:Option (Rho×Cst)}{ρ':Rho}{S':Cst}(hr:qm cx L ms F sc r ρ' S'=some (bs,o)):∀ (l:List Stmt) {ρ:Rho} {S:Cst} {as:List Addr},qm cx L ms F sc l ρ S=some (as,some (ρ',S'))->qm cx L ms F sc (l++r) ρ S=some (as++bs,o)
 | [],ρ,S,as,h=>by cases h;exact hr
 | s::l,ρ,S,as,h=>by
  rw[List.cons_append];unfold qm at h ⊢;split at h
  ·rename_i l1 ρ1 S1 hs
   obtain⟨q,h1,h2⟩:=Q0z.mp h;obtain⟨q1,q2⟩:=q;cases h2;rw[kO hr l h1];simp
  ·rename_i hno
   exact absurd h (hno as ρ' S')
end
section
variable {X:Cx} {Hs0 H0:Hp}
theorem Bt{f:Rho->Stmt->Option Fl}{rest:List Stmt}{D0:Ends}{ρ1:Rho}(hf:∀ ρ s fl,X.N=ρ.map (·.1)->f ρ s=some fl->Runs X Hs0 H0 ρ fl (fW X s)):∀ (pre:List Stmt) {ρ:Rho} {σ:St} {Hs H:Hp},X.N=ρ.map (·.1)->iD f pre ρ=some (.nxt ρ1)->Hd X.K X.lm Hs0 H0 Hs H ρ σ ->
  (∀ σ' Hs' H',X.N=ρ1.map (·.1)->Hd X.K X.lm Hs0 H0 Hs' H' ρ1 σ'->dX X rest D0 σ' H')->dX X (pre++rest) D0 σ H
 | [],ρ,σ,Hs,H,hN,h,hd,k=>by
  simp only[iD] at h;cases h;exact k σ Hs H hN hd
 | s::r,ρ,σ,Hs,H,hN,h,hd,k=>by
  simp only[iD] at h;obtain⟨fl,h1,h2⟩:=Option.bind_eq_some_iff.mp h;refine PSs.sem (aL jQ bf) ?_
  cases fl with
  | ret d=>cases h2
  | nxt ρ'=>exact hf ρ s _ hN h1 σ H Hs _ hd hN (fun ρ2 σ2 Hs2 H2 q2 _ hN2 h2'=>by cases q2;exact Bt hf r hN2 h2 h2' k) (fun _ _ _ _ q=>by cases q)
end
section
variable {P:Program} {w:World} {K:Zf} {mg:Str->Option Value} {base:Heap} {T:DE.Pg} {F k:Nat}
theorem Eh{fd:Fd}{t:Stmt}{f c Pt:Addr}{nm x:Str}{dV kV doc pm ct oc:Value}{an od:Option Addr}{osl:Array (Option Value)}{L:LamP}{ms:mF}{C fI:Addr}{fdI:FuncData}{pre rest:List Stmt}{px pp cp pos:Pos}(Tx:Text w K mg T)(lk:K.lookup f=some ⟨oc,od,.func (PySem.W.fnOf nm nm (cu t) (aR t) (aA t) dV kV doc pm an (.ref c) ct),osl⟩)(hcd:PySem.W.codeIn K (.ref c) nm=true)
    (hb:aR t=pre++.Assign [.Name x px] (.Call (.Name "Case" pp) [] [] cp) pos::rest) (hs:fd.sc=aA t) (S:FnScope fd.N fd.ps fd.sc) (h1:fd.ps.length=1) (hC:PySem.W.CodeHd base c Pt) (hbm:base.BuiltinsAt mg Pt)
    (told:j6 P w K mg (k+1) T.exs L.cv L.tn) (CO:CaseOk P w K mg k C ms) (hmg:mg "Case"=some (.ref C)) (hgl:fd.sc.names.lookup ("Case":Str)=some .globalImplicit) (MK:Mk K C fI) (bI:Binds K fdI ["self"] []) (FI:FnOk P w K mg base (CX1 P w) 1 fI fdI ["self"] (M84.Ay K C))
    (hx:ownIn fd.sc x=true) (hxN:fd.N.contains x=true)
    (hlaw:∀ ns:List Int,ns.length<=63->∃ ρ1,iD (fun ρ s=>DE.st (T.cx (aZ T F k)) F F fd.sc ρ s) pre (bY fd [.lst (ns.map D.int)])=some (.nxt ρ1)/\∀ p,∃ n,qm (T.cx (aZ T F k)) L ms F fd.sc rest (cT ρ1 x (.sh (.obj p))) ⟨[],[],[]⟩=some (List.replicate n p,none)) :
    FnOk P w K mg base CX0 (k+4) f (PySem.W.fnOf nm nm (cu t) (aR t) (aA t) dV kV doc pm an (.ref c) ct) fd.ps (qe K Pt):=by
  refine Jl (N:=fd.N) lk hcd (by rw[<- hs];exact S) (fun vs H Q E h=>by obtain⟨a,ns,rfl,_⟩:=h;rw[h1];rfl) fun A outer s H vs Q E hr h=>?_
  obtain⟨a,ns,rfl,hS,hl,hP,hq⟩:=h
  let p:Addr×Str:=(Pt,(envOfC nm (aA t) s.heap.objs.size f (.ref c)).qual++"<lambda>")
  let X0:=dW CX0 P w K mg base fd.N nm (aA t) f (.ref c) A outer s H E
  let X:=X0.nox.relm (some p)
  have GS:GoodS (T.cx (aZ T F k)) (k+3) X fd.sc :=
           { good := { calm := rfl, room := hr, sce := hs.symm, kind := S.kind, nd := S.nd, cst := Tx.cst, blt := Tx.blt, exs := Tx.exs, kw := Tx.kw
                       fns:=fun f' hf'=>by
                         obtain⟨fd',hl'⟩:=dU (l:=T.defs) hf'
                         have FA:=Tx.fns f' fd' hl'
                         obtain⟨nm',t',a',g',m1,m2,m3,m4,m5⟩:=FA.ex
                         exact⟨FA.nd,a',g',fd'.ps,fun ds d h=>dz hl' ds _ (eZ h),fun ds c h=>dz hl' ds _ (fD h),m1,m2.kp,m3,(oJ Tx k nm' f' fd' t' a' g' hl' m2 m4 m5 FA.fs).mono (by omega)⟩ }
             own:=⟨fun x hx=>⟨by
               unfold ownIn at hx
               rw[P3z] at hx
               show(aA t).names.lookup x=_\/(aA t).names.lookup x=_
               rw[<- hs]
               exact hx.imp (fun q=>by simpa using q) (fun q=>by simpa using q),.inl rfl⟩⟩
             pass:=PassesOwn.never
             stk:=⟨rfl,rfl⟩ }
  have LC:LCx X p:=⟨rfl,rfl,⟨c,rfl,hC⟩,hbm,rfl,fun _=>rfl⟩
  have Tab:LamT H Pt p.2 []:=⟨by rw[hP];rfl,fun q hq=>by simp at hq⟩
  have naP:∀ {o:HO},H a=some o->(∀ u,o≠.ext u)->a≠Pt:=fun e n z=>by rw[z,hP] at e;cases e;exact n _ rfl
  have rl:aH K (del H Pt) [.lst (ns.map D.int)] [.ref a]:=by
    refine .cons ?_ .nil
    simp only[Rep]
    refine⟨a,ns.map V.int,rfl,?_,kW (fun x=>by simp[Rep]) ns⟩
    rcases hS with(e | ⟨o,e⟩) | e
    · exact .inl (.inl (by rw[dj (naP e fun u z=>nomatch z)];exact e))
    · exact .inl (.inr ⟨o,by rw[dj (naP e fun u z=>nomatch z)];exact e⟩)
    · exact .inr e
  obtain⟨s1,s2,s3⟩:=iV S (ds:=[.lst (ns.map D.int)]) (by rw[h1];rfl) rl
  have noow:∀ (i:Nat) (x:Str) (ds':List D),(bY fd [.lst (ns.map D.int)])[i]?=some (x,.ow ds')->False:=fun i x ds' e=>by
    rcases s3 i x _ e with q | ⟨d',v,q,q1,q2⟩
    · cases q
    · cases q
  have hd:Hd K (some p) (del H Pt) (del H Pt) (del H Pt) H (bY fd [.lst (ns.map D.int)]) (start fd.N [.ref a]):=by
    refine⟨⟨.refl _,fun b o e=>(lU e).1,fun b o e=>(lU e).1,fun _ _ _ z=>z⟩,s2,fun i x d e=>?_,fun i x ds' e=>(noow i x ds' e).elim,fun i j x y ds' es a' _ e=>(noow i x ds' e).elim,(fun i x dss e=>by
      rcases s3 i x _ e with q | ⟨d',v,q,q1,q2⟩
      · cases q
      · cases q),fun p' hp'=>?_⟩
    · rcases s3 i x _ e with q | ⟨d',v,q,q1,q2⟩
      · cases q
      · cases q
        exact⟨v,q1,q2⟩
    · cases hp'
      exact⟨gw,[],Tab,gw,fun q hq=>by simp at hq⟩
  refine⟨fun D σ H=>∀ z0 s0,Inv X z0 σ H s0->wpAny (model X.prog X.w) X.A (execs (aR t) X.env) (SP X z0 D) X.xe s0,fun z0 s0 σ H1 D I h=>?_,?_⟩
  · exact R4z (h z0 s0 ((I.wish _).relm _)) (fun fl s' z=>z.unrelm.unwish) fun _ _ z=>False.elim z
  · obtain⟨ρ1,g1,g2⟩:=hlaw ns hl
    rw[hb]
    refine Bt (X:=X) (Hs0:=del H Pt) (H0:=del H Pt) (fun ρ s fl hN h=>mV _ F F GS hN h) pre s1 g1 hd fun σ' Hs' H' hN1 hd1=>?_
    refine PSs.sem (aL jQ bf) ?_
    obtain⟨ox,of⟩:=GS.own.own x hx
    obtain⟨i,hi⟩:=bU (show(ρ1.map (·.1)).contains x=true by rw[<- hN1];exact hxN)
    have hnd:(ρ1.map (·.1)).Nodup:=by rw[<- hN1];exact GS.good.nd
    refine PS.sem (cU GS.good.nd (by rw[hN1];exact hi) ox (yM MK FI (hr.mono (by omega)) (by show(aA t).names.lookup ("Case":Str)=_;rw[<- hs];exact hgl) hmg bI .nil vo) rfl of) ?_
    intro b dx hbn hdn hne
    have fr:∀ q,(upd (upd H' dx (.own b)) b (.ins C dx [])) q=none->H' q=none:=fun q e=>by
      by_cases q1:q=b
      · subst q1;exact hbn
      · rw[ak q1] at e
        by_cases q2:q=dx
        · subst q2;exact hdn
        · rwa [ak q2] at e
    have up:∀ q o,H' q=some o->(upd (upd H' dx (.own b)) b (.ins C dx [])) q=some o:=fun q o e=>by
      rw[ak (aq e hbn),ak (aq e hdn)];exact e
    refine⟨b,dx,Hs',rfl,aB,fun q o e=>up q o (hd1.ext.sub q o e),hd1.ext.sub.free hbn,fun d dn un H2 CR n1 n2 n3 keep=>⟨rfl,?_⟩⟩
    have all:Same H' H2:=fun q o e=>keep q o (up q o e) (aq e hbn)
    have h2:=hd1.stepN (H':=H2) (p:=b) (d:=d) (dn:=dn) (un:=un) all hbn (fr _ n1) (fr _ n2) (fr _ n3)
    obtain⟨n,g3⟩:=g2 b
    refine uV (X:=X) (fun H3 lm'=>?_) rest (⟨GS,Tx,LC,told,CO,CR.core⟩:GoodM T F k L ms p X fd.sc C b d dn un ⟨[],[],[]⟩ Hs' _) (by rw[aJ];exact hN1) g3 (fun a h=>List.eq_of_mem_replicate h) (h2.set hnd hi (by simp[Rep]))
    obtain⟨l,T'⟩:=lm' p rfl
    exact hq H3 _ T'.tab
end
end L2
namespace M84
open PySem PySem.Spec PyProof.Rows L2
open DE (D)
def MF(K:Zf)(C:Addr)(m qual:Str)(st:Stmt):Prop:=∃ f fd,Meth K C m f/\Fun K m qual st f fd
theorem gK{K:Zf}{C:Addr}{x qual:Str}{st:Stmt}(f:Addr)(pm cdv:Value)(y:PySem.W.findIn K (.ref C) x=some (some (.ref f)))(i:PySem.W.isFn K (.ref f)=true)(l:K.lookup f=some ⟨.type "function",none,.func (PySem.W.fnOf x qual (cu st) (aR st) (aA st) .none .none .none pm none cdv .none),#[]⟩)
  (c:PySem.W.codeIn K cdv qual=true) (k:PySem.W.keepIn K (.ref f)=true):MF K C x qual st:=⟨f,_,⟨y,i,k⟩,fun_mk l c k⟩
def cl:Str->List D->Option D:=vR (DE.aZ T 60 34)
def clx:Str->List D->Option Str:=xR (DE.aZ T 60 34)
def ms:mF:=[("put",2,JX cl clx),("take",1,sE cl clx),("table_of",1,fun S ds=>(jK cl clx S ds).map (toM S)),("turn",1,iy cl clx "turned" "turn"),("flip",1,iy cl clx "flipped" "flip"),("join",4,zA cl clx),("names",0,fun S ds=>(qH S ds).map (toM S)),("counts",0,fun S ds=>(lF S ds).map (toM S)),("back",0,sG),("forth",0,jW)]
structure CaseTxt (K:Zf) (mg:Str->Option Value) (C:Addr):Prop where
 t:CTxt K mg C
 set:MF K C "set_to" "Case.set_to" uQ
 doo:MF K C "do" "Case.do" sDo
 put:MF K C "put" "Case.put" Ko
 tab:MF K C "table_of" "Case.table_of" Km
 take:MF K C "take" "Case.take" Cz
 join:MF K C "join" "Case.join" CG
 turn:MF K C "turn" "Case.turn" Cy
 flip:MF K C "flip" "Case.flip" CK
 names:MF K C "names" "Case.names" ql
 go:MF K C "go" "Case.go" sGo
 back:MF K C "back" "Case.back" CN
 forth:MF K C "forth" "Case.forth" uR
 counts:MF K C "counts" "Case.counts" kJ
section
variable {P:Program} {w:World} {K:Zf} {mg:Str->Option Value} {C:Addr}
theorem Ua{us:List Value}{n:Nat}(h:us.length=n)(hn:n=4:=by rfl):∃ a b c d,us=[a,b,c,d]:=by
 subst hn
 match us,h with
 | [a,b,c,d],_=>exact⟨a,b,c,d,rfl⟩
theorem Vv{us:List Value}{n:Nat}(h:us.length=n)(hn:n=5:=by rfl):∃ a b c d e,us=[a,b,c,d,e]:=by
 subst hn
 match us,h with
 | [a,b,c,d,e],_=>exact⟨a,b,c,d,e,rfl⟩
theorem Ed{ms:mF}{k:Nat}(h:∀ p∈ms,(pD 0 0 0).lookup p.1=none/\∃ ps,bZ P w K mg C p.1 ps k (spM K C p.2.1 p.2.2)):∀ m n f,ms.lookup m=some (n,f)->(pD 0 0 0).lookup m=none/\∃ ps,bZ P w K mg C m ps k (spM K C n f):=fun m n f hl=>by
 induction ms with
 | nil=>cases hl
 | cons q r ih =>
  obtain⟨y,n',f'⟩:=q;rw[R2z] at hl;split at hl
  ·rename_i e
   cases hl;have:=eq_of_beq e;subst this;exact h _ (O1z ..)
  ·exact ih (fun p hp=>h p (W0z _ hp)) hl
theorem jV{m:Str}{ps:List Str}{j k:Nat}{sp:Sp}(h:bZ P w K mg C m ps j sp)(hk:j<=k):bZ P w K mg C m ps k sp:=by
 obtain⟨f,fd,a,b,c⟩:=h;exact⟨f,fd,a,b,fun base=>(c base).mono hk⟩
theorem vL{m:Str}{ps:List Str}{k n:Nat}{f:Cst->List D->Option (Sum D Str)}(h:bZ P w K mg C m ps k (spR K C n f)):bZ P w K mg C m ps k (spM K C n fun S ds=>(f S ds).map (toM S)):=by
 obtain⟨f,fd,a,b,c⟩:=h;exact⟨f,fd,a,b,fun base=>(c base).weak fun vs H Q E q=>Hl q⟩
theorem Jz(TX:Text w K mg T)(Y:CaseTxt K mg C):CaseOk P w K mg 36 C ms:=by
 have nn:gH P w K mg "need_name" ["thing"] 34 (spX K cl clx "need_name" ["thing"]):=gA (F:=60) TX (show T.defs.lookup ("need_name":Str)=some (cN (top 42)) by rfl');have it:gH P w K mg "is_table" ["thing"] 34 (spX K cl clx "is_table" ["thing"]):=gA (F:=60) TX (show T.defs.lookup ("is_table":Str)=some (cN (top 25)) by rfl');have tu:gH P w K mg "turned" ["table"] 34 (spX K cl clx "turned" ["table"]):=gA (F:=60) TX (show T.defs.lookup ("turned":Str)=some (cN (top 28)) by rfl');have fl:gH P w K mg "flipped" ["table"] 34 (spX K cl clx "flipped" ["table"]):=gA (F:=60) TX (show T.defs.lookup ("flipped":Str)=some (cN (top 29)) by rfl');have jo:gH P w K mg "joined" ["word","one","other"] 34 (spX K cl clx "joined" ["word","one","other"]):=gA (F:=60) TX (show T.defs.lookup ("joined":Str)=some (cN (top 43)) by rfl');obtain⟨fs,ds,ms1,Fs⟩:=Y.set;have GS:bZ P w K mg C "set_to" ["self","name","table"] 1 (yt K C):=⟨fs,ds,ms1,Fs.binds fun _ _ _ _ _ _ us hl=>by obtain⟨_,_,_,rfl⟩:=Jb hl;rfl,fun base=>Io Fs Y.t⟩;obtain⟨fs,ds,ms1,Fs⟩:=Y.doo;have GO:bZ P w K mg C "do" ["self","word","name","table"] 2 (Cu K C):=⟨fs,ds,ms1,Fs.binds fun _ _ _ _ _ _ us hl=>by obtain⟨_,_,_,_,rfl⟩:=Ua hl;rfl,fun base=>K3 Fs Y.t GS⟩;obtain⟨fs,ds,ms1,Fs⟩:=Y.tab;have GT:bZ P w K mg C "table_of" ["self","name"] 35 (spR K C 1 (jK cl clx)):=⟨fs,ds,ms1,Fs.binds fun _ _ _ _ _ _ us hl=>by obtain⟨_,_,rfl⟩:=len2 hl;rfl,fun base=>Im Fs Y.t TX.exs (by rfl') nn⟩;obtain⟨fs,ds,ms1,Fs⟩:=Y.put;have GP:bZ P w K mg C "put" ["self","name","table"] 35 (spM K C 2 (JX cl clx)):=⟨fs,ds,ms1,Fs.binds fun _ _ _ _ _ _ us hl=>by obtain⟨_,_,_,rfl⟩:=Jb hl;rfl,fun base=>Ip Fs Y.t TX.exs (by rfl') (by omega) nn it GO⟩;obtain⟨fs,ds,ms1,Fs⟩:=Y.take;have GK:bZ P w K mg C "take" ["self","name"] 36 (spM K C 1 (sE cl clx)):=⟨fs,ds,ms1,Fs.binds fun _ _ _ _ _ _ us hl=>by obtain⟨_,_,rfl⟩:=len2 hl;rfl,fun base=>DK Fs Y.t (by omega) GT GO⟩;obtain⟨fs,ds,ms1,Fs⟩:=Y.turn;have GU:bZ P w K mg C "turn" ["self","name"] 36 (spM K C 1 (iy cl clx "turned" "turn")):=⟨fs,ds,ms1,Fs.binds fun _ _ _ _ _ _ us hl=>by obtain⟨_,_,rfl⟩:=len2 hl;rfl,fun base=>DG Fs Y.t (by omega) tu GT GO⟩;obtain⟨fs,ds,ms1,Fs⟩:=Y.flip;have GF:bZ P w K mg C "flip" ["self","name"] 36 (spM K C 1 (iy cl clx "flipped" "flip")):=⟨fs,ds,ms1,Fs.binds fun _ _ _ _ _ _ us hl=>by obtain⟨_,_,rfl⟩:=len2 hl;rfl,fun base=>DQ Fs Y.t (by omega) fl GT GO⟩;obtain⟨fs,ds,ms1,Fs⟩:=Y.join;have GJ:bZ P w K mg C "join" ["self","name","word","one","other"] 36 (spM K C 4 (zA cl clx)):=⟨fs,ds,ms1,Fs.binds fun _ _ _ _ _ _ us hl=>by obtain⟨_,_,_,_,_,rfl⟩:=Vv hl;rfl,fun base=>DN Fs Y.t TX.exs (by rfl') (by omega) nn it jo GT GO⟩;obtain⟨fs,ds,ms1,Fs⟩:=Y.go;have GG:bZ P w K mg C "go" ["self","some","others","place"] 2 (JN K C):=⟨fs,ds,ms1,Fs.binds fun _ _ _ _ _ _ us hl=>by obtain⟨_,_,_,_,rfl⟩:=Ua hl;rfl,fun base=>K1 Fs Y.t TX.exs (by rfl') (TX.blt "len" "len" (by rfl')).1 GS⟩;obtain⟨fs,ds,ms1,Fs⟩:=Y.back;have GB:bZ P w K mg C "back" ["self"] 3 (spM K C 0 sG):=⟨fs,ds,ms1,Fs.binds fun _ _ _ _ _ _ us hl=>by obtain⟨_,rfl⟩:=len1 hl;rfl,fun base=>DR Fs Y.t GG⟩;obtain⟨fs,ds,ms1,Fs⟩:=Y.forth;have GH:bZ P w K mg C "forth" ["self"] 3 (spM K C 0 jW):=⟨fs,ds,ms1,Fs.binds fun _ _ _ _ _ _ us hl=>by obtain⟨_,rfl⟩:=len1 hl;rfl,fun base=>yW Fs Y.t GG⟩;obtain⟨fs,ds,ms1,Fs⟩:=Y.names;have GN:bZ P w K mg C "names" ["self"] 1 (spR K C 0 qH):=⟨fs,ds,ms1,Fs.binds fun _ _ _ _ _ _ us hl=>by obtain⟨_,rfl⟩:=len1 hl;rfl,fun base=>yV Fs Y.t (TX.blt "sorted" "sorted" (by rfl')).1⟩;obtain⟨fs,ds,ms1,Fs⟩:=Y.counts;have GC:bZ P w K mg C "counts" ["self"] 1 (spR K C 0 lF):=⟨fs,ds,ms1,Fs.binds fun _ _ _ _ _ _ us hl=>by obtain⟨_,rfl⟩:=len1 hl;rfl,fun base=>vB Fs Y.t (TX.blt "len" "len" (by rfl')).1⟩;refine⟨Y.t.cl,Ed fun p hp=>?_⟩;simp only[ms,List.mem_cons,List.not_mem_nil,or_false] at hp;rcases hp with rfl | rfl | rfl | rfl | rfl | rfl | rfl | rfl | rfl | rfl
 ·exact⟨by rfl',_,jV GP (by omega)⟩
 ·exact⟨by rfl',_,GK⟩
 ·exact⟨by rfl',_,jV (vL GT) (by omega)⟩
 ·exact⟨by rfl',_,GU⟩
 ·exact⟨by rfl',_,GF⟩
 ·exact⟨by rfl',_,GJ⟩
 ·exact⟨by rfl',_,jV (vL GN) (by omega)⟩
 ·exact⟨by rfl',_,jV (vL GC) (by omega)⟩
 ·exact⟨by rfl',_,jV GB (by omega)⟩
 ·exact⟨by rfl',_,jV GH (by omega)⟩
end
end M84
namespace M84
open PySem DE
noncomputable def tE(ns:List Int)(k:Nat):Int:=if k<ns.length then ns.getD k 0 else if ns=[] then 0 else ns.getD (k%ns.length) 0*31+k
def gU(ns:List Int)(k:Nat):Int:=(tE ns k+6151*((k:Int)+1))*40692%2147483399
def pickN(ns:List Int)(k many:Nat):Nat:=((gU ns k*gU ns k+gU ns k / 31)%2147483629%(many:Int)).toNat
abbrev scr(ns:List Int):D:=.lst (ns.map D.int)
theorem kI{ns:List Int}:blt "len" [scr ns]=some (.int (ns.length:Int)):=by
 show some (D.int ((ns.map D.int).length:Int))=_;rw[D3z]
theorem Az{ns:List Int}{k:Nat}(h:k<ns.length):atD (ns.map D.int) (k:Int)=some (.int (ns.getD k 0)):=by
 refine mD ?_;rw[List.getElem?_map,List.getElem?_eq_getElem h,List.getD_eq_getElem?_getD,List.getElem?_eq_getElem h];rfl
theorem Cw{ns:List Int}:dep (scr ns)<=50:=by
 simp only[dep]
 have:=wW (b:=0) (l:=ns.map D.int) fun d hd=>by
  obtain⟨i,_,rfl⟩:=List.mem_map.mp hd;simp[dep]
 omega
theorem cell(k:Nat)(ns:List Int)(kk:Nat):oA T 60 (k+1) "_law_cell" [scr ns,.int kk]=some (.int (tE ns kk)):=by
 unfold tE
 by_cases h:kk<ns.length
 ·rw[D5z h]
  refine JH (fd:=cN (top 46)) rfl rfl (Ue (fl1:=.ret (.int (ns.getD kk 0))) (Gm (by nofun) (Gx rfl rfl rfl (by walk_at "xm") kI) (oLt (by omega))) (J3 ?_) rfl);exact xIx (by nofun) (by nofun) rfl (Az h)
 ·rw[E5z h]
  by_cases e:ns=[]
  ·subst e
   rw[D5z rfl];refine JH (fd:=cN (top 46)) rfl rfl (QX (Gm (by nofun) (Gx rfl rfl rfl (by walk_at "xm") (kI (ns:=[]))) (Rm (by simp))) (Ue (fl1:=.ret (.int 0)) (Gm (by nofun) (by nofun) rfl) (J3 (by nofun)) rfl))
  ·rw[E5z e]
   have hl:0<ns.length:=List.length_pos_iff.mpr e;refine JH (fd:=cN (top 46)) rfl rfl (QX (Gm (by nofun) (Gx rfl rfl rfl (by walk_at "xm") kI) (Rm (by omega))) (QX (Gm (y:=.lst []) (by nofun) (by nofun) ?_) (J3 ?_)))
   ·rw[oEq Cw (by simp[dep,deps])]
    cases ns with
    | nil=>exact absurd rfl e
    | cons a r=>rfl
   ·refine jF (jF (x:=.int (ns.getD (kk%ns.length) 0)) (xIx (i:=((kk%ns.length:Nat):Int)) (by nofun) ?_ rfl (Az (W4z _ hl))) (by nofun) (Gs (.inr (by decide)))) (by nofun) rfl
    refine jF (by nofun) (Gx rfl rfl rfl (by walk_at "xm") kI) ?_;rw[Gi (by omega)];rfl
theorem pick(k:Nat)(ns:List Int)(kk:Nat){many:Nat}(h:0<many):oA T 60 (k+2) "_law_pick" [scr ns,.int kk,.int many]=some (.int ((pickN ns kk many:Nat):Int)):=by
 have d0:=Int.emod_nonneg ((tE ns kk+6151*((kk:Int)+1))*40692) (show(2147483399:Int)≠0 by decide);have d1:=Int.emod_lt_of_pos ((tE ns kk+6151*((kk:Int)+1))*40692) (show(0:Int)<2147483399 by decide)
 have e:((pickN ns kk many:Nat):Int)=(gU ns kk*gU ns kk+gU ns kk / 31)%2147483629%(many:Int):=by
  unfold pickN;exact Int.toNat_of_nonneg (Int.emod_nonneg _ (by omega))
 rw[e];refine JH (fd:=cN (top 47)) rfl rfl (Ud rfl (d:=.int (gU ns kk)) ?_ (J3 ?_))
 ·refine jF (jF (jF (x:=.int (tE ns kk)) (y:=.int (6151*((kk:Int)+1))) ?_ ?_ rfl) (by nofun) (Gs (.inr (by decide)))) (by nofun) (Gi (by decide))
  ·refine' tV ?L84a_1a ?L84a_1b ?L84a_1c;(case L84a_1a=>rfl);(case L84a_1b=>walk_at "xm");(case L84a_1c=>exact cell _ ns kk)
  ·exact jF (by nofun) (jF (by nofun) (by nofun) rfl) (Gs (.inl (by decide)))
 ·refine jF (jF (jF (jF (by nofun) (by nofun) (Gs (.inl ?_))) (jF (by nofun) (by nofun) (V1 (by decide) (by decide))) rfl) (by nofun) (Gi (by decide))) (by nofun) (Gi (by omega))
  unfold small;unfold gU;rw[S3z (by omega),S3z (by omega)];rfl
end M84
namespace M84
open PySem DE L2
abbrev cx0:Cxt:=T.cx (aZ T 60 36)
abbrev LP:LamP:=⟨"_law_told",Ui T 60 (cN (top 48))⟩
abbrev lSc:Scope:=(cN (top 50)).sc
abbrev bdy(i:Nat):List Stmt:=(cN (top 50)).body.drop i
def EY:Stmt->List Stmt
 | .For _ _ b _ _=>b
 | _=>[]
abbrev fB(i:Nat):List Stmt:=(EY ((cN (top 50)).body.getD 7 (.Pass ⟨0,0,0,0⟩))).drop i
def eU:List D:=[.non,.tup [],.tup [.tup []],.tup [.tup [.int 1,.int 2],.tup [.int 3]],.lst [.tup [.int 1]],.tup (List.replicate 5 (.tup [.int 1])),.tup [.tup [.bl true]],.tup [.tup [.str "1"]],.tup [.tup [.int 100]],.tup [.tup [.int 1,.int 2,.int 3,.int 4,.int (-100)]]]
def zj:List D:=[.non,.str "",.str "A",.str "abcde",.int 5,.lst [.str "a"],.str "a b",.str "a1"]
def Bs:List D:=[.str "c",.str "ab",.str "x",.str "none"]
def JL:List D:=[.tup [.str "plus",.str "b"],.tup [.str "plus",.str "a"],.tup [.str "times",.str "a"],.tup [.str "times",.str "b"],.tup [.str "beside",.str "b"],.tup [.str "below",.str "b"]]
def tA:D:=.tup [.tup [.int 90,.int 1]]
def tT:D:=.tup [.tup [.int 90],.tup [.int 1]]
def tB:D:=.tup [.tup [.int 10],.tup [.int 20]]
def S4:Cst:=⟨[("a",tA),("b",tB)],[iU "put" "a" .non tA,iU "put" "b" .non tB],[iU "turn" "a" tA tT]⟩
def Kq(ns:List Int)(od tl wo ca go k na ot th wd:Sl):Rho:=[("_law_script",.sh (scr ns)),("_law_odd",od),("_law_told_here",tl),("_law_words",wo),("_law_case",ca),("_law_gone",go),("_law_k",k),("_law_name",na),("_law_other",ot),("_law_thing",th),("_law_word",wd)]
abbrev SL(ns:List Int)(p:Addr)(od tl wo go k na ot th wd:Sl):Rho:=Kq ns od tl wo (.sh (.obj p)) go k na ot th wd
abbrev run(S:Cst)(n:Nat)(l:List Stmt)(ρ:Rho):Option (List Addr×Rho):=kE (fun ρ s=>stW cx0 LP ms S 60 n lSc ρ s) l ρ
abbrev rep(n:Nat)(x:Str):Sl:=.ow (List.replicate n (.str x))
theorem Vc(ns:List Int):iD (fun ρ s=>DE.st cx0 60 60 lSc ρ s) ((bdy 0).take 2) (Kq ns .no .no .no .no .no .no .no .no .no .no)=some (.nxt (Kq ns (.ow eU) .no .no .no .no .no .no .no .no .no)):=by rfl'
set_option maxHeartbeats 4000000 in
theorem Vb(ns:List Int)(p:Addr):qm cx0 LP ms 60 lSc ((bdy 3).take 4) (SL ns p (.ow eU) .no .no .no .no .no .no .no .no) ⟨[],[],[]⟩=some (List.replicate 4 p,some (SL ns p (.ow eU) .no .no .no .no .no .no .no .no,S4)):=by rfl'
set_option maxHeartbeats 4000000 in
theorem Va(ns:List Int)(p:Addr)(tl:Sl)(wo g k na ot th wd:D):qm cx0 LP ms 60 lSc (bdy 8) (SL ns p (.sh (.lst eU)) tl (.sh wo) (.sh g) (.sh k) (.sh na) (.sh ot) (.sh th) (.sh wd)) S4=some (List.replicate 8 p,none):=by rfl'
theorem all2{α:Type}{f g:Nat->α}{n:Nat}(h:(List.range n).map f=(List.range n).foldr (fun i l=>g i::l) []){i:Nat}(hi:i<n):f i=g i:=by
 rw[<- List.map_eq_foldr] at h;exact List.map_inj_left.mp h i (List.mem_range.mpr hi)
def sO(i:Nat)(d:D):Sl:=match i with
 | 0=>.no
 | _+1=>.sh d
section
variable (ns:List Int) (p:Addr)
def rP(tl wo ot wd:Sl)(g na:D)(i q:Nat):Rho:=SL ns p (.sh (.lst eU)) tl wo (.sh g) (.sh (.int i)) (.sh na) ot (.sh (eU.getD q .non)) wd
set_option maxHeartbeats 4000000 in
theorem U8(tl wo ot wd:Sl)(g na:D){i q:Nat}(hi:i<4)(hq:q<10):run S4 59 ((fB 3).take 1) (rP ns p tl wo ot wd g na i q)=some (List.replicate 1 p,rP ns p tl wo ot wd g na i q) :=
 all2 (f:=fun q=>run S4 59 ((fB 3).take 1) (rP ns p tl wo ot wd g na i q)) (g:=fun q=>some (List.replicate 1 p,rP ns p tl wo ot wd g na i q)) (all2 (n:=4) (f:=fun i=>(List.range 10).map fun q=>run S4 59 ((fB 3).take 1) (rP ns p tl wo ot wd g na i q)) (g:=fun i=>(List.range 10).foldr (fun q l=>some (List.replicate 1 p,rP ns p tl wo ot wd g na i q)::l) []) (by rfl') hi) hq
def rN(tl:Sl)(wo ot wd th:D)(i q r:Nat):Rho:=SL ns p (.sh (.lst eU)) tl (sO i wo) (.sh (Bs.getD r .non)) (.sh (.int i)) (.sh (zj.getD q .non)) (sO i ot) (.sh th) (sO i wd)
set_option maxHeartbeats 4000000 in
theorem U9(tl:Sl)(wo ot wd th:D){i q r:Nat}(hi:i<4)(hq:q<8)(hr:r<4):run S4 59 ((fB 4).take 9) (rN ns p tl wo ot wd th i q r)=some (List.replicate 8 p,rN ns p (rep 8 "no name") wo ot wd th i q r) :=
 all2 (f:=fun r=>run S4 59 ((fB 4).take 9) (rN ns p tl wo ot wd th i q r)) (g:=fun r=>some (List.replicate 8 p,rN ns p (rep 8 "no name") wo ot wd th i q r)) (all2 (f:=fun q=>(List.range 4).map fun r=>run S4 59 ((fB 4).take 9) (rN ns p tl wo ot wd th i q r)) (g:=fun q=>(List.range 4).foldr (fun r l=>some (List.replicate 8 p,rN ns p (rep 8 "no name") wo ot wd th i q r)::l) []) (all2 (n:=4) (f:=fun i=>(List.range 8).map fun q=>(List.range 4).map fun r=>run S4 59 ((fB 4).take 9) (rN ns p tl wo ot wd th i q r)) (g:=fun i=>(List.range 8).foldr (fun q l=>(List.range 4).foldr (fun r l=>some (List.replicate 8 p,rN ns p (rep 8 "no name") wo ot wd th i q r)::l) []::l) []) (by rfl') hi) hq) hr
set_option maxHeartbeats 4000000 in
theorem U4(l:List D)(wo ot wd g na th:D){i:Nat}(hi:i<4):run S4 59 (fB 13) (SL ns p (.sh (.lst eU)) (.ow l) (sO i wo) (.sh g) (.sh (.int i)) (.sh na) (sO i ot) (.sh th) (sO i wd))=some (List.replicate 6 p,SL ns p (.sh (.lst eU)) (.ow l) (.sh (.lst JL)) (.sh g) (.sh (.int i)) (.sh na) (.sh (.str "b")) (.sh th) (.sh (.str "below"))) :=
 all2 (n:=4) (f:=fun i=>run S4 59 (fB 13) (SL ns p (.sh (.lst eU)) (.ow l) (sO i wo) (.sh g) (.sh (.int i)) (.sh na) (sO i ot) (.sh th) (sO i wd))) (g:=fun i=>some (List.replicate 6 p,SL ns p (.sh (.lst eU)) (.ow l) (.sh (.lst JL)) (.sh g) (.sh (.int i)) (.sh na) (.sh (.str "b")) (.sh th) (.sh (.str "below")))) (by rfl') hi
end
abbrev stm(i:Nat):Stmt:=(fB i).headD (.Pass ⟨0,0,0,0⟩)
def Od(s:Sl):Prop:=s=.ow eU\/s=.sh (.lst eU)
def Tl(s:Sl):Prop:=s=.no\/∃ l,s=.ow l
section
variable {ns:List Int} {p:Addr} {od tl wo go na ot th wd:Sl} {i:Nat}
theorem b0(ho:Od od)(ht:Tl tl)(h1:nOw wo=true)(h2:nOw go=true)(h3:nOw na=true)(h4:nOw ot=true)(h5:nOw th=true)(h6:nOw wd=true):blk (cxN T 60 36) 60 59 lSc [stm 0] (SL ns p od tl wo go (.sh (.int i)) na ot th wd)=some (.nxt (SL ns p (.sh (.lst eU)) tl wo go (.sh (.int i)) na ot (.sh (eU.getD ((pickN ns 0 10+3*i)%10) .non)) wd)):=by
 have pk:=pick 34 ns 0 (many:=10) (by omega);generalize pickN ns 0 10=j at pk;have hq:(j+3*i)%10<10:=W4z _ (by omega);refine Es (ρ':=SL ns p (.sh (.lst eU)) tl wo go (.sh (.int i)) na ot th wd) (d:=eU.getD ((j+3*i)%10) .non) ?_ rfl rfl (xIx (x:=.lst eU) (i:=(((j+3*i)%10:Nat):Int)) (xName rfl) (jF (x:=.int ((j:Int)+3*(i:Int))) (y:=.int 10) (jF (x:=.int j) (y:=.int (3*(i:Int))) (tV rfl (cR (x:=scr ns) (xName rfl) (cR (bL rfl) (cR (bL rfl) BX))) pk) (jF (x:=.int 3) (y:=.int i) (bL rfl) (xName rfl) (Gs (.inl rfl))) rfl) (bL rfl) ?_) rfl ?_) zR
 ·rcases ho with rfl | rfl<;>rcases ht with rfl | ⟨l,rfl⟩
  ·exact bx rfl (Ug rfl (bx rfl (bx h1 (bx rfl (bx h2 (bx rfl (bx h3 (bx h4 (bx h5 (bx h6 Bu))))))))))
  ·exact bx rfl (Ug rfl (J4 rfl (bx h1 (bx rfl (bx h2 (bx rfl (bx h3 (bx h4 (bx h5 (bx h6 Bu))))))))))
  ·exact bx rfl (bx rfl (bx rfl (bx h1 (bx rfl (bx h2 (bx rfl (bx h3 (bx h4 (bx h5 (bx h6 Bu))))))))))
  ·exact bx rfl (bx rfl (J4 rfl (bx h1 (bx rfl (bx h2 (bx rfl (bx h3 (bx h4 (bx h5 (bx h6 Bu))))))))))
 ·rw[Gi (by omega)]
  exact congrArg (fun z=>some (D.int z)) (by omega)
 ·show atD eU _=_
  refine mD ?_;have:(j+3*i)%10<eU.length:=hq;rw[List.getElem?_eq_getElem this];simp[List.getD,this]
theorem b1(ht:Tl tl)(h1:nOw wo=true)(h2:nOw go=true)(h3:nOw na=true)(h4:nOw ot=true)(h5:nOw th=true)(h6:nOw wd=true):blk (cxN T 60 36) 60 59 lSc [stm 1] (SL ns p (.sh (.lst eU)) tl wo go (.sh (.int i)) na ot th wd)=some (.nxt (SL ns p (.sh (.lst eU)) tl wo go (.sh (.int i)) (.sh (zj.getD ((pickN ns 1 8+3*i)%8) .non)) ot th wd)):=by
 have pk:=pick 34 ns 1 (many:=8) (by omega);generalize pickN ns 1 8=j at pk;have hq:(j+3*i)%8<8:=W4z _ (by omega);refine Es (ρ':=SL ns p (.sh (.lst eU)) tl wo go (.sh (.int i)) na ot th wd) (d:=zj.getD ((j+3*i)%8) .non) ?_ rfl rfl (xIx (x:=.lst zj) (i:=(((j+3*i)%8:Nat):Int)) (JK (cR (bL rfl) (cR (bL rfl) (cR (bL rfl) (cR (bL rfl) (cR (bL rfl) (cR (JK (cR (bL rfl) BX) rfl) (cR (bL rfl) (cR (bL rfl) BX)))))))) rfl) (jF (x:=.int ((j:Int)+3*(i:Int))) (y:=.int 8) (jF (x:=.int j) (y:=.int (3*(i:Int))) (tV rfl (cR (x:=scr ns) (xName rfl) (cR (bL rfl) (cR (bL rfl) BX))) pk) (jF (x:=.int 3) (y:=.int i) (bL rfl) (xName rfl) (Gs (.inl rfl))) rfl) (bL rfl) ?_) rfl ?_) zR
 ·rcases ht with rfl | ⟨l,rfl⟩
  ·exact bx rfl (bx rfl (bx rfl (bx h1 (bx rfl (bx h2 (bx rfl (bx h3 (bx h4 (bx h5 (bx h6 Bu))))))))))
  ·exact bx rfl (bx rfl (J4 rfl (bx h1 (bx rfl (bx h2 (bx rfl (bx h3 (bx h4 (bx h5 (bx h6 Bu))))))))))
 ·rw[Gi (by omega)]
  exact congrArg (fun z=>some (D.int z)) (by omega)
 ·show atD zj _=_
  refine mD ?_;have:(j+3*i)%8<zj.length:=hq;rw[List.getElem?_eq_getElem this];simp[List.getD,this]
theorem b2(ht:Tl tl)(h1:nOw wo=true)(h2:nOw go=true)(h3:nOw na=true)(h4:nOw ot=true)(h5:nOw th=true)(h6:nOw wd=true):blk (cxN T 60 36) 60 59 lSc [stm 2] (SL ns p (.sh (.lst eU)) tl wo go (.sh (.int i)) na ot th wd)=some (.nxt (SL ns p (.sh (.lst eU)) tl wo (.sh (Bs.getD ((pickN ns 2 4+i)%4) .non)) (.sh (.int i)) na ot th wd)):=by
 have pk:=pick 34 ns 2 (many:=4) (by omega);generalize pickN ns 2 4=j at pk;have hq:(j+i)%4<4:=W4z _ (by omega);refine Es (ρ':=SL ns p (.sh (.lst eU)) tl wo go (.sh (.int i)) na ot th wd) (d:=Bs.getD ((j+i)%4) .non) ?_ rfl rfl (xIx (x:=.lst Bs) (i:=(((j+i)%4:Nat):Int)) (JK (cR (bL rfl) (cR (bL rfl) (cR (bL rfl) (cR (bL rfl) BX)))) rfl) (jF (x:=.int ((j:Int)+(i:Int))) (y:=.int 4) (jF (x:=.int j) (y:=.int i) (tV rfl (cR (x:=scr ns) (xName rfl) (cR (bL rfl) (cR (bL rfl) BX))) pk) (xName rfl) rfl) (bL rfl) ?_) rfl ?_) zR
 ·rcases ht with rfl | ⟨l,rfl⟩
  ·exact bx rfl (bx rfl (bx rfl (bx h1 (bx rfl (bx h2 (bx rfl (bx h3 (bx h4 (bx h5 (bx h6 Bu))))))))))
  ·exact bx rfl (bx rfl (J4 rfl (bx h1 (bx rfl (bx h2 (bx rfl (bx h3 (bx h4 (bx h5 (bx h6 Bu))))))))))
 ·rw[Gi (by omega)]
  exact congrArg (fun z=>some (D.int z)) (by omega)
 ·show atD Bs _=_
  refine mD ?_;have:(j+i)%4<Bs.length:=hq;rw[List.getElem?_eq_getElem this];simp[List.getD,this]
theorem yw(d:D):nOw (sO i d)=true:=by cases i<;>rfl
theorem iY{f:Rho->Stmt->Option (List Addr×Rho)}{r:List Stmt}{m:Nat}{ρ' ρ2:Rho}(hr:kE f r ρ'=some (List.replicate m p,ρ2)):∀ (l:List Stmt) {ρ:Rho} {n:Nat},kE f l ρ=some (List.replicate n p,ρ')->∃ n,kE f (l++r) ρ=some (List.replicate n p,ρ2):=by
 have key:∀ (l:List Stmt) {ρ:Rho} {as:List Addr},kE f l ρ=some (as,ρ')->kE f (l++r) ρ=some (as++List.replicate m p,ρ2):=fun l=>by
  induction l with
  | nil=>intro ρ as h;cases h;exact hr
  | cons s l ih =>
   intro ρ as h;unfold kE at h;rw[List.cons_append];unfold kE;split at h
   ·obtain⟨q,h1,h2⟩:=Q0z.mp h
    obtain⟨q1,q2⟩:=q;cases h2;rw[ih h1];simp
   ·cases h
 intro l ρ n h;exact⟨n+m,by rw[key l h,A0z]⟩
theorem uN{s:Stmt}{ρ ρ':Rho}(h:iD (fun ρ s=>DE.st cx0 60 59 lSc ρ s) [s] ρ=some (.nxt ρ'))(hs:stW cx0 LP ms S4 60 59 lSc ρ s=plW (DE.st cx0 60 59 lSc ρ s)):run S4 59 [s] ρ=some (List.replicate 0 p,ρ'):=by
 have e:DE.st cx0 60 59 lSc ρ s=some (.nxt ρ'):=by
  unfold iD at h
  cases q:DE.st cx0 60 59 lSc ρ s with
  | none=>rw[q] at h;cases h
  | some fl =>
   rw[q] at h
   cases fl with
   | ret d=>cases h
   | nxt ρ2=>exact h
 unfold kE;rw[hs,e];rfl
theorem round(ho:Od od)(ht:Tl tl){w1 w2 w3:D}(h2:nOw go=true)(h3:nOw na=true)(h5:nOw th=true)(hi:i<4):∃ g n t l m,run S4 59 (fB 0) (SL ns p od tl (sO i w1) go (.sh (.int i)) na (sO i w2) th (sO i w3))=some (List.replicate m p,SL ns p (.sh (.lst eU)) (.ow l) (.sh (.lst JL)) (.sh g) (.sh (.int i)) (.sh n) (.sh (.str "b")) (.sh t) (.sh (.str "below"))):=by
 have e0:=b0 (ns:=ns) (p:=p) (i:=i) ho ht (yw (i:=i) w1) h2 h3 (yw (i:=i) w2) h5 (yw (i:=i) w3);have e1:=b1 (ns:=ns) (p:=p) (i:=i) (th:=.sh (eU.getD ((pickN ns 0 10+3*i)%10) .non)) ht (yw (i:=i) w1) h2 h3 (yw (i:=i) w2) rfl (yw (i:=i) w3);have e2:=b2 (ns:=ns) (p:=p) (i:=i) (na:=.sh (zj.getD ((pickN ns 1 8+3*i)%8) .non)) (th:=.sh (eU.getD ((pickN ns 0 10+3*i)%10) .non)) ht (yw (i:=i) w1) h2 rfl (yw (i:=i) w2) rfl (yw (i:=i) w3);rw[<- Jv] at e0 e1 e2;have hq:(pickN ns 0 10+3*i)%10<10:=W4z _ (by omega);have hq1:(pickN ns 1 8+3*i)%8<8:=W4z _ (by omega);have hq2:(pickN ns 2 4+i)%4<4:=W4z _ (by omega);generalize (pickN ns 0 10+3*i)%10=q at e0 e1 e2 hq;generalize (pickN ns 1 8+3*i)%8=q1 at e1 e2 hq1;generalize (pickN ns 2 4+i)%4=q2 at e2 hq2;have eP:=U8 ns p tl (sO i w1) (sO i w2) (sO i w3) (Bs.getD q2 .non) (zj.getD q1 .non) hi hq;have eN:=U9 ns p tl w1 w2 w3 (eU.getD q .non) hi hq1 hq2;have eW:=U4 ns p (List.replicate 8 (.str "no name")) w1 w2 w3 (Bs.getD q2 .non) (zj.getD q1 .non) (eU.getD q .non) hi;obtain⟨_,e⟩:=iY eW ((fB 4).take 9) eN;obtain⟨_,e⟩:=iY e ((fB 3).take 1) eP;obtain⟨_,e⟩:=iY e [stm 2] (uN e2 rfl);obtain⟨_,e⟩:=iY e [stm 1] (uN e1 rfl);obtain⟨_,e⟩:=iY e [stm 0] (uN e0 rfl);exact⟨_,_,_,_,_,e⟩
theorem Ez{f:D->Rho->Option (List Addr×Rho)}{h:Nat->D}{P:Nat->Rho->Prop}{N:Nat}(hs:∀ i ρ,i<N->P i ρ->∃ ρ' n,P (i+1) ρ'/\f (h i) ρ=some (List.replicate n p,ρ')){ρ:Rho}(h0:P 0 ρ):∃ ρ' n,P N ρ'/\zV f (Ls N h) ρ=some (List.replicate n p,ρ'):=by
 have key:∀ (n a:Nat) (ρ:Rho),a+n<=N->P a ρ->∃ ρ' m,P (a+n) ρ'/\zV f ((List.range' a n).map h) ρ=some (List.replicate m p,ρ'):=by
  intro n
  induction n with
  | zero=>intro a ρ _ hp;exact⟨ρ,0,hp,rfl⟩
  | succ n ih =>
   intro a ρ ha hp;obtain⟨ρ1,m1,p1,e1⟩:=hs a ρ (by omega) hp;obtain⟨ρ2,m2,p2,e2⟩:=ih (a+1) ρ1 (by omega) p1;refine⟨ρ2,m1+m2,by rw[show a+(n+1)=a+1+n by omega];exact p2,?_⟩;rw[List.range'_succ,Z3z];unfold zV;rw[e1];simp only[e2,J3z,A0z]
 obtain⟨ρ',m,p1,e1⟩:=key N 0 ρ (by omega) h0;exact⟨ρ',m,by simpa using p1,by rw[<- e1];simp[Ls,List.range_eq_range']⟩
end
theorem Kl{cx:Cxt}{L:LamP}{ms:mF}{S:Cst}{F:Nat}{sc:Scope}{ρ ρ':Rho}{tg iter:Expr}{body:List Stmt}{q:Pos}{l:List D}{as:List Addr}{n:Nat}(hn:F=n+1)(hI:evI cx (eY tg) (ev cx F sc (frz F iter ρ)) sc iter=some l)
  (h:zV (fun d ρ=>match iz sc tg d ρ with
    | some ρ1=>kE (fun ρ s=>stW cx L ms S F n sc ρ s) body ρ1
    | none=>none) l (frz F iter ρ)=some (as,ρ')):qm cx L ms F sc [.For tg iter body [] q] ρ S=some (as,some (ρ',S)):=by
 have e:stW cx L ms S F F sc ρ (.For tg iter body [] q)=some (as,ρ'):=by
  rw[show stW cx L ms S F F=stW cx L ms S F (n+1) by rw[<- hn]]
  show(match evI cx (eY tg) (ev cx F sc (frz F iter ρ)) sc iter with
   | some l=>zV (fun d ρ=>match iz sc tg d ρ with
    | some ρ1=>kE (fun ρ s=>stW cx L ms S F n sc ρ s) body ρ1
    | none=>none) l (frz F iter ρ)
   | none=>none)=_
  rw[hI];exact h
 have e2:yp cx L ms F sc ρ S (.For tg iter body [] q)=some (as,some (ρ',S)):=by
  show Option.map _ (stW cx L ms S F F sc ρ (.For tg iter body [] q))=_;rw[e];rfl
 unfold qm;rw[e2];show some (as++[],_)=_;rw[E3z]
theorem zF(ns:List Int)(_h:ns.length<=63):∃ ρ1,iD (fun ρ s=>DE.st cx0 60 60 lSc ρ s) ((bdy 0).take 2) (bY (cN (top 50)) [.lst (ns.map D.int)])=some (.nxt ρ1)/\∀ p,∃ n,qm cx0 LP ms 60 lSc (bdy 3) (cT ρ1 "_law_case" (.sh (.obj p))) ⟨[],[],[]⟩=some (List.replicate n p,none):=by
 refine⟨_,Vc ns,fun p=>?_⟩
 obtain⟨ρ',n,⟨od,tl,w1,w2,w3,go,k,na,th,q1,q2,q3,q4,q5,q6,rfl⟩,fg⟩:=Ez (p:=p) (f:=fun d ρ=>match iz lSc (.Name "_law_k" ⟨0,0,0,0⟩) d ρ with
  | some ρ1=>run S4 59 (fB 0) ρ1
  | none=>none) (h:=fun y=>D.int y) (N:=4) (P:=fun i ρ=>∃ od tl w1 w2 w3 go k na th,Od od/\Tl tl/\nOw go=true/\nOw na=true/\nOw th=true/\(i=0\/(od=.sh (.lst eU)/\∃ g' k' n' t',go=.sh g'/\k=.sh k'/\na=.sh n'/\th=.sh t'))/\ρ=SL ns p od tl (sO i w1) go k na (sO i w2) th (sO i w3)) (fun i ρ hi hP=>by
  obtain⟨od,tl,w1,w2,w3,go,k,na,th,q1,q2,q3,q4,q5,q6,rfl⟩:=hP;obtain⟨g,n,t,l,m,r⟩:=round (ns:=ns) (p:=p) (w1:=w1) (w2:=w2) (w3:=w3) q1 q2 q3 q4 q5 hi
  exact⟨_,m,⟨_,_,.lst JL,.str "b",.str "below",_,_,_,_,.inr rfl,.inr ⟨_,rfl⟩,rfl,rfl,rfl,.inr ⟨rfl,_,_,_,_,rfl,rfl,rfl,rfl⟩,rfl⟩,r⟩) (ρ:=SL ns p (.ow eU) .no .no .no .no .no .no .no .no) ⟨_,_,.non,.non,.non,_,_,_,_,.inl rfl,.inl rfl,rfl,rfl,rfl,.inl rfl,rfl⟩
 rcases q6 with q6 | ⟨rfl,g',k',n',t',rfl,rfl,rfl,rfl⟩
 ·cases q6
 have eF:qm cx0 LP ms 60 lSc ((bdy 7).take 1) (SL ns p (.ow eU) .no .no .no .no .no .no .no .no) S4=some (List.replicate n p,some (SL ns p (.sh (.lst eU)) tl (.sh w1) (.sh g') (.sh k') (.sh n') (.sh w2) (.sh t') (.sh w3),S4)):=Kl (F:=60) (n:=59) rfl (l:=Ls 4 fun y=>D.int y) (Rh (j:=4) rfl (bL rfl) (by omega)) fg;have e:=kO (Va ns p tl w1 g' k' n' w2 t' w3) ((bdy 7).take 1) eF;have e:=kO e ((bdy 3).take 4) (Vb ns p);exact⟨4+(n+8),by rw[<- A0z,<- A0z];exact e⟩
theorem GR:T.defs.lookup ("_law_told":Str)=some (cN (top 49)):=by rfl'
theorem Q7:T.defs.lookup ("_law_class":Str)=some (cN (top 48)):=by rfl'
theorem GZ{P:Program}{w:World}{K:Zf}{mg:Str->Option Value}(TX:Text w K mg T):j6 P w K mg 37 T.exs LP.cv LP.tn :=
 ux (F:=60) (dn:="_law_deed") (n:="e") TX GR Q7 rfl (by rfl') (by rfl') (by rfl') (by rfl') (by rfl') (by rfl') (by rfl') (by rfl') (by rfl') (by rfl') (by omega)
theorem finL{l:PySem.W.OpenLaw}{w:World}{K:Zf}{h:Heap}{mg:Str->Option Value}{fa C fI:Addr}{fdI:FuncData}(TX:Text w K mg T)(Y:CaseTxt K mg C)(MK:Mk K C fI)(FI:Fun K "__init__" "Case.__init__" CJ fI fdI)(X:K.In h)(G:h.Ns mainGlobals mg)(hfa:mg "law"=some (.ref fa))(f c Pt:Addr)(dc pm:Value)(a:PySem.W.nsIn K mainGlobals "law"=some (some (.ref f)))
  (lk:K.lookup f=some ⟨.type "function",none,.func (PySem.W.fnOf "law" "law" (cu (top 50)) (aR (top 50)) (aA (top 50)) .none .none dc pm none (.ref c) .none),#[]⟩) (cd:PySem.W.codeIn K (.ref c) "law"=true) :
  ∃ fd:FuncData,(∀ (s:Shared) (v:Value),BindsTo s fd ⟨[v],[]⟩ [("_law_script",v)])/\∀ base:Heap,K.In base->base.Ns mainGlobals mg->PySem.W.CodeHd base c Pt->base.BuiltinsAt mg Pt->FnOk l.prog w K mg base CX0 40 fa fd ["_law_script"] (qe K Pt):=by
 have e:=hfa.symm.trans (D4z X G a);cases e;refine⟨_,fun s v=>.of_eq (b50 .none dc pm none (.ref c) .none [v] rfl),fun base _ _ hC hbm=>?_⟩;exact Eh (k:=36) (F:=60) (fd:=cN (top 50)) (t:=top 50) (L:=LP) (ms:=ms) (x:="_law_case") (pre:=(bdy 0).take 2) (rest:=bdy 3) TX lk cd rfl rfl (Ew (by decide +kernel)) rfl hC hbm (GZ TX) (Jz TX Y) Y.t.mgC (by rfl') MK (FI.binds fun _ _ _ _ _ _ us hl=>by obtain⟨_,rfl⟩:=len1 hl;rfl) (DP FI Y.t) (by rfl') (by rfl') zF
end M84
noncomputable section
namespace HS
open PySem PySem.W
theorem goT{p:Program}{w:World}{m:Nat}{a:Option Value}{n:Nat}{x y:Shared}{u:Thread}{c:Code}{o:Pos}{l:List Frame}(h:Fast.tw15667345088766844465 Fast.tw14364793385576792824 p w m a n x u=some (y,⟨Fast.tw11892475500146522536 Fast.tw14364793385576792824 c,c,o,l⟩)):topGo treeTable p w m a n x u=some (y,⟨denote treeTable c,c,o,l⟩):=by
 rw[Fast.te15667345088766844465,C0z,Fast.te11892475500146522536];exact h
theorem U7{p:Program}{w:World}{m:Nat}{a:Option Value}{k n:Nat}{x:Shared}{u:Thread}{y:Option (Flow×Shared×Code×Pos)}(h:Fast.tw14374325043358763698 Fast.tw14364793385576792824 p w m a k n x u=y):segRun treeTable p w m a k n x u=y:=by
 rw[Fast.te14374325043358763698,C0z];exact h
theorem rT{p:Program}{w:World}{m:Nat}{a:Option Value}{k n:Nat}{x:SharedT}{u:Thread}{y:Option (Flow×SharedT×Code×Pos)}(h:Fast.tw10110043849684766642 Fast.tw14364793385576792824 p w m a k n x u=y):segRunT treeTable p w m a k n x u=y:=by
 rw[Fast.te10110043849684766642,C0z];exact h
theorem Uo{p:Program}{w:World}{m:Nat}{a:Option Value}{n:Nat}{x:Shared}{u:Thread}{y:Option Shared}(h:Fast.tw14082659384304107361 Fast.tw14364793385576792824 p w m a n x u=y):topRun treeTable p w m a n x u=y:=by
 rw[Fast.te14082659384304107361,C0z];exact h
theorem Kr{p:Program}{w:World}{m:Nat}{a:Option Value}{n:Nat}{x:Shared}{b l:List Stmt}{E:Env}{c:Code}{o:Pos}{B:List Frame}{y:Option Shared}(e:b=l)(h:topRun treeTable p w m a n x (restOf l E c o B)=y):topRun treeTable p w m a n x (restOf b E c o B)=y:=by
 rw[e];exact h
end HS
namespace H84
open PySem PySem.W HS
noncomputable abbrev p:Program:=PySem.Challenge.pw_minortables_k84_cases_refused
abbrev q:Program:=PySem.W.view p [0,2,3,4,5,6,7,8,9,10,12,13,14,15,16,17,18,19,20,21,23,24,25,26,27,28,29,30,31,32,33,34,36,37,39,40,41,42,43,44,46,47,48,49,50]
abbrev N:Nat:=7222
abbrev lo:List Str:=[]
abbrev z:Value:=.none
abbrev r(a:Nat):Value:=.ref a
noncomputable abbrev i(a:Int)(n:Nat):Value:=.int a n
abbrev s(x:Str)(n:Nat):Value:=.str x n
abbrev t(x:String):Value:=.type x
abbrev b(x:String):Value:=.builtin x
abbrev e(P:Params)(x:Str)(n:Nat)(v:Value):DictEntry:=⟨PyData.keyHash P x,.str x n,v⟩
def d(j:Nat):Stmt:=p.main.body.getD j (.Pass ⟨0,0,0,0⟩)
def m(j k:Nat):Stmt:=match d j with | .ClassDef _ _ _ l .. =>l.getD k (.Pass ⟨0,0,0,0⟩) | x=>x
def f(x:Stmt)(qn:Str)(g:Nat)(dV kV dc pm cd ct:Value):FuncData:=match x with | .FunctionDef n a l _ _ _ sc .. =>⟨n,qn,a,.stmts l,sc,g,[],dV,kV,dc,pm,none,cd,ct,0⟩ | _=>default
def y:Obj:=⟨.type "tuple",none,.seq #[] 0,#[]⟩
noncomputable def x:Obj:=⟨.none,none,.fields #[],#[]⟩
noncomputable def tnV:List Str->Nat->List Value | [],_=>[] | a::l,k=>.str a k::tnV l (k+1)
def tn(l:List Str)(k:Nat):Obj:=⟨.type "tuple",none,.seq (tnV l k).toArray 0,#[]⟩
def g(a:Stmt)(n:Str):Obj:=⟨.none,none,.func (f a n 0 z z z z z z),#[]⟩
def u(a:Stmt)(n:Str)(pm:Value)(c:Nat):Obj:=⟨.type "function",none,.func (f a n 3 z z z pm (r c) z),#[]⟩
def c(n:Str)(k:Nat)(l a fl:Int)(q:Nat)(bb:Bool)(h:Int)(q':Nat)(v w v':Value)(k':Nat):Obj:=⟨.type "code",none,.fields #[s n k,s n (k+1),s "/claim/cut.py" (k+2),i l 0,i a 0,i 0 0,i 0 0,i fl 0,r q,.bool bb,i h 0,r q',z,v,w,v',i k' 0,i l 0,s "/claim/cut.py" (k'+1)],#[]⟩
def I(t:BT):Nat->List Obj->BT | _,[]=>t | n,o::l=>I (t.ins n o) (n+1) l
def es(P:Params):List DictEntry:=[e P "__doc__" 166 z,
 e P "__package__" 167 z,
 e P "__loader__" 168 (b "__main__.__loader__#opaque"),
 e P "__spec__" 169 z,
 e P "__annotations__" 170 (r 6),
 e P "__builtins__" 171 (r 4),
 e P "__file__" 173 (s "/claim/cut.py" 172),
 e P "__cached__" 174 z,
 e P "_wall" 193 (r 21),
 e P "MinorError" 213 (r 31),
 e P "NoTable" 229 (r 44),
 e P "NoFit" 245 (r 56),
 e P "NoPlace" 261 (r 68),
 e P "NoStep" 277 (r 80),
 e P "NoSteps" 293 (r 92),
 e P "NoText" 309 (r 104),
 e P "NoName" 325 (r 116),
 e P "NoBack" 341 (r 128),
 e P "MOST_LINES" 345 (i 4 344),
 e P "is_whole" 352 (r 137),
 e P "is_whole_within" 361 (r 144),
 e P "is_short_tuple" 368 (r 151),
 e P "has_lines" 374 (r 156),
 e P "numbers_of" 383 (r 163),
 e P "has_table_form" 389 (r 168),
 e P "need_table" 396 (r 175),
 e P "need_same_size" 404 (r 182),
 e P "need_size" 412 (r 189),
 e P "MOST_NUMBER" 416 (i 99 415),
 e P "is_small_row" 422 (r 194),
 e P "is_table" 428 (r 199),
 e P "column_of" 434 (r 204),
 e P "columns_of" 440 (r 209),
 e P "turned" 447 (r 216),
 e P "flipped" 453 (r 221),
 e P "row_by_column" 459 (r 226),
 e P "row_by_columns" 465 (r 231),
 e P "times" 471 (r 236),
 e P "row_plus" 477 (r 241),
 e P "plus" 483 (r 246),
 e P "set_below" 493 (r 253),
 e P "set_beside" 501 (r 260),
 e P "LETTERS" 505 (s "abcdefghijklmnopqrstuvwxyz" 504),
 e P "MOST_LETTERS" 507 (i 4 506),
 e P "is_name" 513 (r 265),
 e P "need_name" 520 (r 272),
 e P "joined" 529 (r 279),
 e P "Case" 681 (r 394),
 e P "_law_cell" 691 (r 405),
 e P "_law_pick" 701 (r 412),
 e P "_law_class" 710 (r 419),
 e P "_law_told" 718 (r 426),
 e P "law" 735 (r 433)]
def og(k n:Nat)(v:Value)(P:Params):Obj:=⟨.type "dict",none,.dict ((e P "__name__" 165 v::es P).take k).toArray n,#[]⟩
def fv:List Value:=[(i 1 0),(i 0 0),(r 20),(i 5 0),(i 0 0),(r 27),(i 7 0),(i 0 0),(r 40),(i 9 0),(i 0 0),(r 52),(i 11 0),(i 0 0),(r 64),(i 13 0),(i 0 0),(r 76),(i 15 0),(i 0 0),(r 88),(i 17 0),(i 0 0),(r 100),(i 19 0),(i 0 0),(r 112),(i 21 0),(i 0 0),(r 124),(i 25 0),(i 0 0),(r 136),(i 27 0),(i 0 0),(r 143),(i 29 0),(i 0 0),(r 150),(i 31 0),(i 0 0),(r 155),(i 35 0),(i 0 0),(r 162),(i 40 0),(i 0 0),(r 167),(i 42 0),(i 0 0),(r 174),(i 45 0),(i 0 0),(r 181),(i 48 0),(i 0 0),(r 188),(i 53 0),(i 0 0),(r 193),(i 55 0),(i 0 0),(r 198),(i 57 0),(i 0 0),(r 203),(i 59 0),(i 0 0),(r 208),(i 61 0),(i 0 0),(r 215),(i 64 0),(i 0 0),(r 220),(i 67 0),(i 0 0),(r 225),(i 69 0),(i 0 0),(r 230),(i 71 0),(i 0 0),(r 235),(i 78 0),(i 0 0),(r 240),(i 80 0),(i 0 0),(r 245),(i 86 0),(i 0 0),(r 252),(i 93 0),(i 0 0),(r 259),(i 98 0),(i 0 0),(r 264),(i 102 0),(i 0 0),(r 271),(i 105 0),(i 0 0),(r 278),(i 115 0),(i 0 0),(r 285),(i 193 0),(i 0 0),(r 404),(i 199 0),(i 0 0),(r 411),(i 202 0),(i 0 0),(r 418),(i 210 0),(i 0 0),(r 425),(i 215 0),(i 0 0),(r 432)]
def o12:Obj:=⟨z,none,.fields (fv.take 0).toArray,#[]⟩
def o13:=c "<module>" 182 1 0 0 11 false 181 12 z z z 185
def o14:Obj:=⟨(t "frame"),none,.plain,#[some (r 13),some (r 3),some (r 3),none,some (s "__main__" 164),none,some (r 0)]⟩
def Vs(P:Params):Obj:=og 11 11 (s "minortables.errors" 194) P
def Qx:Obj:=⟨z,none,.fields (fv.take 6).toArray,#[]⟩
def o17:=tn ["k"] 190
def o19:=g (d 0) "_wall"
def o20:=c "_wall" 187 1 1 3 15 true 181 16 (r 17) (r 18) (r 19) 191
def o21:=u (d 0) "_wall" (s "__main__" 164) 20
def o22:Obj:=⟨(t "tuple"),none,(.seq #[(t "ValueError")] 0),#[]⟩
def o23:Obj:=⟨(t "builtin_function_or_method"),none,(.fields #[(b "type.__prepare__"),(t "type")]),#[]⟩
def o24(P:Params):Obj:=⟨(t "dict"),none,(.dict #[e P "__module__" 203 (s "minortables.errors" 194),e P "__qualname__" 205 (s "MinorError" 204),e P "__firstlineno__" 207 (i 5 206),e P "__static_attributes__" 208 (r 29)] 4),#[]⟩
def o27:=c "MinorError" 198 5 0 0 25 false 181 26 z z z 201
def o28:Obj:=⟨(t "frame"),none,.plain,#[some (r 27),some (r 3),some (r 24),none,some (s "minortables.errors" 194),none,some (r 0)]⟩
def o30(P:Params):Obj:=⟨(t "dict"),none,(.dict #[e P "__module__" 203 (s "minortables.errors" 194),e P "__firstlineno__" 207 (i 5 206),e P "__static_attributes__" 208 (r 29),e P "__weakref__" 210 (r 32),e P "__doc__" 211 z] 3),#[]⟩
def o31:Obj:=⟨(t "type"),none,(.cls ⟨"MinorError",[(t "ValueError")],[(r 31),(t "ValueError"),(t "Exception"),(t "BaseException"),(t "object")],30,"MinorError",true,[],[],false,none,false⟩),#[some (r 22),none,some (s "MinorError" 196),some (s "MinorError" 204),some (b "ValueError.__new__"),some (.bool true)]⟩
def o32:Obj:=⟨(t "getset_descriptor"),none,(.fields #[(s "__weakref__" 209),(r 31),(b "ExceptionGroup.__weakref__"),z]),#[]⟩
def o33:Obj:=⟨(t "super"),none,(.fields #[(r 31),(r 31),(r 31)]),#[]⟩
def o34:Obj:=⟨(t "builtin_function_or_method"),none,(.fields #[(b "object.__init_subclass__"),(r 31)]),#[]⟩
def Vr(P:Params):Obj:=og 12 12 (s "minortables.errors" 194) P
def Qw:Obj:=⟨z,none,.fields (fv.take 9).toArray,#[]⟩
def Nt:Obj:=⟨(t "type"),none,(.cls ⟨"MinorError",[(t "ValueError")],[(r 31),(t "ValueError"),(t "Exception"),(t "BaseException"),(t "object")],30,"MinorError",true,[],[(r 44)],false,none,false⟩),#[some (r 22),none,some (s "MinorError" 196),some (s "MinorError" 204),some (b "ValueError.__new__"),some (.bool true)]⟩
def o35:Obj:=⟨(t "tuple"),none,(.seq #[(r 31)] 0),#[]⟩
def o36:Obj:=⟨(t "builtin_function_or_method"),none,(.fields #[(b "type.__prepare__"),(t "type")]),#[]⟩
def o37(P:Params):Obj:=⟨(t "dict"),none,(.dict #[e P "__module__" 221 (s "minortables.errors" 194),e P "__qualname__" 223 (s "NoTable" 222),e P "__firstlineno__" 225 (i 7 224),e P "__static_attributes__" 226 (r 42)] 4),#[]⟩
def o40:=c "NoTable" 216 7 0 0 38 false 181 39 z z z 219
def o41:Obj:=⟨(t "frame"),none,.plain,#[some (r 40),some (r 3),some (r 37),none,some (s "minortables.errors" 194),none,some (r 0)]⟩
def o43(P:Params):Obj:=⟨(t "dict"),none,(.dict #[e P "__module__" 221 (s "minortables.errors" 194),e P "__firstlineno__" 225 (i 7 224),e P "__static_attributes__" 226 (r 42),e P "__doc__" 227 z] 2),#[]⟩
def o44:Obj:=⟨(t "type"),none,(.cls ⟨"NoTable",[(r 31)],[(r 44),(r 31),(t "ValueError"),(t "Exception"),(t "BaseException"),(t "object")],43,"NoTable",true,[],[],false,none,false⟩),#[some (r 35),none,some (s "NoTable" 214),some (s "NoTable" 222),some (b "ValueError.__new__"),some (.bool true)]⟩
def o45:Obj:=⟨(t "super"),none,(.fields #[(r 44),(r 44),(r 44)]),#[]⟩
def o46:Obj:=⟨(t "builtin_function_or_method"),none,(.fields #[(b "object.__init_subclass__"),(r 44)]),#[]⟩
def Vq(P:Params):Obj:=og 13 13 (s "minortables.errors" 194) P
def Qv:Obj:=⟨z,none,.fields (fv.take 12).toArray,#[]⟩
def Nr:Obj:=⟨(t "type"),none,(.cls ⟨"MinorError",[(t "ValueError")],[(r 31),(t "ValueError"),(t "Exception"),(t "BaseException"),(t "object")],30,"MinorError",true,[],[(r 44),(r 56)],false,none,false⟩),#[some (r 22),none,some (s "MinorError" 196),some (s "MinorError" 204),some (b "ValueError.__new__"),some (.bool true)]⟩
def o47:Obj:=⟨(t "tuple"),none,(.seq #[(r 31)] 0),#[]⟩
def o48:Obj:=⟨(t "builtin_function_or_method"),none,(.fields #[(b "type.__prepare__"),(t "type")]),#[]⟩
def o49(P:Params):Obj:=⟨(t "dict"),none,(.dict #[e P "__module__" 237 (s "minortables.errors" 194),e P "__qualname__" 239 (s "NoFit" 238),e P "__firstlineno__" 241 (i 9 240),e P "__static_attributes__" 242 (r 54)] 4),#[]⟩
def o52:=c "NoFit" 232 9 0 0 50 false 181 51 z z z 235
def o53:Obj:=⟨(t "frame"),none,.plain,#[some (r 52),some (r 3),some (r 49),none,some (s "minortables.errors" 194),none,some (r 0)]⟩
def o55(P:Params):Obj:=⟨(t "dict"),none,(.dict #[e P "__module__" 237 (s "minortables.errors" 194),e P "__firstlineno__" 241 (i 9 240),e P "__static_attributes__" 242 (r 54),e P "__doc__" 243 z] 2),#[]⟩
def o56:Obj:=⟨(t "type"),none,(.cls ⟨"NoFit",[(r 31)],[(r 56),(r 31),(t "ValueError"),(t "Exception"),(t "BaseException"),(t "object")],55,"NoFit",true,[],[],false,none,false⟩),#[some (r 47),none,some (s "NoFit" 230),some (s "NoFit" 238),some (b "ValueError.__new__"),some (.bool true)]⟩
def o57:Obj:=⟨(t "super"),none,(.fields #[(r 56),(r 56),(r 56)]),#[]⟩
def o58:Obj:=⟨(t "builtin_function_or_method"),none,(.fields #[(b "object.__init_subclass__"),(r 56)]),#[]⟩
def Vp(P:Params):Obj:=og 14 14 (s "minortables.errors" 194) P
def Qu:Obj:=⟨z,none,.fields (fv.take 15).toArray,#[]⟩
def Nq:Obj:=⟨(t "type"),none,(.cls ⟨"MinorError",[(t "ValueError")],[(r 31),(t "ValueError"),(t "Exception"),(t "BaseException"),(t "object")],30,"MinorError",true,[],[(r 44),(r 56),(r 68)],false,none,false⟩),#[some (r 22),none,some (s "MinorError" 196),some (s "MinorError" 204),some (b "ValueError.__new__"),some (.bool true)]⟩
def o59:Obj:=⟨(t "tuple"),none,(.seq #[(r 31)] 0),#[]⟩
def o60:Obj:=⟨(t "builtin_function_or_method"),none,(.fields #[(b "type.__prepare__"),(t "type")]),#[]⟩
def o61(P:Params):Obj:=⟨(t "dict"),none,(.dict #[e P "__module__" 253 (s "minortables.errors" 194),e P "__qualname__" 255 (s "NoPlace" 254),e P "__firstlineno__" 257 (i 11 256),e P "__static_attributes__" 258 (r 66)] 4),#[]⟩
def o64:=c "NoPlace" 248 11 0 0 62 false 181 63 z z z 251
def o65:Obj:=⟨(t "frame"),none,.plain,#[some (r 64),some (r 3),some (r 61),none,some (s "minortables.errors" 194),none,some (r 0)]⟩
def o67(P:Params):Obj:=⟨(t "dict"),none,(.dict #[e P "__module__" 253 (s "minortables.errors" 194),e P "__firstlineno__" 257 (i 11 256),e P "__static_attributes__" 258 (r 66),e P "__doc__" 259 z] 2),#[]⟩
def o68:Obj:=⟨(t "type"),none,(.cls ⟨"NoPlace",[(r 31)],[(r 68),(r 31),(t "ValueError"),(t "Exception"),(t "BaseException"),(t "object")],67,"NoPlace",true,[],[],false,none,false⟩),#[some (r 59),none,some (s "NoPlace" 246),some (s "NoPlace" 254),some (b "ValueError.__new__"),some (.bool true)]⟩
def o69:Obj:=⟨(t "super"),none,(.fields #[(r 68),(r 68),(r 68)]),#[]⟩
def o70:Obj:=⟨(t "builtin_function_or_method"),none,(.fields #[(b "object.__init_subclass__"),(r 68)]),#[]⟩
def Vo(P:Params):Obj:=og 15 15 (s "minortables.errors" 194) P
def Qt:Obj:=⟨z,none,.fields (fv.take 18).toArray,#[]⟩
def Np:Obj:=⟨(t "type"),none,(.cls ⟨"MinorError",[(t "ValueError")],[(r 31),(t "ValueError"),(t "Exception"),(t "BaseException"),(t "object")],30,"MinorError",true,[],[(r 44),(r 56),(r 68),(r 80)],false,none,false⟩),#[some (r 22),none,some (s "MinorError" 196),some (s "MinorError" 204),some (b "ValueError.__new__"),some (.bool true)]⟩
def o71:Obj:=⟨(t "tuple"),none,(.seq #[(r 31)] 0),#[]⟩
def o72:Obj:=⟨(t "builtin_function_or_method"),none,(.fields #[(b "type.__prepare__"),(t "type")]),#[]⟩
def o73(P:Params):Obj:=⟨(t "dict"),none,(.dict #[e P "__module__" 269 (s "minortables.errors" 194),e P "__qualname__" 271 (s "NoStep" 270),e P "__firstlineno__" 273 (i 13 272),e P "__static_attributes__" 274 (r 78)] 4),#[]⟩
def o76:=c "NoStep" 264 13 0 0 74 false 181 75 z z z 267
def o77:Obj:=⟨(t "frame"),none,.plain,#[some (r 76),some (r 3),some (r 73),none,some (s "minortables.errors" 194),none,some (r 0)]⟩
def o79(P:Params):Obj:=⟨(t "dict"),none,(.dict #[e P "__module__" 269 (s "minortables.errors" 194),e P "__firstlineno__" 273 (i 13 272),e P "__static_attributes__" 274 (r 78),e P "__doc__" 275 z] 2),#[]⟩
def o80:Obj:=⟨(t "type"),none,(.cls ⟨"NoStep",[(r 31)],[(r 80),(r 31),(t "ValueError"),(t "Exception"),(t "BaseException"),(t "object")],79,"NoStep",true,[],[],false,none,false⟩),#[some (r 71),none,some (s "NoStep" 262),some (s "NoStep" 270),some (b "ValueError.__new__"),some (.bool true)]⟩
def o81:Obj:=⟨(t "super"),none,(.fields #[(r 80),(r 80),(r 80)]),#[]⟩
def o82:Obj:=⟨(t "builtin_function_or_method"),none,(.fields #[(b "object.__init_subclass__"),(r 80)]),#[]⟩
def Vn(P:Params):Obj:=og 16 16 (s "minortables.errors" 194) P
def Qs:Obj:=⟨z,none,.fields (fv.take 21).toArray,#[]⟩
def Nm:Obj:=⟨(t "type"),none,(.cls ⟨"MinorError",[(t "ValueError")],[(r 31),(t "ValueError"),(t "Exception"),(t "BaseException"),(t "object")],30,"MinorError",true,[],[(r 44),(r 56),(r 68),(r 80),(r 92)],false,none,false⟩),#[some (r 22),none,some (s "MinorError" 196),some (s "MinorError" 204),some (b "ValueError.__new__"),some (.bool true)]⟩
def o83:Obj:=⟨(t "tuple"),none,(.seq #[(r 31)] 0),#[]⟩
def o84:Obj:=⟨(t "builtin_function_or_method"),none,(.fields #[(b "type.__prepare__"),(t "type")]),#[]⟩
def o85(P:Params):Obj:=⟨(t "dict"),none,(.dict #[e P "__module__" 285 (s "minortables.errors" 194),e P "__qualname__" 287 (s "NoSteps" 286),e P "__firstlineno__" 289 (i 15 288),e P "__static_attributes__" 290 (r 90)] 4),#[]⟩
def o88:=c "NoSteps" 280 15 0 0 86 false 181 87 z z z 283
def o89:Obj:=⟨(t "frame"),none,.plain,#[some (r 88),some (r 3),some (r 85),none,some (s "minortables.errors" 194),none,some (r 0)]⟩
def o91(P:Params):Obj:=⟨(t "dict"),none,(.dict #[e P "__module__" 285 (s "minortables.errors" 194),e P "__firstlineno__" 289 (i 15 288),e P "__static_attributes__" 290 (r 90),e P "__doc__" 291 z] 2),#[]⟩
def o92:Obj:=⟨(t "type"),none,(.cls ⟨"NoSteps",[(r 31)],[(r 92),(r 31),(t "ValueError"),(t "Exception"),(t "BaseException"),(t "object")],91,"NoSteps",true,[],[],false,none,false⟩),#[some (r 83),none,some (s "NoSteps" 278),some (s "NoSteps" 286),some (b "ValueError.__new__"),some (.bool true)]⟩
def o93:Obj:=⟨(t "super"),none,(.fields #[(r 92),(r 92),(r 92)]),#[]⟩
def o94:Obj:=⟨(t "builtin_function_or_method"),none,(.fields #[(b "object.__init_subclass__"),(r 92)]),#[]⟩
def Vm(P:Params):Obj:=og 17 17 (s "minortables.errors" 194) P
def Qq:Obj:=⟨z,none,.fields (fv.take 24).toArray,#[]⟩
def Nk:Obj:=⟨(t "type"),none,(.cls ⟨"MinorError",[(t "ValueError")],[(r 31),(t "ValueError"),(t "Exception"),(t "BaseException"),(t "object")],30,"MinorError",true,[],[(r 44),(r 56),(r 68),(r 80),(r 92),(r 104)],false,none,false⟩),#[some (r 22),none,some (s "MinorError" 196),some (s "MinorError" 204),some (b "ValueError.__new__"),some (.bool true)]⟩
def o95:Obj:=⟨(t "tuple"),none,(.seq #[(r 31)] 0),#[]⟩
def o96:Obj:=⟨(t "builtin_function_or_method"),none,(.fields #[(b "type.__prepare__"),(t "type")]),#[]⟩
def o97(P:Params):Obj:=⟨(t "dict"),none,(.dict #[e P "__module__" 301 (s "minortables.errors" 194),e P "__qualname__" 303 (s "NoText" 302),e P "__firstlineno__" 305 (i 17 304),e P "__static_attributes__" 306 (r 102)] 4),#[]⟩
def o100:=c "NoText" 296 17 0 0 98 false 181 99 z z z 299
def TQ:Obj:=⟨(t "frame"),none,.plain,#[some (r 100),some (r 3),some (r 97),none,some (s "minortables.errors" 194),none,some (r 0)]⟩
def QH(P:Params):Obj:=⟨(t "dict"),none,(.dict #[e P "__module__" 301 (s "minortables.errors" 194),e P "__firstlineno__" 305 (i 17 304),e P "__static_attributes__" 306 (r 102),e P "__doc__" 307 z] 2),#[]⟩
def QG:Obj:=⟨(t "type"),none,(.cls ⟨"NoText",[(r 31)],[(r 104),(r 31),(t "ValueError"),(t "Exception"),(t "BaseException"),(t "object")],103,"NoText",true,[],[],false,none,false⟩),#[some (r 95),none,some (s "NoText" 294),some (s "NoText" 302),some (b "ValueError.__new__"),some (.bool true)]⟩
def TJ:Obj:=⟨(t "super"),none,(.fields #[(r 104),(r 104),(r 104)]),#[]⟩
def TF:Obj:=⟨(t "builtin_function_or_method"),none,(.fields #[(b "object.__init_subclass__"),(r 104)]),#[]⟩
def Vl(P:Params):Obj:=og 18 18 (s "minortables.errors" 194) P
def Qp:Obj:=⟨z,none,.fields (fv.take 27).toArray,#[]⟩
def Nj:Obj:=⟨(t "type"),none,(.cls ⟨"MinorError",[(t "ValueError")],[(r 31),(t "ValueError"),(t "Exception"),(t "BaseException"),(t "object")],30,"MinorError",true,[],[(r 44),(r 56),(r 68),(r 80),(r 92),(r 104),(r 116)],false,none,false⟩),#[some (r 22),none,some (s "MinorError" 196),some (s "MinorError" 204),some (b "ValueError.__new__"),some (.bool true)]⟩
def QF:Obj:=⟨(t "tuple"),none,(.seq #[(r 31)] 0),#[]⟩
def Tz:Obj:=⟨(t "builtin_function_or_method"),none,(.fields #[(b "type.__prepare__"),(t "type")]),#[]⟩
def Tw(P:Params):Obj:=⟨(t "dict"),none,(.dict #[e P "__module__" 317 (s "minortables.errors" 194),e P "__qualname__" 319 (s "NoName" 318),e P "__firstlineno__" 321 (i 19 320),e P "__static_attributes__" 322 (r 114)] 4),#[]⟩
def Tv:Obj:=c "NoName" 312 19 0 0 110 false 181 111 z z z 315
def Tt:Obj:=⟨(t "frame"),none,.plain,#[some (r 112),some (r 3),some (r 109),none,some (s "minortables.errors" 194),none,some (r 0)]⟩
def QD(P:Params):Obj:=⟨(t "dict"),none,(.dict #[e P "__module__" 317 (s "minortables.errors" 194),e P "__firstlineno__" 321 (i 19 320),e P "__static_attributes__" 322 (r 114),e P "__doc__" 323 z] 2),#[]⟩
def QC:Obj:=⟨(t "type"),none,(.cls ⟨"NoName",[(r 31)],[(r 116),(r 31),(t "ValueError"),(t "Exception"),(t "BaseException"),(t "object")],115,"NoName",true,[],[],false,none,false⟩),#[some (r 107),none,some (s "NoName" 310),some (s "NoName" 318),some (b "ValueError.__new__"),some (.bool true)]⟩
def Tr:Obj:=⟨(t "super"),none,(.fields #[(r 116),(r 116),(r 116)]),#[]⟩
def Tq:Obj:=⟨(t "builtin_function_or_method"),none,(.fields #[(b "object.__init_subclass__"),(r 116)]),#[]⟩
def Vk(P:Params):Obj:=og 25 25 (s "minortables.checks" 342) P
def Qo:Obj:=⟨z,none,.fields (fv.take 45).toArray,#[]⟩
def DX:Obj:=⟨(t "type"),none,(.cls ⟨"MinorError",[(t "ValueError")],[(r 31),(t "ValueError"),(t "Exception"),(t "BaseException"),(t "object")],30,"MinorError",true,[],[(r 44),(r 56),(r 68),(r 80),(r 92),(r 104),(r 116),(r 128)],false,none,false⟩),#[some (r 22),none,some (s "MinorError" 196),some (s "MinorError" 204),some (b "ValueError.__new__"),some (.bool true)]⟩
def QB:Obj:=⟨(t "tuple"),none,(.seq #[(r 31)] 0),#[]⟩
def Tp:Obj:=⟨(t "builtin_function_or_method"),none,(.fields #[(b "type.__prepare__"),(t "type")]),#[]⟩
def Tn(P:Params):Obj:=⟨(t "dict"),none,(.dict #[e P "__module__" 333 (s "minortables.errors" 194),e P "__qualname__" 335 (s "NoBack" 334),e P "__firstlineno__" 337 (i 21 336),e P "__static_attributes__" 338 (r 126)] 4),#[]⟩
def Tj:Obj:=c "NoBack" 328 21 0 0 122 false 181 123 z z z 331
def Ti:Obj:=⟨(t "frame"),none,.plain,#[some (r 124),some (r 3),some (r 121),none,some (s "minortables.errors" 194),none,some (r 0)]⟩
def Qz(P:Params):Obj:=⟨(t "dict"),none,(.dict #[e P "__module__" 333 (s "minortables.errors" 194),e P "__firstlineno__" 337 (i 21 336),e P "__static_attributes__" 338 (r 126),e P "__doc__" 339 z] 2),#[]⟩
def Qy:Obj:=⟨(t "type"),none,(.cls ⟨"NoBack",[(r 31)],[(r 128),(r 31),(t "ValueError"),(t "Exception"),(t "BaseException"),(t "object")],127,"NoBack",true,[],[],false,none,false⟩),#[some (r 119),none,some (s "NoBack" 326),some (s "NoBack" 334),some (b "ValueError.__new__"),some (.bool true)]⟩
def Tg:Obj:=⟨(t "super"),none,(.fields #[(r 128),(r 128),(r 128)]),#[]⟩
def Tf:Obj:=⟨(t "builtin_function_or_method"),none,(.fields #[(b "object.__init_subclass__"),(r 128)]),#[]⟩
def Qn:Obj:=tn ["thing"] 349
def Te:Obj:=g (d 13) "is_whole"
def Qm:Obj:=c "is_whole" 346 25 1 3 131 true 181 132 (r 133) (r 134) (r 135) 350
def Ql:Obj:=u (d 13) "is_whole" (s "minortables.checks" 342) 136
def Qk:Obj:=tn ["thing","least","most"] 356
def Td:Obj:=g (d 14) "is_whole_within"
def Qj:Obj:=c "is_whole_within" 353 27 3 3 138 true 181 139 (r 140) (r 141) (r 142) 359
def Qi:Obj:=u (d 14) "is_whole_within" (s "minortables.checks" 342) 143
def Qh:Obj:=tn ["thing"] 365
def Tc:Obj:=g (d 15) "is_short_tuple"
def Qg:Obj:=c "is_short_tuple" 362 29 1 3 145 true 181 146 (r 147) (r 148) (r 149) 366
def Qf:Obj:=u (d 15) "is_short_tuple" (s "minortables.checks" 342) 150
def SX:Obj:=g (d 16) "has_lines"
def Qe:Obj:=c "has_lines" 369 31 1 3 152 true 181 153 z z (r 154) 372
def Qd:Obj:=u (d 16) "has_lines" (s "minortables.checks" 342) 155
def Qc:Obj:=tn ["table","told","row"] 378
def SQ:Obj:=g (d 17) "numbers_of"
def Qa:Obj:=c "numbers_of" 375 35 1 3 157 true 181 158 (r 159) (r 160) (r 161) 381
def P0:Obj:=u (d 17) "numbers_of" (s "minortables.checks" 342) 162
def Lq(P:Params):Obj:=og 40 40 (s "minortables.tables" 413) P
def Iw:Obj:=⟨z,none,.fields (fv.take 87).toArray,#[]⟩
def SN:Obj:=g (d 18) "has_table_form"
def PX:Obj:=c "has_table_form" 384 40 1 3 164 true 181 165 z z (r 166) 387
def PN:Obj:=u (d 18) "has_table_form" (s "minortables.checks" 342) 167
def PL:Obj:=tn ["thing"] 393
def SM:Obj:=g (d 19) "need_table"
def PK:Obj:=c "need_table" 390 42 1 3 169 true 181 170 (r 171) (r 172) (r 173) 394
def PJ:Obj:=u (d 19) "need_table" (s "minortables.checks" 342) 174
def PB:Obj:=tn ["one","other"] 400
def SJ:Obj:=g (d 20) "need_same_size"
def Pz:Obj:=c "need_same_size" 397 45 2 3 176 true 181 177 (r 178) (r 179) (r 180) 402
def Py:Obj:=u (d 20) "need_same_size" (s "minortables.checks" 342) 181
def Px:Obj:=tn ["thing","most"] 408
def Sy:Obj:=g (d 21) "need_size"
def Pu:Obj:=c "need_size" 405 48 2 3 183 true 181 184 (r 185) (r 186) (r 187) 410
def Pr:Obj:=u (d 21) "need_size" (s "minortables.checks" 342) 188
def Sx:Obj:=g (d 24) "is_small_row"
def Pq:Obj:=c "is_small_row" 417 53 1 3 190 true 181 191 z z (r 192) 420
def Pn:Obj:=u (d 24) "is_small_row" (s "minortables.tables" 413) 193
def Sw:Obj:=g (d 25) "is_table"
def Pk:Obj:=c "is_table" 423 55 1 3 195 true 181 196 z z (r 197) 426
def Pj:Obj:=u (d 25) "is_table" (s "minortables.tables" 413) 198
def Sv:Obj:=g (d 26) "column_of"
def Ph:Obj:=c "column_of" 429 57 2 3 200 true 181 201 z z (r 202) 432
def Pb:Obj:=u (d 26) "column_of" (s "minortables.tables" 413) 203
def Ss:Obj:=g (d 27) "columns_of"
def Pa:Obj:=c "columns_of" 435 59 1 3 205 true 181 206 z z (r 207) 438
def O9:Obj:=u (d 27) "columns_of" (s "minortables.tables" 413) 208
def O8:Obj:=tn ["table"] 444
def Sq:Obj:=g (d 28) "turned"
def O7:Obj:=c "turned" 441 61 1 3 210 true 181 211 (r 212) (r 213) (r 214) 445
def O6:Obj:=u (d 28) "turned" (s "minortables.tables" 413) 215
def Sh:Obj:=g (d 29) "flipped"
def O5:Obj:=c "flipped" 448 64 1 3 217 true 181 218 z z (r 219) 451
def O4:Obj:=u (d 29) "flipped" (s "minortables.tables" 413) 220
def Sg:Obj:=g (d 30) "row_by_column"
def O2:Obj:=c "row_by_column" 454 67 2 3 222 true 181 223 z z (r 224) 457
def O1:Obj:=u (d 30) "row_by_column" (s "minortables.tables" 413) 225
def Sd:Obj:=g (d 31) "row_by_columns"
def OJ:Obj:=c "row_by_columns" 460 69 2 3 227 true 181 228 z z (r 229) 463
def OD:Obj:=u (d 31) "row_by_columns" (s "minortables.tables" 413) 230
def R9:Obj:=g (d 32) "times"
def Oz:Obj:=c "times" 466 71 2 3 232 true 181 233 z z (r 234) 469
def Ox:Obj:=u (d 32) "times" (s "minortables.tables" 413) 235
def R8:Obj:=g (d 33) "row_plus"
def Ow:Obj:=c "row_plus" 472 78 2 3 237 true 181 238 z z (r 239) 475
def Ov:Obj:=u (d 33) "row_plus" (s "minortables.tables" 413) 240
def Lp(P:Params):Obj:=og 48 48 (s "minortables.cases" 502) P
def Iv:Obj:=⟨z,none,.fields (fv.take 105).toArray,#[]⟩
def R7:Obj:=g (d 34) "plus"
def Ou:Obj:=c "plus" 478 80 2 3 242 true 181 243 z z (r 244) 481
def Ot:Obj:=u (d 34) "plus" (s "minortables.tables" 413) 245
def Oq:Obj:=tn ["one","other"] 489
def R6:Obj:=g (d 36) "set_below"
def Oo:Obj:=c "set_below" 486 86 2 3 247 true 181 248 (r 249) (r 250) (r 251) 491
def Om:Obj:=u (d 36) "set_below" (s "minortables.joining" 484) 252
def Ol:Obj:=tn ["one","other"] 497
def R5:Obj:=g (d 37) "set_beside"
def Oj:Obj:=c "set_beside" 494 93 2 3 254 true 181 255 (r 256) (r 257) (r 258) 499
def Oi:Obj:=u (d 37) "set_beside" (s "minortables.joining" 484) 259
def R4:Obj:=g (d 41) "is_name"
def Oh:Obj:=c "is_name" 508 98 1 3 261 true 181 262 z z (r 263) 511
def Og:Obj:=u (d 41) "is_name" (s "minortables.cases" 502) 264
def Oe:Obj:=tn ["thing"] 517
def R3:Obj:=g (d 42) "need_name"
def Oc:Obj:=c "need_name" 514 102 1 3 266 true 181 267 (r 268) (r 269) (r 270) 518
def Ob:Obj:=u (d 42) "need_name" (s "minortables.cases" 502) 271
def Oa:Obj:=tn ["word","one","other"] 524
def R0:Obj:=g (d 43) "joined"
def N8:Obj:=c "joined" 521 105 3 3 273 true 181 274 (r 275) (r 276) (r 277) 527
def N7:Obj:=u (d 43) "joined" (s "minortables.cases" 502) 278
def Ln(P:Params):Obj:=og 49 49 (s "minortables.cases" 502) P
def Iu:Obj:=⟨z,none,.fields (fv.take 108).toArray,#[]⟩
def RZ:Obj:=⟨(t "builtin_function_or_method"),none,(.fields #[(b "type.__prepare__"),(t "type")]),#[]⟩
def RX(P:Params):Obj:=⟨(t "dict"),none,(.dict #[e P "__module__" 537 (s "minortables.cases" 502),e P "__qualname__" 539 (s "Case" 538),e P "__firstlineno__" 541 (i 115 540),e P "__init__" 548 (r 293),e P "set_to" 557 (r 300),e P "do" 567 (r 307),e P "put" 577 (r 314),e P "table_of" 585 (r 321),e P "take" 594 (r 328),e P "join" 606 (r 335),e P "turn" 615 (r 342),e P "flip" 624 (r 349),e P "names" 631 (r 356),e P "go" 642 (r 363),e P "back" 649 (r 370),e P "forth" 656 (r 377),e P "counts" 663 (r 384),e P "twin" 670 (r 391),e P "__static_attributes__" 674 (r 392)] 19),#[]⟩
def RW:Obj:=⟨z,none,(.fields #[(i 117 0),(i 4 0),(r 292),(i 122 0),(i 4 0),(r 299),(i 128 0),(i 4 0),(r 306),(i 133 0),(i 4 0),(r 313),(i 141 0),(i 4 0),(r 320),(i 147 0),(i 4 0),(r 327),(i 152 0),(i 4 0),(r 334),(i 160 0),(i 4 0),(r 341),(i 165 0),(i 4 0),(r 348),(i 170 0),(i 4 0),(r 355),(i 173 0),(i 4 0),(r 362),(i 181 0),(i 4 0),(r 369),(i 184 0),(i 4 0),(r 376),(i 187 0),(i 4 0),(r 383),(i 190 0),(i 4 0),(r 390)]),#[]⟩
def RV:Obj:=c "Case" 532 115 0 0 283 false 181 284 z z z 535
def RT:Obj:=⟨(t "frame"),none,.plain,#[some (r 285),some (r 3),some (r 282),none,some (s "minortables.cases" 502),none,some (r 0)]⟩
def N6:Obj:=tn ["self"] 545
def RQ:Obj:=g (m 44 0) "Case.__init__"
def N5:Obj:=⟨(t "code"),none,(.fields #[(s "__init__" 542),(s "Case.__init__" 543),(s "/claim/cut.py" 544),(i 117 0),(i 1 0),(i 0 0),(i 0 0),(i 3 0),(r 287),(.bool true),(i 181 0),(r 288),z,(r 289),(r 290),(r 291),(i 546 0),(i 117 0),(s "/claim/cut.py" 547)]),#[]⟩
def NZ:Obj:=u (m 44 0) "Case.__init__" (s "minortables.cases" 502) 292
def NT:Obj:=tn ["self","name","table"] 552
def RP:Obj:=g (m 44 1) "Case.set_to"
def NQ:Obj:=⟨(t "code"),none,(.fields #[(s "set_to" 549),(s "Case.set_to" 550),(s "/claim/cut.py" 551),(i 122 0),(i 3 0),(i 0 0),(i 0 0),(i 3 0),(r 294),(.bool true),(i 181 0),(r 295),z,(r 296),(r 297),(r 298),(i 555 0),(i 122 0),(s "/claim/cut.py" 556)]),#[]⟩
def o300:=u (m 44 1) "Case.set_to" (s "minortables.cases" 502) 299
def NP:Obj:=tn ["self","word","name","table"] 561
def RN:Obj:=g (m 44 2) "Case.do"
def NK:Obj:=⟨(t "code"),none,(.fields #[(s "do" 558),(s "Case.do" 559),(s "/claim/cut.py" 560),(i 128 0),(i 4 0),(i 0 0),(i 0 0),(i 3 0),(r 301),(.bool true),(i 181 0),(r 302),z,(r 303),(r 304),(r 305),(i 565 0),(i 128 0),(s "/claim/cut.py" 566)]),#[]⟩
def Nz:Obj:=u (m 44 2) "Case.do" (s "minortables.cases" 502) 306
def Ny:Obj:=tn ["self","name","table","had"] 571
def RM:Obj:=g (m 44 3) "Case.put"
def Nx:Obj:=⟨(t "code"),none,(.fields #[(s "put" 568),(s "Case.put" 569),(s "/claim/cut.py" 570),(i 133 0),(i 3 0),(i 0 0),(i 0 0),(i 3 0),(r 308),(.bool true),(i 181 0),(r 309),z,(r 310),(r 311),(r 312),(i 575 0),(i 133 0),(s "/claim/cut.py" 576)]),#[]⟩
def Nv:Obj:=u (m 44 3) "Case.put" (s "minortables.cases" 502) 313
def Nu:Obj:=tn ["self","name"] 581
def RL:Obj:=g (m 44 4) "Case.table_of"
def Ni:Obj:=⟨(t "code"),none,(.fields #[(s "table_of" 578),(s "Case.table_of" 579),(s "/claim/cut.py" 580),(i 141 0),(i 2 0),(i 0 0),(i 0 0),(i 3 0),(r 315),(.bool true),(i 181 0),(r 316),z,(r 317),(r 318),(r 319),(i 583 0),(i 141 0),(s "/claim/cut.py" 584)]),#[]⟩
def Nh:Obj:=u (m 44 4) "Case.table_of" (s "minortables.cases" 502) 320
def Ng:Obj:=tn ["self","name","table"] 589
def RK:Obj:=g (m 44 5) "Case.take"
def Nf:Obj:=⟨(t "code"),none,(.fields #[(s "take" 586),(s "Case.take" 587),(s "/claim/cut.py" 588),(i 147 0),(i 2 0),(i 0 0),(i 0 0),(i 3 0),(r 322),(.bool true),(i 181 0),(r 323),z,(r 324),(r 325),(r 326),(i 592 0),(i 147 0),(s "/claim/cut.py" 593)]),#[]⟩
def Nb:Obj:=u (m 44 5) "Case.take" (s "minortables.cases" 502) 327
def M9:Obj:=tn ["self","name","word","one","other","table"] 598
def RJ:Obj:=g (m 44 6) "Case.join"
def M8:Obj:=⟨(t "code"),none,(.fields #[(s "join" 595),(s "Case.join" 596),(s "/claim/cut.py" 597),(i 152 0),(i 5 0),(i 0 0),(i 0 0),(i 3 0),(r 329),(.bool true),(i 181 0),(r 330),z,(r 331),(r 332),(r 333),(i 604 0),(i 152 0),(s "/claim/cut.py" 605)]),#[]⟩
def M7:Obj:=u (m 44 6) "Case.join" (s "minortables.cases" 502) 334
def MP:Obj:=tn ["self","name","table"] 610
def RG:Obj:=g (m 44 7) "Case.turn"
def MN:Obj:=⟨(t "code"),none,(.fields #[(s "turn" 607),(s "Case.turn" 608),(s "/claim/cut.py" 609),(i 160 0),(i 2 0),(i 0 0),(i 0 0),(i 3 0),(r 336),(.bool true),(i 181 0),(r 337),z,(r 338),(r 339),(r 340),(i 613 0),(i 160 0),(s "/claim/cut.py" 614)]),#[]⟩
def MJ:Obj:=u (m 44 7) "Case.turn" (s "minortables.cases" 502) 341
def Mz:Obj:=tn ["self","name","table"] 619
def RD:Obj:=g (m 44 8) "Case.flip"
def Mx:Obj:=⟨(t "code"),none,(.fields #[(s "flip" 616),(s "Case.flip" 617),(s "/claim/cut.py" 618),(i 165 0),(i 2 0),(i 0 0),(i 0 0),(i 3 0),(r 343),(.bool true),(i 181 0),(r 344),z,(r 345),(r 346),(r 347),(i 622 0),(i 165 0),(s "/claim/cut.py" 623)]),#[]⟩
def Mw:Obj:=u (m 44 8) "Case.flip" (s "minortables.cases" 502) 348
def Mv:Obj:=tn ["self"] 628
def RB:Obj:=g (m 44 9) "Case.names"
def Mu:Obj:=⟨(t "code"),none,(.fields #[(s "names" 625),(s "Case.names" 626),(s "/claim/cut.py" 627),(i 170 0),(i 1 0),(i 0 0),(i 0 0),(i 3 0),(r 350),(.bool true),(i 181 0),(r 351),z,(r 352),(r 353),(r 354),(i 629 0),(i 170 0),(s "/claim/cut.py" 630)]),#[]⟩
def Mt:Obj:=u (m 44 9) "Case.names" (s "minortables.cases" 502) 355
def Ms:Obj:=tn ["self","some","others","place","step"] 635
def Rz:Obj:=g (m 44 10) "Case.go"
def Mr:Obj:=⟨(t "code"),none,(.fields #[(s "go" 632),(s "Case.go" 633),(s "/claim/cut.py" 634),(i 173 0),(i 4 0),(i 0 0),(i 0 0),(i 3 0),(r 357),(.bool true),(i 181 0),(r 358),z,(r 359),(r 360),(r 361),(i 640 0),(i 173 0),(s "/claim/cut.py" 641)]),#[]⟩
def Mq:Obj:=u (m 44 10) "Case.go" (s "minortables.cases" 502) 362
def Mp:Obj:=tn ["self"] 646
def Ry:Obj:=g (m 44 11) "Case.back"
def Ml:Obj:=⟨(t "code"),none,(.fields #[(s "back" 643),(s "Case.back" 644),(s "/claim/cut.py" 645),(i 181 0),(i 1 0),(i 0 0),(i 0 0),(i 3 0),(r 364),(.bool true),(i 181 0),(r 365),z,(r 366),(r 367),(r 368),(i 647 0),(i 181 0),(s "/claim/cut.py" 648)]),#[]⟩
def Mj:Obj:=u (m 44 11) "Case.back" (s "minortables.cases" 502) 369
def Mi:Obj:=tn ["self"] 653
def Rx:Obj:=g (m 44 12) "Case.forth"
def Mh:Obj:=⟨(t "code"),none,(.fields #[(s "forth" 650),(s "Case.forth" 651),(s "/claim/cut.py" 652),(i 184 0),(i 1 0),(i 0 0),(i 0 0),(i 3 0),(r 371),(.bool true),(i 181 0),(r 372),z,(r 373),(r 374),(r 375),(i 654 0),(i 184 0),(s "/claim/cut.py" 655)]),#[]⟩
def o377:=u (m 44 12) "Case.forth" (s "minortables.cases" 502) 376
def Mg:Obj:=tn ["self"] 660
def Rw:Obj:=g (m 44 13) "Case.counts"
def Mf:Obj:=⟨(t "code"),none,(.fields #[(s "counts" 657),(s "Case.counts" 658),(s "/claim/cut.py" 659),(i 187 0),(i 1 0),(i 0 0),(i 0 0),(i 3 0),(r 378),(.bool true),(i 181 0),(r 379),z,(r 380),(r 381),(r 382),(i 661 0),(i 187 0),(s "/claim/cut.py" 662)]),#[]⟩
def Ma:Obj:=u (m 44 13) "Case.counts" (s "minortables.cases" 502) 383
def LR:Obj:=tn ["self"] 667
def Rv:Obj:=g (m 44 14) "Case.twin"
def LQ:Obj:=⟨(t "code"),none,(.fields #[(s "twin" 664),(s "Case.twin" 665),(s "/claim/cut.py" 666),(i 190 0),(i 1 0),(i 0 0),(i 0 0),(i 3 0),(r 385),(.bool true),(i 181 0),(r 386),z,(r 387),(r 388),(r 389),(i 668 0),(i 190 0),(s "/claim/cut.py" 669)]),#[]⟩
def LK:Obj:=u (m 44 14) "Case.twin" (s "minortables.cases" 502) 390
def Lz:Obj:=tn ["done","tables","undone"] 671
def Ly(P:Params):Obj:=⟨(t "dict"),none,(.dict #[e P "__module__" 537 (s "minortables.cases" 502),e P "__firstlineno__" 541 (i 115 540),e P "__init__" 548 (r 293),e P "set_to" 557 (r 300),e P "do" 567 (r 307),e P "put" 577 (r 314),e P "table_of" 585 (r 321),e P "take" 594 (r 328),e P "join" 606 (r 335),e P "turn" 615 (r 342),e P "flip" 624 (r 349),e P "names" 631 (r 356),e P "go" 642 (r 363),e P "back" 649 (r 370),e P "forth" 656 (r 377),e P "counts" 663 (r 384),e P "twin" 670 (r 391),e P "__static_attributes__" 674 (r 392),e P "__dict__" 676 (r 395),e P "__weakref__" 678 (r 396),e P "__doc__" 679 z] 4),#[]⟩
def Lx:Obj:=⟨(t "type"),none,(.cls ⟨"Case",[(t "object")],[(r 394),(t "object")],393,"Case",true,[],[],false,none,false⟩),#[none,none,some (s "Case" 530),some (s "Case" 538),some (b "object.__new__"),some (.bool true)]⟩
def Lw:Obj:=⟨(t "getset_descriptor"),none,(.fields #[(s "__dict__" 675),(r 394),(b "function.__dict__"),(b "function.__dict__#set")]),#[]⟩
def Lr:Obj:=⟨(t "getset_descriptor"),none,(.fields #[(s "__weakref__" 677),(r 394),(b "ExceptionGroup.__weakref__"),z]),#[]⟩
def Ru:Obj:=⟨(t "super"),none,(.fields #[(r 394),(r 394),(r 394)]),#[]⟩
def Rt:Obj:=⟨(t "builtin_function_or_method"),none,(.fields #[(b "object.__init_subclass__"),(r 394)]),#[]⟩
def DW(P:Params):Obj:=og 54 54 (s "law_minortables_k84_cases_refused" 682) P
def Bk:Obj:=⟨z,none,.fields (fv.take 123).toArray,#[]⟩
def Lk:Obj:=tn ["_law_script","_law_k"] 687
def Rr:Obj:=g (d 46) "_law_cell"
def Lj:Obj:=c "_law_cell" 684 193 2 3 399 true 181 400 (r 401) (r 402) (r 403) 689
def Li:Obj:=u (d 46) "_law_cell" (s "law_minortables_k84_cases_refused" 682) 404
def Lh:Obj:=tn ["_law_script","_law_k","_law_many","_law_drawn"] 695
def Rq:Obj:=g (d 47) "_law_pick"
def Lg:Obj:=c "_law_pick" 692 199 3 3 406 true 181 407 (r 408) (r 409) (r 410) 699
def Lf:Obj:=u (d 47) "_law_pick" (s "law_minortables_k84_cases_refused" 682) 411
def Le:Obj:=tn ["_law_kept","_law_kinds","_law_some"] 705
def Rp:Obj:=g (d 48) "_law_class"
def Ld:Obj:=c "_law_class" 702 202 1 3 413 true 181 414 (r 415) (r 416) (r 417) 708
def Lb:Obj:=u (d 48) "_law_class" (s "law_minortables_k84_cases_refused" 682) 418
def La:Obj:=tn ["_law_deed","e"] 714
def Ro:Obj:=g (d 49) "_law_told"
def K9:Obj:=c "_law_told" 711 210 1 3 420 true 181 421 (r 422) (r 423) (r 424) 716
def K8:Obj:=u (d 49) "_law_told" (s "law_minortables_k84_cases_refused" 682) 425
def K7:Obj:=tn ["_law_script","_law_odd","_law_told_here","_law_words"] 722
def K6:Obj:=tn ["_law_case","_law_gone","_law_k","_law_name","_law_other","_law_thing","_law_word"] 726
def Rn:Obj:=g (d 50) "law"
def K5:Obj:=c "law" 719 215 1 3 427 true 181 428 (r 429) (r 430) (r 431) 733
def K4:Obj:=u (d 50) "law" (s "law_minortables_k84_cases_refused" 682) 432
def Ha(P:Params):Heap:=⟨⟨[boot_o_0 P,boot_o_1 P,boot_o_2 P,boot_o_3 P,boot_o_4 P,boot_o_5 P,boot_o_6 P,boot_o_7 P,boot_o_8 P,boot_o_9 P,boot_o_10 P,y,o12,o13,o14]⟩,{}⟩
def T0(P:Params):BT:=I .nil 0 [boot_o_0 P,boot_o_1 P,boot_o_2 P,boot_o_3 P,boot_o_4 P,boot_o_5 P,boot_o_6 P,boot_o_7 P,boot_o_8 P,boot_o_9 P,boot_o_10 P,y,o12,o13,o14]
def T1(P:Params):BT:=I (T0 P) 15 [y,x,o17,y,o19,o20,o21,o22,o23,o24 P,y,x,o27,o28,y,o30 P,o31,o32,o33,o34] |>.set 3 (fun _=>Vs P) |>.set 12 (fun _=>Qx)
def T2(P:Params):BT:=I (T1 P) 35 [o35,o36,o37 P,y,x,o40,o41,y,o43 P,o44,o45,o46] |>.set 3 (fun _=>Vr P) |>.set 12 (fun _=>Qw) |>.set 31 (fun _=>Nt)
def T3(P:Params):BT:=I (T2 P) 47 [o47,o48,o49 P,y,x,o52,o53,y,o55 P,o56,o57,o58] |>.set 3 (fun _=>Vq P) |>.set 12 (fun _=>Qv) |>.set 31 (fun _=>Nr)
def T4(P:Params):BT:=I (T3 P) 59 [o59,o60,o61 P,y,x,o64,o65,y,o67 P,o68,o69,o70] |>.set 3 (fun _=>Vp P) |>.set 12 (fun _=>Qu) |>.set 31 (fun _=>Nq)
def T5(P:Params):BT:=I (T4 P) 71 [o71,o72,o73 P,y,x,o76,o77,y,o79 P,o80,o81,o82] |>.set 3 (fun _=>Vo P) |>.set 12 (fun _=>Qt) |>.set 31 (fun _=>Np)
def T6(P:Params):BT:=I (T5 P) 83 [o83,o84,o85 P,y,x,o88,o89,y,o91 P,o92,o93,o94] |>.set 3 (fun _=>Vn P) |>.set 12 (fun _=>Qs) |>.set 31 (fun _=>Nm)
def T7(P:Params):BT:=I (T6 P) 95 [o95,o96,o97 P,y,x,o100,TQ,y,QH P,QG,TJ,TF] |>.set 3 (fun _=>Vm P) |>.set 12 (fun _=>Qq) |>.set 31 (fun _=>Nk)
def T8(P:Params):BT:=I (T7 P) 107 [QF,Tz,Tw P,y,x,Tv,Tt,y,QD P,QC,Tr,Tq] |>.set 3 (fun _=>Vl P) |>.set 12 (fun _=>Qp) |>.set 31 (fun _=>Nj)
def T9(P:Params):BT:=I (T8 P) 119 [QB,Tp,Tn P,y,x,Tj,Ti,y,Qz P,Qy,Tg,Tf,y,x,Qn,y,Te,Qm,Ql,y,x,Qk,y,Td,Qj,Qi,y,x,Qh,y,Tc,Qg,Qf,y,x,SX,Qe,Qd,y,x,Qc,y,SQ,Qa,P0] |>.set 3 (fun _=>Vk P) |>.set 12 (fun _=>Qo) |>.set 31 (fun _=>DX)
def T10(P:Params):BT:=I (T9 P) 164 [y,x,SN,PX,PN,y,x,PL,y,SM,PK,PJ,y,x,PB,y,SJ,Pz,Py,y,x,Px,y,Sy,Pu,Pr,y,x,Sx,Pq,Pn,y,x,Sw,Pk,Pj,y,x,Sv,Ph,Pb,y,x,Ss,Pa,O9,y,x,O8,y,Sq,O7,O6,y,x,Sh,O5,O4,y,x,Sg,O2,O1,y,x,Sd,OJ,OD,y,x,R9,Oz,Ox,y,x,R8,Ow,Ov] |>.set 3 (fun _=>Lq P) |>.set 12 (fun _=>Iw)
def T11(P:Params):BT:=I (T10 P) 242 [y,x,R7,Ou,Ot,y,x,Oq,y,R6,Oo,Om,y,x,Ol,y,R5,Oj,Oi,y,x,R4,Oh,Og,y,x,Oe,y,R3,Oc,Ob,y,x,Oa,y,R0,N8,N7] |>.set 3 (fun _=>Lp P) |>.set 12 (fun _=>Iv)
def T12(P:Params):BT:=I (T11 P) 280 [y,RZ,RX P,y,RW,RV,RT,y,x,N6,y,RQ,N5,NZ,y,x,NT,y,RP,NQ,o300,y,x,NP,y,RN,NK,Nz,y,x,Ny,y,RM,Nx,Nv,y,x,Nu,y,RL,Ni,Nh,y,x,Ng,y,RK,Nf,Nb,y,x,M9,y,RJ,M8,M7,y,x,MP,y,RG,MN,MJ,y,x,Mz,y,RD,Mx,Mw,y,x,Mv,y,RB,Mu,Mt,y,x,Ms,y,Rz,Mr,Mq,y,x,Mp,y,Ry,Ml,Mj,y,x,Mi,y,Rx,Mh,o377,y,x,Mg,y,Rw,Mf,Ma,y,x,LR,y,Rv,LQ,LK,Lz,Ly P,Lx,Lw,Lr,Ru,Rt] |>.set 3 (fun _=>Ln P) |>.set 12 (fun _=>Iu)
def T13(P:Params):BT:=I (T12 P) 399 [y,x,Lk,y,Rr,Lj,Li,y,x,Lh,y,Rq,Lg,Lf,y,x,Le,y,Rp,Ld,Lb,y,x,La,y,Ro,K9,K8,y,x,K7,K6,Rn,K5,K4] |>.set 3 (fun _=>DW P) |>.set 12 (fun _=>Bk)
def H1(P:Params):Heap:=⟨⟨[boot_o_0 P,boot_o_1 P,boot_o_2 P,DW P,boot_o_4 P,boot_o_5 P,boot_o_6 P,boot_o_7 P,boot_o_8 P,boot_o_9 P,boot_o_10 P,y,Bk,o13,o14,y,x,o17,y,o19,o20,o21,o22,o23,o24 P,y,x,o27,o28,y,o30 P,DX,o32,o33,o34,o35,o36,o37 P,y,x,o40,o41,y,o43 P,o44,o45,o46,o47,o48,o49 P,y,x,o52,o53,y,o55 P,o56,o57,o58,o59,o60,o61 P,y,x,o64,o65,y,o67 P,o68,o69,o70,o71,o72,o73 P,y,x,o76,o77,y,o79 P,o80,o81,o82,o83,o84,o85 P,y,x,o88,o89,y,o91 P,o92,o93,o94,o95,o96,o97 P,y,x,o100,TQ,y,QH P,QG,TJ,TF,QF,Tz,Tw P,y,x,Tv,Tt,y,QD P,QC,Tr,Tq,QB,Tp,Tn P,y,x,Tj,Ti,y,Qz P,Qy,Tg,Tf,y,x,Qn,y,Te,Qm,Ql,y,x,Qk,y,Td,Qj,Qi,y,x,Qh,y,Tc,Qg,Qf,y,x,SX,Qe,Qd,y,x,Qc,y,SQ,Qa,P0,y,x,SN,PX,PN,y,x,PL,y,SM,PK,PJ,y,x,PB,y,SJ,Pz,Py,y,x,Px,y,Sy,Pu,Pr,y,x,Sx,Pq,Pn,y,x,Sw,Pk,Pj,y,x,Sv,Ph,Pb,y,x,Ss,Pa,O9,y,x,O8,y,Sq,O7,O6,y,x,Sh,O5,O4,y,x,Sg,O2,O1,y,x,Sd,OJ,OD,y,x,R9,Oz,Ox,y,x,R8,Ow,Ov,y,x,R7,Ou,Ot,y,x,Oq,y,R6,Oo,Om,y,x,Ol,y,R5,Oj,Oi,y,x,R4,Oh,Og,y,x,Oe,y,R3,Oc,Ob,y,x,Oa,y,R0,N8,N7,y,RZ,RX P,y,RW,RV,RT,y,x,N6,y,RQ,N5,NZ,y,x,NT,y,RP,NQ,o300,y,x,NP,y,RN,NK,Nz,y,x,Ny,y,RM,Nx,Nv,y,x,Nu,y,RL,Ni,Nh,y,x,Ng,y,RK,Nf,Nb,y,x,M9,y,RJ,M8,M7,y,x,MP,y,RG,MN,MJ,y,x,Mz,y,RD,Mx,Mw,y,x,Mv,y,RB,Mu,Mt,y,x,Ms,y,Rz,Mr,Mq,y,x,Mp,y,Ry,Ml,Mj,y,x,Mi,y,Rx,Mh,o377,y,x,Mg,y,Rw,Mf,Ma,y,x,LR,y,Rv,LQ,LK,Lz,Ly P,Lx,Lw,Lr,Ru,Rt,y,x,Lk,y,Rr,Lj,Li,y,x,Lh,y,Rq,Lg,Lf,y,x,Le,y,Rp,Ld,Lb,y,x,La,y,Ro,K9,K8,y,x,K7,K6,Rn,K5,K4]⟩,{}⟩
def S0(w:World)(os:OsState):SharedT:=⟨T0 w.params,15,{},⟨[]⟩,{},187,os⟩
def S1(w:World)(os:OsState):SharedT:=⟨T1 w.params,35,{},⟨[]⟩,{},214,os⟩
def S2(w:World)(os:OsState):SharedT:=⟨T2 w.params,47,{},⟨[]⟩,{},230,os⟩
def S3(w:World)(os:OsState):SharedT:=⟨T3 w.params,59,{},⟨[]⟩,{},246,os⟩
def S4(w:World)(os:OsState):SharedT:=⟨T4 w.params,71,{},⟨[]⟩,{},262,os⟩
def S5(w:World)(os:OsState):SharedT:=⟨T5 w.params,83,{},⟨[]⟩,{},278,os⟩
def S6(w:World)(os:OsState):SharedT:=⟨T6 w.params,95,{},⟨[]⟩,{},294,os⟩
def S7(w:World)(os:OsState):SharedT:=⟨T7 w.params,107,{},⟨[]⟩,{},310,os⟩
def S8(w:World)(os:OsState):SharedT:=⟨T8 w.params,119,{},⟨[]⟩,{},326,os⟩
def S9(w:World)(os:OsState):SharedT:=⟨T9 w.params,164,{},⟨[]⟩,{},384,os⟩
def S10(w:World)(os:OsState):SharedT:=⟨T10 w.params,242,{},⟨[]⟩,{},478,os⟩
def S11(w:World)(os:OsState):SharedT:=⟨T11 w.params,280,{},⟨[]⟩,{},530,os⟩
def S12(w:World)(os:OsState):SharedT:=⟨T12 w.params,399,{},⟨[]⟩,{},682,os⟩
def S13(w:World)(os:OsState):SharedT:=⟨T13 w.params,434,{},⟨[]⟩,{},736,os⟩
def S(w:World)(os:OsState):Shared:=⟨H1 w.params,⟨[]⟩,{},736,os⟩
def E:Env:={ scope:=p.main.scope,locals:=mainNs,globals:=mainNs,cells:=[],code:=(r 13),frame:=some 14 }
abbrev C:Code:=.body (behindTheImports p) E
abbrev B:List Frame:=[topFrame ⟨0,0,0,0⟩]
def l1:List Stmt:=((behindTheImports p).drop 0).take 3
def l2:List Stmt:=((behindTheImports p).drop 3).take 1
def l3:List Stmt:=((behindTheImports p).drop 4).take 1
def l4:List Stmt:=((behindTheImports p).drop 5).take 1
def l5:List Stmt:=((behindTheImports p).drop 6).take 1
def l6:List Stmt:=((behindTheImports p).drop 7).take 1
def l7:List Stmt:=((behindTheImports p).drop 8).take 1
def l8:List Stmt:=((behindTheImports p).drop 9).take 1
def l9:List Stmt:=((behindTheImports p).drop 10).take 8
def l10:List Stmt:=((behindTheImports p).drop 18).take 16
def l11:List Stmt:=((behindTheImports p).drop 34).take 10
def l12:List Stmt:=((behindTheImports p).drop 44).take 1
def l13:List Stmt:=((behindTheImports p).drop 45).take 6
theorem pre(w:World)(os:OsState):topGo treeTable p w 11 (some (r 6)) 12 ⟨boot_heap w.params,Array.mk [],boot_drawn,boot_toks,os⟩ (topStub p)=some (⟨Ha w.params,⟨[]⟩,{},187,os⟩,⟨denote treeTable C,C,⟨0,0,0,0⟩,B⟩):=goT (by rfl')
theorem blk(w:World)(os:OsState):segRun treeTable p w 11 (some (r 6)) 1 1 ⟨Ha w.params,⟨[]⟩,{},187,os⟩ (blockOf (behindTheImports p) E C ⟨0,0,0,0⟩ B)=some (.next,(S0 w os).abs,C,⟨0,0,0,0⟩):=U7 (by rfl')
theorem p1(w:World)(os:OsState):segRun treeTable p w 11 (some (r 6)) 1 225 (S0 w os).abs (piecesOf l1 E C ⟨0,0,0,0⟩ B)=some (.next,(S1 w os).abs,C,⟨5,0,6,8⟩):=Y4z (rT (by rfl'))
theorem p2(w:World)(os:OsState):segRun treeTable p w 11 (some (r 6)) 1 214 (S1 w os).abs (piecesOf l2 E C ⟨5,0,6,8⟩ B)=some (.next,(S2 w os).abs,C,⟨7,0,8,8⟩):=Y4z (rT (by rfl'))
theorem p3(w:World)(os:OsState):segRun treeTable p w 11 (some (r 6)) 1 214 (S2 w os).abs (piecesOf l3 E C ⟨7,0,8,8⟩ B)=some (.next,(S3 w os).abs,C,⟨9,0,10,8⟩):=Y4z (rT (by rfl'))
theorem p4(w:World)(os:OsState):segRun treeTable p w 11 (some (r 6)) 1 214 (S3 w os).abs (piecesOf l4 E C ⟨9,0,10,8⟩ B)=some (.next,(S4 w os).abs,C,⟨11,0,12,8⟩):=Y4z (rT (by rfl'))
theorem p5(w:World)(os:OsState):segRun treeTable p w 11 (some (r 6)) 1 214 (S4 w os).abs (piecesOf l5 E C ⟨11,0,12,8⟩ B)=some (.next,(S5 w os).abs,C,⟨13,0,14,8⟩):=Y4z (rT (by rfl'))
theorem p6(w:World)(os:OsState):segRun treeTable p w 11 (some (r 6)) 1 214 (S5 w os).abs (piecesOf l6 E C ⟨13,0,14,8⟩ B)=some (.next,(S6 w os).abs,C,⟨15,0,16,8⟩):=Y4z (rT (by rfl'))
theorem p7(w:World)(os:OsState):segRun treeTable p w 11 (some (r 6)) 1 214 (S6 w os).abs (piecesOf l7 E C ⟨15,0,16,8⟩ B)=some (.next,(S7 w os).abs,C,⟨17,0,18,8⟩):=Y4z (rT (by rfl'))
theorem p8(w:World)(os:OsState):segRun treeTable p w 11 (some (r 6)) 1 214 (S7 w os).abs (piecesOf l8 E C ⟨17,0,18,8⟩ B)=some (.next,(S8 w os).abs,C,⟨19,0,20,8⟩):=Y4z (rT (by rfl'))
theorem p9(w:World)(os:OsState):segRun treeTable p w 11 (some (r 6)) 1 378 (S8 w os).abs (piecesOf l9 E C ⟨19,0,20,8⟩ B)=some (.next,(S9 w os).abs,C,⟨35,0,39,15⟩):=Y4z (rT (by rfl'))
theorem p10(w:World)(os:OsState):segRun treeTable p w 11 (some (r 6)) 1 397 (S9 w os).abs (piecesOf l10 E C ⟨35,0,39,15⟩ B)=some (.next,(S10 w os).abs,C,⟨78,0,79,69⟩):=Y4z (rT (by rfl'))
theorem p11(w:World)(os:OsState):segRun treeTable p w 11 (some (r 6)) 1 209 (S10 w os).abs (piecesOf l11 E C ⟨78,0,79,69⟩ B)=some (.next,(S11 w os).abs,C,⟨105,0,114,37⟩):=Y4z (rT (by rfl'))
theorem p12(w:World)(os:OsState):segRun treeTable p w 11 (some (r 6)) 1 682 (S11 w os).abs (piecesOf l12 E C ⟨105,0,114,37⟩ B)=some (.next,(S12 w os).abs,C,⟨115,0,191,16⟩):=Y4z (rT (by rfl'))
theorem p13(w:World)(os:OsState):segRun treeTable p w 11 (some (r 6)) 1 172 (S12 w os).abs (piecesOf l13 E C ⟨115,0,191,16⟩ B)=some (.next,(S13 w os).abs,C,⟨215,0,247,127⟩):=Y4z (rT (by rfl'))
theorem fin(w:World)(os:OsState):topRun treeTable p w 11 (some (r 6)) 2 (S13 w os).abs ⟨doneF .next,C,⟨215,0,247,127⟩,B⟩=some (S w os):=Uo (by rfl')
abbrev M:Nat:=(12+(1+(225+(214+(214+(214+(214+(214+(214+(214+(378+(397+(209+(682+(172+2)))))))))))))))
theorem lst:behindTheImports p=(l1++(l2++(l3++(l4++(l5++(l6++(l7++(l8++(l9++(l10++(l11++(l12++(l13++[]))))))))))))):=by rfl'
theorem r13(w:World)(os:OsState):topRun treeTable p w 11 (some (r 6)) 2 (S13 w os).abs (restOf [] E C ⟨215,0,247,127⟩ B)=some (S w os):=fin w os
theorem r12(w:World)(os:OsState):topRun treeTable p w 11 (some (r 6)) (172+2) (S12 w os).abs (restOf (l13++[]) E C ⟨115,0,191,16⟩ B)=some (S w os):=Z4z (p13 w os) (r13 w os)
theorem r11(w:World)(os:OsState):topRun treeTable p w 11 (some (r 6)) (682+(172+2)) (S11 w os).abs (restOf (l12++(l13++[])) E C ⟨105,0,114,37⟩ B)=some (S w os):=Z4z (p12 w os) (r12 w os)
theorem r10(w:World)(os:OsState):topRun treeTable p w 11 (some (r 6)) (209+(682+(172+2))) (S10 w os).abs (restOf (l11++(l12++(l13++[]))) E C ⟨78,0,79,69⟩ B)=some (S w os):=Z4z (p11 w os) (r11 w os)
theorem r9(w:World)(os:OsState):topRun treeTable p w 11 (some (r 6)) (397+(209+(682+(172+2)))) (S9 w os).abs (restOf (l10++(l11++(l12++(l13++[])))) E C ⟨35,0,39,15⟩ B)=some (S w os):=Z4z (p10 w os) (r10 w os)
theorem r8(w:World)(os:OsState):topRun treeTable p w 11 (some (r 6)) (378+(397+(209+(682+(172+2))))) (S8 w os).abs (restOf (l9++(l10++(l11++(l12++(l13++[]))))) E C ⟨19,0,20,8⟩ B)=some (S w os):=Z4z (p9 w os) (r9 w os)
theorem r7(w:World)(os:OsState):topRun treeTable p w 11 (some (r 6)) (214+(378+(397+(209+(682+(172+2)))))) (S7 w os).abs (restOf (l8++(l9++(l10++(l11++(l12++(l13++[])))))) E C ⟨17,0,18,8⟩ B)=some (S w os):=Z4z (p8 w os) (r8 w os)
theorem r6(w:World)(os:OsState):topRun treeTable p w 11 (some (r 6)) (214+(214+(378+(397+(209+(682+(172+2))))))) (S6 w os).abs (restOf (l7++(l8++(l9++(l10++(l11++(l12++(l13++[]))))))) E C ⟨15,0,16,8⟩ B)=some (S w os):=Z4z (p7 w os) (r7 w os)
theorem r5(w:World)(os:OsState):topRun treeTable p w 11 (some (r 6)) (214+(214+(214+(378+(397+(209+(682+(172+2)))))))) (S5 w os).abs (restOf (l6++(l7++(l8++(l9++(l10++(l11++(l12++(l13++[])))))))) E C ⟨13,0,14,8⟩ B)=some (S w os):=Z4z (p6 w os) (r6 w os)
theorem r4(w:World)(os:OsState):topRun treeTable p w 11 (some (r 6)) (214+(214+(214+(214+(378+(397+(209+(682+(172+2))))))))) (S4 w os).abs (restOf (l5++(l6++(l7++(l8++(l9++(l10++(l11++(l12++(l13++[]))))))))) E C ⟨11,0,12,8⟩ B)=some (S w os):=Z4z (p5 w os) (r5 w os)
theorem r3(w:World)(os:OsState):topRun treeTable p w 11 (some (r 6)) (214+(214+(214+(214+(214+(378+(397+(209+(682+(172+2)))))))))) (S3 w os).abs (restOf (l4++(l5++(l6++(l7++(l8++(l9++(l10++(l11++(l12++(l13++[])))))))))) E C ⟨9,0,10,8⟩ B)=some (S w os):=Z4z (p4 w os) (r4 w os)
theorem r2(w:World)(os:OsState):topRun treeTable p w 11 (some (r 6)) (214+(214+(214+(214+(214+(214+(378+(397+(209+(682+(172+2))))))))))) (S2 w os).abs (restOf (l3++(l4++(l5++(l6++(l7++(l8++(l9++(l10++(l11++(l12++(l13++[]))))))))))) E C ⟨7,0,8,8⟩ B)=some (S w os):=Z4z (p3 w os) (r3 w os)
theorem r1(w:World)(os:OsState):topRun treeTable p w 11 (some (r 6)) (214+(214+(214+(214+(214+(214+(214+(378+(397+(209+(682+(172+2)))))))))))) (S1 w os).abs (restOf (l2++(l3++(l4++(l5++(l6++(l7++(l8++(l9++(l10++(l11++(l12++(l13++[])))))))))))) E C ⟨5,0,6,8⟩ B)=some (S w os):=Z4z (p2 w os) (r2 w os)
theorem r0(w:World)(os:OsState):topRun treeTable p w 11 (some (r 6)) (225+(214+(214+(214+(214+(214+(214+(214+(378+(397+(209+(682+(172+2))))))))))))) (S0 w os).abs (restOf (l1++(l2++(l3++(l4++(l5++(l6++(l7++(l8++(l9++(l10++(l11++(l12++(l13++[]))))))))))))) E C ⟨0,0,0,0⟩ B)=some (S w os):=Z4z (p1 w os) (r1 w os)
theorem run(w:World)(os:OsState):topRun treeTable p w 11 (some (r 6)) M ⟨boot_heap w.params,Array.mk [],boot_drawn,boot_toks,os⟩ (topStub p)=some (S w os):=go_top (pre w os) (piece_block (blk w os) (Kr lst (r0 w os)))
def K(P:Params):Frag:=[(2,boot_o_2 P),(3,DW P),(15,y),(17,o17),(18,y),(20,o20),(21,o21),(22,o22),(29,y),(30,o30 P),(31,DX),(32,o32),(35,o35),(42,y),(43,o43 P),(44,o44),(47,o47),(54,y),(55,o55 P),(56,o56),(59,o59),(66,y),(67,o67 P),(68,o68),(71,o71),(78,y),(79,o79 P),(80,o80),(83,o83),(90,y),(91,o91 P),(92,o92),(95,o95),(102,y),(103,QH P),(104,QG),(107,QF),(114,y),(115,QD P),(116,QC),(119,QB),(126,y),(127,Qz P),(128,Qy),(131,y),(133,Qn),(134,y),(136,Qm),(137,Ql),(138,y),(140,Qk),(141,y),(143,Qj),(144,Qi),(145,y),(147,Qh),(148,y),(150,Qg),(151,Qf),(152,y),(155,Qe),(156,Qd),(157,y),(159,Qc),(160,y),(162,Qa),(163,P0),(164,y),(167,PX),(168,PN),(169,y),(171,PL),(172,y),(174,PK),(175,PJ),(176,y),(178,PB),(179,y),(181,Pz),(182,Py),(183,y),(185,Px),(186,y),(188,Pu),(189,Pr),(190,y),(193,Pq),(194,Pn),(195,y),(198,Pk),(199,Pj),(200,y),(203,Ph),(204,Pb),(205,y),(208,Pa),(209,O9),(210,y),(212,O8),(213,y),(215,O7),(216,O6),(217,y),(220,O5),(221,O4),(222,y),(225,O2),(226,O1),(227,y),(230,OJ),(231,OD),(232,y),(235,Oz),(236,Ox),(237,y),(240,Ow),(241,Ov),(242,y),(245,Ou),(246,Ot),(247,y),(249,Oq),(250,y),(252,Oo),(253,Om),(254,y),(256,Ol),(257,y),(259,Oj),(260,Oi),(261,y),(264,Oh),(265,Og),(266,y),(268,Oe),(269,y),(271,Oc),(272,Ob),(273,y),(275,Oa),(276,y),(278,N8),(279,N7),(287,y),(289,N6),(290,y),(292,N5),(293,NZ),(294,y),(296,NT),(297,y),(299,NQ),(300,o300),(301,y),(303,NP),(304,y),(306,NK),(307,Nz),(308,y),(310,Ny),(311,y),(313,Nx),(314,Nv),(315,y),(317,Nu),(318,y),(320,Ni),(321,Nh),(322,y),(324,Ng),(325,y),(327,Nf),(328,Nb),(329,y),(331,M9),(332,y),(334,M8),(335,M7),(336,y),(338,MP),(339,y),(341,MN),(342,MJ),(343,y),(345,Mz),(346,y),(348,Mx),(349,Mw),(350,y),(352,Mv),(353,y),(355,Mu),(356,Mt),(357,y),(359,Ms),(360,y),(362,Mr),(363,Mq),(364,y),(366,Mp),(367,y),(369,Ml),(370,Mj),(371,y),(373,Mi),(374,y),(376,Mh),(377,o377),(378,y),(380,Mg),(381,y),(383,Mf),(384,Ma),(385,y),(387,LR),(388,y),(390,LQ),(391,LK),(392,Lz),(393,Ly P),(394,Lx),(395,Lw),(396,Lr),(399,y),(401,Lk),(402,y),(404,Lj),(405,Li),(406,y),(408,Lh),(409,y),(411,Lg),(412,Lf),(413,y),(415,Le),(416,y),(418,Ld),(419,Lb),(420,y),(422,La),(423,y),(425,K9),(426,K8),(427,y),(429,K7),(430,K6),(432,K5),(433,K4)]
def KT(P:Params):Frag:=K P++[(428,x)]
noncomputable abbrev as:List Addr:=[2,3,15,17,18,20,21,22,29,30,31,32,35,42,43,44,47,54,55,56,59,66,67,68,71,78,79,80,83,90,91,92,95,102,103,104,107,114,115,116,119,126,127,128,131,133,134,136,137,138,140,141,143,144,145,147,148,150,151,152,155,156,157,159,160,162,163,164,167,168,169,171,172,174,175,176,178,179,181,182,183,185,186,188,189,190,193,194,195,198,199,200,203,204,205,208,209,210,212,213,215,216,217,220,221,222,225,226,227,230,231,232,235,236,237,240,241,242,245,246,247,249,250,252,253,254,256,257,259,260,261,264,265,266,268,269,271,272,273,275,276,278,279,287,289,290,292,293,294,296,297,299,300,301,303,304,306,307,308,310,311,313,314,315,317,318,320,321,322,324,325,327,328,329,331,332,334,335,336,338,339,341,342,343,345,346,348,349,350,352,353,355,356,357,359,360,362,363,364,366,367,369,370,371,373,374,376,377,378,380,381,383,384,385,387,388,390,391,392,393,394,395,396,399,401,402,404,405,406,408,409,411,412,413,415,416,418,419,420,422,423,425,426,427,429,430,432,433,428]
abbrev m0:Nat:=11
abbrev tk:Nat:=736
abbrev ann:Option Value:=(some (r 6))
def Xt(s:Shared):Bool:=xlAt q [] s&&recOk PySem.Challenge.rw_minortables_k84_cases_refused.row.toRowW.records s
theorem lk0(w:World)(os:OsState):(staticsOk (importedModules p.main.body) (boot_heap w.params) (H1 w.params)&&namesBound p (H1 w.params)&&gensDone (S w os)&&laidKept (boot_heap w.params) (H1 w.params))=true:=by
 rw[Fast.te5923862056798008813];rfl'
theorem lk1(w:World)(os:OsState):PyProof.Rows.seen ((PyProof.Rows.recsOf q).map (·.name)) (PyProof.Rows.ownsOf q) [] { S w os with gens := #[] }=PyProof.Rows.expectedOf q:=by
 rw[Fast.te5160383126252970620,Fast.te3399658132070893891,Fast.te5991557255702980513];rfl'
theorem lk2(w:World)(os:OsState):(S w os).heap.bltView=bltViewBooted:=by rfl'
theorem lk3(w:World)(os:OsState):((S w os).heap.keysOk (looseW q lo) ((PyProof.Rows.recsOf q).map (·.name)) ((PyProof.Rows.litsOf q).map (·.1)) ((PyProof.Rows.clssOf q (looseW q lo)).map (·.name))&&(S w os).heap.accountedOkI (importedModules p.main.body)&&(S w os).heap.isNs mainGlobals&&(S w os).heap.isNs builtinsNs&&PyProof.Rows.tablesOk q (S w os).heap&&Xt (S w os)&&(if true then(S w os).gens.size==0 else !leftWithCleanup (S w os).gens))=true:=by
 rw[Fast.te10880121769531294198,Fast.te821141287760084731,Fast.te3399658132070893891,Fast.te7409074990110511671,Fast.te13664370479719496447,Fast.te14722251495701143533,Fast.te5923862056798008813];rfl'
theorem lk4(w:World)(os:OsState):PyProof.Rows.tabsOk q (S w os)=true:=by rw[Fast.te479339242167458305];rfl'
theorem lk5(w:World)(os:OsState):pinSeenD q (PyProof.Rows.drecsOf q) (S w os)=pinGoodD (PyProof.Rows.drecsOf q):=by rw[Fast.te16090120013241838585,Fast.te3247288618530077131];rfl'
theorem lk6(w:World)(os:OsState):PyProof.Rows.plainSeenE q (looseW q lo) (S w os)=PyProof.Rows.plainGoodE q (looseW q lo):=by rw[Fast.te2386780881361962483,Fast.te821141287760084731];rfl'
theorem lk7(w:World)(os:OsState):PyProof.Rows.plainSeenD q lo (S w os)=PyProof.Rows.plainGoodD q lo:=by rw[Fast.te11698064438423848299];rfl'
theorem lk8(w:World)(os:OsState):wideSeen q (S w os)=wideGood q:=by rw[Fast.te7317090234206586261];rfl'
theorem lk9(w:World)(os:OsState):clsSeenW q lo (S w os)=clsGoodW q lo:=by rw[Fast.te7369524293546568484];rfl'
theorem asK(P:Params):as=(KT P).map (·.1):=by rfl'
abbrev H:Hook:=kHook KT as asK
theorem lkY(w:World)(os:OsState):H.obs (S w os)=H.val w:=by rfl'
theorem looks(w:World):(fun os=>((staticsOk (importedModules p.main.body) (boot_heap w.params) (H1 w.params)&&namesBound p (H1 w.params)&&gensDone (S w os)&&laidKept (boot_heap w.params) (H1 w.params)),openSeen q lo (importedModules p.main.body) Xt true (S w os),H.obs (S w os)))=fun _=>(true,openGood q lo,H.val w) :=
 funext fun os=>X4z (lk0 w os) (X4z (X4z (lk1 w os) (X4z (lk2 w os) (X4z (lk3 w os) (X4z (lk4 w os) (X4z (lk5 w os) (X4z (lk6 w os) (X4z (lk7 w os) (X4z (lk8 w os) (lk9 w os))))))))) (lkY w os))
theorem size(w:World):((boot_heap w.params).isNs mainGlobals&&(Array.mk ([]:List GenState)).size==0,(boot_heap w.params).objs.size,(boot_heap w.params).nsMap mainGlobals "__annotations__")=(true,m0,ann):=by
 rw[Fast.te8920871248978507458];rfl'
theorem bt(w:World):(fencedOpening treeTable p w N).map (fun s=>(s.heap,s.gens,s.drawn,s.toks))=some (boot_heap w.params,Array.mk [],boot_drawn,boot_toks) :=
 boot_open (p:=p) (N:=N) (by rfl') (by rfl') (fun _=>rfl) w
theorem left:LeftO p q lo Xt H.obs H.val N :=
 LeftO.of_pieces (H₀:=boot_heap) (H₁:=H1) (m₀:=m0) (ann:=ann) (M:=M) (gs₀:=Array.mk []) (gs₁:=⟨[]⟩) (d₀:=boot_drawn) (d₁:={}) (k₀:=boot_toks) (k₁:=tk) bt size run (by rfl') looks
abbrev R:OpenLaw:=PySem.Challenge.rw_minortables_k84_cases_refused
theorem said:R.wellSaid=true:=by rw[Fast.te9446332074065402090];rfl'
def dr:DefRec:=match d 50 with | .FunctionDef n a l _ _ _ sc _ _ o=>⟨n,a,l,sc,o⟩ | _=>⟨"",default,[],default,⟨0,0,0,0⟩⟩
theorem hdef:defOf q R.row.name=some (dr,[]):=by rfl'
theorem hthe:R.row.prog.theDef R.row.name=some (dr.params,dr.body,dr.scope):=by rfl'
theorem hkw:kwWritten? dr.params.kwonlyargs dr.params.kw_defaults=some []:=by rfl'
theorem hok:(chainsOk q&&opensWell R.row.prog&&(frees R.row.toRowW&&R.row.within.isEmpty))=true:=by rfl'
theorem hbare:R.row.prog.bare:=⟨rfl,rfl,rfl,rfl,rfl,by rfl'⟩
theorem VF:R.row.toRowW.promised:=⟨[.list []],by rfl',by rfl'⟩
theorem holds(call:WalkO q lo (XL q []) H.says R.row.toRowW dr [] fun f vs=>PySem.call f vs):R.Holds :=
 holds_law said fun k1=>holds_open (r:=R.row) (q:=q) (loose:=lo) (Xt:=Xt) (XP:=XL q []) (Yf:=H.obs) (Ya:=H.val) (YP:=H.says) (N:=N) left H.of H.keeps (fun s e=>xl_of s (Bool.and_eq_true_iff.mp e).1) XL.keeps hdef hthe hkw (fun s e=>recFacts_of (Bool.and_eq_true_iff.mp e).2) rfl k1 hok hbare VF call
end H84
end
namespace M84
open PySem PySem.W L2 DE
set_option maxHeartbeats 0 in
theorem txt(w:World){mg:Str->Option Value}{h:Heap}(X:(H84.K w.params).In h)(G:h.Ns mainGlobals mg):Text w (H84.K w.params) mg T :=
  ⟨in_of (l:=cs) (Q:=fun(x:Str) (d:D)=>∃ v u,(∀ H',Rep (H84.K w.params) H' d v)/\mg x=some u/\RelV v u) (aC (cA X G 344 (by rfl')) (aC (cA X G 415 (by rfl')) (aC (cS X G 504 (by rfl')) (aC (cA X G 506 (by rfl')) (aN))))),
    in_of (l:=bl) (Q:=fun x b=>mg x=none/\x=Str.ofString b) (aC (bA X G (by rfl') rfl) (aC (bA X G (by rfl') rfl) (aC (bA X G (by rfl') rfl) (aC (bA X G (by rfl') rfl) (aC (bA X G (by rfl') rfl) (aC (bA X G (by rfl') rfl) (aC (bA X G (by rfl') rfl) (aC (bA X G (by rfl') rfl) (aC (bA X G (by rfl') rfl) (aC (bA X G (by rfl') rfl) (aC (bA X G (by rfl') rfl) (aC (bA X G (by rfl') rfl) (aC (bA X G (by rfl') rfl) (aN)))))))))))))),
    in_of (l:=df) (Q:=fun x fd=>FunAt (H84.K w.params) mg x fd) (
     aC (aY X G 137 .none (.str "minortables.checks" 342) (.ref 136) b13 (by rfl') (by rfl') (by rfl')) (
     aC (aY X G 144 .none (.str "minortables.checks" 342) (.ref 143) b14 (by rfl') (by rfl') (by rfl')) (
     aC (aY X G 151 .none (.str "minortables.checks" 342) (.ref 150) b15 (by rfl') (by rfl') (by rfl')) (
     aC (aY X G 156 .none (.str "minortables.checks" 342) (.ref 155) b16 (by rfl') (by rfl') (by rfl')) (
     aC (aY X G 163 .none (.str "minortables.checks" 342) (.ref 162) b17 (by rfl') (by rfl') (by rfl')) (
     aC (aY X G 168 .none (.str "minortables.checks" 342) (.ref 167) b18 (by rfl') (by rfl') (by rfl')) (
     aC (aY X G 175 .none (.str "minortables.checks" 342) (.ref 174) b19 (by rfl') (by rfl') (by rfl')) (
     aC (aY X G 182 .none (.str "minortables.checks" 342) (.ref 181) b20 (by rfl') (by rfl') (by rfl')) (
     aC (aY X G 189 .none (.str "minortables.checks" 342) (.ref 188) b21 (by rfl') (by rfl') (by rfl')) (
     aC (aY X G 194 .none (.str "minortables.tables" 413) (.ref 193) b24 (by rfl') (by rfl') (by rfl')) (
     aC (aY X G 199 .none (.str "minortables.tables" 413) (.ref 198) b25 (by rfl') (by rfl') (by rfl')) (
     aC (aY X G 204 .none (.str "minortables.tables" 413) (.ref 203) b26 (by rfl') (by rfl') (by rfl')) (
     aC (aY X G 209 .none (.str "minortables.tables" 413) (.ref 208) b27 (by rfl') (by rfl') (by rfl')) (
     aC (aY X G 216 .none (.str "minortables.tables" 413) (.ref 215) b28 (by rfl') (by rfl') (by rfl')) (
     aC (aY X G 221 .none (.str "minortables.tables" 413) (.ref 220) b29 (by rfl') (by rfl') (by rfl')) (
     aC (aY X G 226 .none (.str "minortables.tables" 413) (.ref 225) b30 (by rfl') (by rfl') (by rfl')) (
     aC (aY X G 231 .none (.str "minortables.tables" 413) (.ref 230) b31 (by rfl') (by rfl') (by rfl')) (
     aC (aY X G 236 .none (.str "minortables.tables" 413) (.ref 235) b32 (by rfl') (by rfl') (by rfl')) (
     aC (aY X G 241 .none (.str "minortables.tables" 413) (.ref 240) b33 (by rfl') (by rfl') (by rfl')) (
     aC (aY X G 246 .none (.str "minortables.tables" 413) (.ref 245) b34 (by rfl') (by rfl') (by rfl')) (
     aC (aY X G 253 .none (.str "minortables.joining" 484) (.ref 252) b36 (by rfl') (by rfl') (by rfl')) (
     aC (aY X G 260 .none (.str "minortables.joining" 484) (.ref 259) b37 (by rfl') (by rfl') (by rfl')) (
     aC (aY X G 265 .none (.str "minortables.cases" 502) (.ref 264) b41 (by rfl') (by rfl') (by rfl')) (
     aC (aY X G 272 .none (.str "minortables.cases" 502) (.ref 271) b42 (by rfl') (by rfl') (by rfl')) (
     aC (aY X G 279 .none (.str "minortables.cases" 502) (.ref 278) b43 (by rfl') (by rfl') (by rfl')) (
     aC (aY X G 405 .none (.str "law_minortables_k84_cases_refused" 682) (.ref 404) b46 (by rfl') (by rfl') (by rfl')) (
     aC (aY X G 412 .none (.str "law_minortables_k84_cases_refused" 682) (.ref 411) b47 (by rfl') (by rfl') (by rfl')) (
     aC (aY X G 419 .none (.str "law_minortables_k84_cases_refused" 682) (.ref 418) b48 (by rfl') (by rfl') (by rfl')) (
     aC (aY X G 426 .none (.str "law_minortables_k84_cases_refused" 682) (.ref 425) b49 (by rfl') (by rfl') (by rfl')) (
     aC (aY X G 433 .none (.str "law_minortables_k84_cases_refused" 682) (.ref 432) b50 (by rfl') (by rfl') (by rfl')) (
     aN))))))))))))))))))))))))))))))),XText.of (fun x v h=>D4z X G h) (by rfl'),by show List.map _ _=List.map _ _;rfl'⟩
set_option maxHeartbeats 0 in
theorem cas(w:World){mg:Str->Option Value}{h:Heap}(X:(H84.K w.params).In h)(G:h.Ns mainGlobals mg):CaseTxt (H84.K w.params) mg 394 :=
 ⟨⟨⟨(by rfl'),(by rfl'),(by rfl'),(by rfl')⟩,by show findIn _ _ _=_;rfl',by show findIn _ _ _=_;rfl',by show findIn _ _ _=_;rfl',D4z X G (by rfl')⟩,
  gK 300 (.str "minortables.cases" 502) (.ref 299) (by rfl') (by rfl') (by rfl') (by rfl') (by rfl'),
  gK 307 (.str "minortables.cases" 502) (.ref 306) (by rfl') (by rfl') (by rfl') (by rfl') (by rfl'),
  gK 314 (.str "minortables.cases" 502) (.ref 313) (by rfl') (by rfl') (by rfl') (by rfl') (by rfl'),
  gK 321 (.str "minortables.cases" 502) (.ref 320) (by rfl') (by rfl') (by rfl') (by rfl') (by rfl'),
  gK 328 (.str "minortables.cases" 502) (.ref 327) (by rfl') (by rfl') (by rfl') (by rfl') (by rfl'),
  gK 335 (.str "minortables.cases" 502) (.ref 334) (by rfl') (by rfl') (by rfl') (by rfl') (by rfl'),
  gK 342 (.str "minortables.cases" 502) (.ref 341) (by rfl') (by rfl') (by rfl') (by rfl') (by rfl'),
  gK 349 (.str "minortables.cases" 502) (.ref 348) (by rfl') (by rfl') (by rfl') (by rfl') (by rfl'),
  gK 356 (.str "minortables.cases" 502) (.ref 355) (by rfl') (by rfl') (by rfl') (by rfl') (by rfl'),
  gK 363 (.str "minortables.cases" 502) (.ref 362) (by rfl') (by rfl') (by rfl') (by rfl') (by rfl'),
  gK 370 (.str "minortables.cases" 502) (.ref 369) (by rfl') (by rfl') (by rfl') (by rfl') (by rfl'),
  gK 377 (.str "minortables.cases" 502) (.ref 376) (by rfl') (by rfl') (by rfl') (by rfl') (by rfl'),
  gK 384 (.str "minortables.cases" 502) (.ref 383) (by rfl') (by rfl') (by rfl') (by rfl') (by rfl')⟩
end M84
namespace H84
open PySem PySem.W
theorem Vt(P:Params):(K P).lookup 428=none:=by rfl'
theorem inT{P:Params}{h:Heap}(X:(KT P).In h):(K P).In h/\h.get? 428=some (tabObj #[]):=by
 refine⟨fun b o e=>X b o ?_,X 428 _ ?_⟩
 ·unfold KT
  rw[List.lookup_append,e];rfl
 ·unfold KT
  rw[List.lookup_append,Vt];rfl
end H84
open PySem PySem.W PyProof.Rows
set_option maxRecDepth 100000 in
set_option maxHeartbeats 0 in
theorem PySem.Challenge.cw_minortables_k84_cases_refused_holds : PySem.Challenge.rw_minortables_k84_cases_refused.Holds :=
 H84.holds (L2.walkL (l := PySem.Challenge.rw_minortables_k84_cases_refused) (k := 40) (K := H84.K) (x := "_law_script") (c := 432) (Pt := 428) rfl (by rfl') ⟨rfl, by decide, by decide⟩ (fun w h Y => H84.inT (PySem.W.kIn_of (e := H84.asK) Y)) (fun P => by rfl') (fun P => by rfl') fun w mg fa h KX G hmg => M84.finL (fI := 293) (M84.txt w KX G) (M84.cas w KX G) ⟨by rfl', by rfl', by rfl', by rfl'⟩ (L2.fun_mk (f := 293) (oc := .type "function") (od := none) (osl := #[]) (kV := .none) (doc := .none) (pm := (.str "minortables.cases" 502)) (cdv := .ref 292) (ct := .none) (an := none) (by rfl') (by rfl') (by rfl')) KX G hmg 433 432 428 .none (.str "law_minortables_k84_cases_refused" 682) (by rfl') (by rfl') (by rfl'))
#print axioms PySem.Challenge.cw_minortables_k84_cases_refused_holds
