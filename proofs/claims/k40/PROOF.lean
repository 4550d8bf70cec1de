import PyProof.Rows.All
import Wide.All
import OpenK.AllK
import Wide.FinOn
import Lean
import PyProof.EqAt
import PyProof.EqKinds
import PyProof.TupleCall
import PyProof.ListRange
import KE.KSortAsk
import KE.KSortTup
import PyProof.Rows.SortShellK
import PyProof.TupleKey
import PySem.Names
import PyProof.Rows.TupDisplay
import PyProof.DictItems
import KE.KPairComp
import PyProof.NeKinds
import PySem.Challenge.RW_minortables_k40_whole_ways
set_option Elab.async false
set_option linter.all false
set_option maxRecDepth 100000
noncomputable section
namespace Zz
abbrev Z2:=PySem.W.Frag
open PySem
def A0z:=@PySem.wpAny_typeNameOfWhole_itemiter
def B0z:=@PySem.F.slot_dict_itemiterator_next
def C0z:=@PyProof.Rows.callWith_type1
def D0z:=@PySem.W.Fast.te14364793385576792824
def E0z:=@PySem.wpAny_typeNameOf_itemiter
def F0z:=@List.drop_eq_getElem_cons
def G0z:=@Classical.byContradiction
def H0z:=@PySem.F.args_tuple_add_2
def I0z:=@PySem.AutoSeq1.wpAny_loadPart'
def J0z:=@PySem.F.entry_tuple_add
def K0z:=@PySem.F.plainAttrs_dict
def L0z:=@PySem.F.plainAttrs_list
def M0z:=@Nat.le_mul_of_pos_right
def N0z:=@PySem.W.cellsFrom_some
def O0z:=@PySem.F.slot_tuple_add
def P0z:=@PySem.Calls.callWith_builtin
def Q0z:=@PySem.wpAny_isOneOf_itemiter
def R0z:=@Option.map_eq_some_iff
def S0z:=@Int.fmod_nonneg_of_pos
def T0z:=@List.mem_append_right
def U0z:=@List.length_singleton
def V0z:=@PySem.F.slot_dict_get
def W0z:=@PySem.F.typeOf_object_class
def X0z:=@List.length_filter_le
def Y0z:=@List.mem_cons_of_mem
def Z0z:=@List.mem_append_left
def A1z:=@PySem.Calls.evalArgs_plain
def B1z:=@Array.getElem_toList
def C1z:=@PySem.W.looks_findIn
def D1z:=@Nat.mul_le_mul_right
def E1z:=@Nat.pow_le_pow_right
def F1z:=@List.Pairwise.filter
def G1z:=@List.filterMap_cons
def H1z:=@Array.length_toList
def I1z:=@PySem.mem_of_lookup
def J1z:=@List.replicate_succ
def K1z:=@beq_eq_false_iff_ne
def L1z:=@PySem.Heap.SameBut.update
def M1z:=@List.map_congr_left
def N1z:=@Nat.lt_of_lt_of_le
def O1z:=@List.mem_cons_self
def P1z:=@Bool.false_ne_true
def Q1z:=@PySem.wpAny_pyIter_tuple
def R1z:=@PySem.Calls.spliced_cons
def S1z:=@PySem.wpAny_Call_Name_kw
def T1z:=@List.length_append
def U1z:=@Bool.false_eq_true
def V1z:=@PySem.wpAny_setField_rec
def W1z:=@List.zip_cons_cons
def X1z:=@Nat.lt_of_le_of_lt
def Y1z:=@List.filter_append
def Z1z:=@PySem.wpAny_truthy_bool
def A2z:=@PySem.wpAny_newObj_type
def B2z:=@PySem.Calls.spliced_nil
def C2z:=@List.size_toArray
def D2z:=@List.flatten_cons
def E2z:=@List.append_assoc
def F2z:=@Nat.lt_succ_of_lt
def G2z:=@Nat.le_of_succ_le
def H2z:=@Int.toNat_natCast
def I2z:=@Bool.not_eq_true'
def J2z:=@decide_eq_true_eq
def K2z:=@Option.some.injEq
def L2z:=@List.flatMap_cons
def M2z:=@List.length_take
def N2z:=@List.lookup_cons
def O2z:=@Nat.lt_succ_self
def P2z:=@beq_self_eq_true
def Q2z:=@PySem.wpAny_call_entry
def R2z:=@Nat.le_add_right
def S2z:=@List.getElem_mem
def T2z:=@List.nodup_range
def U2z:=@List.getElem_map
def V2z:=@PySem.Heap.size_update
def W2z:=@List.length_cons
def X2z:=@Bool.and_eq_true
def Y2z:=@Option.bind_some
def Z2z:=@List.filter_cons
def A3z:=@List.all_eq_true
def B3z:=@Option.bind_none
def C3z:=@List.flatMap_nil
def D3z:=@decide_eq_false
def E3z:=@Option.some.inj
def F3z:=@PySem.wpAny_execs_nil
def G3z:=@PySem.wpAny_passesOwn
def H3z:=@List.append_nil
def I3z:=@List.of_mem_zip
def J3z:=@List.length_map
def K3z:=@List.length_set
def L3z:=@List.foldl_cons
def M3z:=@List.forIn_cons
def N3z:=@List.nodup_cons
def O3z:=@Option.map_some
def P3z:=@PySem.pushCells_keeps
def Q3z:=@List.nil_append
def R3z:=@List.length_nil
def S3z:=@Bool.or_eq_true
def T3z:=@PySem.W.kia_one
def U3z:=@List.length_zip
def V3z:=@List.map_append
def W3z:=@List.range_succ
def X3z:=@Option.map_none
def Y3z:=@Rat.intCast_mul
def Z3z:=@Rat.intCast_add
def A4z:=@Int.emod_nonneg
def B4z:=@Int.mul_ne_zero
def C4z:=@List.filter_map
def D4z:=@Bool.false_and
def E4z:=@decide_eq_true
def F4z:=@List.forIn_nil
def G4z:=@PySem.Heap.size_push
def H4z:=@PySem.wpAny_seqItems
def I4z:=@PySem.wpAny_newTuple
def J4z:=@Bool.and_false
def K4z:=@Int.natAbs_mul
def L4z:=@Nat.lt_irrefl
def M4z:=@PySem.wpAny_holding
def N4z:=@PySem.wpAny_standAt
def O4z:=@List.map_cons
def P4z:=@List.any_cons
def Q4z:=@Bool.and_self
def R4z:=@Bool.true_and
def S4z:=@PySem.W.mg_of
def T4z:=@PySem.Heap.lt_size
def U4z:=@Nat.ne_of_lt
def V4z:=@Nat.le_trans
def W4z:=@Nat.ne_of_gt
def X4z:=@PySem.codeAny_mono
def Y4z:=@List.map_nil
def Z4z:=@Nat.succ_mul
def A5z:=@Nat.mul_comm
def B5z:=@Nat.lt_trans
def C5z:=@decide_false
def D5z:=@List.map_map
def E5z:=@Nat.pow_succ
def F5z:=@Nat.le_refl
def G5z:=@PySem.sizeLine_eq
def H5z:=@Nat.zero_le
def I5z:=@PySem.wpAny_field
def J5z:=@decide_true
def K5z:=@Nat.le_succ
def L5z:=@Rat.one_mul
def M5z:=@PySem.wpAny_mono
def N5z:=@PySem.wpAny_bind
def O5z:=@PySem.wpAny_pure
def P5z:=@PySem.call_meets
def Q5z:=@beq_iff_eq
def R5z:=@bne_iff_ne
def S5z:=@PySem.W.looks_pair
def T5z:=@PySem.W.segRun_of
def U5z:=@PySem.W.piece_app
def V5z:=@if_false
def W5z:=@Ne.symm
def X5z:=@if_true
def Y5z:=@if_pos
def Z5z:=@if_neg
end Zz
open Zz
local macro_rules|`(tactic|rfl')=>`(tactic|kernel_rfl)
namespace L2
open PySem PySem.Spec PyProof.Rows
abbrev Key:=Sum Int Str
def uE:Key->Value->Bool
 | .inl k,v=>Value.isInt k v
 | .inr x,v=>Value.isStrOf x v
def ZC(w:World):Key->Int
 | .inl k=>hashInt k
 | .inr x=>hashStr w x
theorem bH:∀ {k:Key} {v:Value},uE k v=true->(∃ i t,k=Sum.inl i/\v=Value.int i t)\/(∃ x t,k=Sum.inr x/\v=Value.str x t)
 | .inl i,v,h=>by
  obtain⟨t,e⟩:=Value.isInt_shape (k:=i) (v:=v) h;exact .inl ⟨i,t,rfl,e⟩
 | .inr x,v,h=>by
  obtain⟨t,e⟩:=Value.isStrOf_shape (x:=x) (v:=v) h;exact .inr ⟨x,t,rfl,e⟩
theorem xP(i:Int)(t:Tok):uE (.inl i) (.int i t)=true:=by simp[uE,Value.isInt]
theorem xO(x:Str)(t:Tok):uE (.inr x) (.str x t)=true:=by simp[uE,Value.isStrOf]
theorem Ma(a b:Int):decide ((Sum.inl a:Key)=Sum.inl b)=(a==b):=by
 by_cases e:a=b
 ·subst e;simp
 ·have h:¬ (Sum.inl a:Key)=Sum.inl b:=fun q=>e (Sum.inl.inj q)
  rw[D3z h];exact(K1z.mpr e).symm
theorem LK(a b:Str):decide ((Sum.inr a:Key)=Sum.inr b)=decide (a=b):=by
 by_cases e:a=b
 ·subst e;simp
 ·have h:¬ (Sum.inr a:Key)=Sum.inr b:=fun q=>e (Sum.inr.inj q)
  rw[D3z h,D3z e]
theorem LR(a:Int)(b:Str):decide ((Sum.inl a:Key)=Sum.inr b)=false:=D3z (fun q=>nomatch q)
theorem LQ(a:Str)(b:Int):decide ((Sum.inr a:Key)=Sum.inl b)=false:=D3z (fun q=>nomatch q)
def bT(prog:Program)(w:World):PySem.KeyKind prog w Key where
 is:=uE
 hash:=ZC w
 inj:=fun v a b ha hb=>by
  rcases bH ha with⟨i,t,rfl,rfl⟩ | ⟨x,t,rfl,rfl⟩
  ·rcases bH hb with⟨j,u,rfl,e⟩ | ⟨y,u,rfl,e⟩
   ·injection e with e1 _;rw[e1]
   ·exact nomatch e
  ·rcases bH hb with⟨j,u,rfl,e⟩ | ⟨y,u,rfl,e⟩
   ·exact nomatch e
   ·injection e with e1 _;rw[e1]
 byValue:=fun k v h=>by
  rcases bH h with⟨i,t,rfl,rfl⟩ | ⟨x,t,rfl,rfl⟩<;>rfl
 pyHash:=fun hv h=>by
  rcases bH hv with⟨i,t,rfl,rfl⟩ | ⟨x,t,rfl,rfl⟩
  ·exact wpAny_pyHash_int h
  ·exact wpAny_pyHash_str h
 eqBool:=fun hu hv h=>by
  rcases bH hu with⟨i,t,rfl,rfl⟩ | ⟨x,t,rfl,rfl⟩
  ·rcases bH hv with⟨j,u,rfl,rfl⟩ | ⟨y,u,rfl,rfl⟩
   ·rw[Ma] at h;exact wpAny_eqBool_int h
   ·rw[LR] at h;exact SeqAt.EqAt.int_str i t y u _ _ _ _ h
  ·rcases bH hv with⟨j,u,rfl,rfl⟩ | ⟨y,u,rfl,rfl⟩
   ·rw[LQ] at h;exact SeqAt.EqAt.str_int x t j u _ _ _ _ h
   ·rw[LK] at h;exact wpAny_eqBool_str h
 «strs» :=fun k x t v h=>by
  rcases bH h with⟨i,u,rfl,e⟩ | ⟨y,u,rfl,e⟩
  ·exact nomatch e
  ·injection e with e1 _
   subst e1
   cases v<;>rfl
theorem qx(prog:Program)(w:World)(i:Int)(t:Tok):(bT prog w).is (.inl i) (.int i t)=true:=xP i t
theorem qw(prog:Program)(w:World)(x:Str)(t:Tok):(bT prog w).is (.inr x) (.str x t)=true:=xO x t
inductive V where
 | non | bl (b:Bool) | int (i:Int) | str (x:Str) | byt (b:Array UInt8) | flt (b:UInt64) | ref (a:Addr) | ty (n:String)
 deriving DecidableEq
def RelV:V->Value->Prop
 | .non,u=>u=Value.none
 | .bl b,u=>u=Value.bool b
 | .int i,u=>∃ t,u=Value.int i t
 | .str x,u=>∃ t,u=Value.str x t
 | .byt b,u=>∃ t,u=Value.bytes b t
 | .flt b,u=>∃ t,u=Value.float b t
 | .ref a,u=>u=Value.ref a
 | .ty n,u=>u=Value.type n
abbrev Vals:List V->List Value->Prop:=Paired RelV
theorem Vals.length{xs:List V}{us:List Value}(r:Vals xs us):xs.length=us.length:=Paired.length r
theorem Vals.get:∀ {xs:List V} {us:List Value} {i:Nat} {x:V},Vals xs us->xs[i]?=some x->∃ u,us[i]?=some u/\RelV x u
 | _,_,_,_,.nil,e=>by simp at e
 | _,_,0,_,.cons r _,e=>by simp at e;subst e;exact⟨_,rfl,r⟩
 | _,_,i+1,x,.cons _ t,e=>by
  obtain⟨u,h1,h2⟩:=Vals.get (i:=i) (x:=x) t (by simpa using e);exact⟨u,by simpa using h1,h2⟩
theorem Vals.set{x:V}{u:Value}(r:RelV x u):∀ {xs:List V} {us:List Value} (i:Nat),Vals xs us->Vals (xs.set i x) (us.set i u)
 | _,_,_,.nil=>.nil
 | _,_,0,.cons _ t=>.cons r t
 | _,_,i+1,.cons q t=>.cons q (Vals.set r i t)
theorem Vals.append:∀ {xs ys:List V} {us ws:List Value},Vals xs us->Vals ys ws->Vals (xs++ys) (us++ws)
 | _,_,_,_,.nil,s=>s
 | _,_,_,_,.cons r t,s=>.cons r (Vals.append t s)
def zx:Option V->Option Value->Prop
 | some v,some u=>RelV v u
 | none,none=>True
 | _,_=>False
def KV{κ:Type}:List (κ×V)->List (κ×Value)->Prop:=Paired fun(p:κ×V) (q:κ×Value)=>p.1=q.1/\RelV p.2 q.2
def kV:Key->V
 | .inl i=>.int i
 | .inr x=>.str x
inductive HO where
 | lst (xs:List V)
 | tup (xs:List V)
 | dK (kvs:List (Key×V)) | dT (kvs:List (List Key×V))
 | set (S:Int->Bool) (n:Nat)
 | ins (C dx:Addr) (fs:List (Str×V))
 | own (x:Addr)
 | xd (fs:List (Str×V))
 | met (f x:Addr)
 | rng (lo hi:Int)
 | frz (o:Obj) (u:HO)
 | tbl (ps:Array Value)
 | ext (φ:Heap->Prop)
noncomputable abbrev Hp:=Addr->Option HO
def upd(H:Hp)(a:Addr)(o:HO):Hp:=fun b=>if b=a then some o else H b
theorem aP{H:Hp}{a:Addr}{o:HO}:upd H a o a=some o:=by unfold upd;rw[Y5z rfl]
theorem aJ{H:Hp}{a b:Addr}{o:HO}(h:b≠a):upd H a o b=H b:=by unfold upd;rw[Z5z h]
theorem au{H:Hp}{a b:Addr}{o:HO}(h:H a=some o)(h':H b=none):a≠b:=by
 intro e;subst e;rw[h] at h';cases h'
section
variable (P:Program) (w:World)
def cG(H:Hp)(h:Heap)(a:Addr):HO->Prop
 | .lst xs=>xs.length<=sizeLine/\∃ (its:List Value) (n:Nat),Vals xs its/\h.get? a=some { cls:=.type "list",data:=.seq its.toArray n }
 | .tup xs=>xs.length<=sizeLine/\∃ its:List Value,Vals xs its/\IsTup h a its.toArray
 | .dK kvs=>kvs.length<=sizeLine/\(a==sysModules)=false/\∃ vs,KV kvs vs/\h.DictOf (bT P w) a vs
 | .dT kvs => kvs.length <= sizeLine /\ (a == sysModules) = false /\ ∃ xs : List (List Key × Addr × Value),
   Paired (fun(p:List Key×V) (q:List Key×Addr×Value)=>p.1=q.1/\H q.2.1=some (.tup (p.1.map kV))/\RelV p.2 q.2.2) kvs xs /\
   ∃ o es ep,h.get? a=some o/\o.ExactDict/\o.data=.dict es ep/\es.toList=xs.map (entryOfKey (tupleKind (bT P w)))/\(xs.map (·.1)).Nodup
 | .set S n=>h.SetOf (intKind P w) a S n
 | .ins C dx fs => H dx = some (.own a) /\ fs.length <= 1000 /\ dx ≠ a /\ h.get? a = some (PySem.W.instObj C dx) /\
   ∃ mA,h.Ns1 dx mA/\(∀ f,zx (fs.lookup f) (mA f))/\PySem.Within mA (fs.map (·.1))
 | .own _=>∃ o,h.get? a=some o
 | .xd fs=>∃ mA,h.Ns1 a mA/\∀ f,zx (fs.lookup f) (mA f)
 | .rng lo hi=>∃ t u v,h.get? a=some { cls:=.type "range",data:=.fields #[.int lo t,.int hi u,.int 1 v] }
 | .frz o u=>h.get? a=some o/\cG H h a u
 | .tbl ps=>h.get? a=some { cls:=.none,data:=.fields ps }
 | .met f x=>h.get? a=some (PySem.W.methodObj (.ref f) (.ref x))
 | .ext φ=>φ h/\(∃ o,h.get? a=some o)/\∀ h1 h2:Heap,φ h1->(∀ o,h1.get? a=some o->h2.get? a=some o)->φ h2
def HOk(H:Hp)(h:Heap):Prop:=∀ a o,H a=some o->cG P w H h a o
end
section
variable {P:Program} {w:World} {H H':Hp} {h h':Heap} {a:Addr} {o:HO}
theorem cG.lt(x:cG P w H h a o):a<h.objs.size:=by
 cases o with
 | lst xs=>obtain⟨_,_,_,_,e⟩:=x;exact T4z e
 | tup xs=>obtain⟨_,_,_,p⟩:=x;exact p.lt
 | dK kvs=>obtain⟨_,_,_,_,o,_,_,e,_⟩:=x;exact T4z e
 | dT kvs=>obtain⟨_,_,_,_,o,_,_,e,_⟩:=x;exact T4z e
 | set S n=>obtain⟨o,_,_,_,e,_⟩:=x;exact T4z e
 | ins C dx fs=>obtain⟨_,_,_,e,_⟩:=x;exact T4z e
 | own y=>obtain⟨_,e⟩:=x;exact T4z e
 | xd fs=>obtain⟨_,⟨_,_,_,e,_⟩,_⟩:=x;exact T4z e
 | rng lo hi=>obtain⟨_,_,_,e⟩:=x;exact T4z e
 | frz ob u=>obtain⟨e,_⟩:=x;exact T4z e
 | tbl ps=>exact T4z (show h.get? a=some _ from x)
 | met f y=>exact T4z (show h.get? a=some _ from x)
 | ext φ=>obtain⟨_,⟨_,e⟩,_⟩:=x;exact T4z e
theorem Paired.mapP{α β:Type}{F G:α->β->Prop}:∀ {l₁:List α} {l₂:List β},Paired F l₁ l₂->(∀ a b,F a b->G a b)->Paired G l₁ l₂
 | _,_,.nil,_=>.nil
 | _,_,.cons r t,f=>.cons (f _ _ r) (Paired.mapP t f)
theorem cG.stay(x:cG P w H h a o)(k:∀ b u,(b=a\/H b=some (.own a))->h.get? b=some u->h'.get? b=some u)
  (ho:∀ b,H b=some (.own a)->H' b=some (.own a)) (ht:∀ b xs,H b=some (.tup xs)->H' b=some (.tup xs)):cG P w H' h' a o:=by
 induction o with
 | lst xs=>obtain⟨z,its,n,r,e⟩:=x;exact⟨z,its,n,r,k _ _ (.inl rfl) e⟩
 | tup xs=>obtain⟨z,its,r,ob,e,c⟩:=x;exact⟨z,its,r,ob,k _ _ (.inl rfl) e,c⟩
 | dK kvs=>obtain⟨z,y,vs,r,ob,es,ep,e,c⟩:=x;exact⟨z,y,vs,r,ob,es,ep,k _ _ (.inl rfl) e,c⟩
 | dT kvs =>
  obtain⟨z,y,xs,r,ob,es,ep,e,c⟩:=x;exact⟨z,y,xs,Paired.mapP r fun p q z=>⟨z.1,ht _ _ z.2.1,z.2.2⟩,ob,es,ep,k _ _ (.inl rfl) e,c⟩
 | set S n=>obtain⟨ob,es,ep,t,e,c⟩:=x;exact⟨ob,es,ep,t,k _ _ (.inl rfl) e,c⟩
 | ins C dx fs =>
  obtain⟨d,z,ne,e,mA,⟨od,es,ep,e2,c⟩,r⟩:=x;exact⟨ho _ d,z,ne,k _ _ (.inl rfl) e,mA,⟨od,es,ep,k _ _ (.inr d) e2,c⟩,r⟩
 | own y=>obtain⟨ob,e⟩:=x;exact⟨ob,k _ _ (.inl rfl) e⟩
 | xd fs=>obtain⟨mA,⟨od,es,ep,e,c⟩,r⟩:=x;exact⟨mA,⟨od,es,ep,k _ _ (.inl rfl) e,c⟩,r⟩
 | rng lo hi=>obtain⟨t,u,v,e⟩:=x;exact⟨t,u,v,k _ _ (.inl rfl) e⟩
 | frz ob u ih=>obtain⟨e,q⟩:=x;exact⟨k _ _ (.inl rfl) e,ih q⟩
 | tbl ps =>
  have e:h.get? a=some { cls:=.none,data:=.fields ps }:=x;show h'.get? a=some { cls:=.none,data:=.fields ps };exact k a _ (.inl rfl) e
 | met f y =>
  have e:h.get? a=some (PySem.W.methodObj (.ref f) (.ref y)):=x;show h'.get? a=some (PySem.W.methodObj (.ref f) (.ref y));exact k a _ (.inl rfl) e
 | ext φ=>obtain⟨p,⟨o,e⟩,st⟩:=x;exact⟨st _ _ p fun o q=>k _ _ (.inl rfl) q,⟨o,k _ _ (.inl rfl) e⟩,st⟩
theorem HOk.lt(x:HOk P w H h)(e:H a=some o):a<h.objs.size:=(x a o e).lt
theorem HOk.fresh(x:HOk P w H h)(e:h.objs.size<=a):H a=none:=by
 cases q:H a with
 | none=>rfl
 | some u=>exact absurd (N1z (x.lt q) e) (L4z _)
theorem HOk.kept(x:HOk P w H h)(k:∀ b u,h.get? b=some u->h'.get? b=some u):HOk P w H h':=fun a o e =>
 (x a o e).stay (fun b u _ q=>k b u q) (fun _ q=>q) fun _ _ q=>q
theorem HOk.laid(x:HOk P w H h)(k:∀ b u,h.get? b=some u->h'.get? b=some u)(hp:h.objs.size<=a)(new:cG P w (upd H a o) h' a o):HOk P w (upd H a o) h':=fun b u e=>by
 have hn:=x.fresh hp
 by_cases hb:b=a
 ·subst hb;rw[aP] at e;cases e;exact new
 ·rw[aJ hb] at e
  exact(x b u e).stay (fun c v _ q=>k c v q) (fun c q=>by rw[aJ (au q hn)];exact q) fun c xs q=>by rw[aJ (au q hn)];exact q
end
def Rd(H:Hp)(a:Addr)(u:HO):Prop:=H a=some u\/∃ o,H a=some (.frz o u)
theorem Rd.ok{P:Program}{w:World}{H:Hp}{h:Heap}{a:Addr}{u:HO}(r:Rd H a u)(x:HOk P w H h):cG P w H h a u:=by
 rcases r with r | ⟨o,r⟩
 ·exact x a u r
 ·obtain⟨_,q⟩:=x a _ r
  exact q
def Mut:Option HO->Prop
 | some (.lst _)=>True
 | some (.dK _)=>True
 | some (.dT _)=>True
 | some (.set _ _)=>True
 | some (.ins _ _ _)=>True
 | some (.ext _)=>True
 | _=>False
section
variable {P:Program} {w:World} {H:Hp} {h h':Heap} {x e:Addr} {o':HO}
theorem HOk.write(ok:HOk P w H h)(mu:Mut (H x))(he:e=x\/H e=some (.own x))(k:∀ b u,b≠e->h.get? b=some u->h'.get? b=some u)(heo:∃ u,h'.get? e=some u)
  (new:cG P w (upd H x o') h' x o'):HOk P w (upd H x o') h':=fun b u q=>by
 have nown:∀ c y,H c=some (.own y)->c≠x:=fun c y r z=>by subst z;rw[r] at mu;exact mu
 have ntup:∀ c xs,H c=some (.tup xs)->c≠x:=fun c xs r z=>by subst z;rw[r] at mu;exact mu
 by_cases hb:b=x
 ·subst hb;rw[aP] at q;cases q;exact new
 ·rw[aJ hb] at q
  by_cases hbe:b=e
  ·have q':H b=some (.own x):=by
    rcases he with z | z
    ·exact absurd (hbe.trans z) hb
    ·rw[hbe];exact z
   rw[q] at q';cases q'
   obtain⟨v,hv⟩:=heo;exact⟨v,by rw[hbe];exact hv⟩
  ·refine(ok b u q).stay (fun c v hc r=>k c v ?_ r) (fun c r=>by rw[aJ (nown c b r)];exact r) fun c xs r=>by rw[aJ (ntup c xs r)];exact r
   rcases hc with rfl | hc
   ·exact hbe
   ·rintro rfl
    rcases he with z | z
    ·exact nown c b hc z
    ·rw[hc] at z;cases z;exact hb rfl
end
structure Un (fs ex:List Addr) (H H':Hp) (h h':Heap):Prop where
 keep:∀ b o,h.get? b=some o->H b=none->b∉fs->b∉ex->h'.get? b=some o
 slot:∀ b o,h.get? b=some o->H b=none->b∈fs->b∉ex->∃ sl,h'.get? b=some { o with slots:=sl }
 free:∀ b o,h.get? b=some o->H b=none->b∉ex->H' b=none
 there:∀ b o,h.get? b=some o->b∉ex->∃ o',h'.get? b=some o'
 tups:∀ b xs,H b=some (.tup xs)->H' b=some (.tup xs)
 frzs:∀ b o u,H b=some (.frz o u)->H' b=some (.frz o u)
 tbls:∀ b ps,H b=some (.tbl ps)->∃ more,H' b=some (.tbl (ps++more))
section
variable {fs fs' ex ex':List Addr} {H H1 H2:Hp} {h h1 h2 h':Heap} {a x e:Addr} {o:HO}
theorem Un.any(u:Un fs ex H H1 h h1){b:Addr}{ob:Obj}(q:h.get? b=some ob)(n:H b=none)(hx:b∉ex):∃ sl,h1.get? b=some { ob with slots:=sl }:=by
 by_cases hb:b∈fs
 ·exact u.slot b ob q n hb hx
 ·exact⟨ob.slots,u.keep b ob q n hb hx⟩
theorem Un.trans(a:Un fs ex H H1 h h1)(b:Un fs ex H1 H2 h1 h2):Un fs ex H H2 h h2 where
 keep:=fun c ob q n hc hx=>b.keep c ob (a.keep c ob q n hc hx) (a.free c ob q n hx) hc hx
 slot:=fun c ob q n hc hx=>by
  obtain⟨sl,e1⟩:=a.slot c ob q n hc hx;obtain⟨sl',e2⟩:=b.slot c _ e1 (a.free c ob q n hx) hc hx;exact⟨sl',e2⟩
 free:=fun c ob q n hx=>by
  obtain⟨o',e1⟩:=a.there c ob q hx;exact b.free c o' e1 (a.free c ob q n hx) hx
 there:=fun c ob q hx=>by
  obtain⟨o',e1⟩:=a.there c ob q hx;exact b.there c o' e1 hx
 tups:=fun c xs q=>b.tups c xs (a.tups c xs q)
 frzs:=fun c ob xs q=>b.frzs c ob xs (a.frzs c ob xs q)
 tbls:=fun c ps q=>by
  obtain⟨m1,e1⟩:=a.tbls c ps q;obtain⟨m2,e2⟩:=b.tbls c _ e1;exact⟨m1++m2,by rw[e2,Array.append_assoc]⟩
theorem Un.kept(k:∀ b u,h.get? b=some u->h'.get? b=some u):Un fs ex H H h h' :=
 ⟨fun b ob q _ _ _=>k b ob q,fun b ob q _ _ _=>⟨ob.slots,k b ob q⟩,fun _ _ _ n _=>n,fun b ob q _=>⟨ob,k b ob q⟩,fun _ _ q=>q,fun _ _ _ q=>q,fun _ ps q=>⟨#[],by rw[q];simp⟩⟩
theorem Un.refl:Un fs ex H H h h:=Un.kept fun _ _ q=>q
theorem Un.laid(k:∀ b u,h.get? b=some u->h'.get? b=some u)(hp:h.objs.size<=a)(hn:H a=none):Un fs ex H (upd H a o) h h' where
 keep:=fun b u q _ _ _=>k b u q
 slot:=fun b u q _ _ _=>⟨u.slots,k b u q⟩
 free:=fun b u q n _=>by rw[aJ (U4z (N1z (T4z q) hp))];exact n
 there:=fun b u q _=>⟨u,k b u q⟩
 tups:=fun b xs q=>by rw[aJ (au q hn)];exact q
 frzs:=fun b u xs q=>by rw[aJ (au q hn)];exact q
 tbls:=fun b ps q=>⟨#[],by rw[aJ (au q hn),q];simp⟩
theorem Un.write(mu:Mut (H x))(he:e=x\/H e=some (.own x))(k:∀ b u,b≠e->h.get? b=some u->h'.get? b=some u)(heo:∃ u,h'.get? e=some u):Un fs ex H (upd H x o) h h':=by
 have hx:∀ b,H b=none->b≠x:=fun b n z=>by subst z;rw[n] at mu;exact mu
 have hb:∀ b,H b=none->b≠e:=fun b n z=>by
  subst z;rcases he with r | r
  ·exact hx b n r
  ·rw[n] at r;cases r
 have hm:∀ b u,H b=some u->¬ Mut (some u)->b≠x:=fun b u q nm z=>by subst z;rw[q] at mu;exact nm mu
 refine⟨fun b u q n _ _=>k b u (hb b n) q,fun b u q n _ _=>⟨u.slots,k b u (hb b n) q⟩,fun b u q n _=>by rw[aJ (hx b n)];exact n,fun b u q _=>?_,
  fun b xs q=>by rw[aJ (hm b _ q fun z=>z)];exact q,fun b u xs q=>by rw[aJ (hm b _ q fun z=>z)];exact q,fun b ps q=>⟨#[],by rw[aJ (hm b _ q fun z=>z),q];simp⟩⟩
 by_cases hbe:b=e
 ·subst hbe;exact heo
 ·exact⟨u,k b u hbe q⟩
theorem Un.mono(u:Un fs ex H H1 h h1)(hs:∀ b∈fs,b∈fs')(hx:∀ b∈ex,b∈ex'):Un fs' ex' H H1 h h1 :=
 ⟨fun b ob q n hb he=>u.keep b ob q n (fun z=>hb (hs b z)) fun z=>he (hx b z),fun _ _ q n _ he=>u.any q n fun z=>he (hx _ z),fun b ob q n he=>u.free b ob q n fun z=>he (hx b z),fun b ob q he=>u.there b ob q fun z=>he (hx b z),u.tups,u.frzs,u.tbls⟩
end
def trk(h:Heap)(H:Hp):List Addr:=(List.range h.objs.size).filter fun a=>(H a).isSome
def Bh(h:Heap)(H:Hp):Heap:=PySem.W.hideAll h (trk h H)
theorem yd(h:Heap)(H:Hp):(Bh h H).objs.size=h.objs.size:=PySem.W.hideAll_size _ _
theorem Bg{h:Heap}{H:Hp}{b:Addr}{o:Obj}(e:h.get? b=some o)(n:H b=none):(Bh h H).get? b=some o :=
 PySem.W.hideAll_get _ e fun hm=>by
  have q:(H b).isSome=true:=(List.mem_filter.mp hm).2;rw[n] at q;simp at q
theorem G3{h:Heap}{H:Hp}{b:Addr}{o:Obj}(e:(Bh h H).get? b=some o):h.get? b=some o/\H b=none:=by
 have e':h.get? b=some o:=PySem.W.of_hideAll (trk h H) e;refine⟨e',?_⟩
 cases q:H b with
 | none=>rfl
 | some x =>
  have hm:b∈trk h H:=List.mem_filter.mpr ⟨List.mem_range.mpr (T4z e'),by simp[q]⟩;have z:(Bh h H).get? b=none:=PySem.W.hideAll_none (trk h H) hm;rw[z] at e;cases e
def Jh(g h:Heap)(L:Addr):List (Addr×Obj):=(List.range h.objs.size).filterMap fun a=>if a=L\/(g.get? a).isSome=true then none else(h.get? a).map fun o=>(a,o)
def rest(g h:Heap)(L d:Addr):List (Addr×Obj):=(Jh g h L).filter fun p=>decide (p.1≠d)
structure Mod (K:Z2) (mg:Str->Option Value) (base:Heap):Prop where
 kin:K.In base
 glob:base.Ns mainGlobals mg
 blt:∃ mb,base.Ns builtinsNs mb/\∀ x:Str,x≠"__name__"->mb x=bootBuiltins x
 nolimit:base.NoLimit
structure Cx where
 prog:Program
 w:World
 K:Z2
 mg:Str->Option Value
 base:Heap
 A:Around
 N:List Str
 s₀:Shared
 H₀:Hp
 env:Env
 outer:List Env
 stack:List Env
 ex:List Addr
 fn:Str->Bool
 calm:Bool
 pn:List (Addr×Obj)
 xe:Value->Shared->Prop
def frs(l:List Env):List Addr:=l.filterMap (·.frame)
abbrev Cx.fs(X:Cx):List Addr:=frs X.outer
def Vis(sc:Scope)(x:Str):Prop:=sc.names.lookup x=some .local\/sc.names.lookup x=some .cell\/sc.names.lookup x=some .free
def Loc(sc:Scope)(x:Str):Prop:=sc.names.lookup x=some .local\/sc.names.lookup x=some .cell
def Look(env:Env)(h:Heap)(m:Str->Option Value)(x:Str)(u:Value):Prop :=
 (env.kindOf x=some .local/\m x=some u)\/((env.kindOf x=some .cell\/env.kindOf x=some .free)/\∃ c,env.cells.lookup x=some c/\h.IsCell c (some u))
structure Cx.Ok (X:Cx):Prop where
 mod:Mod X.K X.mg X.base
 kind:X.env.scope.kind=.function
 glob:X.env.globals=mainGlobals
 blt:X.env.builtins=builtinsNs
 above:X.s₀.heap.objs.size<=X.env.locals
 inj:∀ x y c,X.env.cells.lookup x=some c->X.env.cells.lookup y=some c->x=y
 has:∀ x,(X.env.kindOf x=some .cell\/X.env.kindOf x=some .free)->∃ c,X.env.cells.lookup x=some c
 cab:∀ x c,X.fn x=true->X.env.cells.lookup x=some c->X.s₀.heap.objs.size<=c
 hd:X.calm=true->X.A.handled=none
 frames:X.A.frames=some X.stack
 stk:X.stack=X.outer\/(X.stack=X.env::X.outer/\X.env.frame=some X.env.locals)
 exf:∀ b∈X.ex,b≠X.env.locals/\∀ x c,X.env.cells.lookup x=some c->c≠b
 bs:∀ b o,X.base.get? b=some o->X.s₀.heap.get? b=some o/\X.H₀ b=none
 bsz:X.base.objs.size<=X.s₀.heap.objs.size
 noex:∀ b o,X.base.get? b=some o->b∉X.ex
 exfs:∀ b∈X.ex,b∉X.fs
 funs:X.s₀.heap.FunFrames X.base X.outer
 frf:∀ b∈X.fs,X.H₀ b=none
structure Inv (X:Cx) (z0:List (Addr×Obj)) (σ:List (Option V)) (H:Hp) (s:Shared):Prop where
 ok:X.Ok
 os:s.os=X.s₀.os
 bare:AllBare s.gens
 base:Un X.fs X.ex X.H₀ H X.s₀.heap s.heap
 loc:∃ m,s.heap.Ns X.env.locals m/\∀ (i:Nat) (x:Str) (v:V),X.N[i]?=some x->σ[i]?=some (some v)->Vis X.env.scope x->∃ u,RelV v u/\Look X.env s.heap m x u
 cell:∀ x c,X.env.cells.lookup x=some c->∃ v,s.heap.IsCell c v
 free:H X.env.locals=none
 freeC:∀ x c,X.env.cells.lookup x=some c->H c=none
 pin:∀ p∈X.pn++z0,s.heap.get? p.1=some p.2/\H p.1=none/\p.1≠X.env.locals/\p.1∉X.fs/\∀ v,p.2.data≠.cell v
 hok:HOk X.prog X.w H s.heap
 len:σ.length=X.N.length
section
variable {X:Cx} {z0:List (Addr×Obj)} {σ:List (Option V)} {H H':Hp} {s:Shared} {h':Heap}
theorem Cx.Ok.nofr(ok:X.Ok){b:Addr}{o:Obj}(e:X.base.get? b=some o):b∉X.fs:=fun hb=>by
 have:=(ok.funs.mem hb).1;rw[e] at this;cases this
theorem Inv.bs(I:Inv X z0 σ H s):∀ b o,X.base.get? b=some o->s.heap.get? b=some o/\H b=none:=fun b o e =>
 ⟨I.base.keep b o (I.ok.bs b o e).1 (I.ok.bs b o e).2 (I.ok.nofr e) (I.ok.noex b o e),I.base.free b o (I.ok.bs b o e).1 (I.ok.bs b o e).2 (I.ok.noex b o e)⟩
theorem Inv.bk(I:Inv X z0 σ H s):∀ b o,X.base.get? b=some o->s.heap.get? b=some o:=fun b o e=>(I.bs b o e).1
theorem Inv.mod(I:Inv X z0 σ H s):Mod X.K X.mg X.base:=I.ok.mod
theorem Inv.kIn(I:Inv X z0 σ H s):X.K.In s.heap:=I.ok.mod.kin.keeps I.bk
theorem Inv.lt(I:Inv X z0 σ H s):X.env.locals<s.heap.objs.size:=let ⟨_,hn,_⟩:=I.loc;hn.lt
theorem Inv.sz(I:Inv X z0 σ H s):X.s₀.heap.objs.size<=s.heap.objs.size:=V4z I.ok.above (Nat.le_of_lt I.lt)
theorem Inv.nofs(I:Inv X z0 σ H s){a:Addr}(h:s.heap.objs.size<=a):a∉X.fs:=fun hb=>by
 obtain⟨_,o,ho,_⟩:=I.ok.funs.mem hb;exact absurd (N1z (T4z ho) (V4z I.sz h)) (L4z _)
theorem Inv.cne(I:Inv X z0 σ H s):∀ x c,X.env.cells.lookup x=some c->c≠X.env.locals:=fun x c e z=>by
 obtain⟨v,o,ho,hd⟩:=I.cell x c e;obtain⟨m,⟨o',es,ep,ho',hd',_⟩,_⟩:=I.loc;rw[z,ho'] at ho;cases ho;rw[hd'] at hd;cases hd
theorem Inv.funs(I:Inv X z0 σ H s):s.heap.FunFrames X.base X.outer:=by
 have all:∀ (l:List Env),(∀ b∈frs l,b∈X.fs)->X.s₀.heap.FunFrames X.base l->s.heap.FunFrames X.base l:=by
  intro l
  induction l with
  | nil=>intro _ _;trivial
  | cons env r ih =>
   intro hs hl;obtain⟨hk,⟨L,o,hf,hn,ho,hd⟩,hr⟩:=hl;have hL:L∈X.fs:=hs L (by unfold frs;rw[G1z,hf];exact O1z);obtain⟨sl,e⟩:=I.base.slot L o ho (I.ok.frf L hL) hL fun z=>I.ok.exfs L z hL;exact⟨hk,⟨L,_,hf,hn,e,hd⟩,ih (fun b hb=>hs b (by unfold frs;rw[G1z,hf];exact Y0z _ hb)) hr⟩
 exact all X.outer (fun _ hb=>hb) I.ok.funs
theorem Inv.stack(I:Inv X z0 σ H s):s.heap.FunFrames X.base X.stack:=by
 rcases I.ok.stk with e | ⟨e,hf⟩
 ·rw[e];exact I.funs
 ·rw[e]
  obtain⟨m,hn,_⟩:=I.loc;refine .cons (by rw[I.ok.kind];decide) hf hn ?_ I.funs;exact Heap.get?_none_of_le (V4z I.ok.bsz I.ok.above)
theorem Inv.stkSub(I:Inv X z0 σ H s):∀ b∈frs X.stack,b∈X.env.locals::X.fs:=fun b hb=>by
 rcases I.ok.stk with e | ⟨e,hf⟩
 ·rw[e] at hb;exact Y0z _ hb
 ·rw[e] at hb
  unfold frs at hb;rw[G1z,hf] at hb;exact hb
theorem Inv.stkFree(I:Inv X z0 σ H s):∀ b∈frs X.stack,H b=none:=fun b hb=>by
 rcases List.mem_cons.mp (I.stkSub b hb) with e | hb
 ·rw[e];exact I.free
 ·obtain⟨_,o,ho,_⟩:=I.ok.funs.mem hb
  exact I.base.free b o ho (I.ok.frf b hb) fun z=>I.ok.exfs b z hb
theorem Inv.step{g':Array GenState}{t':Nat}{d':Drawn}{ch:List Addr}(I:Inv X z0 σ H s)
  (hch:∀ b∈ch,(b∈X.ex\/X.s₀.heap.objs.size<=b)/\b≠X.env.locals/\(∀ x c,X.env.cells.lookup x=some c->c≠b)/\∀ p∈X.pn++z0,p.1≠b)
  (keep:∀ b o,b≠X.env.locals->b∉X.fs->b∉ch->s.heap.get? b=some o->H b=none->h'.get? b=some o)
  (slot:∀ b o,b≠X.env.locals->b∈X.fs->b∉ch->s.heap.get? b=some o->H b=none->∃ sl,h'.get? b=some { o with slots:=sl }) (free:∀ b o,b∉ch->s.heap.get? b=some o->H b=none->H' b=none)
  (there:∀ b o,b∉ch->s.heap.get? b=some o->∃ o',h'.get? b=some o')
  (tups:∀ b xs,H b=some (.tup xs)->H' b=some (.tup xs)) (frzs:∀ b o u,H b=some (.frz o u)->H' b=some (.frz o u)) (tbls:∀ b ps,H b=some (.tbl ps)->∃ more,H' b=some (.tbl (ps++more)))
  (ns:∀ m,s.heap.Ns X.env.locals m->h'.Ns X.env.locals m) (hok:HOk X.prog X.w H' h') (hg:AllBare g') :
  Inv X z0 σ H' { s with heap:=h',gens:=g',drawn:=d',toks:=t' }:=by
 have neL:∀ b o,X.s₀.heap.get? b=some o->b≠X.env.locals:=fun b o e=>U4z (N1z (T4z e) I.ok.above)
 have neC:∀ b o,X.s₀.heap.get? b=some o->b∉X.ex->b∉ch:=fun b o e hx hb=>by
  rcases(hch b hb).1 with z | z
  ·exact hx z
  ·exact absurd (N1z (T4z e) z) (L4z _)
 have cellK:∀ x c,X.env.cells.lookup x=some c->∀ v,s.heap.IsCell c v->h'.IsCell c v:=fun x c e v ⟨o,ho,hd⟩=>by
  have nch:c∉ch:=fun z=>(hch c z).2.2.1 x c e rfl
  by_cases hc:c∈X.fs
  ·obtain⟨sl,q⟩:=slot c o (I.cne x c e) hc nch ho (I.freeC x c e)
   exact⟨_,q,hd⟩
  ·exact⟨o,keep c o (I.cne x c e) hc nch ho (I.freeC x c e),hd⟩
 refine⟨I.ok,I.os,hg,⟨fun b o e n hb hx=>?_,fun b o e n hb hx=>?_,fun b o e n hx=>?_,fun b o e hx=>?_,fun b xs e=>tups b xs (I.base.tups b xs e),fun b o xs e=>frzs b o xs (I.base.frzs b o xs e),fun b ps e=>?_⟩,?_,fun x c e=>?_,?_,fun x c e=>?_,fun p hp=>?_,hok,I.len⟩
 ·exact keep b o (neL b o e) hb (neC b o e hx) (I.base.keep b o e n hb hx) (I.base.free b o e n hx)
 ·obtain⟨sl,e1⟩:=I.base.slot b o e n hb hx
  obtain⟨sl',e2⟩:=slot b _ (neL b o e) hb (neC b o e hx) e1 (I.base.free b o e n hx);exact⟨sl',e2⟩
 ·obtain⟨o',e1⟩:=I.base.there b o e hx
  exact free b o' (neC b o e hx) e1 (I.base.free b o e n hx)
 ·obtain⟨o',e1⟩:=I.base.there b o e hx
  exact there b o' (neC b o e hx) e1
 ·obtain⟨m1,e1⟩:=I.base.tbls b ps e
  obtain⟨m2,e2⟩:=tbls b _ e1;exact⟨m1++m2,by rw[e2,Array.append_assoc]⟩
 ·obtain⟨m,hn,hl⟩:=I.loc
  refine⟨m,ns m hn,fun i x v e1 e2 e3=>?_⟩;obtain⟨u,r,l⟩:=hl i x v e1 e2 e3;refine⟨u,r,?_⟩;rcases l with l | ⟨k,c,e,z⟩
  ·exact .inl l
  ·exact .inr ⟨k,c,e,cellK x c e _ z⟩
 ·obtain⟨v,z⟩:=I.cell x c e
  exact⟨v,cellK x c e v z⟩
 ·obtain⟨m,⟨o,_,_,ho,_⟩,_⟩:=I.loc
  exact free _ o (fun z=>(hch _ z).2.1 rfl) ho I.free
 ·obtain⟨v,o,ho,hd⟩:=I.cell x c e
  exact free c o (fun z=>(hch c z).2.2.1 x c e rfl) ho (I.freeC x c e)
 ·obtain⟨e,n,ne,nf,d⟩:=I.pin p hp
  have nch:p.1∉ch:=fun z=>(hch p.1 z).2.2.2 p hp rfl;exact⟨keep p.1 p.2 ne nf nch e n,free p.1 p.2 nch e n,ne,nf,d⟩
theorem Inv.un{t':Nat}(I:Inv X z0 σ H s)(u:Un X.fs [] H H' s.heap h')(hok:HOk X.prog X.w H' h'):Inv X z0 σ H' { s with heap:=h',toks:=t' }:=by
 obtain⟨m,⟨o,es,ep,ho,r⟩,_⟩:=id I.loc;obtain⟨sl,hL⟩:=u.any ho I.free (by simp)
 exact I.step (g':=s.gens) (d':=s.drawn) (ch:=[]) (fun _ z=>nomatch z) (fun b o _ hb _ e n=>u.keep b o e n hb (by simp)) (fun b o _ hb _ e n=>u.slot b o e n hb (by simp)) (fun b o _ e n=>u.free b o e n (by simp)) (fun b o _ e=>u.there b o e (by simp)) u.tups u.frzs u.tbls (fun m' hm=>by
  obtain⟨o',es',ep',ho',r'⟩:=hm;rw[ho] at ho';cases ho'
  exact⟨_,es',ep',hL,r'⟩) hok I.bare
theorem Inv.call{g':Array GenState}{t':Nat}{d':Drawn}{ch:List Addr}(I:Inv X z0 σ H s)(u:Un (frs X.stack) ch H H' s.heap h')(hok:HOk X.prog X.w H' h')(hg:AllBare g')
  (hch:∀ b∈ch,(b∈X.ex\/X.s₀.heap.objs.size<=b)/\b≠X.env.locals/\(∀ x c,X.env.cells.lookup x=some c->c≠b)/\∀ p∈X.pn++z0,p.1≠b) :
  Inv X z0 σ H' { s with heap:=h',gens:=g',drawn:=d',toks:=t' }:=by
 obtain⟨m,⟨o,es,ep,ho,r⟩,_⟩:=id I.loc;obtain⟨sl,hL⟩:=u.any ho I.free fun z=>(hch _ z).2.1 rfl
 exact I.step (ch:=ch) hch (fun b o hL hb hc e n=>u.keep b o e n (fun z=>(List.mem_cons.mp (I.stkSub b z)).elim hL hb) hc) (fun b o _ _ hc e n=>u.any e n hc) (fun b o hc e n=>u.free b o e n hc) (fun b o hc e=>u.there b o e hc) u.tups u.frzs u.tbls (fun m' hm=>by
  obtain⟨o',es',ep',ho',r'⟩:=hm;rw[ho] at ho';cases ho'
  exact⟨_,es',ep',hL,r'⟩) hok hg
theorem Inv.turned{t':Nat}{it:Addr}(I:Inv X z0 σ H s)(k:∀ b o,b≠it->s.heap.get? b=some o->h'.get? b=some o)(hn:H it=none)(hL:it≠X.env.locals)
  (h1:it∈X.ex\/X.s₀.heap.objs.size<=it) (h2:∀ x c,X.env.cells.lookup x=some c->c≠it) (h3:∀ p∈X.pn++z0,p.1≠it):Inv X z0 σ H { s with heap:=h',toks:=t' }:=by
 have nit:∀ b u,H b=some u->b≠it:=fun b u e z=>by rw[z,hn] at e;cases e
 refine I.step (g':=s.gens) (d':=s.drawn) (ch:=[it]) (fun b hb=>?_) (fun b o _ _ hc e _=>k b o (fun z=>hc (by simp[z])) e) (fun b o _ _ hc e _=>⟨o.slots,k b o (fun z=>hc (by simp[z])) e⟩) (fun _ _ _ _ n=>n)
  (fun b o hc e=>⟨o,k b o (fun z=>hc (by simp[z])) e⟩) (fun _ _ e=>e) (fun _ _ _ e=>e) (fun b ps e=>⟨#[],by rw[e];simp⟩) (fun m hm=>?_) (fun b u e=>?_) I.bare
 ·have e:b=it:=by simpa using hb
  subst e;exact⟨h1,hL,h2,h3⟩
 ·obtain⟨o,es,ep,ho,r⟩:=hm
  exact⟨o,es,ep,k _ o (W5z hL) ho,r⟩
 ·refine(I.hok b u e).stay (fun c v hc q=>k c v ?_ q) (fun _ q=>q) fun _ _ q=>q
  rcases hc with z | z
  ·rw[z];exact nit b u e
  ·exact nit c _ z
theorem Inv.tok(I:Inv X z0 σ H s)(t:Nat):Inv X z0 σ H { s with toks:=t }:=I.un (h':=s.heap) (t':=t) Un.refl I.hok
theorem Inv.kept{t':Nat}(I:Inv X z0 σ H s)(k:∀ b u,s.heap.get? b=some u->h'.get? b=some u):Inv X z0 σ H { s with heap:=h',toks:=t' }:=I.un (Un.kept k) (I.hok.kept k)
theorem Inv.laid{a:Addr}{o:HO}{t':Nat}(I:Inv X z0 σ H s)(k:∀ b u,s.heap.get? b=some u->h'.get? b=some u)(hp:s.heap.objs.size<=a)(new:cG X.prog X.w (upd H a o) h' a o) :
  Inv X z0 σ (upd H a o) { s with heap:=h',toks:=t' }:=I.un (Un.laid k hp (I.hok.fresh hp)) (I.hok.laid k hp new)
theorem Inv.write{x e:Addr}{o:HO}{t':Nat}(I:Inv X z0 σ H s)(mu:Mut (H x))(he:e=x\/H e=some (.own x))(k:∀ b u,b≠e->s.heap.get? b=some u->h'.get? b=some u)(heo:∃ u,h'.get? e=some u)
  (new:cG X.prog X.w (upd H x o) h' x o):Inv X z0 σ (upd H x o) { s with heap:=h',toks:=t' }:=I.un (Un.write mu he k heo) (I.hok.write mu he k heo new)
theorem Inv.pins_of{pins':List (Addr×Obj)}(I:Inv X z0 σ H s)(h:∀ p∈pins',s.heap.get? p.1=some p.2/\H p.1=none/\p.1≠X.env.locals/\p.1∉X.fs/\∀ v,p.2.data≠.cell v):Inv X pins' σ H s :=
 ⟨I.ok,I.os,I.bare,I.base,I.loc,I.cell,I.free,I.freeC,fun p hp=>(List.mem_append.mp hp).elim (fun z=>I.pin p (Z0z _ z)) (h p),I.hok,I.len⟩
theorem lY{N:List Str}(hN:N.Nodup){i j:Nat}{x:Str}(a:N[i]?=some x)(b:N[j]?=some x):i=j:=by
 obtain⟨h1,e1⟩:=List.getElem?_eq_some_iff.mp a;obtain⟨h2,e2⟩:=List.getElem?_eq_some_iff.mp b;exact(List.getElem_inj hN).mp (e1.trans e2.symm)
theorem nR{M:Model}{A:Around}{E:Value->Shared->Prop}{i:Nat}{x:Str}{v:V}{u:Value}{Q:Unit->Shared->Prop}(I:Inv X z0 σ H s)(hN:X.N.Nodup)(hi:X.N[i]?=some x)(hx:Loc X.env.scope x)(r:RelV v u)
  (h:∀ s',Inv X z0 (σ.set i (some v)) H s'->(∃ a,Heap.SameBut a s.heap s'.heap/\(a=X.env.locals\/X.env.cells.lookup x=some a))->Q () s') (hf:X.fn x=true\/X.env.scope.names.lookup x=some .local:=by first | exact .inl rfl | exact .inr rfl | assumption):wpAny M A (storeName X.env x u) Q E s:=by
 obtain⟨m,hn,hl⟩:=id I.loc
 have hcls:(X.env.scope.kind==.class||(X.env.scope.kind==.module&&X.env.locals !=X.env.globals))=false:=by rw[I.ok.kind];rfl
 have hiσ:i<σ.length:=by rw[I.len];exact(List.getElem?_eq_some_iff.mp hi).1
 have cne:=I.cne
 have tracked:∀ {a:Addr} {h':Heap},(∃ o,s.heap.get? a=some o/\H a=none)->Heap.SameBut a s.heap h'->HOk X.prog X.w H h':=fun {a h'} ha hs b ob e=>by
  obtain⟨_,_,hfree⟩:=ha;refine(I.hok b ob e).stay (fun c w' hc q=>(hs.2 c ?_).trans q) (fun _ q=>q) fun _ _ q=>q;rintro rfl;rcases hc with rfl | hc
  ·rw[hfree] at e;cases e
  ·rw[hfree] at hc;cases hc
 rcases hx with hk | hk
 ·refine wpAny_storeName_local hk hn (fun h' hn' hs=>?_) hcls
  obtain⟨oL,_,_,hoL,_⟩:=id hn;refine h _ ⟨I.ok,I.os,I.bare,⟨fun b o e n hb hx=>?_,fun b o e n hb hx=>?_,I.base.free,fun b o e hx=>?_,I.base.tups,I.base.frzs,I.base.tbls⟩,⟨_,hn',fun j y v' e1 e2 e3=>?_⟩,fun y c e=>?_,I.free,I.freeC,fun p hp=>?_,tracked ⟨oL,hoL,I.free⟩ hs,by simpa using I.len⟩ ⟨_,hs,.inl rfl⟩
  ·exact(hs.2 b (U4z (N1z (T4z e) I.ok.above))).trans (I.base.keep b o e n hb hx)
  ·obtain⟨sl,e1⟩:=I.base.slot b o e n hb hx
   exact⟨sl,(hs.2 b (U4z (N1z (T4z e) I.ok.above))).trans e1⟩
  ·obtain⟨o',e1⟩:=I.base.there b o e hx
   exact⟨o',(hs.2 b (U4z (N1z (T4z e) I.ok.above))).trans e1⟩
  ·by_cases hj:j=i
   ·subst hj
    rw[hi] at e1;cases e1
    rw[List.getElem?_set_self hiσ] at e2;cases e2;exact⟨u,r,.inl ⟨hk,by simp⟩⟩
   ·rw[List.getElem?_set_ne (W5z hj)] at e2
    obtain⟨u',r',q⟩:=hl j y v' e1 e2 e3;refine⟨u',r',?_⟩;rcases q with⟨k,e⟩ | ⟨k,c,e,z⟩
    ·refine .inl ⟨k,?_⟩
     have:y≠x:=fun e=>hj (lY hN e1 (e▸hi));simp[this,e]
    ·exact .inr ⟨k,c,e,z.sameBut hs (cne y c e)⟩
  ·obtain⟨w',z⟩:=I.cell y c e
   exact⟨w',z.sameBut hs (cne y c e)⟩
  ·obtain⟨e,n,ne,nf,d⟩:=I.pin p hp
   exact⟨(hs.2 p.1 ne).trans e,n,ne,nf,d⟩
 ·have hfn:X.fn x=true:=by
   rcases hf with z | z
   ·exact z
   ·rw[z] at hk;cases hk
  obtain⟨c,hc⟩:=I.ok.has x (.inl hk);obtain⟨w',z⟩:=I.cell x c hc;refine wpAny_storeName_cell I.ok.kind hk hc z (fun h' hc' hs=>?_);obtain⟨oc,hoc,hocd⟩:=id z;refine h { s with heap:=h' } ⟨I.ok,I.os,I.bare,⟨fun b o e n hb hx=>?_,fun b o e n hb hx=>?_,I.base.free,fun b o e hx=>?_,I.base.tups,I.base.frzs,I.base.tbls⟩,⟨m,hn.sameBut hs (W5z (cne x c hc)),fun j y v' e1 e2 e3=>?_⟩,fun y c' e=>?_,I.free,I.freeC,fun p hp=>?_,tracked ⟨oc,hoc,I.freeC x c hc⟩ hs,by simpa using I.len⟩ ⟨c,hs,.inr hc⟩
  ·exact(hs.2 b (U4z (N1z (T4z e) (I.ok.cab x c hfn hc)))).trans (I.base.keep b o e n hb hx)
  ·obtain⟨sl,e1⟩:=I.base.slot b o e n hb hx
   exact⟨sl,(hs.2 b (U4z (N1z (T4z e) (I.ok.cab x c hfn hc)))).trans e1⟩
  ·obtain⟨o',e1⟩:=I.base.there b o e hx
   exact⟨o',(hs.2 b (U4z (N1z (T4z e) (I.ok.cab x c hfn hc)))).trans e1⟩
  ·by_cases hj:j=i
   ·subst hj
    rw[hi] at e1;cases e1
    rw[List.getElem?_set_self hiσ] at e2;cases e2;exact⟨u,r,.inr ⟨.inl hk,c,hc,hc'⟩⟩
   ·rw[List.getElem?_set_ne (W5z hj)] at e2
    obtain⟨u',r',q⟩:=hl j y v' e1 e2 e3;refine⟨u',r',?_⟩;rcases q with q | ⟨k,c',e,z'⟩
    ·exact .inl q
    ·refine .inr ⟨k,c',e,z'.sameBut hs ?_⟩
     rintro rfl;exact hj (lY hN e1 (I.ok.inj _ _ _ e hc▸hi))
  ·by_cases hcc:c'=c
   ·subst hcc;exact⟨_,hc'⟩
   ·obtain⟨w2,z2⟩:=I.cell y c' e
    exact⟨w2,z2.sameBut hs hcc⟩
  ·obtain⟨e,n,ne,nf,d⟩:=I.pin p hp
   refine⟨(hs.2 p.1 ?_).trans e,n,ne,nf,d⟩;intro q;rw[q,hoc] at e;have q':oc=p.2:=E3z e;exact d w' (by rw[<- q'];exact hocd)
theorem f9{M:Model}{A:Around}{E:Value->Shared->Prop}{i:Nat}{x:Str}{v:V}{u:Value}{Q:Unit->Shared->Prop}(I:Inv X z0 σ H s)(hN:X.N.Nodup)(hi:X.N[i]?=some x)(hx:Loc X.env.scope x)(r:RelV v u)
  (h:∀ s',Inv X z0 (σ.set i (some v)) H s'->Q () s') (hf:X.fn x=true\/X.env.scope.names.lookup x=some .local:=by first | exact .inl rfl | exact .inr rfl | assumption):wpAny M A (storeName X.env x u) Q E s :=
 nR I hN hi hx r (fun s' I' _=>h s' I') hf
theorem Inv.call'{s':Shared}{ch:List Addr}(I:Inv X z0 σ H s)(ho:s'.os=s.os)(u:Un (frs X.stack) ch H H' s.heap s'.heap)(hok:HOk X.prog X.w H' s'.heap)(hg:AllBare s'.gens)
  (hch:∀ b∈ch,(b∈X.ex\/X.s₀.heap.objs.size<=b)/\b≠X.env.locals/\(∀ x c,X.env.cells.lookup x=some c->c≠b)/\∀ p∈X.pn++z0,p.1≠b):Inv X z0 σ H' s':=by
 obtain⟨h',g',d',t',o'⟩:=s';have e:o'=s.os:=ho;subst e;exact I.call (g':=g') (t':=t') (d':=d') u hok hg hch
end
abbrev XK:=Value->Option Addr->Hp->Prop
abbrev St:=List (Option V)
abbrev VK:=V->Hp->Prop
abbrev TE:=St->Hp->VK->Prop
abbrev TT:=St->Hp->(Bool->Hp->Prop)->Prop
abbrev TA:=St->Hp->(List V->Hp->Prop)->Prop
structure Ends where
 nx:St->Hp->Prop
 rt:VK
 bk:St->Hp->Prop:=fun _ _=>False
 ct:St->Hp->Prop:=fun _ _=>False
abbrev TS:=Ends->St->Hp->Prop
def EP(X:Cx)(z0:List (Addr×Obj))(σ:St)(Q:VK)(u:Value)(s':Shared):Prop:=∃ v H',Inv X z0 σ H' s'/\RelV v u/\Q v H'
def TP(X:Cx)(z0:List (Addr×Obj))(σ:St)(Q:Bool->Hp->Prop)(b:Bool)(s':Shared):Prop:=∃ H',Inv X z0 σ H' s'/\Q b H'
def AP(X:Cx)(z0:List (Addr×Obj))(σ:St)(Q:List V->Hp->Prop)(us:List Value)(s':Shared):Prop:=∃ vs H',Inv X z0 σ H' s'/\Vals vs us/\Q vs H'
def SP(X:Cx)(z0:List (Addr×Obj))(D:Ends)(f:Flow)(s':Shared):Prop :=
 match f with
 | .next=>∃ σ' H',Inv X z0 σ' H' s'/\D.nx σ' H'
 | .brk=>∃ σ' H',Inv X z0 σ' H' s'/\D.bk σ' H'
 | .cont=>∃ σ' H',Inv X z0 σ' H' s'/\D.ct σ' H'
 | .ret u=>∃ v σ' H',Inv X z0 σ' H' s'/\RelV v u/\D.rt v H'
def PE(X:Cx)(e:Expr)(t:TE):Prop :=
 ∀ (z0:List (Addr×Obj)) (s:Shared) (σ:St) (H:Hp) (Q:VK),Inv X z0 σ H s->t σ H Q->wpAny (model X.prog X.w) X.A (eval e X.env) (EP X z0 σ Q) X.xe s
def PT(X:Cx)(e:Expr)(t:TT):Prop :=
 ∀ (z0:List (Addr×Obj)) (s:Shared) (σ:St) (H:Hp) (Q:Bool->Hp->Prop),Inv X z0 σ H s->t σ H Q->wpAny (model X.prog X.w) X.A (isTrue e X.env (eval e X.env)) (TP X z0 σ Q) X.xe s
def PW(X:Cx)(e:Expr)(t:TT):Prop :=
 ∀ (whole:Sem Value) (z0:List (Addr×Obj)) (s:Shared) (σ:St) (H:Hp) (Q:Bool->Hp->Prop),Inv X z0 σ H s->t σ H Q->wpAny (model X.prog X.w) X.A (isTrue e X.env whole) (TP X z0 σ Q) X.xe s
def PA(X:Cx)(es:List Expr)(t:TA):Prop :=
 ∀ (pos:Pos) (z0:List (Addr×Obj)) (s:Shared) (σ:St) (H:Hp) (Q:List V->Hp->Prop),Inv X z0 σ H s->t σ H Q->wpAny (model X.prog X.w) X.A (spliced (backTo pos (starEach es X.env))) (AP X z0 σ Q) X.xe s
def PS(X:Cx)(st:Stmt)(t:TS):Prop :=
 ∀ (z0:List (Addr×Obj)) (s:Shared) (σ:St) (H:Hp) (D:Ends),Inv X z0 σ H s->t D σ H->wpAny (model X.prog X.w) X.A (exec st X.env) (SP X z0 D) X.xe s
def PSs(X:Cx)(st:List Stmt)(t:TS):Prop :=
 ∀ (z0:List (Addr×Obj)) (s:Shared) (σ:St) (H:Hp) (D:Ends),Inv X z0 σ H s->t D σ H->wpAny (model X.prog X.w) X.A (execs st X.env) (SP X z0 D) X.xe s
theorem thn{α:Type}{t:Sem α}{Q Q':α->Shared->Prop}{M:Model}{A:Around}{E:Value->Shared->Prop}{s:Shared}(h:wpAny M A t Q E s)(hQ:∀ a s,Q a s->Q' a s):wpAny M A t Q' E s:=M5z h hQ fun _ _ x=>x
section
variable {X:Cx}
def NT(i:Nat):TE:=fun σ H Q=>∃ v,σ[i]?=some (some v)/\Q v H
def tC(v:V):TE:=fun _ H Q=>Q v H
theorem ju{i:Nat}{x:Str}{pos:Pos}(hN:X.N[i]?=some x)(hv:Vis X.env.scope x)(hd:(x==("__debug__":Str))=false:=by decide)(hcd:(x==("__classdict__":Str))=false:=by decide):PE X (.Name x pos) (NT i):=by
 intro z0 s σ H Q I h;obtain⟨v,e,h⟩:=h;obtain⟨m,hn,hl⟩:=I.loc;obtain⟨u,r,l⟩:=hl i x v hN e hv;have fin:EP X z0 σ Q u s:=⟨v,H,I,r,h⟩;rcases l with⟨hk,hm⟩ | ⟨hk,c,hc,hcell⟩
 ·exact wpAny_Name (wpAny_loadName_local I.ok.kind hk hn hm fin) hd
 ·rcases hk with hk | hk
  ·exact wpAny_Name (wpAny_loadName_cell I.ok.kind hk hc hcell fin) hd
  ·exact wpAny_Name (wpAny_loadName_free I.ok.kind hk hc hcell fin hcd) hd
theorem KZ{i j pos}:PE X (.Constant (.int i) j pos) (tC (.int i)):=fun _ _ _ H _ I h=>wpAny_Constant_int ⟨.int i,H,I.tok _,⟨_,rfl⟩,h⟩
theorem Qd{b j pos}:PE X (.Constant (.bool b) j pos) (tC (.bl b)):=fun _ _ _ H _ I h=>Constant_bool ⟨.bl b,H,I,rfl,h⟩
theorem KY{j pos}:PE X (.Constant .none j pos) (tC .non):=fun _ _ _ H _ I h=>Constant_none ⟨.non,H,I,rfl,h⟩
theorem Df{x j pos}:PE X (.Constant (.str x) j pos) (tC (.str x)):=fun _ _ _ H _ I h=>Calls.Constant_str ⟨.str x,H,I.tok _,⟨_,rfl⟩,h⟩
def Gl(X:Cx)(x:Str):Prop:=X.env.kindOf x=some .globalImplicit
theorem jA{E:Value->Shared->Prop}{z0:List (Addr×Obj)}{s:Shared}{σ:St}{H:Hp}{x:Str}{u:Value}{pos:Pos}{Q:Value->Shared->Prop}(I:Inv X z0 σ H s)(hg:Gl X x)(hm:X.mg x=some u)(h:Q u s)
  (hd:(x==("__debug__":Str))=false:=by decide):wpAny (model X.prog X.w) X.A (eval (.Name x pos) X.env) Q E s :=
 Calls.Name_function_global I.ok.kind hg (Calls.loadGlobal_global (by rw[I.ok.glob];exact I.mod.glob.keeps I.bk) hm h) hd
theorem eZ{E:Value->Shared->Prop}{z0:List (Addr×Obj)}{s:Shared}{σ:St}{H:Hp}{x:Str}{u:Value}{pos:Pos}{Q:Value->Shared->Prop}(I:Inv X z0 σ H s)(hg:Gl X x)(hm:X.mg x=none)(hv:bootBuiltins x=some u)(h:Q u s)
  (hn:x≠"__name__":=by decide) (hd:(x==("__debug__":Str))=false:=by decide):wpAny (model X.prog X.w) X.A (eval (.Name x pos) X.env) Q E s:=by
 obtain⟨mb,h1,h2⟩:=I.mod.blt;exact Calls.Name_function_global I.ok.kind hg (Calls.loadGlobal_builtin (by rw[I.ok.glob];exact I.mod.glob.keeps I.bk) hm (by rw[I.ok.blt];exact h1.keeps I.bk) ((h2 x hn).trans hv) h) hd
theorem qj{x:Str}{v:V}{u:Value}{pos:Pos}(hg:Gl X x)(hm:X.mg x=some u)(r:RelV v u)(hd:(x==("__debug__":Str))=false:=by decide):PE X (.Name x pos) (tC v) :=
 fun _ _ _ H _ I h=>jA I hg hm ⟨v,H,I,r,h⟩ hd
theorem wN{x:Str}{v:V}{u:Value}{pos:Pos}(hg:Gl X x)(hm:X.mg x=none)(hv:bootBuiltins x=some u)(r:RelV v u)(hn:x≠"__name__":=by decide)(hd:(x==("__debug__":Str))=false:=by decide):PE X (.Name x pos) (tC v) :=
 fun _ _ _ H _ I h=>eZ I hg hm hv ⟨v,H,I,r,h⟩ hn hd
variable {a b:Expr} {ta tb:TE} {pos:Pos}
def tB(t:TE):TT:=fun σ H Q=>t σ H fun x H1=>∃ c,x=.bl c/\Q c H1
theorem CV{e:Expr}{t:TE}(h:PE X e t)(he:∀ whole,isTrue e X.env whole=(do let v <- whole;standAt e.pos;holding [v] (truthy v)):=by intro _;rfl):PT X e (tB t):=by
 intro z0 s σ H Q I hw;refine isTrue_plain (thn (h z0 s σ H _ I hw) fun v s1 ⟨x,H1,I1,r1,q1⟩=>?_) (he _);obtain⟨d,rfl,q⟩:=q1;cases r1;exact Z1z ⟨H1,I1,q⟩
variable {tA tB':TT} {rest:List Expr}
def Za(t u:TT):TT:=fun σ H Q=>t σ H fun c H1=>if c=true then u σ H1 Q else Q false H1
def tOr(t u:TT):TT:=fun σ H Q=>t σ H fun c H1=>if c=true then Q true H1 else u σ H1 Q
def Y0(t:TT):TT:=fun σ H Q=>t σ H fun c H1=>Q (!c) H1
theorem Gf(ha:PT X a tA):PW X (.BoolOp .And [a] pos) tA:=by
 intro wh z0 s σ H Q I h;refine isTrue_and (thn (ha z0 s σ H Q I h) fun c s1 e=>?_)
 cases c with
 | true=>exact isTrue_and_nil e
 | false=>exact e
theorem Kp(ha:PT X a tA):PW X (.BoolOp .Or [a] pos) tA:=by
 intro wh z0 s σ H Q I h;refine isTrue_or (thn (ha z0 s σ H Q I h) fun c s1 e=>?_)
 cases c with
 | false=>exact isTrue_or_nil e
 | true=>exact e
theorem CP(ha:PT X a tA)(hb:PW X (.BoolOp .And (b::rest) pos) tB'):PW X (.BoolOp .And (a::b::rest) pos) (Za tA tB'):=by
 intro wh z0 s σ H Q I h;refine isTrue_and (thn (ha z0 s σ H _ I h) fun c s1 ⟨H1,I1,q1⟩=>?_)
 cases c with
 | true=>exact hb wh z0 s1 σ H1 Q I1 q1
 | false=>exact⟨H1,I1,q1⟩
theorem Kq(ha:PT X a tA)(hb:PW X (.BoolOp .Or (b::rest) pos) tB'):PW X (.BoolOp .Or (a::b::rest) pos) (tOr tA tB'):=by
 intro wh z0 s σ H Q I h;refine isTrue_or (thn (ha z0 s σ H _ I h) fun c s1 ⟨H1,I1,q1⟩=>?_)
 cases c with
 | true=>exact⟨H1,I1,q1⟩
 | false=>exact hb wh z0 s1 σ H1 Q I1 q1
theorem CW(ha:PT X a tA):PT X (.UnaryOp .Not a pos) (Y0 tA):=by
 intro z0 s σ H Q I h;exact isTrue_not (ha z0 s σ H (fun c H1=>Q (!c) H1) I h)
def O5(ta tb:TE):TE:=fun σ H Q=>ta σ H fun x H1=>∃ c,x=.bl c/\if c=true then tb σ H1 Q else Q (.bl false) H1
def YZ(ta tb:TE):TE:=fun σ H Q=>ta σ H fun x H1=>∃ c,x=.bl c/\if c=true then Q (.bl true) H1 else tb σ H1 Q
def Oz(ta:TE):TE:=fun σ H Q=>ta σ H fun x H1=>∃ c,x=.bl c/\Q (.bl (!c)) H1
theorem KQ{op}{t:TE}(h:PE X a t):PE X (.BoolOp op [a] pos) t:=fun z0 s σ H Q I hw=>BoolOp_one (h z0 s σ H Q I hw)
theorem Dh(ha:PE X a ta)(hb:PE X (.BoolOp .And (b::rest) pos) tb):PE X (.BoolOp .And (a::b::rest) pos) (O5 ta tb):=by
 intro z0 s σ H Q I h;refine BoolOp_and (thn (ha z0 s σ H _ I h) fun v s1 ⟨x,H1,I1,r1,q1⟩=>?_);obtain⟨c,rfl,q1⟩:=q1;cases r1;refine Z1z ?_
 cases c with
 | true=>exact hb z0 s1 σ H1 Q I1 q1
 | false=>exact⟨.bl false,H1,I1,rfl,q1⟩
theorem KN(ha:PE X a ta)(hb:PE X (.BoolOp .Or (b::rest) pos) tb):PE X (.BoolOp .Or (a::b::rest) pos) (YZ ta tb):=by
 intro z0 s σ H Q I h;refine BoolOp_or (thn (ha z0 s σ H _ I h) fun v s1 ⟨x,H1,I1,r1,q1⟩=>?_);obtain⟨c,rfl,q1⟩:=q1;cases r1;refine Z1z ?_
 cases c with
 | false=>exact hb z0 s1 σ H1 Q I1 q1
 | true=>exact⟨.bl true,H1,I1,rfl,q1⟩
theorem KR(ha:PE X a ta):PE X (.UnaryOp .Not a pos) (Oz ta):=by
 intro z0 s σ H Q I h;refine UnaryOp_ (thn (ha z0 s σ H _ I h) fun v s1 ⟨x,H1,I1,r1,q1⟩=>?_);obtain⟨c,rfl,q1⟩:=q1;cases r1;exact not_of (Z1z ⟨.bl (!c),H1,I1,rfl,q1⟩)
def tIf(t:TT)(ta tb:TE):TE:=fun σ H Q=>t σ H fun c H1=>if c=true then ta σ H1 Q else tb σ H1 Q
theorem lO{c:Expr}(hc:PT X c tA)(ha:PE X a ta)(hb:PE X b tb):PE X (.IfExp c a b pos) (tIf tA ta tb):=by
 intro z0 s σ H Q I h;refine wpAny_IfExp (thn (hc z0 s σ H _ I h) fun d s1 ⟨H1,I1,q1⟩=>?_)
 cases d with
 | true=>exact ha z0 s1 σ H1 Q I1 q1
 | false=>exact hb z0 s1 σ H1 Q I1 q1
end
def SqL(K:Z2)(H:Hp)(a:Addr)(xs:List V):Prop :=
 Rd H a (.lst xs) \/
  ∃ (o:Obj) (its:Array Value) (n:Nat),K.lookup a=some o/\o.cls=.type "list"/\o.dict=none/\o.data=.seq its n/\its.size<=sizeLine/\Vals xs its.toList
def SqT(K:Z2)(H:Hp)(a:Addr)(xs:List V):Prop :=
 Rd H a (.tup xs) \/
  ∃ (o:Obj) (its:Array Value) (n:Nat),K.lookup a=some o/\o.cls=.type "tuple"/\o.data=.seq its n/\its.size<=sizeLine/\Vals xs its.toList
def ZX:Value->Option V
 | .none=>some .non
 | .bool b=>some (.bl b)
 | .int i _=>some (.int i)
 | .str x _=>some (.str x)
 | .bytes b _=>some (.byt b)
 | .float b _=>some (.flt b)
 | .ref a=>some (.ref a)
 | .type n=>some (.ty n)
 | _=>none
theorem RelV.abs{x:V}{u:Value}(r:RelV x u):ZX u=some x:=by
 cases x with
 | non=>cases r;rfl
 | bl _=>cases r;rfl
 | int _=>obtain⟨t,rfl⟩:=r;rfl
 | str _=>obtain⟨t,rfl⟩:=r;rfl
 | byt _=>obtain⟨t,rfl⟩:=r;rfl
 | flt _=>obtain⟨t,rfl⟩:=r;rfl
 | ref _=>cases r;rfl
 | ty _=>cases r;rfl
theorem RelV.inj{x y:V}{u:Value}(r:RelV x u)(q:RelV y u):x=y:=E3z (r.abs.symm.trans q.abs)
theorem Vals.inj:∀ {xs ys:List V} {us:List Value},Vals xs us->Vals ys us->xs=ys
 | _,_,_,.nil,.nil=>rfl
 | _,_,_,.cons r t,.cons r' t'=>by rw[r.inj r',Vals.inj t t']
section
variable {X:Cx} {z0:List (Addr×Obj)} {σ:St} {H:Hp} {s:Shared} {a:Addr} {xs ys:List V}
theorem SqL.of{K:Z2}(h:H a=some (.lst xs)):SqL K H a xs:=.inl (.inl h)
theorem SqT.of{K:Z2}(h:H a=some (.tup xs)):SqT K H a xs:=.inl (.inl h)
theorem Inv.list(I:Inv X z0 σ H s)(h:SqL X.K H a xs):∃ its:List Value,Vals xs its/\PlainL s.heap a its.toArray/\xs.length<=sizeLine:=by
 rcases h with h | ⟨o,its,n,hk,hc,hd,hs,hz,r⟩
 ·obtain⟨z,its,n,r,e⟩:=h.ok I.hok
  exact⟨its,r,⟨_,n,e,rfl,rfl,rfl⟩,z⟩
 ·refine⟨its.toList,r,⟨o,n,I.kIn a o hk,hc,hd,by simpa using hs⟩,?_⟩
  have e:=r.length;simp only[H1z] at e;omega
theorem Inv.tuple(I:Inv X z0 σ H s)(h:SqT X.K H a xs):∃ its:List Value,Vals xs its/\IsTup s.heap a its.toArray/\xs.length<=sizeLine:=by
 rcases h with h | ⟨o,its,n,hk,hc,hs,hz,r⟩
 ·obtain⟨z,its,r,p⟩:=h.ok I.hok
  exact⟨its,r,p,z⟩
 ·refine⟨its.toList,r,⟨o,I.kIn a o hk,hc,n,by simpa using hs⟩,?_⟩
  have e:=r.length;simp only[H1z] at e;omega
theorem Inv.list_inj(I:Inv X z0 σ H s)(h:SqL X.K H a xs)(h':SqL X.K H a ys):xs=ys:=by
 obtain⟨its,r,⟨o,n,e,_,_,d⟩,_⟩:=I.list h;obtain⟨its',r',⟨o',n',e',_,_,d'⟩,_⟩:=I.list h';rw[e] at e';cases e';rw[d] at d';injection d' with d1 _
 have:its=its':=by simpa using congrArg Array.toList d1
 subst this;exact r.inj r'
theorem Inv.tuple_inj(I:Inv X z0 σ H s)(h:SqT X.K H a xs)(h':SqT X.K H a ys):xs=ys:=by
 obtain⟨its,r,⟨o,e,_,n,d⟩,_⟩:=I.tuple h;obtain⟨its',r',⟨o',e',_,n',d'⟩,_⟩:=I.tuple h';rw[e] at e';cases e';rw[d] at d';injection d' with d1 _
 have:its=its':=by simpa using congrArg Array.toList d1
 subst this;exact r.inj r'
end
abbrev Cx.wish(X:Cx)(E:Value->Shared->Prop):Cx:={ X with xe:=E }
abbrev Cx.nox(X:Cx):Cx:=X.wish fun _ _=>False
theorem Cx.Ok.wish{X:Cx}(ok:X.Ok)(E:Value->Shared->Prop):(X.wish E).Ok :=
 ⟨ok.mod,ok.kind,ok.glob,ok.blt,ok.above,ok.inj,ok.has,ok.cab,ok.hd,ok.frames,ok.stk,ok.exf,ok.bs,ok.bsz,ok.noex,ok.exfs,ok.funs,ok.frf⟩
theorem Cx.Ok.unwish{X:Cx}{E:Value->Shared->Prop}(ok:(X.wish E).Ok):X.Ok :=
 ⟨ok.mod,ok.kind,ok.glob,ok.blt,ok.above,ok.inj,ok.has,ok.cab,ok.hd,ok.frames,ok.stk,ok.exf,ok.bs,ok.bsz,ok.noex,ok.exfs,ok.funs,ok.frf⟩
section
variable {X:Cx} {z0:List (Addr×Obj)} {σ:St} {H:Hp} {s:Shared} {E:Value->Shared->Prop}
theorem Inv.wish(I:Inv X z0 σ H s)(E:Value->Shared->Prop):Inv (X.wish E) z0 σ H s:=⟨I.ok.wish E,I.os,I.bare,I.base,I.loc,I.cell,I.free,I.freeC,I.pin,I.hok,I.len⟩
theorem Inv.unwish(I:Inv (X.wish E) z0 σ H s):Inv X z0 σ H s:=⟨I.ok.unwish,I.os,I.bare,I.base,I.loc,I.cell,I.free,I.freeC,I.pin,I.hok,I.len⟩
theorem SP.unwish{D:Ends}{f:Flow}{s':Shared}(h:SP (X.wish E) z0 D f s'):SP X z0 D f s':=by
 cases f with
 | next=>obtain⟨σ',H',I,q⟩:=h;exact⟨σ',H',I.unwish,q⟩
 | brk=>obtain⟨σ',H',I,q⟩:=h;exact⟨σ',H',I.unwish,q⟩
 | cont=>obtain⟨σ',H',I,q⟩:=h;exact⟨σ',H',I.unwish,q⟩
 | ret u=>obtain⟨v,σ',H',I,r,q⟩:=h;exact⟨v,σ',H',I.unwish,r,q⟩
end
section
variable {X:Cx} {st:Stmt} {rest:List Stmt} {t u:TS} {e:Expr} {te:TE} {pos:Pos}
def Ft:TS:=fun D σ H=>D.nx σ H
def Wi(t u:TS):TS:=fun D σ H=>t { D with nx:=u D } σ H
theorem wD:PSs X [] Ft:=fun _ _ σ H _ I h=>F3z ⟨σ,H,I,h⟩
theorem lM(h1:PS X st t)(h2:PSs X rest u):PSs X (st::rest) (Wi t u):=by
 intro z0 s σ H D I h;refine wpAny_execs_cons (thn (h1 z0 s σ H { D with nx:=u D } I h) fun f s1 q=>?_)
 cases f with
 | next =>
  obtain⟨σ',H',I',q⟩:=q;exact h2 z0 s1 σ' H' D I' q
 | ret v=>exact q
 | brk=>exact q
 | cont=>exact q
theorem Gj:PS X (.Pass pos) Ft:=fun _ _ σ H _ I h=>wpAny_Pass ⟨σ,H,I,h⟩
theorem Inv.quiet{z0:List (Addr×Obj)}{σ:St}{H:Hp}{s:Shared}(I:Inv X z0 σ H s):interactive X.env=false:=by simp[interactive,I.ok.kind]
def O1(te:TE):TS:=fun D σ H=>te σ H fun _ H1=>D.nx σ H1
theorem jq(he:PE X e te)(hs:swapsWith e none pos.line X.env=pure false:=by rfl):PS X (.Expr e pos) (O1 te):=by
 intro z0 s σ H D I h;exact wpAny_Expr_any (thn (he z0 s σ H _ I h) fun v s1 ⟨x,H1,I1,r1,q1⟩=>⟨σ,H1,I1,q1⟩) I.quiet hs
def YW(te:TE):TS:=fun D σ H=>te σ H D.rt
theorem Ks(he:PE X e te):PS X (.Return (some e) pos) (YW te):=by
 intro z0 s σ H D I h;exact wpAny_Return_some (thn (he z0 s σ H _ I h) fun v s1 ⟨x,H1,I1,r1,q1⟩=>⟨x,σ,H1,I1,r1,q1⟩)
def Ox:TS:=fun D _ H=>D.rt .non H
theorem Gi:PS X (.Return none pos) Ox:=fun _ _ σ H _ I h=>wpAny_Return_none ⟨.non,σ,H,I,rfl,h⟩
def Y5(c:TT)(t u:TS):TS:=fun D σ H=>c σ H fun b H1=>if b=true then t D σ H1 else u D σ H1
theorem Gk{c:Expr}{a b:List Stmt}{tc:TT}(hc:PT X c tc)(ha:PSs X a t)(hb:PSs X b u):PS X (.If c a b pos) (Y5 tc t u):=by
 intro z0 s σ H D I h;refine wpAny_If (thn (hc z0 s σ H _ I h) fun d s1 ⟨H1,I1,q1⟩=>?_)
 cases d with
 | true=>exact ha z0 s1 σ H1 D I1 q1
 | false=>exact hb z0 s1 σ H1 D I1 q1
end
abbrev TG:=V->St->Hp->(St->Hp->Prop)->Prop
abbrev TGs:=List V->St->Hp->(St->Hp->Prop)->Prop
def PG(X:Cx)(target:Expr)(t:TG):Prop :=
  ∀ (z0 : List (Addr × Obj)) (s : Shared) (σ : St) (H : Hp) (v : V) (u : Value) (Q : St -> Hp -> Prop), Inv X z0 σ H s -> RelV v u -> t v σ H Q ->
    wpAny (model X.prog X.w) X.A (assign target X.env u) (fun _ s'=>∃ σ' H',Inv X z0 σ' H' s'/\Q σ' H') X.xe s
def PGs(X:Cx)(ts:List Expr)(t:TGs):Prop :=
  ∀ (z0 : List (Addr × Obj)) (s : Shared) (σ : St) (H : Hp) (vs : List V) (us : List Value) (Q : St -> Hp -> Prop), Inv X z0 σ H s -> Vals vs us -> t vs σ H Q ->
    wpAny (model X.prog X.w) X.A (assignInOrder ((assignEach ts X.env).map (·.2)) us) (fun _ s'=>∃ σ' H',Inv X z0 σ' H' s'/\Q σ' H') X.xe s
abbrev V9:=V->V->V->Hp->(Hp->Prop)->Prop
def Wa(X:Cx)(t:V9):Prop :=
  ∀ (z0 : List (Addr × Obj)) (s : Shared) (σ : St) (H : Hp) (o i v : V) (ov iv u : Value) (Q : Hp -> Prop), Inv X z0 σ H s -> RelV o ov -> RelV i iv -> RelV v u -> t o i v H Q ->
    wpAny (model X.prog X.w) X.A (setItem ov iv u) (fun _ s'=>∃ H',Inv X z0 σ H' s'/\Q H') X.xe s
section
variable {X:Cx} {pos:Pos}
def Bo(i:Nat):TG:=fun v σ H Q=>Q (σ.set i (some v)) H
theorem Gs{i:Nat}{x:Str}(hN:X.N.Nodup)(hi:X.N[i]?=some x)(hx:Loc X.env.scope x)(hf:X.fn x=true\/X.env.scope.names.lookup x=some .local:=by first | exact .inl rfl | exact .inr rfl | assumption):PG X (.Name x pos) (Bo i):=by
 intro z0 s σ H v u Q I r h;exact wpAny_assign_Name (f9 I hN hi hx r (fun s' I'=>⟨_,H,I',h⟩) hf)
def ZP:TGs:=fun vs σ H Q=>vs=[]/\Q σ H
def VR(t:TG)(u:TGs):TGs:=fun vs σ H Q=>∃ v r,vs=v::r/\t v σ H fun σ' H'=>u r σ' H' Q
theorem Gq:PGs X [] ZP:=by
 intro z0 s σ H vs us Q I r h;obtain⟨e,h⟩:=h;subst e;cases r;exact assignInOrder_nil ⟨σ,H,I,h⟩
theorem Af{e:Expr}{es:List Expr}{t:TG}{u:TGs}(h1:PG X e t)(h2:PGs X es u)
  (hs:(assignEach (e::es) X.env).map (·.2)=assign e X.env::(assignEach es X.env).map (·.2):=by rfl):PGs X (e::es) (VR t u):=by
 intro z0 s σ H vs us Q I r h;obtain⟨v,vr,e1,h⟩:=h;subst e1
 cases r with
 | cons r rr =>
  rw[hs];refine assignInOrder_cons (thn (h1 z0 s σ H _ _ _ I r h) fun _ s1 ⟨σ1,H1,I1,q1⟩=>?_);exact h2 z0 s1 σ1 H1 _ _ Q I1 rr q1
def gTup(K:Z2)(n:Nat)(t:TGs):TG:=fun v σ H Q=>∃ a xs,v=.ref a/\SqT K H a xs/\xs.length=n/\t xs σ H Q
theorem Dc{es:List Expr}{k:Nat}{t:TGs}{n:Nat}(hc:X.calm=true)(h:PGs X es t)
  (hn:(assignEach es X.env).length=n:=by rfl) (hst:(assignEach es X.env).findIdx? (·.1)=none:=by rfl):PG X (.Tuple es k pos) (gTup X.K n t):=by
 intro z0 s σ H v u Q I r hw;obtain⟨a,xs,e1,hq,hl,hw⟩:=hw;subst e1;cases r;obtain⟨its,rv,ht,hz⟩:=I.tuple hq;refine assign_Tuple_tuple (I.ok.hd hc) ht (by simp[hn,<- hl,rv.length]) hst fun h' hx=>?_;have I1:Inv X z0 σ H { s with heap:=h' }:=I.kept (t':=s.toks) fun b o e=>hx b o (U4z (T4z e)) e;exact h z0 _ σ H xs _ Q I1 (by simpa using rv) hw
def ZM(to ti:TE)(t:V9):TG:=fun v σ H Q=>to σ H fun o H1=>ti σ H1 fun i H2=>t o i v H2 fun H3=>Q σ H3
theorem Dd{o i:Expr}{to ti:TE}{t:V9}(ho:PE X o to)(hi:PE X i ti)(hs:Wa X t)
  (ha:∀ v,assign (.Subscript o i pos) X.env v=(do
   let ov <- holding [v] (eval o X.env)
   let iv <- holding [v,ov] (eval i X.env)
   standAt pos
   holding [v,ov,iv] (setItem ov iv v)
   release [v,ov,iv] []):=by intro _;rfl):PG X (.Subscript o i pos) (ZM to ti t):=by
 intro z0 s σ H v u Q I r h;rw[ha];refine N5z (M4z (thn (ho z0 s σ H _ I h) fun ov s1 ⟨x,H1,I1,r1,q1⟩=>?_));refine N5z (M4z (thn (hi z0 s1 σ H1 _ I1 q1) fun iv s2 ⟨y,H2,I2,r2,q2⟩=>?_));refine N5z (N4z (N5z (M4z (thn (hs z0 s2 σ H2 x y v ov iv u _ I2 r1 r2 r q2) fun _ s3 ⟨H3,I3,q3⟩=>?_))));exact wpAny_release ⟨σ,H3,I3,q3⟩
def NZ(te:TE)(g:TG):TS:=fun D σ H=>te σ H fun x H1=>g x σ H1 D.nx
theorem wG{tg e:Expr}{te:TE}{g:TG}(he:PE X e te)(hg:PG X tg g)(hs:swapsWithSole [tg] e pos.line X.env=pure false:=by rfl)(hw:swappedStores [tg] e X.env=pure none:=by rfl)
  (h1:(assignEach [tg] X.env).map (·.2)=[assign tg X.env]:=by rfl):PS X (.Assign [tg] e pos) (NZ te g):=by
 intro z0 s σ H D I h;refine wpAny_Assign_stores (thn (he z0 s σ H _ I h) fun v s1 ⟨x,H1,I1,r1,q1⟩=>?_) hs hw;rw[h1];exact thn (hg z0 s1 σ H1 x v _ I1 r1 q1) fun _ s2 q=>q
theorem jo{i:Nat}{x:Str}{e:Expr}{te:TE}{pos':Pos}(hN:X.N.Nodup)(hi:X.N[i]?=some x)(hx:Loc X.env.scope x)(he:PE X e te)(hs:swapsWith e (some (.Name x pos')) pos.line X.env=pure false:=by rfl)(hf:X.fn x=true\/X.env.scope.names.lookup x=some .local:=by first | exact .inl rfl | exact .inr rfl | assumption) :
  PS X (.Assign [.Name x pos'] e pos) (NZ te (Bo i)):=by
 intro z0 s σ H D I h;refine wpAny_Assign_Name (thn (he z0 s σ H _ I h) fun v s1 ⟨y,H1,I1,r1,q1⟩=>?_) hs;exact f9 I1 hN hi hx r1 (fun s2 I2=>⟨_,H1,I2,q1⟩) hf
def YX(i j:Nat)(ta:TA):TS:=fun D σ H=>ta σ H fun vs H1=>∃ v w,vs=[v,w]/\D.nx ((σ.set i (some v)).set j (some w)) H1
theorem Ku{i j:Nat}{x y:Str}{a b:Expr}{ta:TA}{px py pt:Pos}{kt k2 pt2}(hc:X.calm=true)(hN:X.N.Nodup)(hi:X.N[i]?=some x)(hj:X.N[j]?=some y)(hij:i≠j)
  (hx:X.env.scope.names.lookup x=some .local) (hy:X.env.scope.names.lookup y=some .local) (ha:PA X [a,b] ta)
  (hw:swappedStores [.Tuple [.Name x px,.Name y py] kt pt] (.Tuple [a,b] k2 pt2) X.env=pure (some [x,y]))
  (hs:swapsWithSole [.Tuple [.Name x px,.Name y py] kt pt] (.Tuple [a,b] k2 pt2) pos.line X.env=pure false:=by rfl) :
  PS X (.Assign [.Tuple [.Name x px,.Name y py] kt pt] (.Tuple [a,b] k2 pt2) pos) (YX i j ta):=by
 intro z0 s σ H D I h;rw[exec_Assign_arm];refine N5z (N4z ?_);rw[hs];refine N5z (O5z ?_);rw[Z5z (by decide)];refine N5z (Tuple_ (thn (ha _ z0 s σ H _ I h) fun us s1 ⟨vs,H1,I1,r1,q1⟩=>?_));obtain⟨v,w,e1,q1⟩:=q1;subst e1
 obtain⟨u1,u2,rfl,rv,rw'⟩:∃ u1 u2,us=[u1,u2]/\RelV v u1/\RelV w u2:=by
  cases r1 with
  | cons p q =>
   cases q with
   | cons p' q' =>
    cases q';exact⟨_,_,rfl,p,p'⟩
 refine A2z ?_ (by show 2<=sizeLine;decide)
 have I2:Inv X z0 σ H1 { s1 with heap:=s1.heap.push { cls:=.type "tuple",data:=.seq [u1,u2].toArray } }:=I1.kept (t':=s1.toks) fun b o e=>Heap.get?_push_of_some _ e;rw[hw];refine N5z (O5z ?_);show wpAny (model X.prog X.w) X.A (do rule "assign.swapped-stores";let items <- unpackItems (.ref s1.heap.objs.size) 2 none;assignInOrder [fun v=>bindName X.env y v,fun v=>bindName X.env x v] items.reverse;pure Flow.next) _ _ _;refine N5z (wpAny_rule (N5z (unpackItems_tuple (items := #[u1,u2]) (I.ok.hd hc) (IsTup.new s1.heap _) fun h' hx'=>?_)));have I3:=I2.kept (h':=h') (t':=s1.toks) fun b o e=>hx' b o (U4z (T4z e)) e;show wpAny _ _ (assignInOrder [fun v=>bindName X.env y v,fun v=>bindName X.env x v] [u2,u1] >>=fun _=>pure Flow.next) _ _ _;refine N5z (assignInOrder_cons (wpAny_bindName (f9 I3 hN hj (.inl hy) rw' (fun s2 I4=>?_) (.inr hy))));refine assignInOrder_cons (wpAny_bindName (f9 I4 hN hi (.inl hx) rv (fun s3 I5=>assignInOrder_nil (O5z ?_)) (.inr hx)));rw[List.set_comm _ _ (W5z hij)] at I5;exact⟨_,H1,I5,q1⟩
end
section
variable {X:Cx} {pos:Pos}
def JX(c:TT)(tb:TS):TS:=fun D σ H=>∃ W:Nat->St->Hp->Prop,(∃ m,W m σ H)/\∀ m σ H,W m σ H ->
 c σ H fun b H1=>if b=true then ∃ N:St->Hp->Prop,(∀ σ' H',N σ' H'->∃ m',m'<m/\W m' σ' H')/\tb { D with nx:=N,ct:=N,bk:=D.nx } σ H1 else D.nx σ H1
theorem Ab{c:Expr}{body:List Stmt}{tc:TT}{tb:TS}(hp:PassesOwn (model X.prog X.w) X.A X.env X.xe)(hc:PT X c tc)(hb:PSs X body tb):PS X (.While c body [] pos) (JX tc tb):=by
 intro z0 s σ H D I h;obtain⟨W,⟨m0,w0⟩,turn⟩:=h;refine wpAny_While (codeAny_whileLoop (fun n s'=>∃ σ' H',Inv X z0 σ' H' s'/\W n σ' H') ?_ m0 ⟨σ,H,I,w0⟩);rintro n s1 ⟨σ1,H1,I1,w1⟩;refine G3z hp (thn (hc z0 s1 σ1 H1 _ I1 (turn n σ1 H1 w1)) fun b s2 ⟨H2,I2,q2⟩=>?_)
 cases b with
 | true =>
  obtain⟨N,hN,q2⟩:=q2;rw[Y5z rfl];refine G3z hp (thn (hb z0 s2 σ1 H2 _ I2 q2) fun f s3 q3=>?_)
  cases f with
  | next =>
   obtain⟨σ3,H3,I3,n3⟩:=q3;obtain⟨m',hm,w3⟩:=hN σ3 H3 n3;exact⟨m',hm,σ3,H3,I3,w3⟩
  | cont =>
   obtain⟨σ3,H3,I3,n3⟩:=q3;obtain⟨m',hm,w3⟩:=hN σ3 H3 n3;exact⟨m',hm,σ3,H3,I3,w3⟩
  | brk=>exact q3
  | ret v=>exact q3
 | false =>
  rw[Z5z P1z];exact F3z ⟨σ1,H2,I2,q2⟩
end
structure It where
 go:Nat->Hp->Prop
 yld:Nat->Hp->V->Hp->Prop
 stop:Nat->Hp->Prop
def uT(X:Cx)(z0:List (Addr×Obj))(H:Hp)(b:Addr):Prop :=
 H b=none/\b≠X.env.locals/\b∉X.fs/\(b∈X.ex\/X.s₀.heap.objs.size<=b)/\(∀ x c,X.env.cells.lookup x=some c->c≠b)/\∀ p∈X.pn++z0,p.1≠b
theorem Inv.fpOk{X:Cx}{z0:List (Addr×Obj)}{σ:St}{H H':Hp}{s:Shared}{b:Addr}(I:Inv X z0 σ H s)(hb:s.heap.objs.size<=b)(hn:H' b=none):uT X z0 H' b:=by
 refine⟨hn,W4z (N1z I.lt hb),I.nofs hb,.inr (V4z I.sz hb),fun x c e z=>?_,fun p hp z=>?_⟩
 ·obtain⟨v,q⟩:=I.cell x c e
  exact absurd (N1z q.lt (by rw[z];exact hb)) (L4z _)
 ·exact absurd (N1z (T4z (I.pin p hp).1) (by rw[z];exact hb)) (L4z _)
structure Turn (P:Program) (w:World) (K:Z2) (tg:Expr) (J:It) (fp:List Addr) (it:Addr) (tn:Nat->Heap->Prop):Prop where
 mem:it∈fp
 obj:∀ i h,tn i h->∀ b∈fp,∃ o,h.get? b=some o/\∀ v,o.data≠.cell v
 keep:∀ i h h',tn i h->(∀ b∈fp,∀ o,h.get? b=some o->h'.get? b=some o)->tn i h'
 item:∀ (X:Cx),X.prog=P->X.w=w->X.K=K->X.calm=true->∀ (i:Nat) (z0:List (Addr×Obj)) (s:Shared) (σ:St) (H:Hp) (E:Value->Shared->Prop),Inv X z0 σ H s->(∀ b∈fp,uT X z0 H b)->tn i s.heap->J.go i H ->
  wpAny (model P w) X.A (pyNext (.ref it)) (fun r s1=>∃ u,r=some u /\
   wpAny (model P w) X.A (letOwnedTupleGo tg (.ref it) u) (fun _ s2=>∃ x H',Inv X z0 σ H' s2/\RelV x u/\J.yld i H x H'/\tn (i+1) s2.heap/\∀ b∈fp,H' b=none) E s1) E s
 done:∀ (X:Cx),X.prog=P->X.w=w->X.K=K->X.calm=true->∀ (i:Nat) (z0:List (Addr×Obj)) (s:Shared) (σ:St) (H:Hp) (E:Value->Shared->Prop),Inv X z0 σ H s->(∀ b∈fp,uT X z0 H b)->tn i s.heap->J.stop i H ->
  wpAny (model P w) X.A (pyNext (.ref it)) (fun r s1=>r=none/\Inv X z0 σ H s1) E s
 self:∀ (A:Around) (i:Nat) (s:Shared) (Q:Value->Shared->Prop) (E:Value->Shared->Prop),tn i s.heap->Q (.ref it) s->wpAny (model P w) A (pyIter (.ref it)) Q E s
abbrev TI:=St->Hp->(It->Hp->Prop)->Prop
def PIE(X:Cx)(z0:List (Addr×Obj))(σ:St)(tg:Expr)(R:It->Hp->Prop)(itv:Value)(s2:Shared):Prop :=
 ∃ (it:Addr) (fp:List Addr) (tn:Nat->Heap->Prop) (J:It) (H':Hp),itv=.ref it/\Inv X z0 σ H' s2/\Turn X.prog X.w X.K tg J fp it tn/\tn 0 s2.heap/\(∀ b∈fp,uT X z0 H' b)/\R J H'
def PI(X:Cx)(tg iter:Expr)(wi:TI):Prop :=
  ∀ (z0 : List (Addr × Obj)) (s : Shared) (σ : St) (H : Hp) (R : It -> Hp -> Prop), Inv X z0 σ H s -> wi σ H R ->
    wpAny (model X.prog X.w) X.A (eval iter X.env) (fun v s1=>wpAny (model X.prog X.w) X.A (pyIter v) (PIE X z0 σ tg R) X.xe s1) X.xe s
theorem Hz{M:Model}{A:Around}{E:Value->Shared->Prop}{s:Shared}{tg:Expr}{it:Addr}{u:Value}{o:Obj}{n:String}{vs:Array Value}{Q:Unit->Shared->Prop}(ho:s.heap.get? it=some o)(hc:o.cls=.type n)(hd:o.data=.fields vs)
    (hn:["enumerate","zip","dict_itemiterator","dict_reverseitemiterator","odict_iterator","itertools.zip_longest","itertools.pairwise"].contains n=false) (hQ:Q () s):wpAny M A (letOwnedTupleGo tg (.ref it) u) Q E s:=by
  unfold letOwnedTupleGo
  cases tg<;>first
    | exact O5z hQ
    | (cases u<;>first
        | exact O5z hQ
        | (refine N5z (wpAny_load ho ?_)
           rw[hc,hd]
           show wpAny M A (if(["enumerate","zip","dict_itemiterator","dict_reverseitemiterator","odict_iterator","itertools.zip_longest","itertools.pairwise"].contains n&&vs[0]?==some (rawInt _))=true then _ else _) Q E s
           rw[Z5z (by intro h;rw[hn,D4z] at h;cases h)]
           exact O5z hQ))
def Itl(K:Z2)(a:Addr):It :=
 ⟨fun i H=>∃ xs x,SqL K H a xs/\xs[i]?=some x,fun i H x H'=>H'=H/\∀ xs,SqL K H a xs->xs[i]?=some x,fun i H=>∃ xs,SqL K H a xs/\xs.length<=i⟩
def Itt(K:Z2)(a:Addr):It :=
 ⟨fun i H=>∃ xs x,SqT K H a xs/\xs[i]?=some x,fun i H x H'=>H'=H/\∀ xs,SqT K H a xs->xs[i]?=some x,fun i H=>∃ xs,SqT K H a xs/\xs.length<=i⟩
def Itr(lo:Int)(n:Nat):It:=⟨fun i _=>i<n,fun i H x H'=>H'=H/\x=.int (lo+i),fun i _=>n<=i⟩
theorem vC{P:Program}{w:World}{K:Z2}{tg:Expr}(a it:Addr):Turn P w K tg (Itl K a) [it] it (fun i h=>h.IsListIter it a i) where
 mem:=by simp
 obj:=fun i h st b hb=>by
  have e:b=it:=by simpa using hb
  subst e;obtain⟨o,e,c,d⟩:=st;exact⟨o,e,fun v z=>by rw[d] at z;cases z⟩
 keep:=fun i h h' st k=>st.at fun o e=>k it (by simp) o e
 item:=by
  intro X hP hw hK hc i z0 s σ H E I hf st hg;subst hP hw hK;obtain⟨xs,x,hq,hx⟩:=hg;obtain⟨its,rv,p,hz⟩:=I.list hq;obtain⟨u,hu,ru⟩:=rv.get hx;obtain⟨f0,f1,f2,f3,f4,f5⟩:=hf it (by simp);refine wpAny_pyNext_list_item st p.isList (x:=u) (by simpa using hu) fun h' st' sb=>?_;have I1:Inv X z0 σ H { s with heap:=h' }:=I.turned (t':=s.toks) (fun b o hb e=>(sb.2 b hb).trans e) f0 f1 f3 f4 f5;obtain⟨o,e,c,d⟩:=id st';exact⟨u,rfl,Hz (s:={ s with heap:=h' }) e c d (by decide) ⟨x,H,I1,ru,⟨rfl,fun ys hy=>by rw[I.list_inj hy hq];exact hx⟩,st',fun b hb=>(hf b hb).1⟩⟩
 done:=by
  intro X hP hw hK hc i z0 s σ H E I hf st hg;subst hP hw hK;obtain⟨xs,hq,hx⟩:=hg;obtain⟨its,rv,p,hz⟩:=I.list hq;obtain⟨f0,f1,f2,f3,f4,f5⟩:=hf it (by simp);have hl:=rv.length;exact wpAny_pyNext_list_end (I.ok.hd hc) st p.isList (by simp;omega) fun h' eb=>⟨rfl,I.turned (t':=s.toks) (fun b o hb e=>eb b o hb e) f0 f1 f3 f4 f5⟩
 self:=fun _ _ _ _ _ st h=>wpAny_pyIter_listiter st h
theorem uf{P:Program}{w:World}{K:Z2}{tg:Expr}(a it:Addr):Turn P w K tg (Itt K a) [it] it (fun i h=>h.IsTupleIter it a i) where
 mem:=by simp
 obj:=fun i h st b hb=>by
  have e:b=it:=by simpa using hb
  subst e;obtain⟨o,e,c,d⟩:=st;exact⟨o,e,fun v z=>by rw[d] at z;cases z⟩
 keep:=fun i h h' st k=>st.at fun o e=>k it (by simp) o e
 item:=by
  intro X hP hw hK hc i z0 s σ H E I hf st hg;subst hP hw hK;obtain⟨xs,x,hq,hx⟩:=hg;obtain⟨its,rv,p,hz⟩:=I.tuple hq;obtain⟨u,hu,ru⟩:=rv.get hx;obtain⟨f0,f1,f2,f3,f4,f5⟩:=hf it (by simp);refine wpAny_pyNext_tuple_item st (show s.heap.IsTuple a its.toArray from p) (x:=u) (by simpa using hu) fun h' st' sb=>?_;have I1:Inv X z0 σ H { s with heap:=h' }:=I.turned (t':=s.toks) (fun b o hb e=>(sb.2 b hb).trans e) f0 f1 f3 f4 f5;obtain⟨o,e,c,d⟩:=id st';exact⟨u,rfl,Hz (s:={ s with heap:=h' }) e c d (by decide) ⟨x,H,I1,ru,⟨rfl,fun ys hy=>by rw[I.tuple_inj hy hq];exact hx⟩,st',fun b hb=>(hf b hb).1⟩⟩
 done:=by
  intro X hP hw hK hc i z0 s σ H E I hf st hg;subst hP hw hK;obtain⟨xs,hq,hx⟩:=hg;obtain⟨its,rv,p,hz⟩:=I.tuple hq;obtain⟨f0,f1,f2,f3,f4,f5⟩:=hf it (by simp);have hl:=rv.length;exact wpAny_pyNext_tuple_end (I.ok.hd hc) st (show s.heap.IsTuple a its.toArray from p) (by simp;omega) fun h' eb=>⟨rfl,I.turned (t':=s.toks) (fun b o hb e=>eb b o hb e) f0 f1 f3 f4 f5⟩
 self:=fun _ _ _ _ _ st h=>wpAny_pyIter_tupleiter st h
theorem ug{P:Program}{w:World}{K:Z2}{tg:Expr}(it:Addr)(lo:Int)(n:Nat):Turn P w K tg (Itr lo n) [it] it (fun i h=>IsRangeIter h it (lo+(i:Nat)*1) ((n:Int)-(i:Nat)) 1) where
 mem:=by simp
 obj:=fun i h st b hb=>by
  have e:b=it:=by simpa using hb
  subst e
  exact⟨_,st,fun v z=>by
   have z':Data.fields _=Data.cell v:=z
   cases z'⟩
 keep:=fun i h h' st k=>k it (by simp) _ st
 item:=by
  intro X hP hw hK hc i z0 s σ H E I hf st hg;subst hP hw hK;obtain⟨f0,f1,f2,f3,f4,f5⟩:=hf it (by simp);have W:=Walks.range (prog:=X.prog) (w:=X.w) (I.ok.hd hc) it lo 1 n;refine W.item i s _ _ hg st fun v h' tk hv st' kk=>?_;obtain⟨t,rfl⟩:=hv;have I1:Inv X z0 σ H { s with heap:=h',toks:=tk }:=I.turned (fun b o hb e=>kk b o (by simpa using hb) e) f0 f1 f3 f4 f5;refine⟨_,rfl,Hz (s:={ s with heap:=h',toks:=tk }) (n:="range_iterator") st' rfl rfl (by decide) ⟨.int (lo+i),H,I1,⟨t,?_⟩,⟨rfl,rfl⟩,st',fun b hb=>(hf b hb).1⟩⟩;rw[Int.mul_one]
 done:=by
  intro X hP hw hK hc i z0 s σ H E I hf st hg;subst hP hw hK;obtain⟨f0,f1,f2,f3,f4,f5⟩:=hf it (by simp);exact wpAny_pyNext_range_end (I.ok.hd hc) st (by have:n<=i:=hg;omega) fun h' eb=>⟨rfl,I.turned (t':=s.toks) (fun b o hb e=>eb b o hb e) f0 f1 f3 f4 f5⟩
 self:=fun _ _ _ _ _ st h=>wpAny_pyIter_rangeiter st h
section
variable {X:Cx} {tg:Expr}
def VD(K:Z2)(tl:TE):TI:=fun σ H R=>tl σ H fun x H1=>∃ a,x=.ref a/\(∃ xs,SqL K H1 a xs)/\R (Itl K a) H1
def ZG(K:Z2)(tl:TE):TI:=fun σ H R=>tl σ H fun x H1=>∃ a,x=.ref a/\(∃ xs,SqT K H1 a xs)/\R (Itt K a) H1
theorem Gn{l:Expr}{tl:TE}(hl:PE X l tl):PI X tg l (VD X.K tl):=by
 intro z0 s σ H R I h;refine thn (hl z0 s σ H _ I h) fun v s1 ⟨x,H1,I1,r1,q1⟩=>?_;obtain⟨a,e,⟨xs,hq⟩,q⟩:=q1;subst e;cases r1;obtain⟨its,rv,p,hz⟩:=I1.list hq;refine wpAny_pyIter_list p.isList ?_;refine⟨s1.heap.objs.size,[s1.heap.objs.size],_,_,H1,rfl,I1.kept (t':=s1.toks) fun b o e=>Heap.get?_push_of_some _ e,vC a _,⟨_,Heap.get?_push_size _ rfl,rfl,rfl⟩,fun b hb=>?_,q⟩
 have e:b=s1.heap.objs.size:=by simpa using hb
 subst e;exact I1.fpOk (F5z _) (I1.hok.fresh (F5z _))
theorem KD{l:Expr}{tl:TE}(hl:PE X l tl):PI X tg l (ZG X.K tl):=by
 intro z0 s σ H R I h;refine thn (hl z0 s σ H _ I h) fun v s1 ⟨x,H1,I1,r1,q1⟩=>?_;obtain⟨a,e,⟨xs,hq⟩,q⟩:=q1;subst e;cases r1;obtain⟨its,rv,p,hz⟩:=I1.tuple hq;refine Q1z (show s1.heap.IsTuple a its.toArray from p) ?_;refine⟨s1.heap.objs.size,[s1.heap.objs.size],_,_,H1,rfl,I1.kept (t':=s1.toks) fun b o e=>Heap.get?_push_of_some _ e,uf a _,⟨_,Heap.get?_push_size _ rfl,rfl,rfl⟩,fun b hb=>?_,q⟩
 have e:b=s1.heap.objs.size:=by simpa using hb
 subst e;exact I1.fpOk (F5z _) (I1.hok.fresh (F5z _))
theorem rQ{z0:List (Addr×Obj)}{σ:St}{H:Hp}{s:Shared}{R:It->Hp->Prop}{E:Value->Shared->Prop}{lo hi:Int}{t u v:Tok}{tk:Nat}(I:Inv X z0 σ H s)(h1:-(2^62)<=lo)(h2:lo<2^62)(h3:-(2^62)<=hi)(h4:hi<2^62)
  (q:R (Itr lo (hi-lo).toNat) H):wpAny (model X.prog X.w) X.A (pyIter (.ref s.heap.objs.size)) (PIE X z0 σ tg R) E { s with heap:=s.heap.push { cls:=.type "range",data:=.fields #[.int lo t,.int hi u,.int 1 v] },toks:=tk }:=by
 refine wpAny_pyIter_range (IsRange.new ..) (small_one h1 h2 h3 h4) ?_;have I1:Inv X z0 σ H { s with heap:=s.heap.push { cls:=.type "range",data:=.fields #[.int lo t,.int hi u,.int 1 v] },toks:=tk }:=I.kept fun b o e=>Heap.get?_push_of_some _ e
 refine⟨(s.heap.push { cls:=.type "range",data:=.fields #[.int lo t,.int hi u,.int 1 v] }).objs.size,[(s.heap.push { cls:=.type "range",data:=.fields #[.int lo t,.int hi u,.int 1 v] }).objs.size],_,_,H,rfl,
  I1.kept (t':=tk) fun b o e=>Heap.get?_push_of_some _ e,ug _ lo (hi-lo).toNat,?_,fun b hb=>?_,q⟩
 ·have e1:lo+((0:Nat):Int)*1=lo:=by simp
  have e2:(((hi-lo).toNat:Nat):Int)-((0:Nat):Int)=Builtin.Range.rangeSize lo hi 1:=by rw[rangeSize_one];split<;>omega
  show IsRangeIter _ _ (lo+((0:Nat):Int)*1) ((((hi-lo).toNat:Nat):Int)-((0:Nat):Int)) 1;rw[e1,e2];exact Heap.get?_push_size _ rfl
 ·have e:b=(s.heap.push { cls:=.type "range",data:=.fields #[.int lo t,.int hi u,.int 1 v] }).objs.size:=by simpa using hb
  subst e;exact I1.fpOk (F5z _) (I1.hok.fresh (F5z _))
def VB(ta:TA):TI:=fun σ H R=>ta σ H fun vs H1=>∃ j:Int,vs=[.int j] /\ -(2^62)<=j/\j<2^62/\R (Itr 0 j.toNat) H1
def Vz(ta:TA):TI:=fun σ H R=>ta σ H fun vs H1=>∃ i j:Int,vs=[.int i,.int j]/\(-(2^62)<=i/\i<2^62 /\ -(2^62)<=j/\j<2^62)/\R (Itr i (j-i).toNat) H1
theorem wL{a:Expr}{ta:TA}{p pos:Pos}(hg:Gl X "range")(hm:X.mg "range"=none)(ha:PA X [a] ta)(hs:starEach [a] X.env=[(false,eval a X.env)]:=by rfl):PI X tg (.Call (.Name "range" p) [a] [] pos) (VB ta):=by
 intro z0 s σ H R I h;refine Call_ (eZ I hg hm boot_range (C0z (thn (ha pos z0 s σ H _ I h) fun us s1 ⟨vs,H1,I1,r1,q1⟩=>?_) hs rfl));obtain⟨j,e,q1,q2,q⟩:=q1;subst e
 cases r1 with
 | cons r rr =>
  cases rr;obtain⟨t,rfl⟩:=r;exact call_range_1 (rQ I1 (by omega) (by omega) q1 q2 (by simpa using q))
theorem wK{a b:Expr}{ta:TA}{p pos:Pos}(hg:Gl X "range")(hm:X.mg "range"=none)(ha:PA X [a,b] ta)(hs:starEach [a,b] X.env=[(false,eval a X.env),(false,eval b X.env)]:=by rfl)(hs2:starEach [b] X.env=[(false,eval b X.env)]:=by rfl) :
  PI X tg (.Call (.Name "range" p) [a,b] [] pos) (Vz ta):=by
 intro z0 s σ H R I h;refine Call_ (eZ I hg hm boot_range (C0z (thn (ha pos z0 s σ H _ I h) fun us s1 ⟨vs,H1,I1,r1,q1⟩=>?_) (by rw[hs,hs2]) (by rw[hs2];rfl)));obtain⟨i,j,e,⟨q1,q2,q3,q4⟩,q⟩:=q1;subst e
 cases r1 with
 | cons r rr =>
  cases rr with
  | cons r' rr =>
   cases rr;obtain⟨t,rfl⟩:=r;obtain⟨t',rfl⟩:=r';exact call_range_2 (rQ I1 q1 q2 q3 q4 q)
def Y6(wi:TI)(g:TG)(tb:TS):TS:=fun D σ H=>wi σ H fun J H1=>∃ W:Nat->Nat->St->Hp->Prop,(∃ m,W 0 m σ H1)/\∀ i m σ H,W i m σ H ->
 (J.stop i H/\D.nx σ H)\/(J.go i H/\∃ N:St->Hp->Prop,(∀ σ' H',N σ' H'->∃ m',m'<m/\W (i+1) m' σ' H')/\∀ x H',J.yld i H x H'->g x σ H' fun σ2 H2=>tb { D with nx:=N,ct:=N,bk:=D.nx } σ2 H2)
def oh(fp:List Addr)(h:Heap):List (Addr×Obj):=fp.filterMap fun b=>(h.get? b).map fun o=>(b,o)
theorem fK{fp:List Addr}{h:Heap}{b:Addr}{o:Obj}(hb:b∈fp)(e:h.get? b=some o):(b,o)∈oh fp h:=List.mem_filterMap.mpr ⟨b,hb,by rw[e];rfl⟩
theorem wW{fp:List Addr}{h:Heap}{p:Addr×Obj}(hp:p∈oh fp h):p.1∈fp/\h.get? p.1=some p.2:=by
 obtain⟨b,hb,e⟩:=List.mem_filterMap.mp hp
 cases q:h.get? b with
 | none=>rw[q] at e;cases e
 | some o =>
  rw[q] at e;have e':(b,o)=p:=E3z e;subst e';exact⟨hb,q⟩
theorem Inv.pinned{z0:List (Addr×Obj)}{σ:St}{H:Hp}{s:Shared}{fp:List Addr}(I:Inv X z0 σ H s)(hf:∀ b∈fp,uT X z0 H b)(ho:∀ b∈fp,∃ o,s.heap.get? b=some o/\∀ v,o.data≠.cell v):Inv X (z0++oh fp s.heap) σ H s :=
 I.pins_of fun p hp=>(List.mem_append.mp hp).elim (fun z=>I.pin p (T0z _ z)) fun z=>by
  obtain⟨hb,e⟩:=wW z;obtain⟨f0,f1,f2,_⟩:=hf p.1 hb;obtain⟨o,e',d⟩:=ho p.1 hb;rw[e] at e';cases e';exact⟨e,f0,f1,f2,d⟩
theorem Inv.unpinned{z0 pl:List (Addr×Obj)}{σ:St}{H:Hp}{s:Shared}(I:Inv X (z0++pl) σ H s):Inv X z0 σ H s:=I.pins_of fun p hp=>I.pin p (T0z _ (Z0z _ hp))
theorem Kv{iter:Expr}{body:List Stmt}{wi:TI}{g:TG}{tb:TS}{pos:Pos}(hp:PassesOwn (model X.prog X.w) X.A X.env X.xe)(hc:X.calm=true)(hi:PI X tg iter wi)(hg:PG X tg g)(hb:PSs X body tb)
  (hs:∀ x,foldedSetIterable iter X.env x=pure x:=by intro _;rfl):PS X (.For tg iter body [] pos) (Y6 wi g tb):=by
 intro z0 s σ H D I h;refine wpAny_For (thn (hi z0 s σ H _ I h) fun v s1 h1=>thn h1 fun itv s2 h2=>?_) hs;obtain⟨it,fp,tn,J,H2,e,I2,T,st2,f2,W,⟨m0,w0⟩,turn⟩:=h2;subst e;have stat:∀ {H':Hp},(∀ b∈fp,H' b=none)->∀ b∈fp,uT X z0 H' b:=fun hn b hb=>⟨hn b hb,(f2 b hb).2⟩;refine codeAny_forLoop_any (fun n s'=>∃ i σ' H',Inv X z0 σ' H' s'/\tn i s'.heap/\(∀ b∈fp,H' b=none)/\W i n σ' H') ?_ m0 ⟨0,σ,H2,I2,st2,fun b hb=>(f2 b hb).1,w0⟩;rintro n s3 ⟨i,σ3,H3,I3,st3,fr3,w3⟩;rcases turn i n σ3 H3 w3 with⟨stop,qn⟩ | ⟨go,N,hN,step⟩
 ·refine G3z hp (thn (T.done X rfl rfl rfl hc i z0 s3 σ3 H3 X.xe I3 (stat fr3) st3 stop) fun r s4 ⟨hr,I4⟩=>?_)
  subst hr;exact F3z ⟨σ3,H3,I4,qn⟩
 ·refine G3z hp (thn (T.item X rfl rfl rfl hc i z0 s3 σ3 H3 X.xe I3 (stat fr3) st3 go) fun r s4 ⟨u,hr,h4⟩=>?_)
  subst hr;refine G3z hp (thn h4 fun _ s5 ⟨x,H5,I5,r5,y5,st5,fr5⟩=>?_);have I5':=I5.pinned (stat fr5) (T.obj _ _ st5);refine G3z hp (thn (hg _ s5 σ3 H5 x u _ I5' r5 (step x H5 y5)) fun _ s6 ⟨σ6,H6,I6,q6⟩=>?_);refine G3z hp (thn (hb _ s6 σ6 H6 _ I6 q6) fun f s7 q7=>?_)
  have again:∀ {σ7:St} {H7:Hp},Inv X (z0++oh fp s5.heap) σ7 H7 s7->N σ7 H7->∃ m,m<n/\∃ i σ' H',Inv X z0 σ' H' s7/\tn i s7.heap/\(∀ b∈fp,H' b=none)/\W i m σ' H':=fun {σ7 H7} I7 n7=>by
   obtain⟨m',hm,w7⟩:=hN σ7 H7 n7;refine⟨m',hm,i+1,σ7,H7,I7.unpinned,T.keep _ _ _ st5 fun b hb o e=>(I7.pin (b,o) (T0z _ (T0z _ (fK hb e)))).1,fun b hb=>?_,w7⟩;obtain⟨o,e,d⟩:=T.obj _ _ st5 b hb;exact(I7.pin (b,o) (T0z _ (T0z _ (fK hb e)))).2.1
  cases f with
  | next=>obtain⟨σ7,H7,I7,n7⟩:=q7;exact again I7 n7
  | cont=>obtain⟨σ7,H7,I7,n7⟩:=q7;exact again I7 n7
  | brk=>obtain⟨σ7,H7,I7,q7⟩:=q7;exact⟨σ7,H7,I7.unpinned,q7⟩
  | ret v=>obtain⟨x7,σ7,H7,I7,r7,q7⟩:=q7;exact⟨x7,σ7,H7,I7.unpinned,r7,q7⟩
end
abbrev R2:=V->V->Hp->VK->Prop
def OpR(X:Cx)(f:Value->Value->Sem Value)(r:R2):Prop :=
  ∀ (z0 : List (Addr × Obj)) (s : Shared) (σ : St) (H : Hp) (x y : V) (v u : Value) (Q : VK), Inv X z0 σ H s -> RelV x v -> RelV y u -> r x y H Q ->
    wpAny (model X.prog X.w) X.A (f v u) (EP X z0 σ Q) X.xe s
def UnR(X:Cx)(f:Value->Sem Value)(r:V->Hp->VK->Prop):Prop :=
  ∀ (z0 : List (Addr × Obj)) (s : Shared) (σ : St) (H : Hp) (x : V) (v : Value) (Q : VK), Inv X z0 σ H s -> RelV x v -> r x H Q ->
    wpAny (model X.prog X.w) X.A (f v) (EP X z0 σ Q) X.xe s
def dj(X:Cx)(f:Value)(r:List V->Hp->VK->Prop):Prop :=
  ∀ (z0 : List (Addr × Obj)) (s : Shared) (σ : St) (H : Hp) (xs : List V) (us : List Value) (Q : VK), Inv X z0 σ H s -> Vals xs us -> r xs H Q ->
    wpAny (model X.prog X.w) X.A (call f us) (EP X z0 σ Q) X.xe s
def tOp(r:R2)(ta tb:TE):TE:=fun σ H Q=>ta σ H fun x H1=>tb σ H1 fun y H2=>r x y H2 Q
def tUn(r:V->Hp->VK->Prop)(ta:TE):TE:=fun σ H Q=>ta σ H fun x H1=>r x H1 Q
def rI(C:Int->Int->Prop)(g:Int->Int->V):R2:=fun x y H Q=>∃ i j,x=.int i/\y=.int j/\C i j/\Q (g i j) H
def rI0(g:Int->Int->V):R2:=fun x y H Q=>∃ i j,x=.int i/\y=.int j/\Q (g i j) H
def rU(g:Int->V):V->Hp->VK->Prop:=fun x H Q=>∃ i,x=.int i/\Q (g i) H
section
variable {X:Cx} {a b c:Expr} {ta tb tc:TE} {pos:Pos}
theorem V4(ha:PE X a ta)(hb:PE X b tb){z0:List (Addr×Obj)}{s:Shared}{σ:St}{H:Hp}{R:V->V->Hp->Prop}(I:Inv X z0 σ H s)
  (h:ta σ H fun x H1=>tb σ H1 fun y H2=>R x y H2) {Q:Value->Shared->Prop} {f:Value->Value->Sem Value}
  (hf:∀ v u s2 x y H2,Inv X z0 σ H2 s2->RelV x v->RelV y u->R x y H2->wpAny (model X.prog X.w) X.A (f v u) Q X.xe s2) :
  wpAny (model X.prog X.w) X.A (eval a X.env) (fun v s₁=>wpAny (model X.prog X.w) X.A (eval b X.env) (fun u s₂=>wpAny (model X.prog X.w) X.A (f v u) Q X.xe s₂) X.xe s₁) X.xe s:=by
 refine thn (ha z0 s σ H _ I h) fun v s1 ⟨x,H1,I1,r1,q1⟩=>?_;refine thn (hb z0 s1 σ H1 _ I1 q1) fun u s2 ⟨y,H2,I2,r2,q2⟩=>?_;exact hf v u s2 x y H2 I2 r1 r2 q2
theorem iK{op:Operator}{r:R2}(ho:OpR X (binaryOp op) r)(ha:PE X a ta)(hb:PE X b tb):PE X (.BinOp a op b pos) (tOp r ta tb):=by
 intro z0 s σ H Q I h;exact wpAny_BinOp (V4 ha hb I h fun v u s2 x y H2 I2 rx ry q=>ho z0 s2 σ H2 x y v u Q I2 rx ry q)
theorem Qc{op:UnaryOp}{r:V->Hp->VK->Prop}(ho:UnR X (unaryOp op) r)(ha:PE X a ta):PE X (.UnaryOp op a pos) (tUn r ta):=by
 intro z0 s σ H Q I h;exact UnaryOp_ (thn (ha z0 s σ H _ I h) fun v s1 ⟨x,H1,I1,r1,q1⟩=>ho z0 s1 σ H1 x v Q I1 r1 q1)
theorem opI{f:Value->Value->Sem Value}{C:Int->Int->Prop}{g:Int->Int->Int}
  (rule:∀ (i j:Int) (t u:Tok) (s:Shared) (Q:Value->Shared->Prop) (E:Value->Shared->Prop),C i j->Q (.int (g i j) s.toks) { s with toks:=s.toks+1 }->wpAny (model X.prog X.w) X.A (f (.int i t) (.int j u)) Q E s) :
  OpR X f (rI C fun i j=>.int (g i j)):=by
 intro z0 s σ H x y v u Q I rx ry h;obtain⟨i,j,rfl,rfl,hc,q⟩:=h;obtain⟨t,rfl⟩:=rx;obtain⟨t',rfl⟩:=ry;exact rule i j t t' s _ _ hc ⟨.int (g i j),H,I.tok _,⟨_,rfl⟩,q⟩
theorem Wo{f:Value->Value->Sem Value}{g:Int->Int->Int}
  (rule:∀ (i j:Int) (t u:Tok) (s:Shared) (Q:Value->Shared->Prop) (E:Value->Shared->Prop),Q (.int (g i j) s.toks) { s with toks:=s.toks+1 }->wpAny (model X.prog X.w) X.A (f (.int i t) (.int j u)) Q E s) :
  OpR X f (rI0 fun i j=>.int (g i j)):=by
 intro z0 s σ H x y v u Q I rx ry h;obtain⟨i,j,rfl,rfl,q⟩:=h;obtain⟨t,rfl⟩:=rx;obtain⟨t',rfl⟩:=ry;exact rule i j t t' s _ _ ⟨.int (g i j),H,I.tok _,⟨_,rfl⟩,q⟩
theorem N8{f:Value->Value->Sem Value}{g:Int->Int->Bool}
  (rule:∀ (i j:Int) (t u:Tok) (s:Shared) (Q:Value->Shared->Prop) (E:Value->Shared->Prop),Q (.bool (g i j)) s->wpAny (model X.prog X.w) X.A (f (.int i t) (.int j u)) Q E s) :
  OpR X f (rI0 fun i j=>.bl (g i j)):=by
 intro z0 s σ H x y v u Q I rx ry h;obtain⟨i,j,rfl,rfl,q⟩:=h;obtain⟨t,rfl⟩:=rx;obtain⟨t',rfl⟩:=ry;exact rule i j t t' s _ _ ⟨.bl (g i j),H,I,rfl,q⟩
def Z1(i j:Int):Prop:=0<j/\j<1073741824
def Wb(i j:Int):Prop:=(-(2^64)<i/\i<2^64)\/(-(2^64)<j/\j<2^64)
theorem Wb.ok{i j:Int}(h:Wb i j):IntMulOk i j:=by
 rcases h with⟨h1,h2⟩ | ⟨h1,h2⟩
 ·exact .of_left (intBits_le_64 h1 h2)
 ·exact .of_right (intBits_le_64 h1 h2)
theorem Lb:OpR X (binaryOp .Add) (rI0 fun i j=>.int (i+j)):=Wo fun _ _ _ _ _ _ _ q=>add_int q
theorem K7:OpR X (binaryOp .Sub) (rI0 fun i j=>.int (i-j)):=Wo fun _ _ _ _ _ _ _ q=>sub_int q
theorem GQ:OpR X (binaryOp .FloorDiv) (rI Z1 fun i j=>.int (i / j)):=opI fun i j _ _ _ _ _ hc q=>by
 have h1:(0:Int)<j:=hc.1;have h2:j<1073741824:=hc.2;exact floordiv_int (by omega) (by rw[Int.fdiv_eq_ediv_of_nonneg i (by omega)];exact q) (.inl (PyProof.noPylong_small (by omega)))
theorem K8:OpR X (binaryOp .Mod) (rI (fun _ j=>0<j) fun i j=>.int (i%j)):=opI fun i j _ _ _ _ _ hc q=>by
 have h1:(0:Int)<j:=hc;exact mod_int' (by omega) (by rw[Int.fmod_eq_emod_of_nonneg i (by omega)];exact q)
theorem GP:OpR X (binaryOp .Mod) (rI (fun _ j=>j≠0) fun i j=>.int (i.fmod j)):=opI fun _ _ _ _ _ _ _ hc q=>mod_int' hc q
theorem unI{f:Value->Sem Value}{g:Int->Int}
  (rule:∀ (i:Int) (t:Tok) (s:Shared) (Q:Value->Shared->Prop) (E:Value->Shared->Prop),Q (.int (g i) s.toks) { s with toks:=s.toks+1 }->wpAny (model X.prog X.w) X.A (f (.int i t)) Q E s) :
  UnR X f (rU fun i=>.int (g i)):=by
 intro z0 s σ H x v Q I rx h;obtain⟨i,rfl,q⟩:=h;obtain⟨t,rfl⟩:=rx;exact rule i t s _ _ ⟨.int (g i),H,I.tok _,⟨_,rfl⟩,q⟩
theorem JT:UnR X (unaryOp .USub) (rU fun i=>.int (-i)):=unI fun _ _ _ _ _ q=>neg_int q
end
section
variable {X:Cx} {a b c:Expr} {ta tb tc:TE} {pos:Pos}
theorem Ea{z0:List (Addr×Obj)}{σ:St}{H:Hp}{s:Shared}{Q:VK}{k k':Bool}(I:Inv X z0 σ H s)(q:Q (.bl k) H)(e:k=k'):EP X z0 σ Q (.bool k') s:=by
 subst e;exact⟨.bl k,H,I,rfl,q⟩
theorem Qg:OpR X (compareOp .Lt) (rI0 fun i j=>.bl (decide (i<j))):=N8 fun _ _ _ _ _ _ _ q=>lt_int q
theorem Qh:OpR X (compareOp .LtE) (rI0 fun i j=>.bl (decide (i<=j))):=N8 fun _ _ _ _ _ _ _ q=>le_int q
theorem Qi:OpR X (compareOp .Gt) (rI0 fun i j=>.bl (decide (j<i))):=N8 fun _ _ _ _ _ _ _ q=>gt_int q
theorem Qj:OpR X (compareOp .GtE) (rI0 fun i j=>.bl (decide (j<=i))):=N8 fun _ _ _ _ _ _ _ q=>ge_int q
theorem K9:OpR X (compareOp .Is) (fun x y H Q=>y=.non/\Q (.bl (decide (x=.non))) H):=by
 intro z0 s σ H x y v u Q I rx ry h;obtain⟨rfl,q⟩:=h;cases ry;refine is_none_gen (Ea I q ?_)
 cases x<;>first
  | (cases rx;rfl)
  | (obtain⟨t,rfl⟩:=rx;rfl)
theorem GF:OpR X (compareOp .IsNot) (fun x y H Q=>y=.non/\Q (.bl (!decide (x=.non))) H):=by
 intro z0 s σ H x y v u Q I rx ry h;obtain⟨rfl,q⟩:=h;cases ry;refine isnot_none_gen (Ea I q ?_)
 cases x<;>first
  | (cases rx;rfl)
  | (obtain⟨t,rfl⟩:=rx;rfl)
theorem Gx{op:CmpOp}{r:R2}(ho:OpR X (compareOp op) r)(ha:PE X a ta)(hb:PE X b tb)(hm:behindInMarks op b=false):PE X (.Compare a [op] [b] pos) (tOp r ta tb):=by
 intro z0 s σ H Q I h;exact wpAny_Compare1 (V4 ha hb I h fun v u s2 x y H2 I2 rx ry q=>ho z0 s2 σ H2 x y v u Q I2 rx ry q) hm
def JZ(t:TE):TT:=fun σ H Q=>t σ H fun x H'=>∃ k,x=.bl k/\Q k H'
theorem Gh{op:CmpOp}{r:R2}(ho:OpR X (compareOp op) r)(ha:PE X a ta)(hb:PE X b tb)(hm:behindInMarks op b=false):PT X (.Compare a [op] [b] pos) (JZ (tOp r ta tb)):=by
 intro z0 s σ H Q I h
 refine wpAny_isTrue_Compare1 (thn (ha z0 s σ H _ I h) fun v s1 ⟨x,H1,I1,r1,q1⟩=>thn (hb z0 s1 σ H1 _ I1 q1) fun u s2 ⟨y,H2,I2,r2,q2⟩ =>
  thn (ho z0 s2 σ H2 x y v u _ I2 r1 r2 q2) fun c s3 ⟨z,H3,I3,r3,k,e,q3⟩=>?_) hm
 subst e;cases r3;exact Z1z ⟨H3,I3,q3⟩
def vI(r r':R2)(ta tb tc:TE):TE:=fun σ H Q=>ta σ H fun x H1=>tb σ H1 fun y H2=>r x y H2 fun z H3=>∃ k,z=.bl k /\
 (if k=true then tc σ H3 fun w' H4=>r' y w' H4 Q else Q (.bl false) H3)
theorem Ah{op op':CmpOp}{r r':R2}(ho:OpR X (compareOp op) r)(ho':OpR X (compareOp op') r')(ha:PE X a ta)(hb:PE X b tb)(hc:PE X c tc)
  (hm:lastMarks [op,op'] [b,c]=false:=by with_unfolding_all rfl):PE X (.Compare a [op,op'] [b,c] pos) (vI r r' ta tb tc):=by
 intro z0 s σ H Q I h
 refine Compare_chain (thn (ha z0 s σ H _ I h) fun v s1 ⟨x,H1,I1,r1,q1⟩=>chain_link (thn (hb z0 s1 σ H1 _ I1 q1) fun u s2 ⟨y,H2,I2,r2,q2⟩ =>
  thn (ho z0 s2 σ H2 x y v u _ I2 r1 r2 q2) fun d s3 ⟨z,H3,I3,r3,k,e,q3⟩=>?_)) hm
 subst e;cases r3;refine Z1z ?_
 cases k with
 | false=>exact ite_ff ⟨.bl false,H3,I3,rfl,q3⟩
 | true=>exact ite_tt (chain_last (thn (hc z0 s3 σ H3 _ I3 q3) fun w' s4 ⟨z',H4,I4,r4,q4⟩=>ho' z0 s4 σ H4 y z' u w' Q I4 r2 r4 q4))
theorem Aa{op op':CmpOp}{r r':R2}(ho:OpR X (compareOp op) r)(ho':OpR X (compareOp op') r')(ha:PE X a ta)(hb:PE X b tb)(hc:PE X c tc)
  (hm:lastMarks [op,op'] [b,c]=false:=by with_unfolding_all rfl):PT X (.Compare a [op,op'] [b,c] pos) (JZ (vI r r' ta tb tc)):=by
 intro z0 s σ H Q I h
 refine isTrue_chain (thn (ha z0 s σ H _ I h) fun v s1 ⟨x,H1,I1,r1,q1⟩=>test_link (thn (hb z0 s1 σ H1 _ I1 q1) fun u s2 ⟨y,H2,I2,r2,q2⟩ =>
  thn (ho z0 s2 σ H2 x y v u _ I2 r1 r2 q2) fun d s3 ⟨z,H3,I3,r3,k,e,q3⟩=>?_)) hm
 subst e;cases r3;refine Z1z ?_
 cases k with
 | false =>
  obtain⟨k',e',q'⟩:=q3;cases e';exact ite_ff ⟨H3,I3,q'⟩
 | true =>
  refine ite_tt (test_last (thn (hc z0 s3 σ H3 _ I3 q3) fun w' s4 ⟨z',H4,I4,r4,q4⟩=>thn (ho' z0 s4 σ H4 y z' u w' _ I4 r2 r4 q4) fun d' s5 ⟨z2,H5,I5,r5,k2,e2,q5⟩=>?_));subst e2;cases r5;exact Z1z ⟨H5,I5,q5⟩
theorem oK:(sizeLine:Nat)<2^63:=by rw[G5z];decide
theorem vals1{x:V}{us:List Value}(r:Vals [x] us):∃ u,us=[u]/\RelV x u:=by
 cases r with
 | cons r1 r2=>cases r2;exact⟨_,rfl,r1⟩
theorem Cg:dj X (.builtin "abs") (fun xs H Q=>∃ i,xs=[.int i]/\Q (.int (if i<0 then -i else i)) H):=by
 intro z0 s σ H xs us Q I r h;obtain⟨i,rfl,q⟩:=h;obtain⟨u,rfl,t,rfl⟩:=vals1 r;exact call_abs_int fun u tk=>⟨.int (if i<0 then -i else i),H,I.tok _,⟨_,rfl⟩,q⟩
theorem pF:dj X (.type "int") (fun xs H Q=>(∃ i,xs=[.int i]/\Q (.int i) H)\/∃ k,xs=[.bl k]/\Q (.int (if k then 1 else 0)) H):=by
 intro z0 s σ H xs us Q I r h;rcases h with⟨i,rfl,q⟩ | ⟨k,rfl,q⟩
 ·obtain⟨u,rfl,t,rfl⟩:=vals1 r
  exact call_int_int ⟨.int i,H,I,⟨_,rfl⟩,q⟩
 ·obtain⟨u,rfl,r1⟩:=vals1 r
  cases r1;exact call_int_bool ⟨.int (if k then 1 else 0),H,I.tok _,⟨_,rfl⟩,q⟩
end
section
variable {prog:Program} {w:World} {A:Around} {E:Value->Shared->Prop} {s:Shared} {K:Z2} {x dx C f:Addr} {mA:Str->Option Value} {name:Str} {v:Value}
end
theorem zx.some_of{v:V}{o:Option Value}(r:zx (some v) o):∃ u,o=some u/\RelV v u:=by
 cases o with
 | none=>exact(show False from r).elim
 | some u=>exact⟨u,rfl,r⟩
section
variable {P:Program} {w:World} {H H':Hp} {h h':Heap} {a C dx:Addr} {fs fs':List (Str×V)}
end
section
variable {X:Cx} {z0:List (Addr×Obj)} {σ:St} {H:Hp} {s:Shared} {a C dx:Addr} {fs:List (Str×V)} {f:Str} {v:V} {A:Around} {E:Value->Shared->Prop}
end
section
variable {X:Cx} {o e value:Expr} {f:Str} {pos pos' tpos:Pos} {ta tv:TE}
end
section
variable {X:Cx} {z0:List (Addr×Obj)} {σ:St} {H:Hp} {s:Shared} {A:Around} {E:Value->Shared->Prop} {Q:Value->Shared->Prop} {c:Value} {b:Bool}
end
structure Room (k:Nat) (A:Around):Prop where
 hd:A.handled=none
 dp:A.depth+3*k+5<recursionLimit
 un:A.units+16*k+200<cLine
theorem Room.deeper{k:Nat}{A:Around}(r:Room (k+1) A)(env:Env):Room k (A.deeper env) :=
 ⟨r.hd,by have:=r.dp;show A.depth+1+3*k+5<_;omega,by have:=r.un;show A.units+3+16*k+200<_;omega⟩
theorem Room.depth{k:Nat}{A:Around}(r:Room k A):A.depth<recursionLimit:=by have:=r.dp;omega
theorem Room.units{k:Nat}{A:Around}(r:Room k A):A.units+64<cLine:=by have:=r.un;omega
def Wj:TA:=fun _ H Q=>Q [] H
def J2(ta:TE)(tr:TA):TA:=fun σ H Q=>ta σ H fun x H1=>tr σ H1 fun xs H2=>Q (x::xs) H2
section
variable {X:Cx} {e:Expr} {es:List Expr} {te:TE} {t:TA} {pos:Pos}
theorem cY:PA X [] Wj:=fun _ _ _ _ H Q I h=>B2z ⟨[],H,I,.nil,h⟩
theorem bB(ha:PE X e te)(hr:PA X es t)(hs:starEach (e::es) X.env=(false,eval e X.env)::starEach es X.env:=by rfl):PA X (e::es) (J2 te t):=by
 intro pos z0 s σ H Q I h;rw[hs];show wpAny _ _ (spliced ((false,eval e X.env)::backTo pos (starEach es X.env))) _ _ s;refine R1z (thn (ha z0 s σ H _ I h) fun u s1 ⟨x,H1,I1,r1,q1⟩=>?_);exact thn (hr pos z0 s1 σ H1 _ I1 q1) fun us s2 ⟨xs,H2,I2,r2,q2⟩=>⟨x::xs,H2,I2,.cons r1 r2,q2⟩
def YT(t:TA):TE:=fun σ H Q=>t σ H fun xs H1=>xs.length<=sizeLine/\∀ p,H1 p=none->Q (.ref p) (upd H1 p (.tup xs))
def Y4(t:TA):TE:=fun σ H Q=>t σ H fun xs H1=>xs.length<=sizeLine/\∀ p,H1 p=none->Q (.ref p) (upd H1 p (.lst xs))
theorem KJ{x1}(h:PA X es t):PE X (.Tuple es x1 pos) (YT t):=by
 intro z0 s σ H Q I hq;refine wpAny_Tuple_spliced (thn (h pos z0 s σ H _ I hq) fun us s1 ⟨xs,H1,I1,r,z,q⟩=>⟨by rw[<- r.length];exact z,?_⟩);have hf:H1 s1.heap.objs.size=none:=I1.hok.fresh (F5z _);refine⟨.ref s1.heap.objs.size,upd H1 s1.heap.objs.size (.tup xs),I1.laid (t':=s1.toks) (fun b u e=>Heap.get?_push_of_some _ e) (F5z _) ?_,rfl,q _ hf⟩;exact⟨z,us,r,⟨_,Heap.get?_push_size _ rfl,rfl,_,rfl⟩⟩
theorem Dg(h:PA X es t):PE X (.List es pos) (Y4 t):=by
 intro z0 s σ H Q I hq;refine wpAny_List_spliced (thn (h pos z0 s σ H _ I hq) fun us s1 ⟨xs,H1,I1,r,z,q⟩=>⟨by rw[<- r.length];exact z,?_⟩);have hf:H1 s1.heap.objs.size=none:=I1.hok.fresh (F5z _);refine⟨.ref s1.heap.objs.size,upd H1 s1.heap.objs.size (.lst xs),I1.laid (t':=s1.toks) (fun b u e=>Heap.get?_push_of_some _ e) (F5z _) ?_,rfl,q _ hf⟩;exact⟨z,us,0,r,Heap.get?_push_size _ rfl⟩
end
abbrev Sp:=List V->Hp->VK->XK->Prop
abbrev CXT:=List Env->Hp->Shared->XK->Value->Shared->Prop
structure Env0 (P:Program) (w:World) (K:Z2) (mg:Str->Option Value) (base:Heap) (A:Around) (outer:List Env) (s:Shared) (H:Hp):Prop where
 frames:A.frames=some outer
 mod:Mod K mg base
 bs:∀ b o,base.get? b=some o->s.heap.get? b=some o/\H b=none
 bsz:base.objs.size<=s.heap.objs.size
 funs:s.heap.FunFrames base outer
 frf:∀ b∈frs outer,H b=none
 hok:HOk P w H s.heap
 bare:AllBare s.gens
def CE(outer:List Env)(P:Program)(w:World)(H:Hp)(s:Shared)(Q:VK)(u:Value)(s':Shared):Prop :=
 ∃ v H',s'.os=s.os/\AllBare s'.gens/\Un (frs outer) [] H H' s.heap s'.heap/\HOk P w H' s'.heap/\RelV v u/\Q v H'
def CR(CX:CXT)(outer:List Env)(P:Program)(w:World)(H:Hp)(s:Shared)(Q:VK)(E:XK)(r:Result)(s':Shared):Prop :=
 match r with
 | .ok (.ret u)=>CE outer P w H s Q u s'
 | .ok _=>False
 | .error e=>CX outer H s E e s'
structure FnOk (P:Program) (w:World) (K:Z2) (mg:Str->Option Value) (base:Heap) (CX:CXT) (k:Nat) (f:Addr) (fd:FuncData) (ps:List Str) (sp:Sp):Prop where
 len:∀ vs H Q E,sp vs H Q E->vs.length=ps.length
 run:∀ (A:Around) (outer:List Env) (s:Shared) (H:Hp) (args:Args) (us:List Value) (vs:List V) (Q:VK) (E:XK),Room k A->Env0 P w K mg base A outer s H->BindsTo s fd args (ps.zip us)->Vals vs us->sp vs H Q E ->
  codeAny (model P w) A (.call (.ref f) args) (CR CX outer P w H s Q E) s
theorem FnOk.imp{P:Program}{w:World}{K:Z2}{mg:Str->Option Value}{base:Heap}{CX:CXT}{k:Nat}{f:Addr}{fd:FuncData}{ps:List Str}{sp sp':Sp}(F:FnOk P w K mg base CX k f fd ps sp)
  (h:∀ vs H Q E,sp' vs H Q E->sp vs H Q E):FnOk P w K mg base CX k f fd ps sp' :=
 ⟨fun vs H Q E q=>F.len vs H Q E (h _ _ _ _ q),fun A outer s H args us vs Q E hr he hb hv hs=>F.run A outer s H args us vs Q E hr he hb hv (h _ _ _ _ hs)⟩
section
variable {X:Cx} {z0:List (Addr×Obj)} {σ:St} {H:Hp} {s s':Shared}
theorem Inv.env0(I:Inv X z0 σ H s):Env0 X.prog X.w X.K X.mg X.base X.A X.stack s H :=
 ⟨I.ok.frames,I.ok.mod,I.bs,V4z I.ok.bsz I.sz,I.stack,I.stkFree,I.hok,I.bare⟩
theorem Inv.after{Q:VK}{u:Value}(I:Inv X z0 σ H s)(h:CE X.stack X.prog X.w H s Q u s'):EP X z0 σ Q u s':=by
 obtain⟨v,H',os,bare,un,hok,r,q⟩:=h;obtain⟨hh,g,d,t,os'⟩:=s';obtain rfl:os'=s.os:=os;exact⟨v,H',I.call (h':=hh) (g':=g) (d':=d) (t':=t) (ch:=[]) un hok bare (fun b z=>absurd z (by simp)),r,q⟩
end
def O4(sp:Sp)(dvs:List V)(E:XK)(t:TA):TE:=fun σ H Q=>t σ H fun vs H1=>sp (vs++dvs) H1 Q E
def Binds(K:Z2)(fd:FuncData)(ps:List Str)(ds:List Value):Prop :=
 ∀ (s:Shared) (us:List Value),K.In s.heap->(us++ds).length=ps.length->BindsTo s fd ⟨us,[]⟩ (ps.zip (us++ds))
theorem Binds.all{K:Z2}{fd:FuncData}{ps:List Str}(h:∀ us:List Value,us.length=ps.length->bindArgs fd ⟨us,[]⟩=pure (ps.zip us)):Binds K fd ps []:=fun s us _ hl=>by
 rw[H3z] at hl ⊢;exact .of_eq (h us hl)
def Passes(CX:CXT)(X:Cx)(E:XK):Prop:=∀ (z0:List (Addr×Obj)) (σ:St) (H:Hp) (s:Shared) (e:Value) (s':Shared),Inv X z0 σ H s->CX X.stack H s E e s'->X.xe e s'
section
variable {X:Cx} {CX:CXT} {k:Nat} {f C:Addr} {fd:FuncData} {ps:List Str} {sp:Sp} {dvs:List V} {ds:List Value} {E:XK} {x m:Str} {p pos apos:Pos} {e o:Expr} {es:List Expr} {ta:TE} {t:TA}
theorem Ke{z0:List (Addr×Obj)}{σ:St}{H:Hp}{s:Shared}{Q:VK}{us:List Value}{vs:List V}(F:FnOk X.prog X.w X.K X.mg X.base CX k f fd ps sp)(hr:Room k X.A)(hb:Binds X.K fd ps ds)(hd:Vals dvs ds)(hx:Passes CX X E)
  (I:Inv X z0 σ H s) (r:Vals vs us) (h:sp (vs++dvs) H Q E):wpAny (model X.prog X.w) X.A (call (.ref f) us) (EP X z0 σ Q) X.xe s:=by
 have r2:Vals (vs++dvs) (us++ds):=r.append hd
 have hl:(us++ds).length=ps.length:=by rw[<- r2.length];exact F.len _ _ _ _ h
 refine wpAny_call (X4z (F.run X.A X.stack s H ⟨us,[]⟩ (us++ds) (vs++dvs) Q E hr I.env0 (hb s us I.kIn hl) r2 h) fun r s' hq=>?_)
 cases r with
 | error e=>exact hx z0 σ H s e s' I hq
 | ok fl =>
  cases fl with
  | ret u=>exact I.after hq
  | next=>exact False.elim hq
  | brk=>exact False.elim hq
  | cont=>exact False.elim hq
theorem Gy(F:FnOk X.prog X.w X.K X.mg X.base CX k f fd ps sp)(hr:Room k X.A)(hg:Gl X x)(hm:X.mg x=some (.ref f))(hk:PySem.W.keepIn X.K (.ref f)=true)(hb:Binds X.K fd ps ds)(hd:Vals dvs ds)(hx:Passes CX X E)
  (ha:PA X (e::es) t) (hdb:(x==("__debug__":Str))=false:=by decide) (he:starEach (e::es) X.env=(false,eval e X.env)::starEach es X.env:=by rfl) (hpl:(backTo pos (starEach es X.env)).any (·.1)=false:=by rfl) :
  PE X (.Call (.Name x p) (e::es) [] pos) (O4 sp dvs E t):=by
 intro z0 s σ H Q I h;refine S1z (jA I hg hm ?_ hdb);refine PySem.W.callWith_K (h₀:=X.base) I.ok.mod.kin hk (thn (ha pos z0 s σ H _ I h) fun us s1 ⟨vs,H1,I1,r,q⟩=>⟨I1.kIn,?_⟩) he hpl;exact Ke F hr hb hd hx I1 r q
end
section
variable {X:Cx} {CX:CXT} {k:Nat} {f C:Addr} {fd:FuncData} {ps ks:List Str} {sp:Sp} {E:XK} {x m:Str} {p pos apos kpos:Pos} {e o:Expr} {es:List Expr} {kws:List Keyword} {te ta:TE} {t tk:TA} {nm:Option Str}
variable {g:List Value->List Value->List Value} {gV:List V->List V->List V}
end
structure FnScope (N P:List Str) (sc:Scope):Prop where
 kind:sc.kind=.function
 co:sc.isCoroutine=false
 gen:sc.isGenerator=false
 nd:N.Nodup
 pre:N.take P.length=P
 par:∀ x∈P,sc.names.lookup x=some .local\/sc.names.lookup x=some .cell
 nofree:∀ y∈sc.names,y.2≠.free
theorem pI{kindOf:Str->Option NameKind}{x:Str}:∀ {binds:List (Str×Value)} {m:Str->Option Value},(∀ v,(x,v)∉binds)->bindL kindOf binds m x=m x
 | [],_,_=>rfl
 | (n,v)::r,m,h=>by
  unfold bindL;rw[pI fun w hw=>h w (Y0z _ hw)];split
  ·have:x≠n:=by rintro rfl;exact h v O1z
   simp[this]
  ·rfl
theorem pK{kindOf:Str->Option NameKind}{x:Str}:∀ {binds:List (Str×Value)} {m:Str->Option Value},(∀ v,(x,v)∉binds)->bindC kindOf binds m x=m x
 | [],_,_=>rfl
 | (n,v)::r,m,h=>by
  unfold bindC;rw[pK fun w hw=>h w (Y0z _ hw)];split
  ·rfl
  ·have:x≠n:=by rintro rfl;exact h v O1z
   simp[this]
theorem pJ{kindOf:Str->Option NameKind}{x:Str}{v:Value}:∀ {P:List Str} {vs:List Value} {i:Nat} {m:Str->Option Value},P.Nodup->P[i]?=some x->vs[i]?=some v->kindOf x=some .local ->
  bindL kindOf (P.zip vs) m x=some v
 | [],_,_,_,_,h,_,_=>by simp at h
 | _::_,[],_,_,_,_,h,_=>by simp at h
 | p::P,w::vs,0,m,nd,h1,h2,hk=>by
  simp at h1 h2;subst h1;subst h2
  show bindL kindOf ((p,w)::P.zip vs) m p=_;unfold bindL;rw[pI fun v hv=>(N3z.mp nd).1 (I3z hv).1,Y5z hk];simp
 | p::P,w::vs,i+1,m,nd,h1,h2,hk=>by
  show bindL kindOf ((p,w)::P.zip vs) m x=_;unfold bindL;exact pJ (i:=i) (N3z.mp nd).2 (by simpa using h1) (by simpa using h2) hk
theorem pL{kindOf:Str->Option NameKind}{x:Str}{v:Value}:∀ {P:List Str} {vs:List Value} {i:Nat} {m:Str->Option Value},P.Nodup->P[i]?=some x->vs[i]?=some v->kindOf x≠some .local ->
  bindC kindOf (P.zip vs) m x=some v
 | [],_,_,_,_,h,_,_=>by simp at h
 | _::_,[],_,_,_,_,h,_=>by simp at h
 | p::P,w::vs,0,m,nd,h1,h2,hk=>by
  simp at h1 h2;subst h1;subst h2
  show bindC kindOf ((p,w)::P.zip vs) m p=_;unfold bindC;rw[pK fun v hv=>(N3z.mp nd).1 (I3z hv).1,Z5z hk];simp
 | p::P,w::vs,i+1,m,nd,h1,h2,hk=>by
  show bindC kindOf ((p,w)::P.zip vs) m x=_;unfold bindC;exact pL (i:=i) (N3z.mp nd).2 (by simpa using h1) (by simpa using h2) hk
def start(N:List Str)(vs:List V):St:=vs.map some++List.replicate (N.length-vs.length) none
def iu(CX:CXT)(P:Program)(w:World)(K:Z2)(mg:Str->Option Value)(base:Heap)(N:List Str)(qual:Str)(scope:Scope)(f:Addr)(cd:Value)(A:Around)(outer:List Env)(s:Shared)(H:Hp)(E:XK):Cx where
 prog:=P
 w:=w
 K:=K
 mg:=mg
 base:=base
 A:=A.deeper (envOfC qual scope s.heap.objs.size f cd)
 N:=N
 s₀:=s
 H₀:=H
 env:=envOfC qual scope s.heap.objs.size f cd
 outer:=outer
 stack:=envOfC qual scope s.heap.objs.size f cd::outer
 ex:=[]
 calm:=true
 fn:=fun _=>true
 pn:=[]
 xe:=fun e s'=>wpAny (model P w) (A.deeper (envOfC qual scope s.heap.objs.size f cd)) (leaving (envOfC qual scope s.heap.objs.size f cd) e) (fun _ s''=>CX outer H s E e s'') (fun e' s''=>CX outer H s E e' s'') s'
theorem tM{sc:Scope}{n:Nat}{x:Str}(h:sc.names.lookup x=some .cell):∃ c,(cellsFrom n sc.names []).lookup x=some c:=by
 have q:=N0z sc.names n [] (.inl h);exact Option.isSome_iff_exists.mp q
theorem xY{CX:CXT}{P:Program}{w:World}{K:Z2}{mg:Str->Option Value}{base:Heap}{N ps:List Str}{qual:Str}{scope:Scope}{f:Addr}{cd:Value}{A:Around}{outer:List Env}{s s1:Shared}{H:Hp}{E:XK}{us:List Value}{vs:List V}
  (S:FnScope N ps scope) (hd:A.handled=none) (e0:Env0 P w K mg base A outer s H) (hl:vs.length=ps.length) (r:Vals vs us)
  (x:InCallC s s.heap.objs.size (bindL (envOfC qual scope s.heap.objs.size f cd).kindOf (ps.zip us) fun _=>none) (cellsFrom (s.heap.objs.size+1) scope.names []) (bindC (envOfC qual scope s.heap.objs.size f cd).kindOf (ps.zip us) fun _=>none) s1) :
  Inv (iu CX P w K mg base N qual scope f cd A outer s H E) [] (start N vs) H s1:=by
 have hpl:ps.length<=N.length:=by have:=congrArg List.length S.pre;rw[M2z] at this;omega
 obtain⟨h1,tk,rfl,hk⟩:=x.done;have noA:∀ b:Addr,b∉(iu CX P w K mg base N qual scope f cd A outer s H E).ex:=fun b z=>absurd (show b∈([]:List Addr) from z) (by simp)
 refine⟨⟨e0.mod,S.kind,rfl,rfl,F5z _,fun y z c h1 h2=>?_,fun y hy=>?_,fun y c _ h=>?_,fun _=>hd,Around.frames_deeper e0.frames,.inr ⟨rfl,rfl⟩,fun b z=>absurd z (noA b),e0.bs,e0.bsz,fun b _ _=>noA b,fun b z=>absurd z (noA b),e0.funs,e0.frf⟩,
  rfl,e0.bare,Un.kept hk,⟨_,x.toInCall.ns,fun i y v h1 h2 h3=>?_⟩,fun y c h=>⟨_,x.cell y c h⟩,e0.hok.fresh (F5z _),fun y c h=>?_,fun p hp=>absurd (show p∈([]:List (Addr×Obj)) from hp) (by simp),e0.hok.kept hk,?_⟩
 ·exact name_of_addr x.apart (I1z h1) (I1z h2)
 ·have hy:scope.names.lookup y=some .cell\/scope.names.lookup y=some .free:=hy
  rcases hy with hy | hy
  ·exact tM hy
  ·exact absurd rfl (S.nofree _ (I1z hy))
 ·exact Nat.le_of_lt (x.above y c (I1z h))
 ·have hi:i<vs.length:=by
   unfold start at h2
   by_cases hi:i<vs.length
   ·exact hi
   ·rw[List.getElem?_append_right (by simpa using hi)] at h2
    rw[List.getElem?_replicate] at h2
    split at h2<;>cases h2
  have ha:vs[i]?=some v:=by
   unfold start at h2;rw[List.getElem?_append_left (by simpa using hi),List.getElem?_map] at h2
   cases e:vs[i]? with
   | none=>rw[e] at h2;cases h2
   | some a=>rw[e] at h2;cases h2;rfl
  obtain⟨u,hu,rv⟩:=r.get ha
  have hp:ps[i]?=some y:=by
   rw[<- S.pre,List.getElem?_take_of_lt (by omega)];exact h1
  have ndP:ps.Nodup:=by rw[<- S.pre];exact S.nd.sublist (List.take_sublist _ _)
  refine⟨u,rv,?_⟩;rcases S.par y (List.mem_of_getElem? hp) with k | k
  ·exact .inl ⟨k,pJ ndP hp hu k⟩
  ·obtain⟨c,e⟩:=tM (n:=s.heap.objs.size+1) k
   refine .inr ⟨.inl k,c,e,?_⟩;have q:=x.cell y c e;rw[pL ndP hp hu (by show scope.names.lookup y≠_;rw[k];decide)] at q;exact q
 ·exact e0.hok.fresh (Nat.le_of_lt (x.above y c (I1z h)))
 ·unfold start
  show _=N.length;rw[T1z,J3z,List.length_replicate];omega
theorem V0{CX:CXT}{P:Program}{w:World}{K:Z2}{mg:Str->Option Value}{base:Heap}{k:Nat}{f:Addr}{name qual:Str}{params:Arguments}{body:List Stmt}{scope:Scope}{dV kV doc pm cdv ct oc:Value}{an od:Option Addr}
  {osl:Array (Option Value)} {N ps:List Str} {sp:Sp} (lk:K.lookup f=some ⟨oc,od,.func (PySem.W.fnOf name qual params body scope dV kV doc pm an cdv ct),osl⟩) (hcd:PySem.W.codeIn K cdv qual=true) (S:FnScope N ps scope)
  (len:∀ vs H Q E,sp vs H Q E->vs.length=ps.length)
  (hbody : ∀ (A : Around) (outer : List Env) (s : Shared) (H : Hp) (vs : List V) (Q : VK) (E : XK), Room k (A.deeper (envOfC qual scope s.heap.objs.size f cdv)) -> sp vs H Q E ->
   ∃ t,PSs (iu CX P w K mg base N qual scope f cdv A outer s H E) body t/\t { nx:=fun _ H'=>Q .non H',rt:=Q } (start N vs) H) :
  FnOk P w K mg base CX (k+1) f (PySem.W.fnOf name qual params body scope dV kV doc pm an cdv ct) ps sp:=by
 refine⟨len,fun A outer s H args us vs Q E hr e0 hb r hsp=>?_⟩;have hl:=len _ _ _ _ hsp;have KX:K.In s.heap:=e0.mod.kin.keeps fun b o e=>(e0.bs b o e).1;have lim:s.heap.NoLimit:=e0.mod.nolimit.keeps fun b o e=>(e0.bs b o e).1
 have hkind:∀ y∈ps.zip us,scope.names.lookup y.1=some .local\/(scope.names.lookup y.1=some .cell/\((cellsFrom (s.heap.objs.size+1) scope.names []).lookup y.1).isSome=true):=fun⟨n,v⟩ hy=>by
  rcases S.par n (I3z hy).1 with q | q
  ·exact .inl q
  ·exact .inr ⟨q,N0z _ _ _ (.inl q)⟩
 refine codeAny_call_function hr.depth (KX _ _ lk) rfl S.co S.gen rfl (PySem.W.codeRec_of KX hcd) (hb _ _ _ _ ?_);refine wpAny_newFunctionEnv_cells S.kind hkind fun env he s1 x=>?_;subst he;refine⟨lim.keeps x.toInCall.keep,codeAny_func ?_⟩;obtain⟨t,ht,hq⟩:=hbody A outer s H vs Q E (hr.deeper _) hsp;have I:Inv (iu CX P w K mg base N qual scope f cdv A outer s H E) [] (start N vs) H s1:=xY S hr.hd e0 hl r x;refine M5z (ht [] s1 (start N vs) H _ I hq) (fun fl s' hs=>?_) fun e s' hs=>hs
 have fin:∀ {σ':St} {H':Hp} {v:V} {u:Value},Inv (iu CX P w K mg base N qual scope f cdv A outer s H E) [] σ' H' s'->RelV v u->Q v H'->CE outer P w H s Q u s' :=
  fun {σ' H' v u} J rv q=>⟨v,H',J.os,J.bare,J.base,J.hok,rv,q⟩
 cases fl with
 | ret u =>
  obtain⟨v,σ',H',J,rv,q⟩:=hs;exact fin J rv q
 | next =>
  obtain⟨σ',H',J,q⟩:=hs;exact fin (v:=V.non) (u:=Value.none) J rfl q
 | brk =>
  obtain⟨_,_,_,q⟩:=hs;exact False.elim q
 | cont =>
  obtain⟨_,_,_,q⟩:=hs;exact False.elim q
section
variable {X:Cx} {x:Str} {p pos:Pos} {e:Expr} {es:List Expr} {t:TA} {id T:String} {r:List V->Hp->VK->Prop}
def tCB(r:List V->Hp->VK->Prop)(t:TA):TE:=fun σ H Q=>t σ H fun vs H1=>r vs H1 Q
theorem lR(hc:dj X (.builtin id) r)(hg:Gl X x)(hm:X.mg x=none)(hv:bootBuiltins x=some (.builtin id))(ha:PA X (e::es) t)(hn:x≠"__name__":=by decide)(hdb:(x==("__debug__":Str))=false:=by decide)
  (he:starEach (e::es) X.env=(false,eval e X.env)::starEach es X.env:=by rfl) (hpl:(backTo pos (starEach es X.env)).any (·.1)=false:=by rfl):PE X (.Call (.Name x p) (e::es) [] pos) (tCB r t):=by
 intro z0 s σ H Q I h;refine S1z (eZ I hg hm hv ?_ hn hdb);exact PyProof.Rows.callWith_builtin1 (thn (ha pos z0 s σ H _ I h) fun us s1 ⟨vs,H1,I1,r1,q1⟩=>hc z0 s1 σ H1 vs us Q I1 r1 q1) he hpl
theorem ou(hc:dj X (.type T) r)(hg:Gl X x)(hm:X.mg x=none)(hv:bootBuiltins x=some (.type T))(ha:PA X (e::es) t)(hn:x≠"__name__":=by decide)(hdb:(x==("__debug__":Str))=false:=by decide)
  (he:starEach (e::es) X.env=(false,eval e X.env)::starEach es X.env:=by rfl) (hpl:(backTo pos (starEach es X.env)).any (·.1)=false:=by rfl):PE X (.Call (.Name x p) (e::es) [] pos) (tCB r t):=by
 intro z0 s σ H Q I h;refine S1z (eZ I hg hm hv ?_ hn hdb);exact C0z (thn (ha pos z0 s σ H _ I h) fun us s1 ⟨vs,H1,I1,r1,q1⟩=>hc z0 s1 σ H1 vs us Q I1 r1 q1) he hpl
end
end L2
namespace HT
open PySem PyProof.Rows
section
open PySem.SeqAt
open PySem.AutoSeq1 (wpAny_loadPart')
open PySem.MeetsSeq PySem.MeetsSeq2 PySem.MeetsSeq3
end
section
variable {prog:Program} {w:World} {A:Around} {E:Value->Shared->Prop} {s:Shared}
theorem Jd{t b:Addr}{vs ws:List Value}{Q:Value->Shared->Prop}(ht:IsTup s.heap t vs.toArray)(hb:IsTup s.heap b ws.toArray)(hv:vs≠[])
  (h1:ws=[]->Q (.ref t) s) (h2:ws≠[]->Q (.ref s.heap.objs.size) { s with heap:=s.heap.push { cls:=.type "tuple",data:=.seq (vs++ws).toArray } })
  (hsz:vs.length+ws.length<=sizeLine):wpAny (model prog w) A (binaryOp .Add (.ref t) (.ref b)) Q E s:=by
 obtain⟨⟨cls,dd,data,sl⟩,ho,hc,n,hd⟩:=id ht;obtain⟨⟨cls2,dd2,data2,sl2⟩,ho2,hc2,n2,hd2⟩:=id hb;simp only at hc hd hc2 hd2;subst hc hd hc2 hd2
 have e:vs.toArray++ws.toArray=(vs++ws).toArray:=by simp
 by_cases hw:ws=[]
 ·exact concat_meets ⟨_,ho,rfl⟩ ⟨_,ho2,rfl⟩ noFill_tuple_add seq_tuple_add O0z J0z (H0z _ _)
   (tuple_addW1 t b vs.toArray ws.toArray n n2 dd dd2 sl sl2 (by simpa using hv) (by simp[hw])) ⟨ho,ho2,h1 hw⟩
 ·refine concat_meets ⟨_,ho,rfl⟩ ⟨_,ho2,rfl⟩ noFill_tuple_add seq_tuple_add O0z J0z (H0z _ _)
   (tuple_addW2 t b vs.toArray ws.toArray n n2 dd dd2 sl sl2 (by simpa using hv) (by simpa using hw) (by rw[C2z,C2z];exact hsz)) ⟨ho,ho2,?_⟩
  rw[e];exact h2 hw
end
end HT
namespace L2
open PySem PySem.Spec PyProof.Rows
abbrev TO:=St->Hp->(Option Int->Hp->Prop)->Prop
theorem intsAre_of{ns:List Int}:∀ {us:List Value},Vals (ns.map V.int) us->IntsAre us ns:=by
 induction ns with
 | nil=>intro us r;rw[Y4z] at r;cases r;exact .nil
 | cons n ns ih =>
  intro us r;rw[O4z] at r
  cases r with
  | cons r1 r2 =>
   obtain⟨t,e⟩:=r1;subst e;exact .cons n t (ih r2)
section
variable {X:Cx} {e:Expr} {te:TE} {lo hi:Option Expr} {tl th:TO} {pos p2:Pos}
def PN(K:Z2):R2:=fun x y H Q=>∃ a b xs ys,x=.ref a/\y=.ref b/\SqT K H a xs/\SqT K H b ys/\xs≠[]/\xs.length+ys.length<=sizeLine /\
 (ys=[]->Q (.ref a) H)/\(ys≠[]->∀ p,H p=none->Q (.ref p) (upd H p (.tup (xs++ys))))
theorem Vals.nil_iff{xs:List V}{us:List Value}(r:Vals xs us):us=[]↔xs=[]:=by
 cases r with
 | nil=>simp
 | cons _ _=>simp
theorem GR:OpR X (binaryOp .Add) (PN X.K):=by
 intro z0 s σ H x y v u Q I rx ry h;obtain⟨a,b,xs,ys,rfl,rfl,ha,hb,hx,hz,q1,q2⟩:=h;cases rx;cases ry;obtain⟨its,r1,p1,_⟩:=I.tuple ha;obtain⟨its2,r2,p2,_⟩:=I.tuple hb;refine HT.Jd p1 p2 (fun z=>hx (r1.nil_iff.mp z)) (fun z=>⟨.ref a,H,I,rfl,q1 (r2.nil_iff.mp z)⟩) (fun z=>?_) (by rw[<- r1.length,<- r2.length];exact hz);refine⟨.ref s.heap.objs.size,_,I.laid (t':=s.toks) (o:=.tup (xs++ys)) (fun b ob q=>Heap.get?_push_of_some _ q) (F5z _) ?_,rfl,q2 (fun w=>z (r2.nil_iff.mpr w)) _ (I.hok.fresh (F5z _))⟩;exact⟨by rw[T1z];exact hz,_,r1.append r2,IsTup.new _ _⟩
end
def ixN(n:Nat)(i:Int):Option Nat:=if 0<=i then(if i<n then some i.toNat else none) else if -(n:Int)<=i then some (i+n).toNat else none
def atI{α:Type}(xs:List α)(i:Int):Option α:=(ixN xs.length i).bind fun j=>xs[j]?
theorem xV{n:Nat}{i:Int}{j:Nat}(h:ixN n i=some j):seqIndex? i n=some j/\j<n /\ -(n:Int)<=i/\i<n:=by
 unfold ixN at h
 by_cases h0:0<=i
 ·rw[Y5z h0] at h
  by_cases h1:i<n
  ·rw[Y5z h1] at h
   have e:i.toNat=j:=E3z h;exact⟨by rw[seqIndex_of h0 h1,e],by omega,by omega,h1⟩
  ·rw[Z5z h1] at h;cases h
 ·rw[Z5z h0] at h
  by_cases h1:-(n:Int)<=i
  ·rw[Y5z h1] at h
   have e:(i+n).toNat=j:=E3z h;exact⟨by rw[seqIndex_neg (by omega) h1,e],by omega,h1,by omega⟩
  ·rw[Z5z h1] at h;cases h
theorem yX{α:Type}{xs:List α}{i:Int}{v:α}(h:atI xs i=some v):∃ j,seqIndex? i xs.length=some j/\xs[j]?=some v/\j<xs.length /\ -(xs.length:Int)<=i/\i<xs.length:=by
 unfold atI at h
 cases e:ixN xs.length i with
 | none=>rw[e] at h;cases h
 | some j =>
  rw[e] at h;obtain⟨h1,h2,h3,h4⟩:=xV e;exact⟨j,h1,h,h2,h3,h4⟩
def zA(b:Expr):Prop:=∀ o i,subscripted b false o i=operate [o,i] (getItem o i)
def IxR(X:Cx)(r:R2):Prop :=
  ∀ (value slice : Expr) (z0 : List (Addr × Obj)) (s : Shared) (σ : St) (H : Hp) (x y : V) (v u : Value) (Q : VK), Inv X z0 σ H s -> RelV x v -> RelV y u -> r x y H Q ->
    subscripted slice false v u=operate [v,u] (getItem v u)->wpAny (model X.prog X.w) X.A (subscriptTail value slice v u) (EP X z0 σ Q) X.xe s
def MtR(X:Cx)(id:String)(r:V->List V->Hp->VK->Prop):Prop :=
  ∀ (z0 : List (Addr × Obj)) (s : Shared) (σ : St) (H : Hp) (x : V) (xs : List V) (v : Value) (us : List Value) (Q : VK), Inv X z0 σ H s -> RelV x v -> Vals xs us -> r x xs H Q ->
    wpAny (model X.prog X.w) X.A (call (.builtin id) (v::us)) (EP X z0 σ Q) X.xe s
section
variable {X:Cx} {a b:Expr} {ta tb:TE} {pos:Pos}
theorem Gv{r:R2}(hr:IxR X r)(ha:PE X a ta)(hb:PE X b tb)(hs:zA b):PE X (.Subscript a b pos) (tOp r ta tb):=by
 intro z0 s σ H Q I h;exact Subscript_ (V4 ha hb I h fun v u s2 x y H2 I2 rx ry q=>hr a b z0 s2 σ H2 x y v u Q I2 rx ry q (hs _ _))
def Ze(K:Z2):R2:=fun x y H Q=>∃ p xs i v,x=.ref p/\y=.int i/\SqL K H p xs/\atI xs i=some v/\Q v H
def Zd(K:Z2):R2:=fun x y H Q=>∃ p xs i v,x=.ref p/\y=.int i/\SqT K H p xs/\atI xs i=some v/\Q v H
theorem xU:IxR X (Ze X.K):=by
 intro value slice z0 s σ H x y v u Q I rx ry h hs;obtain⟨p,xs,i,z,rfl,rfl,hq,he,q⟩:=h;cases rx;obtain⟨t,rfl⟩:=ry;obtain⟨its,r,pl,hz⟩:=I.list hq;obtain⟨j,h1,h2,h3,h4,h5⟩:=yX he;obtain⟨w,ew,rw'⟩:=r.get h2;have hl:=r.length;have hn:=oK;have fin:EP X z0 σ Q w s:=⟨z,H,I,rw',q⟩
 by_cases h0:0<=i
 ·have hj:i.toNat=j:=by
   rw[seqIndex_of h0 h5] at h1;exact E3z h1
  exact item_listR pl.isList h0 (by omega) (by rw[hj];simpa using ew) fin hs
 ·have hj:(i+(its.toArray.size:Int)).toNat=j:=by
   rw[seqIndex_neg (by omega) h4] at h1;rw[C2z,<- hl];exact E3z h1
  exact subscriptTail_builtinR (x:=w) pl.isList.typeIs slot_list_getitem.lookup
   (wpAny_getItem_list_neg (Q:=fun r s'=>r=w/\EP X z0 σ Q r s') pl.isList (by omega) (by rw[C2z]<;>omega) (by omega) (by rw[hj];simpa using ew) ⟨rfl,fin⟩) hs
theorem Mh:IxR X (Zd X.K):=by
 intro value slice z0 s σ H x y v u Q I rx ry h hs;obtain⟨p,xs,i,z,rfl,rfl,hq,he,q⟩:=h;cases rx;obtain⟨t,rfl⟩:=ry;obtain⟨its,r,pl,hz⟩:=I.tuple hq;obtain⟨j,h1,h2,h3,h4,h5⟩:=yX he;obtain⟨w,ew,rw'⟩:=r.get h2;have hl:=r.length;have hn:=oK;have fin:EP X z0 σ Q w s:=⟨z,H,I,rw',q⟩
 exact subscriptTail_builtinR (x:=w) pl.typeIs slot_tuple_getitem.lookup
  (getItem_tuple (j:=j) (Q:=fun r s'=>r=w/\EP X z0 σ Q r s') pl (by omega) (by omega) (by rw[C2z,<- hl];exact h1) (by simpa using ew) ⟨rfl,fin⟩) hs
theorem uy(its:List Value)(n j:Nat)(u:Value):Obj.mapSeq (·.setIfInBounds j u) { cls:=.type "list",data:=.seq its.toArray n }={ cls:=.type "list",data:=.seq (its.set j u).toArray n }:=by
 simp[Obj.mapSeq]
theorem Inv.lst{z0:List (Addr×Obj)}{σ:St}{H:Hp}{s:Shared}{p:Addr}{xs:List V}(I:Inv X z0 σ H s)(h:H p=some (.lst xs)) :
  ∃ (its:List Value) (n:Nat),Vals xs its/\s.heap.get? p=some { cls:=.type "list",data:=.seq its.toArray n }/\xs.length<=sizeLine:=by
 obtain⟨z,its,n,r,e⟩:=I.hok p _ h;exact⟨its,n,r,e,z⟩
theorem Inv.lstUpd{z0:List (Addr×Obj)}{σ:St}{H:Hp}{s:Shared}{p:Addr}{xs ys:List V}{its its':List Value}{n n':Nat}{f:Obj->Obj}(I:Inv X z0 σ H s)(h:H p=some (.lst xs))
  (ho:s.heap.get? p=some { cls:=.type "list",data:=.seq its.toArray n }) (hf:f { cls:=.type "list",data:=.seq its.toArray n }={ cls:=.type "list",data:=.seq its'.toArray n' }) (r:Vals ys its') (hz:ys.length<=sizeLine) (t:Nat) :
  Inv X z0 σ (upd H p (.lst ys)) { s with heap:=s.heap.update p f,toks:=t }:=by
 have e:(s.heap.update p f).get? p=some { cls:=.type "list",data:=.seq its'.toArray n' }:=by
  rw[Heap.get?_update_self f ho (by rw[hf]<;>rfl),hf]
 refine I.write (x:=p) (e:=p) (by rw[h];trivial) (.inl rfl) (fun b u hb q=>(Heap.get?_update_other _ _ (W5z hb)).trans q) ⟨_,e⟩ ?_
 exact⟨hz,its',n',r,e⟩
def Py:V->V->V->Hp->(Hp->Prop)->Prop:=fun o i v H Q=>∃ p xs k j,o=.ref p/\i=.int k/\H p=some (.lst xs)/\ixN xs.length k=some j/\Q (upd H p (.lst (xs.set j v)))
theorem set_list:Wa X Py:=by
 intro z0 s σ H o i v ov iv u Q I ro ri rv h;obtain⟨p,xs,k,j,rfl,rfl,hp,hj,q⟩:=h;cases ro;obtain⟨t,rfl⟩:=ri;obtain⟨its,n,r,ho,hz⟩:=I.lst hp;obtain⟨h1,h2,h3,h4⟩:=xV hj;have hl:=r.length;have hn:=oK
 have I':Inv X z0 σ (upd H p (.lst (xs.set j v))) { s with heap:=s.heap.update p (Obj.mapSeq (·.setIfInBounds j u)) } :=
  I.lstUpd hp ho (uy its n j u) (r.set rv j) (by rw[K3z];exact hz) s.toks
 by_cases h0:0<=k
 ·have hk:k.toNat=j:=by
   rw[seqIndex_of h0 h4] at h1;exact E3z h1
  exact PySem.W.ki_setAt ho h0 (by omega) (by rw[C2z,<- hl];exact h4) (by rw[hk];exact⟨_,I',q⟩)
 ·have hk:(k+(its.toArray.size:Int)).toNat=j:=by
   rw[seqIndex_neg (by omega) h3] at h1;rw[C2z,<- hl];exact E3z h1
  exact PySem.W.ki_setBack ho (by omega) (by rw[C2z,<- hl];exact h3) (by omega) (by rw[hk];exact⟨_,I',q⟩)
theorem pD:dj X (.builtin "len") (fun xs H Q=>∃ p ys,xs=[.ref p]/\(SqL X.K H p ys\/SqT X.K H p ys)/\Q (.int ys.length) H):=by
 intro z0 s σ H xs us Q I r h;obtain⟨p,ys,rfl,hq,q⟩:=h;obtain⟨u,rfl,rx⟩:=vals1 r;cases rx;have hn:=oK;rcases hq with hq | hq
 ·obtain⟨its,r',pl,hz⟩:=I.list hq
  have hlen:=r'.length;exact Calls.call_len_list pl.isList (by simp only[C2z]<;>omega) ⟨.int ys.length,H,I.tok _,⟨s.toks+1,by rw[C2z,hlen]⟩,q⟩
 ·obtain⟨its,r',pl,hz⟩:=I.tuple hq
  have hlen:=r'.length;exact len_tuple pl (by simp only[C2z]<;>omega) ⟨.int ys.length,H,I.tok _,⟨s.toks+1,by rw[C2z,hlen]⟩,q⟩
theorem iG:dj X (.type "list") (fun xs H Q=>∃ p ys,xs=[.ref p]/\(SqL X.K H p ys\/SqT X.K H p ys)/\∀ l,H l=none->Q (.ref l) (upd H l (.lst ys))):=by
 intro z0 s σ H xs us Q I r h;obtain⟨p,ys,rfl,hq,q⟩:=h;obtain⟨u,rfl,rx⟩:=vals1 r;cases rx
 have fin:∀ (its:List Value),Vals ys its->ys.length<=sizeLine->∀ (h':Heap) (c':Nat),(∀ b o',s.heap.get? b=some o'->h'.get? b=some o') ->
   h'.get? s.heap.objs.size=some { cls:=.type "list",dict:=none,data:=.seq its.toArray c',slots := #[] }->EP X z0 σ Q (.ref s.heap.objs.size) { s with heap:=h' }:=fun its r' hz h' c' kp e =>
  ⟨.ref s.heap.objs.size,_,I.laid (t':=s.toks) kp (F5z _) (show cG X.prog X.w _ h' _ (.lst ys) from⟨hz,its,c',r',e⟩),rfl,q _ (I.hok.fresh (F5z _))⟩
 rcases hq with hq | hq
 ·obtain⟨its,r',pl,hz⟩:=I.list hq
  have hlen:=r'.length;obtain⟨o,ho,hc,n,hd⟩:=pl.isList;exact call_list_seq p (.inl rfl) ho hc hd (fun h' c' kp e=>fin its r' hz h' c' kp e) (by simp only[C2z]<;>omega)
 ·obtain⟨its,r',pl,hz⟩:=I.tuple hq
  have hlen:=r'.length;obtain⟨o,ho,hc,n,hd⟩:=pl;exact call_list_seq p (.inr rfl) ho hc hd (fun h' c' kp e=>fin its r' hz h' c' kp e) (by simp only[C2z]<;>omega)
theorem mZ:dj X (.type "tuple") (fun xs H Q=>∃ p ys,xs=[.ref p]/\((SqL X.K H p ys/\∀ l,H l=none->Q (.ref l) (upd H l (.tup ys)))\/(SqT X.K H p ys/\Q (.ref p) H))):=by
 intro z0 s σ H xs us Q I r h;obtain⟨p,ys,rfl,h⟩:=h;obtain⟨u,rfl,rx⟩:=vals1 r;cases rx;rcases h with⟨hq,q⟩ | ⟨hq,q⟩
 ·obtain⟨its,r',pl,hz⟩:=I.list hq
  have hlen:=r'.length;refine call_tuple_list pl.isList (fun h' kp=>?_) (by simp only[C2z]<;>omega);have I1:Inv X z0 σ H { s with heap:=h' }:=I.kept (t':=s.toks) kp
  have I2:Inv X z0 σ (upd H h'.objs.size (.tup ys)) { s with heap:=h'.push { cls:=.type "tuple",data:=.seq its.toArray } } :=
   I1.laid (t':=s.toks) (fun b o e=>Heap.get?_push_of_some _ e) (F5z _) (show cG X.prog X.w _ _ _ (.tup ys) from⟨hz,its,r',IsTup.new _ _⟩)
  exact⟨.ref h'.objs.size,_,I2,rfl,q _ (I1.hok.fresh (F5z _))⟩
 ·obtain⟨its,r',pl,hz⟩:=I.tuple hq
  exact call_tuple_same pl ⟨.ref p,H,I,rfl,q⟩
def tyV(K:Z2)(T:String)(x:V)(H:Hp):Prop:=match x with
 | .str _=>T="str"
 | .int _=>T="int"
 | .ref p => (T = "list" /\ ∃ xs, SqL K H p xs) \/ (T = "tuple" /\ ∃ o, K.lookup p = some o /\ o.cls = .type "tuple" /\ o.dict = none) \/
   (T="dict"/\((∃ kvs,H p=some (.dK kvs))\/∃ kvs,H p=some (.dT kvs)))\/(T="set"/\∃ S n,H p=some (.set S n))
 | _=>False
theorem JV{z0:List (Addr×Obj)}{σ:St}{H:Hp}{s:Shared}{T:String}{x:V}{v:Value}(I:Inv X z0 σ H s)(r:RelV x v)(ty:tyV X.K T x H) :
  s.TypeIs v T/\∀ a,v=.ref a->∃ ob,s.heap.get? a=some ob/\ob.dict=none:=by
 cases x with
 | str z =>
  obtain⟨t,rfl⟩:=r;cases (show T="str" from ty);exact⟨typeIs_str s z t,fun _ e=>nomatch e⟩
 | int i =>
  obtain⟨t,rfl⟩:=r;cases (show T="int" from ty);exact⟨typeIs_int s i t,fun _ e=>nomatch e⟩
 | ref p =>
  cases r;rcases ty with⟨rfl,xs,hq⟩ | ⟨rfl,o,hk,hc,hd⟩ | ⟨rfl,hk⟩ | ⟨rfl,S,n,hk⟩
  ·obtain⟨its,_,pl,_⟩:=I.list hq
   refine⟨pl.isList.typeIs,fun a e=>?_⟩;cases e;obtain⟨o,n,e,c,hd,_⟩:=pl;exact⟨o,e,hd⟩
  ·refine⟨⟨o,I.kIn p o hk,hc⟩,fun a e=>?_⟩
   cases e;exact⟨o,I.kIn _ o hk,hd⟩
  ·have z:∃ o,s.heap.get? p=some o/\o.ExactDict:=by
    rcases hk with⟨kvs,hk⟩ | ⟨kvs,hk⟩
    ·obtain⟨_,_,_,_,o,_,_,e,ex,_⟩:=I.hok p _ hk
     exact⟨o,e,ex⟩
    ·obtain⟨_,_,_,_,o,_,_,e,ex,_⟩:=I.hok p _ hk
     exact⟨o,e,ex⟩
   obtain⟨o,e,ex⟩:=z;refine⟨⟨o,e,ex.1⟩,fun a e2=>?_⟩;cases e2;exact⟨o,e,ex.2.1⟩
  ·obtain⟨o,_,_,_,e,ex,_⟩:=I.hok p _ hk
   refine⟨⟨o,e,ex.1⟩,fun a e2=>?_⟩;cases e2;exact⟨o,e,ex.2.1⟩
 | _=>exact False.elim ty
def tBM(K:Z2)(T:String)(r:V->List V->Hp->VK->Prop)(to:TE)(t:TA):TE:=fun σ H Q=>to σ H fun x H1=>tyV K T x H1/\t σ H1 fun xs H2=>r x xs H2 Q
variable {o e:Expr} {es:List Expr} {to:TE} {t:TA} {name:Str} {apos cpos:Pos} {T id:String} {r:V->List V->Hp->VK->Prop}
theorem wM(pa:PlainAttrs T)(slot:Slot T name id)(hty:typeOf (.builtin id)=pure (.type "method_descriptor"))(hm:MtR X id r)(ho:PE X o to)(ha:PA X (e::es) t)
  (hbase:attributeBase o name X.env (eval o X.env)=eval o X.env:=by rfl)
  (hfew : ((backTo cpos (starEach (e :: es) X.env)).all (fun x => !x.1) && (backToKw cpos (keywordEach [] X.env)).all (fun x => x.1.isSome)
   && decide ((e::es).length+([]:List Keyword).length+(if([]:List Keyword).isEmpty then 0 else 1)<30))=true:=by rfl)
  (hline:(apos.endLine==cpos.line)=true:=by rfl) (hs:starEach (e::es) X.env=(false,eval e X.env)::starEach es X.env:=by rfl) (hplain:(backTo cpos (starEach es X.env)).any (·.1)=false:=by rfl) :
  PE X (.Call (.Attribute o name apos) (e::es) [] cpos) (tBM X.K T r to t):=by
 intro z0 s σ H Q I h;refine wpAny_Call_method_late hbase hfew hline rfl (thn (ho z0 s σ H _ I h) fun v s1 ⟨x,H1,I1,r1,ty,q1⟩=>?_);obtain⟨h1,h2⟩:=JV I1 r1 ty;refine⟨T,id,pa,slot,hty,h1,h2,?_⟩;have hA:=ha cpos z0 s1 σ H1 _ I1 q1;rw[hs] at hA ⊢;refine P0z (by show(false||(backTo cpos (starEach es X.env)).any (·.1))=false;rw[hplain]<;>rfl) (A1z ?_);exact thn hA fun us s2 ⟨vs,H2,I2,r2,q2⟩=>hm z0 s2 σ H2 x vs v us Q I2 r1 r2 q2
end
def MtM(X:Cx)(id:String)(r:V->List V->Hp->VK->Prop):Prop :=
  ∀ (z0 : List (Addr × Obj)) (s : Shared) (σ : St) (H : Hp) (x : V) (xs : List V) (v : Value) (us : List Value) (Q : VK), Inv X z0 σ H s -> RelV x v -> Vals xs us -> r x xs H Q ->
    wpAny (model X.prog X.w) X.A (call (.builtin id) (v::us)) (EP X z0 σ Q) X.xe s
theorem Vals.one:∀ {x:V} {us:List Value},Vals [x] us->∃ u,us=[u]/\RelV x u
 | _,_,.cons r .nil=>⟨_,rfl,r⟩
theorem Vals.rep{xs:List V}{us:List Value}(h:Vals xs us):∀ k:Nat,Vals (List.replicate k xs).flatten (List.replicate k us).flatten
 | 0=>.nil
 | k+1=>by
  rw[J1z,J1z,D2z,D2z];exact Vals.append h (Vals.rep h k)
theorem foldl_rep(its:List Value):∀ (k:Nat) (acc:List Value),
  List.foldl (fun x1 x2=>x1++x2) acc.toArray (List.replicate k its.toArray)=(acc++(List.replicate k its).flatten).toArray
 | 0,acc=>by simp
 | k+1,acc=>by
  have e:acc.toArray++its.toArray=(acc++its).toArray:=by simp
  have e2:(acc++its)++(List.replicate k its).flatten=acc++(List.replicate (k+1) its).flatten:=by
   rw[J1z,D2z,E2z]
  rw[<- e2,<- foldl_rep its k (acc++its),<- e,J1z,L3z]
section
variable {X:Cx} {z0:List (Addr×Obj)} {σ:St} {H:Hp} {s:Shared} {l b:Addr} {xs ys zs:List V}
theorem Inv.lset{its its':List Value}{n:Nat}{f:Array Value->Array Value}{t':Nat}(I:Inv X z0 σ H s)(hH:H l=some (.lst xs))
  (e:s.heap.get? l=some { cls:=.type "list",data:=.seq its.toArray n }) (hf:f its.toArray=its'.toArray) (hv:Vals ys its') (hz:ys.length<=sizeLine) :
  Inv X z0 σ (upd H l (.lst ys)) { s with heap:=s.heap.update l (Obj.mapSeq f),toks:=t' }:=by
 have q:=PySem.IsL.update e f;rw[hf] at q;refine I.write (x:=l) (e:=l) (by rw[hH];exact trivial) (.inl rfl) (fun b' u hb hu=>(Heap.get?_update_other s.heap (Obj.mapSeq f) (W5z hb)).trans hu) ⟨_,q⟩ ?_;exact⟨hz,its',_,hv,q⟩
theorem Inv.lnew{its:List Value}{t':Nat}(I:Inv X z0 σ H s)(hv:Vals ys its)(hz:ys.length<=sizeLine) :
  Inv X z0 σ (upd H s.heap.objs.size (.lst ys)) { s with heap:=s.heap.push { cls:=.type "list",data:=.seq its.toArray },toks:=t' } :=
 I.laid (fun _ _ q=>Heap.get?_push_of_some _ q) (F5z _) ⟨hz,its,0,hv,Heap.get?_push_size _ rfl⟩
theorem Inv.fresh(I:Inv X z0 σ H s):H s.heap.objs.size=none:=I.hok.fresh (F5z _)
theorem Inv.lstM(I:Inv X z0 σ H s)(hH:H l=some (.lst xs)):xs.length<=sizeLine/\∃ (its:List Value) (n:Nat),Vals xs its/\xs.length=its.length/\s.heap.get? l=some { cls:=.type "list",data:=.seq its.toArray n }:=by
 obtain⟨z,its,n,r,e⟩:=I.hok l _ hH;exact⟨z,its,n,r,r.length,e⟩
theorem lX{n:Nat}(h:n<=sizeLine):Builtin.List.listTooLong n=false:=by
 unfold Builtin.List.listTooLong;exact D3z (by omega)
end
section
variable {X:Cx}
def Gd:V->List V->Hp->VK->Prop:=fun x vs H Q=>∃ l xs y,x=.ref l/\vs=[y]/\H l=some (.lst xs)/\xs.length<sizeLine/\Q .non (upd H l (.lst (xs++[y])))
theorem oJ:MtM X "list.append" Gd:=by
 intro z0 s σ H x vs v us Q I rx rv h;obtain⟨l,xs,y,rfl,rfl,hH,hz,q⟩:=h;cases rx;obtain⟨u,rfl,ru⟩:=rv.one;obtain⟨z,its,n,r,hl,e⟩:=I.lstM hH;refine P5z F.slot_list_append ⟨_,e,rfl⟩ F.entry_list_append (F.args_list_append_2 _ _) (PySem.list_append l its.toArray n u (by rw[C2z];omega)) ⟨e,?_⟩;refine⟨.non,_,I.lset (its':=its++[u]) hH e (by simp) (r.append (.cons ru .nil)) ?_,rfl,q⟩;rw[T1z,U0z];omega
theorem len_rep{α:Type}(xs:List α)(k:Nat):(List.replicate k xs).flatten.length=k*xs.length:=by
 induction k with
 | zero=>simp
 | succ k ih=>rw[J1z,D2z,T1z,ih,Z4z,Nat.add_comm]
end
section
variable {prog:Program} {w:World} {A:Around} {E:Value->Shared->Prop} {s:Shared}
set_option maxRecDepth 100000 in
end
section
variable {X:Cx}
end
end L2
namespace Att
open PySem PySem.W PySem.Calls PyProof.Rows
theorem jC{P:Params}{h:Heap}:∀ (ns:List Int) (vs:List Value),WellAll P h vs (ns.map WData.int)->IntsAre vs ns:=by
 intro ns
 induction ns with
 | nil =>
  intro vs w;rw[Y4z] at w;cases w;exact .nil
 | cons n ns ih =>
  intro vs w;rw[O4z] at w
  cases w with
  | cons a b =>
   cases a;exact .cons _ _ (ih _ b)
theorem wg{l:OpenLaw}{n:Nat}(hn:l.most=some n){P:Params}{h:Heap}{args:List WData}{vals:List Value}
  (hpre:l.row.toRowW.claim.pre args=true) (hwl:WellAll P h vals args) :
  ∃ a vs ns,vals=[Value.ref a]/\args=[WData.list (ns.map WData.int)]/\h.get? a=some { cls:=.type "list",data:=.seq vs.toArray }/\IntsAre vs ns/\ns.length<=n:=by
 have hsh:WShape.hasAll [] args [.list .int]=true:=(pre_splitW hpre).1;have hc:l.pre.holds [] { args:=args }=true:=(pre_splitW hpre).2;obtain⟨d,r,rfl,h1,h2⟩:=hasAllW_cons hsh;obtain rfl:=hasAllW_nil h2;obtain⟨xs,rfl,h3⟩:=hasW_list h1;obtain⟨ns,rfl⟩:=items_int h3
 have hlen:ns.length<=n:=by
  unfold OpenLaw.pre at hc
  have h4:(WTm.not (.lt (.lit (.int n)) (.len (.arg 0)))).holds [] { args:=[.list (ns.map .int)] }=true:=by
   have h4:=(holds_andW hc).1;rw[hn] at h4;exact h4
  have h5:=condW_of h4 (w_not (w_lt w_lit (w_len_list (w_arg rfl))));rw[J3z] at h5;refine Nat.le_of_not_lt fun q=>?_
  have q':(n:Int)<((ns.length:Nat):Int):=by omega
  first
   | (rw[E4z q'] at h5;exact absurd h5 (by decide))
   | (simp at h5;omega)
 cases hwl with
 | cons w1 w2 =>
  cases w2
  cases w1 with
  | list ho hall=>exact⟨_,_,ns,rfl,rfl,ho,jC ns _ hall,hlen⟩
theorem wJ(l:OpenLaw)(args:List WData):l.row.toRowW.claim.post args (.bool true) args=true :=
 postW_of (r:=l.row.toRowW) (X:=(true==true))
  (show WShape.has [] (.bool true) .bool=true by first | rfl | decide | simp[WShape.has,WShape.arms,WShape.armsAll])
  (show(WTm.eq .res (.lit (.bool true))).value [] { args:=args,res:=some (.bool true),after:=args }=some (.bool (true==true)) from w_eq_bool (w_res rfl) w_lit) rfl
theorem qT{l:OpenLaw}{n:Nat}{q:Program}{loose:List Str}{XP:(Str->Option Value)->Heap->Prop}{YP:World->Heap->Prop}{d:DefRec}
  (hn:l.most=some n) (hdf:d.params.defaults=[])
  (call : ∀ (w : World) (s₀ s₁ : Shared) (mg mb : Str -> Option Value) (fa : Addr) (o : Obj) (pm cd doc : Value) (a : Addr) (vs : List Value) (ns : List Int),
   Ground q loose [] XP w s₀ mg mb s₁.heap->YP w s₁.heap ->
   s₁.heap.get? fa=some o->o.data=.func (docDef d.name d.params d.body d.scope pm cd doc)->s₁.heap.CodeRec cd d.name->mg d.name=some (.ref fa) ->
   s₁.heap.get? a=some { cls:=.type "list",data:=.seq vs.toArray }->IntsAre vs ns->ns.length<=n->s₁.gens = #[] ->
   codeAny (model l.prog w) callerA (.call (.ref fa) ⟨[.ref a],[]⟩) (fun r s'=>r=.ok (.ret (.bool true))/\OldK s₁.heap s'.heap/\s'.os=s₁.os/\AllBare s'.gens) s₁) :
  WalkO q loose XP YP l.row.toRowW d [] (fun f vs=>PySem.call f vs):=by
 intro w s₀ s₁ mg mb G Y fa o pm cd doc dV kV ho hd hcd hD hmg hg args vals as hpre hlay hrd hwl hlo;obtain rfl:dV=.none:=Dflts.none hD hdf;obtain rfl:kV=.none:=Dflts.noKw hD;obtain⟨a,vs,ns,rfl,rfl,hobj,hints,hlen⟩:=wg hn hpre hwl;refine enter_call (X4z (call w s₀ s₁ mg mb fa o pm cd doc a vs ns G Y ho (fd_plain hd) hcd hmg hobj hints hlen hg) fun r s' hq=>?_);obtain⟨rfl,h2,h3,h4⟩:=hq;exact⟨.inl ⟨.bool true,.bool true,[],rfl,fun _=>rfl,.bool true,wJ l _,fun _=>⟨List.Pairwise.nil,fun _ hm=>(nomatch hm)⟩⟩,h2,h3,h4⟩
section
variable {prog:Program} {w:World} {A:Around} {E:Value->Shared->Prop} {s:Shared} {K:Frag}
def ledger(h:Heap)(L d:Addr):List (Addr×Obj):=(List.range h.objs.size).filterMap fun a=>if a=L\/a=d then none else(h.get? a).map fun o=>(a,o)
end
end Att
namespace L2
open PySem PySem.Spec PyProof.Rows
theorem jd:∀ {vs:List Value} {ns:List Int},IntsAre vs ns->Vals (ns.map V.int) vs
 | _,_,.nil=>.nil
 | _,_,.cons n t h=>.cons ⟨t,rfl⟩ (jd h)
def Only(H:Hp):Prop:=∀ b,H b=none\/∃ o xs,H b=some (.frz o (.lst xs))
theorem Bb{P:Program}{w:World}{K:Z2}{mg mb:Str->Option Value}{CX:CXT}{k:Nat}{fa a:Addr}{fd:FuncData}{x:Str}{sp:Sp}{s₁:Shared}{vs:List Value}{ns:List Int}
  (KX:K.In s₁.heap) (hns:s₁.heap.Ns mainGlobals mg) (hb:s₁.heap.Ns builtinsNs mb) (hbb:∀ x:Str,x≠"__name__"->mb x=bootBuiltins x) (hlim:s₁.heap.NoLimit) (hg:s₁.gens = #[])
  (ha:s₁.heap.get? a=some { cls:=.type "list",data:=.seq vs.toArray }) (hi:IntsAre vs ns) (hl:ns.length<=sizeLine) (hr:Room k callerA)
  (F:∀ base:Heap,K.In base->base.Ns mainGlobals mg->FnOk P w K mg base CX k fa fd [x] sp) (hbind:∀ (s:Shared) (u:Value),BindsTo s fd ⟨[u],[]⟩ [(x,u)])
  (hsp:∀ H:Hp,Only H->SqL K H a (ns.map V.int)->sp [.ref a] H (fun v _=>v=.bl true) fun _ _ _=>False)
  (hCX:∀ H e s',CX [] H s₁ (fun _ _ _=>False) e s'->False) :
  codeAny (model P w) callerA (.call (.ref fa) ⟨[.ref a],[]⟩) (fun r s'=>r=.ok (.ret (.bool true))/\OldK s₁.heap s'.heap/\s'.os=s₁.os/\AllBare s'.gens) s₁:=by
 have rv:=jd hi;have lenV:=hi.length
 have core:∀ H:Hp,Only H->SqL K H a (ns.map V.int)->HOk P w H s₁.heap->(∀ b,H b≠none->b=a)->(H a≠none->K.lookup a=none) ->
   codeAny (model P w) callerA (.call (.ref fa) ⟨[.ref a],[]⟩) (fun r s'=>r=.ok (.ret (.bool true))/\OldK s₁.heap s'.heap/\s'.os=s₁.os/\AllBare s'.gens) s₁:=by
  intro H hO hS hok hA hK;have base_of:∀ {b:Addr} {o:Obj},s₁.heap.get? b=some o->H b=none->(Bh s₁.heap H).get? b=some o:=fun e n=>Bg e n
  have noA:∀ {b:Addr} {o:Obj} {es:Array DictEntry} {ep:Nat},s₁.heap.get? b=some o->o.data=.dict es ep->H b=none:=fun {b o es ep} e d=>by
   cases q:H b with
   | none=>rfl
   | some u =>
    have e':b=a:=hA b (by rw[q];simp)
    subst e';rw[ha] at e;cases e;have d':Data.seq vs.toArray _=Data.dict es ep:=d;cases d'
  have nsK:∀ {b:Addr} {m:Str->Option Value},s₁.heap.Ns b m->(Bh s₁.heap H).Ns b m:=fun {b m} ⟨o,es,ep,e,d,r⟩=>⟨o,es,ep,base_of e (noA e d),d,r⟩
  have hKb:K.In (Bh s₁.heap H):=fun b o e=>base_of (KX b o e) (by
   cases q:H b with
   | none=>rfl
   | some u =>
    have e':b=a:=hA b (by rw[q];simp)
    subst e'
    rw[hK (by rw[q];simp)] at e;cases e)
  have hM:Mod K mg (Bh s₁.heap H):=⟨hKb,nsK hns,⟨mb,nsK hb,hbb⟩,let ⟨mc,h1,h2⟩:=hlim;⟨mc,nsK h1,h2⟩⟩
  have e0:Env0 P w K mg (Bh s₁.heap H) callerA [] s₁ H:=⟨rfl,hM,fun b o e=>G3 e,Nat.le_of_eq (yd _ _),trivial,fun b hb=>absurd (show b∈([]:List Addr) from hb) (by simp),hok,.of_eq hg⟩;refine X4z ((F _ hKb (nsK hns)).run callerA [] s₁ H ⟨[.ref a],[]⟩ [.ref a] [.ref a] _ _ hr e0 (hbind s₁ (.ref a)) (.cons rfl .nil) (hsp H hO hS)) fun r s' h=>?_
  cases r with
  | error e=>exact(hCX H e s' h).elim
  | ok fl =>
   cases fl with
   | next=>exact False.elim h
   | brk=>exact False.elim h
   | cont=>exact False.elim h
   | ret u =>
    obtain⟨v,H',os,bare,un,hok',r',q⟩:=h;have q':v=.bl true:=q;subst q';obtain rfl:u=Value.bool true:=r';refine⟨rfl,OldK.of_keep fun b o e=>?_,os,bare⟩
    cases q:H b with
    | none=>exact un.keep b o e q (by intro z;exact absurd (show b∈([]:List Addr) from z) (by simp)) (by simp)
    | some u =>
     rcases hO b with z | ⟨ob,xs,z⟩
     ·rw[q] at z;cases z
     ·have z2:=un.frzs b ob _ z
      obtain⟨e1,_⟩:=hok b _ z;obtain⟨e2,_⟩:=hok' b _ z2;rw[e] at e1;cases e1;exact e2
 cases hk:K.lookup a with
 | some o =>
  have e:=KX a o hk;rw[ha] at e;cases e;refine core (fun _=>none) (fun _=>.inl rfl) (.inr ⟨_,vs.toArray,_,hk,rfl,rfl,rfl,by rw[C2z,lenV];exact hl,by simpa using rv⟩) (fun b u z=>by have z':(none:Option HO)=some u:=z;cases z') (fun b z=>absurd rfl z) fun z=>absurd rfl z
 | none =>
  refine core (fun b=>if b=a then some (.frz { cls:=.type "list",data:=.seq vs.toArray } (.lst (ns.map V.int))) else none) (fun b=>?_) (.inl (.inr ⟨{ cls:=.type "list",data:=.seq vs.toArray },Y5z rfl⟩)) (fun b u z=>?_) (fun b z=>?_) fun _=>hk
  ·by_cases hb:b=a
   ·exact .inr ⟨_,_,Y5z hb⟩
   ·exact .inl (Z5z hb)
  ·by_cases hb:b=a
   ·have z':=(Y5z hb).symm.trans z
    cases z';subst hb;exact⟨ha,by rw[J3z];exact hl,vs,_,rv,ha⟩
   ·have z':=(Z5z hb).symm.trans z
    cases z'
  ·by_cases hb:b=a
   ·exact hb
   ·exact absurd (Z5z hb) z
theorem Fj{l:PySem.W.OpenLaw}{n k:Nat}{q:Program}{loose:List Str}{XP:(Str->Option Value)->Heap->Prop}{YP:World->Heap->Prop}{d:DefRec}{K:Params->Z2}{CX:World->CXT}{sp:World->Sp}{x:Str}
    (hn:l.most=some n) (hn2:n<=sizeLine) (hdf:d.params.defaults=[]) (hr:Room k callerA)
    (hY:∀ (w:World) (h:Heap),YP w h->(K w.params).In h)
    (F:∀ (w:World) (mg:Str->Option Value) (fa:Addr) (h:Heap),(K w.params).In h->h.Ns mainGlobals mg->mg d.name=some (.ref fa) ->
      ∃ fd : FuncData, (∀ (s : Shared) (u : Value), BindsTo s fd ⟨[u], []⟩ [(x, u)]) /\
        ∀ base:Heap,(K w.params).In base->base.Ns mainGlobals mg->FnOk l.prog w (K w.params) mg base (CX w) k fa fd [x] (sp w))
    (hsp:∀ (w:World) (H:Hp) (a:Addr) (ns:List Int),ns.length<=n->Only H->SqL (K w.params) H a (ns.map V.int)->sp w [.ref a] H (fun v _=>v=.bl true) fun _ _ _=>False)
    (hCX:∀ (w:World) (H:Hp) (s:Shared) (e:Value) (s':Shared),CX w [] H s (fun _ _ _=>False) e s'->False) :
    PySem.W.WalkO q loose XP YP l.row.toRowW d [] (fun f vs=>PySem.call f vs):=by
  refine Att.qT hn hdf fun w s₀ s₁ mg mb fa o pm cd doc a vs ns G Y ho hd hcd hmg hobj hints hlen hg=>?_
  have KX:=hY w _ Y
  obtain⟨fd,hb,hF⟩:=F w mg fa _ KX G.T.g hmg
  exact Bb KX G.T.g G.T.b G.T.builtins G.T.nolimit hg hobj hints (V4z hlen hn2) hr hF hb (fun H hO hS=>hsp w H a ns hlen hO hS) fun H e s'=>hCX w H s₁ e s'
def dX(s:Stmt):Arguments:=match s with
 | .FunctionDef _ a _ _ _ _ _ _ _ _=>a
 | _=>{ posonlyargs:=[],args:=[],vararg:=none,kwonlyargs:=[],kw_defaults:=[],kwarg:=none,defaults:=[] }
def bQ(s:Stmt):List Stmt:=match s with
 | .FunctionDef _ _ b _ _ _ _ _ _ _=>b
 | _=>[]
def bf(s:Stmt):Scope:=match s with
 | .FunctionDef _ _ _ _ _ _ sc _ _ _=>sc
 | _=>{ kind:=.function,names:=[],isGenerator:=false,isCoroutine:=false }
abbrev CX0:CXT:=fun _ _ _ _ _ _=>False
abbrev E0:XK:=fun _ _ _=>False
structure Fun (K:Z2) (x qual:Str) (st:Stmt) (f:Addr) (fd:FuncData):Prop where
 ex:∃ (oc:Value) (od:Option Addr) (kV doc pm:Value) (an:Option Addr) (cdv ct:Value) (osl:Array (Option Value)),
  fd=PySem.W.fnOf x qual (dX st) (bQ st) (bf st) .none kV doc pm an cdv ct/\K.lookup f=some ⟨oc,od,.func fd,osl⟩/\PySem.W.codeIn K cdv qual=true
 kp:PySem.W.keepIn K (.ref f)=true
section
variable {P:Program} {w:World} {K:Z2} {mg:Str->Option Value} {base:Heap}
theorem Fun.binds{x qual:Str}{st:Stmt}{f:Addr}{fd:FuncData}{ps:List Str}(F:Fun K x qual st f fd)
  (h:∀ (kV doc pm:Value) (an:Option Addr) (cdv ct:Value) (us:List Value),us.length=ps.length->bindArgs (PySem.W.fnOf x qual (dX st) (bQ st) (bf st) .none kV doc pm an cdv ct) ⟨us,[]⟩=pure (ps.zip us)):Binds K fd ps []:=by
 obtain⟨oc,od,kV,doc,pm,an,cdv,ct,osl,rfl,lk,hcd⟩:=F.ex;exact .all (h kV doc pm an cdv ct)
theorem yp{x qual:Str}{st:Stmt}{f:Addr}{oc:Value}{od an:Option Addr}{osl:Array (Option Value)}{kV doc pm cdv ct:Value}(l:K.lookup f=some ⟨oc,od,.func (PySem.W.fnOf x qual (dX st) (bQ st) (bf st) .none kV doc pm an cdv ct),osl⟩)
  (c:PySem.W.codeIn K cdv qual=true) (k:PySem.W.keepIn K (.ref f)=true):Fun K x qual st f (PySem.W.fnOf x qual (dX st) (bQ st) (bf st) .none kV doc pm an cdv ct):=⟨⟨oc,od,kV,doc,pm,an,cdv,ct,osl,rfl,l,c⟩,k⟩
end
section
variable {X:Cx}
end
theorem xX{A B:Prop}(h:B):if false=true then A else B:=by
 rw[Z5z P1z];exact h
theorem uX{A B:Prop}(h:A):if true=true then A else B:=by
 rw[Y5z rfl];exact h
def Same(H H':Hp):Prop:=∀ b o,H b=some o->H' b=some o
theorem Same.refl(H:Hp):Same H H:=fun _ _ h=>h
theorem Same.trans{H H1 H2:Hp}(a:Same H H1)(b:Same H1 H2):Same H H2:=fun c o h=>b c o (a c o h)
theorem Same.free{H H':Hp}(e:Same H H'){l:Addr}(h:H' l=Option.none):H l=Option.none:=by
 cases q:H l with
 | none=>rfl
 | some o =>
  rw[e l o q] at h;cases h
theorem Same.seq{K:Z2}{H H':Hp}{a:Addr}{xs:List V}(e:Same H H')(h:SqL K H a xs):SqL K H' a xs:=by
 rcases h with(h | ⟨o,h⟩) | h
 ·exact .inl (.inl (e _ _ h))
 ·exact .inl (.inr ⟨o,e _ _ h⟩)
 ·exact .inr h
def iD(cells:List (Str×Addr)):List (Str×NameKind)->List (Str×Addr)->List (Str×Addr)
 | [],acc=>acc
 | (x,k)::r,acc=>if k==.free then iD cells r ((x,(cells.lookup x).getD 0)::acc) else iD cells r acc
theorem mL{env:Env}(f:Str×NameKind->List (Str×Addr)->Sem (ForInStep (List (Str×Addr))))
  (hf:∀ name kind cs,f (name,kind) cs=if kind==.free then(do let a <- cellOf env name;pure (.yield ((name,a)::cs))) else pure (.yield cs)) :
  ∀ (l:List (Str×NameKind)) (acc:List (Str×Addr)),(∀ x,(x,NameKind.free)∈l->∃ c,env.cells.lookup x=some c)->(forIn l acc f:Sem (List (Str×Addr)))=pure (iD env.cells l acc)
 | [],acc,_=>by rw[F4z];rfl
 | (x,k)::r,acc,h=>by
  rw[M3z,hf];unfold iD
  cases hk:k==NameKind.free with
  | false =>
   simp only[U1z,V5z];show(forIn r acc f:Sem _)=_;exact mL f hf r acc fun y hy=>h y (Y0z _ hy)
  | true =>
   simp only[X5z]
   have ek:k=.free:=by simpa using hk
   obtain⟨c,hc⟩:=h x (by rw[ek];exact O1z)
   have e1:cellOf env x=pure c:=by unfold cellOf;rw[hc]
   rw[e1,hc];show(forIn r ((x,c)::acc) f:Sem _)=_;exact mL f hf r _ fun y hy=>h y (Y0z _ hy)
theorem fD{env:Env}{scope:Scope}(h:∀ x,(x,NameKind.free)∈scope.names->∃ c,env.cells.lookup x=some c):closureFor scope env=pure (iD env.cells scope.names []):=by
 simp only[closureFor];rw[mL (env:=env) _ (fun name kind cs=>by cases hk:kind==NameKind.free<;>simp[hk]) scope.names [] h];rfl
theorem qp{M:Model}{A:Around}{E:Value->Shared->Prop}{s:Shared}{scope:Scope}{globals:Addr}{closure:List (Str×Addr)}{qual:Str}{outer:Env}{Q:Env->Shared->Prop}
  (hQ:Q (newEnv scope s.heap.objs.size globals (cellsFrom (s.heap.objs.size+1) scope.names closure) qual none .none (some outer) builtinsNs) { s with heap:=pushCells (s.heap.push { cls:=.type "dict",data:=.dict #[] }) scope.names }) :
  wpAny M A (newFunctionEnv scope globals closure [] qual none .none (some outer)) Q E s:=by
 simp only[newFunctionEnv,Option.isSome_some,X5z];refine N5z (wpAny_alloc ?_);refine N5z (wpAny_layCells _ (fun name kind cells=>by cases hkc:kind==NameKind.cell<;>simp[hkc]) _ _ _ _ ?_);rw[show({ s with heap:=s.heap.push { cls:=.type "dict",data:=.dict #[] } }:Shared).heap.objs.size=s.heap.objs.size+1 from G4z ..];rw[F4z];exact N5z (O5z (O5z hQ))
theorem gC{α:Type}:∀ {l:List (Str×α)} {x:Str} {c:α},(x,c)∈l->∃ d,l.lookup x=some d
 | (y,d)::r,x,c,h=>by
  rw[N2z]
  cases hb:x==y with
  | true=>exact⟨d,rfl⟩
  | false =>
   rcases List.mem_cons.mp h with e | h
   ·cases e;simp at hb
   ·exact gC h
theorem bM{α:Type}:∀ {l:List (Str×α)} {x:Str} {c:α},(l.map (·.1)).Nodup->(x,c)∈l->l.lookup x=some c
 | (y,d)::r,x,c,hn,h=>by
  rw[O4z,N3z] at hn;rw[N2z];rcases List.mem_cons.mp h with e | h'
  ·cases e;simp
  ·have hne:(x==y)=false:=by
    rw[K1z];intro exy;exact hn.1 (List.mem_map.mpr ⟨(x,c),h',exy⟩)
   rw[hne];exact bM hn.2 h'
theorem cU{x:Str}{c:Addr}:∀ (names:List (Str×NameKind)) (n:Nat) (acc:List (Str×Addr)),(cellsFrom n names acc).lookup x=some c ->
  ((x,NameKind.cell)∈names/\n<=c)\/((x,NameKind.cell)∉names/\acc.lookup x=some c)
 | [],_,_,h=>.inr ⟨by simp,h⟩
 | (y,k)::r,n,acc,h=>by
  unfold cellsFrom at h
  cases hk:k==NameKind.cell with
  | true =>
   have ek:k=.cell:=by simpa using hk
   subst ek;rw[Y5z (show(NameKind.cell==NameKind.cell)=true from rfl)] at h;rcases cU r _ _ h with⟨h1,h2⟩ | ⟨h1,h2⟩
   ·exact .inl ⟨Y0z _ h1,by omega⟩
   ·rw[N2z] at h2
    cases hb:x==y with
    | true =>
     rw[hb] at h2;cases h2
     have:x=y:=by simpa using hb
     subst this;exact .inl ⟨O1z,F5z _⟩
    | false =>
     rw[hb] at h2;refine .inr ⟨fun hm=>?_,h2⟩;rcases List.mem_cons.mp hm with e | hm
     ·cases e;simp at hb
     ·exact h1 hm
  | false =>
   rw[hk] at h;simp only[U1z,V5z] at h;rcases cU r _ _ h with⟨h1,h2⟩ | ⟨h1,h2⟩
   ·exact .inl ⟨Y0z _ h1,h2⟩
   ·refine .inr ⟨fun hm=>?_,h2⟩
    rcases List.mem_cons.mp hm with e | hm
    ·cases e;simp at hk
    ·exact h1 hm
theorem dF:∀ (names:List (Str×NameKind)) (n:Nat) (acc:List (Str×Addr)),(acc.Pairwise fun x y=>x.2≠y.2)->(∀ p∈acc,p.2<n)->(cellsFrom n names acc).Pairwise fun x y=>x.2≠y.2
 | [],_,_,h,_=>h
 | (y,k)::r,n,acc,h,hl=>by
  unfold cellsFrom;split
  ·refine dF r _ _ (List.pairwise_cons.mpr ⟨fun p hp e=>?_,h⟩) fun p hp=>?_
   ·have e':n=p.2:=e
    have q:=hl p hp;rw[<- e'] at q;exact L4z _ q
   ·rcases List.mem_cons.mp hp with e | hp
    ·subst e;exact O2z _
    ·exact F2z (hl p hp)
  ·exact dF r _ _ h hl
theorem qM{cells:List (Str×Addr)}(inj:∀ x y c,cells.lookup x=some c->cells.lookup y=some c->x=y):∀ (names:List (Str×NameKind)) (acc:List (Str×Addr)),(names.map (·.1)).Nodup->(∀ x,(x,NameKind.free)∈names->∃ c,cells.lookup x=some c) ->
  (acc.Pairwise fun x y=>x.2≠y.2)->(∀ p∈acc,cells.lookup p.1=some p.2/\p.1∉names.map (·.1))->((iD cells names acc).Pairwise fun x y=>x.2≠y.2)/\∀ p∈iD cells names acc,cells.lookup p.1=some p.2
 | [],acc,_,_,h1,h2=>⟨h1,fun p hp=>(h2 p hp).1⟩
 | (y,k)::r,acc,hn,hf,h1,h2=>by
  rw[O4z,N3z] at hn;have hf':∀ x,(x,NameKind.free)∈r->∃ c,cells.lookup x=some c:=fun x hx=>hf x (Y0z _ hx);unfold iD;split
  ·rename_i hk
   have ek:k=.free:=by simpa using hk
   subst ek;obtain⟨c,hc⟩:=hf y O1z;rw[hc];refine qM inj r _ hn.2 hf' (List.pairwise_cons.mpr ⟨fun p hp e=>?_,h1⟩) fun p hp=>?_
   ·have e':c=p.2:=e
    obtain⟨a1,a2⟩:=h2 p hp;rw[<- e'] at a1;have:=inj _ _ _ a1 hc;exact a2 (by rw[this];simp)
   ·rcases List.mem_cons.mp hp with e | hp
    ·subst e;exact⟨hc,hn.1⟩
    ·exact⟨(h2 p hp).1,fun z=>(h2 p hp).2 (Y0z _ z)⟩
  ·exact qM inj r _ hn.2 hf' h1 fun p hp=>⟨(h2 p hp).1,fun z=>(h2 p hp).2 (Y0z _ z)⟩
theorem mY{cells:List (Str×Addr)}{p:Str×Addr}:∀ (names:List (Str×NameKind)) (acc:List (Str×Addr)),p∈acc->p∈iD cells names acc
 | [],_,h=>h
 | (y,k)::r,acc,h=>by
  unfold iD;split
  ·exact mY r _ (Y0z _ h)
  ·exact mY r _ h
theorem mX{cells:List (Str×Addr)}{x:Str}:∀ (names:List (Str×NameKind)) (acc:List (Str×Addr)),(x,NameKind.free)∈names->∃ c,(x,c)∈iD cells names acc
 | (y,k)::r,acc,h=>by
  unfold iD;rcases List.mem_cons.mp h with e | h
  ·cases e
   rw[Y5z (show(NameKind.free==NameKind.free)=true from rfl)];exact⟨_,mY r _ O1z⟩
  ·split
   ·exact mX r _ h
   ·exact mX r _ h
theorem dW{env:Env}{x:Str}:∀ (names:List (Str×NameKind)),
  (names.map fun (n, k) => if (k == NameKind.free && env.scope.kind == .function && env.kindOf n == some .cell) then (n, NameKind.cell) else (n, k)).lookup x =
   (names.lookup x).map fun k=>if(k==NameKind.free&&env.scope.kind==.function&&env.kindOf x==some .cell) then NameKind.cell else k
 | []=>rfl
 | (y,k)::r=>by
  have ih:=dW (x:=x) (env:=env) r
  by_cases hx:x=y
  ·subst hx
   cases hc:(k==NameKind.free&&env.scope.kind==.function&&env.kindOf x==some .cell)<;>simp only[O4z,hc,N2z,P2z,O3z,X5z,V5z,U1z]
  ·have hb:(x==y)=false:=by simpa using hx
   cases hc:(k==NameKind.free&&env.scope.kind==.function&&env.kindOf y==some .cell)<;>simp only[O4z,hc,N2z,hb,X5z,V5z,U1z]<;>exact ih
def rK(N:List Str)(σ:St)(x:Str):Option V:=match N.idxOf? x with
 | some j=>(σ[j]?).getD none
 | none=>none
def qu(N:List Str)(names:List (Str×NameKind))(σ:St):St:=names.map fun p=>if p.2==.free then rK N σ p.1 else none
def tK(scope:Scope)(cells:List (Str×Addr))(C:Addr)(env:Env):Env :=
 { scope:=relabel scope env,locals:=C,globals:=env.globals,cells:=cells,qual:=env.qual,func:=none,code:=env.code,frame:=env.frame,builtins:=env.builtins }
structure CompOf (X:Cx) (scope:Scope) (Xc:Cx):Prop where
 prog:Xc.prog=X.prog
 w:Xc.w=X.w
 K:Xc.K=X.K
 mg:Xc.mg=X.mg
 base:Xc.base=X.base
 A:Xc.A=X.A
 N:Xc.N=scope.names.map (·.1)
 sc:Xc.env.scope=relabel scope X.env
 calm:Xc.calm=true
 fn:Xc.fn=fun x=>scope.names.lookup x==some .cell
 xe:Xc.xe=fun _ _=>False
def o8(X:Cx)(scope:Scope)(cells:List (Str×Addr))(C:Addr)(s:Shared)(H:Hp)(fp:List Addr):Cx where
 prog:=X.prog
 w:=X.w
 K:=X.K
 mg:=X.mg
 base:=X.base
 A:=X.A
 N:=scope.names.map (·.1)
 s₀:=s
 H₀:=H
 env:=tK scope cells C X.env
 outer:=X.stack
 stack:=X.stack
 ex:=fp
 fn:=fun x=>scope.names.lookup x==some .cell
 calm:=true
 pn:=[]
 xe:=fun _ _=>False
def zE(X:Cx)(ifs:List Expr)(t:TT):Prop :=
  ∀ (z0 : List (Addr × Obj)) (s : Shared) (σ : St) (H : Hp) (Q : Bool -> Hp -> Prop), Inv X z0 σ H s -> t σ H Q ->
    wpAny (model X.prog X.w) X.A (forIn ifs true fun c r=>if r=true then do let ok <- isTrue c X.env (eval c X.env);pure (ForInStep.yield ok) else pure (ForInStep.yield r)) (TP X z0 σ Q) X.xe s
theorem Ad{X:Cx}:zE X [] (fun _ H Q=>Q true H):=fun _ _ _ H _ I h=>wpAny_tests_nil ⟨H,I,h⟩
theorem Ac{X:Cx}{c:Expr}{t:TT}(h:PT X c t):zE X [c] t:=fun z0 s σ H Q I hw=>wpAny_tests_one (h z0 s σ H Q I hw)
def qe(X:Cx)(scope:Scope)(wi:TI)(mk:St->St)(g:Cx->TG)(tc:Cx->TT)(te:Cx->TE):TE:=fun σ H Q=>wi σ H fun J H1=>∀ acc,H1 acc=none->∀ Xc,CompOf X scope Xc ->
  ∃ W : Nat -> Nat -> St -> Hp -> Prop, (∃ m, W 0 m (mk σ) (upd H1 acc (.lst []))) /\ ∀ i m σc H, W i m σc H ->
    (J.stop i H/\Q (.ref acc) H)\/(J.go i H/\∃ N:St->Hp->Prop,(∀ σ' H',N σ' H'->∃ m',m'<m/\W (i+1) m' σ' H')/\∀ x H',J.yld i H x H' ->
      g Xc x σc H' fun σ2 H2=>tc Xc σ2 H2 fun b H3=>if b=true then te Xc σ2 H3 fun v H4=>∃ ys,H4 acc=some (.lst ys)/\ys.length<sizeLine/\N σ2 (upd H4 acc (.lst (ys++[v]))) else N σ2 H3)
theorem fM{prog:Program}{w:World}{A:Around}{R:Result->Shared->Prop}{s:Shared}{elt target iter:Expr}{ifs:List Expr}{scope:Scope}{pos:Pos}{it acc:Value}{env:Env}(I:Nat->Shared->Prop)
  (turn:∀ n s,I n s->wpAny (model prog w) A (pyNext it) (fun r s₁=>match r with
   | none=>R (.ok .next) s₁
   | some v=>wpAny (model prog w) A (letOwnedTupleGo target it v) (fun _ s₁'=>wpAny (model prog w) A (assign target env v) (fun _ s₂ =>
     wpAny (model prog w) A (forIn ifs true fun c r=>if r=true then do let ok <- isTrue c env (eval c env);pure (ForInStep.yield ok) else pure (ForInStep.yield r)) (fun ok s₃ =>
      if ok=true then wpAny (model prog w) A (eval elt env) (fun x s₄ =>
       wpAny (model prog w) A (call (.builtin "list.append") [acc,x]) (fun _ s₅=>∃ m,m<n/\I m s₅) (fun _ _=>False) s₄) (fun _ _=>False) s₃
      else ∃ m,m<n/\I m s₃) (fun _ _=>False) s₂) (fun _ _=>False) s₁') (fun _ _=>False) s₁) (fun _ _=>False) s)
  (n:Nat) (h:I n s) :
  codeAny (model prog w) A (.compLoop (.ListComp elt [⟨target,iter,ifs,0⟩] scope pos) 0 it acc env) R s:=by
 refine codeAny_loop rfl I (fun n s hI=>?_) n h;show wpAny _ A ((compTurn (.ListComp elt [⟨target,iter,ifs,0⟩] scope pos) 0 it acc env).onRaise (fun x=>do noteFrame x env;theTreesLotGoes x)) _ _ s;refine wpAny_noted ?_;rw[compTurn_list];refine N5z (N4z (N5z (M5z (turn n s hI) (fun r s₁ h₁=>?_) fun _ _ h'=>h'.elim)))
 cases r with
 | none=>exact O5z h₁
 | some v =>
  refine N5z (M5z h₁ (fun _ s₁' h₁'=>?_) fun _ _ h'=>h'.elim);refine N5z (M5z h₁' (fun _ s₂ h₂=>N5z (M5z h₂ (fun ok s₃ h₃=>?_) fun _ _ h'=>h'.elim)) fun _ _ h'=>h'.elim)
  cases ok with
  | false=>exact O5z ⟨rfl,h₃⟩
  | true =>
   exact N5z (N5z (M5z h₃ (fun x s₄ h₄=>N5z (M5z h₄ (fun _ s₅ h₅=>O5z (O5z ⟨rfl,h₅⟩)) fun _ _ h'=>h'.elim)) fun _ _ h'=>h'.elim))
section
variable {X:Cx}
theorem iw{z0:List (Addr×Obj)}{σ:St}{H:Hp}{s:Shared}{scope:Scope}(I:Inv X z0 σ H s)(hnd:(scope.names.map (·.1)).Nodup)
  (hcap:∀ x,(x,NameKind.free)∈scope.names->X.env.kindOf x=some .cell\/X.env.kindOf x=some .free) :
  (∀ x,(x,NameKind.free)∈scope.names->∃ c,X.env.cells.lookup x=some c) /\
  ((cellsFrom (s.heap.objs.size+1) scope.names (iD X.env.cells scope.names [])).Pairwise fun x y=>x.2≠y.2) /\
  (∀ x c,(cellsFrom (s.heap.objs.size+1) scope.names (iD X.env.cells scope.names [])).lookup x=some c->((x,NameKind.cell)∈scope.names/\s.heap.objs.size+1<=c)\/((x,NameKind.cell)∉scope.names/\X.env.cells.lookup x=some c/\c<s.heap.objs.size)) /\
  (∀ x,(x,NameKind.free)∈scope.names->(cellsFrom (s.heap.objs.size+1) scope.names (iD X.env.cells scope.names [])).lookup x=X.env.cells.lookup x):=by
 have hf:∀ x,(x,NameKind.free)∈scope.names->∃ c,X.env.cells.lookup x=some c:=fun x hx=>I.ok.has x (hcap x hx);have ok:=qM I.ok.inj scope.names [] hnd hf List.Pairwise.nil (fun p hp=>absurd hp (by simp))
 have small:∀ x c,X.env.cells.lookup x=some c->c<s.heap.objs.size:=fun x c e=>by
  obtain⟨v,z⟩:=I.cell x c e;exact z.lt
 refine⟨hf,dF _ _ _ ok.1 fun p hp=>F2z (small p.1 p.2 (ok.2 p hp)),fun x c e=>?_,fun x hx=>?_⟩
 ·rcases cU _ _ _ e with h | ⟨h1,h2⟩
  ·exact .inl h
  ·have h3:=ok.2 _ (I1z h2)
   exact .inr ⟨h1,h3,small _ _ h3⟩
 ·obtain⟨c,hc⟩:=hf x hx
  have nc:(x,NameKind.cell)∉scope.names:=fun z=>by
   have e1:=bM hnd z;rw[bM hnd hx] at e1;cases e1
  obtain⟨d,hd⟩:=mX (cells:=X.env.cells) scope.names [] hx;obtain⟨d',hd'⟩:=gC hd;have hs:((cellsFrom (s.heap.objs.size+1) scope.names (iD X.env.cells scope.names [])).lookup x).isSome=true:=N0z _ _ _ (.inr (by rw[hd'];rfl));obtain⟨c',hc'⟩:=Option.isSome_iff_exists.mp hs;rcases cU _ _ _ hc' with⟨h,_⟩ | ⟨_,h2⟩
  ·exact absurd h nc
  ·rw[hc',ok.2 _ (I1z h2)]
theorem GD:∀ (names:List (Str×NameKind)) (h:Heap) (acc:List (Str×Addr)) {x:Str} {c:Addr},(cellsFrom h.objs.size names acc).lookup x=some c->(x,NameKind.cell)∈names->(pushCells h names).IsCell c none:=by
 intro names
 induction names with
 | nil=>intro h acc x c e hx;cases hx
 | cons p r ih =>
  obtain⟨y,k⟩:=p;intro h acc x c e hx;unfold cellsFrom at e;unfold pushCells
  by_cases hin:(x,NameKind.cell)∈r
  ·split at e
   ·rename_i hk
    rw[Y5z hk];refine ih (h.push { cls:=.type "cell",data:=.cell none }) ((y,h.objs.size)::acc) ?_ hin;rw[G4z];exact e
   ·rename_i hk
    rw[Z5z hk];exact ih h acc e hin
  ·rcases List.mem_cons.mp hx with ex | hx
   ·cases ex
    rw[Y5z (show(NameKind.cell==NameKind.cell)=true from rfl)] at e ⊢;rcases cU _ _ _ e with⟨h1,_⟩ | ⟨_,h2⟩
    ·exact absurd h1 hin
    ·rw[N2z] at h2
     simp at h2;subst h2;exact⟨_,P3z _ _ _ _ (Heap.get?_push_size _ rfl),rfl⟩
   ·exact absurd hx hin
theorem BZ{z0:List (Addr×Obj)}{σ:St}{H:Hp}{s:Shared}{scope:Scope}{fp:List Addr}(I:Inv X z0 σ H s)(hc:X.calm=true)(hk:scope.kind=.function)(hnd:(scope.names.map (·.1)).Nodup)
  (hcap:∀ x,(x,NameKind.free)∈scope.names->X.env.kindOf x=some .cell\/X.env.kindOf x=some .free) (hfp:∀ b∈fp,uT X z0 H b) (hlt:∀ b∈fp,b<s.heap.objs.size) :
  Inv (o8 X scope (cellsFrom (s.heap.objs.size+1) scope.names (iD X.env.cells scope.names [])) s.heap.objs.size s H fp) [] (qu X.N scope.names σ) H { s with heap:=pushCells (s.heap.push { cls:=.type "dict",data:=.dict #[] }) scope.names }:=by
 obtain⟨hf,apart,look,same⟩:=iw I hnd hcap;have keep:∀ b o,s.heap.get? b=some o->(pushCells (s.heap.push { cls:=.type "dict",data:=.dict #[] }) scope.names).get? b=some o:=fun b o e=>P3z _ _ b o (Heap.get?_push_of_some _ e);have ckd:=cellsFrom_ok scope.names (s.heap.push { cls:=.type "dict",data:=.dict #[] }) (s.heap.objs.size+1) [] ⟨fun _ _ hm=>(nomatch hm),List.Pairwise.nil⟩ (by rw[G4z];exact F5z _);rw[G4z] at ckd;have own:∀ x c,(cellsFrom (s.heap.objs.size+1) scope.names (iD X.env.cells scope.names [])).lookup x=some c->(x,NameKind.cell)∈scope.names->(pushCells (s.heap.push { cls:=.type "dict",data:=.dict #[] }) scope.names).IsCell c none:=fun x c e hx=>GD scope.names (s.heap.push { cls:=.type "dict",data:=.dict #[] }) _ (by rw[G4z];exact e) hx;have kinds:∀ x,(o8 X scope (cellsFrom (s.heap.objs.size+1) scope.names (iD X.env.cells scope.names [])) s.heap.objs.size s H fp).env.kindOf x=(scope.names.lookup x).map fun k=>if(k==NameKind.free&&X.env.scope.kind==.function&&X.env.kindOf x==some .cell) then NameKind.cell else k:=fun x=>dW scope.names;have fresh:∀ {b:Addr},s.heap.objs.size<=b->H b=none:=fun hb=>I.hok.fresh hb
 refine⟨⟨I.ok.mod,hk,I.ok.glob,I.ok.blt,F5z _,fun x y c e1 e2=>name_of_addr apart (I1z e1) (I1z e2),fun x hx=>?_,fun x c hx e=>?_,fun _=>I.ok.hd hc,I.ok.frames,.inl rfl,fun b hb=>⟨U4z (hlt b hb),fun x c e=>?_⟩,I.bs,V4z I.ok.bsz I.sz,fun b o e hb=>?_,fun b hb z=>?_,I.stack,I.stkFree⟩,
  rfl,I.bare,Un.kept keep,⟨fun _=>none,?_,fun i x v e1 e2 e3=>?_⟩,fun x c e=>?_,fresh (F5z _),fun x c e=>?_,fun p hp=>absurd (show p∈([]:List (Addr×Obj)) from hp) (by simp),I.hok.kept keep,?_⟩
 ·
  rw[kinds x] at hx
  cases hl:scope.names.lookup x with
  | none=>rw[hl] at hx;rcases hx with h | h<;>cases h
  | some k =>
   rw[hl] at hx;have hm:=I1z hl
   cases k with
   | cell=>exact Option.isSome_iff_exists.mp (N0z _ _ _ (.inl hl))
   | free =>
    obtain⟨c,h⟩:=hf x hm;exact⟨c,(same x hm).trans h⟩
   | _=>simp at hx
 ·have hm:(x,NameKind.cell)∈scope.names:=I1z (by simpa[o8] using hx)
  rcases look x c e with⟨_,h⟩ | ⟨h,_⟩
  ·exact G2z h
  ·exact absurd hm h
 ·rcases look x c e with⟨_,h⟩ | ⟨_,h,_⟩
  ·exact W4z (N1z (hlt b hb) (G2z h))
  ·exact(hfp b hb).2.2.2.2.1 x c h
 ·rcases(hfp b hb).2.2.2.1 with z | z
  ·exact I.ok.noex b o e z
  ·exact absurd (N1z (T4z e) (V4z I.ok.bsz z)) (L4z _)
 ·rcases List.mem_cons.mp (I.stkSub b z) with h | h
  ·exact(hfp b hb).2.1 h
  ·exact(hfp b hb).2.2.1 h
 ·exact(Heap.Ns.new s.heap (.type "dict")).keeps (P3z _ _)
 ·
  have e1':(scope.names.map (·.1))[i]?=some x:=e1;rw[List.getElem?_map] at e1';unfold qu at e2;rw[List.getElem?_map] at e2
  cases hp:scope.names[i]? with
  | none=>rw[hp] at e2;cases e2
  | some p =>
   rw[hp] at e1' e2;have ex:p.1=x:=E3z e1';have e2':(if p.2==.free then rK X.N σ p.1 else none)=some v:=E3z e2
   cases hk2:p.2==NameKind.free with
   | false=>rw[hk2] at e2';simp at e2'
   | true =>
    rw[hk2] at e2';simp only[X5z] at e2'
    have ek:p.2=.free:=by simpa using hk2
    have hm:(x,NameKind.free)∈scope.names:=by
     have:=List.mem_of_getElem? hp;rw[<- ex,<- ek];exact this
    unfold rK at e2';rw[ex] at e2'
    cases hj:X.N.idxOf? x with
    | none=>rw[hj] at e2';cases e2'
    | some j =>
     rw[hj] at e2';have e3:(σ[j]?).getD none=some v:=e2'
     have hσ:σ[j]?=some (some v):=by
      cases q:σ[j]? with
      | none=>rw[q] at e3;simp at e3
      | some o=>rw[q] at e3;simp at e3;rw[e3]
     have hN:X.N[j]?=some x:=by
      rw[List.idxOf?,List.findIdx?_eq_some_iff_getElem] at hj;obtain⟨h1,h2,_⟩:=hj;rw[List.getElem?_eq_getElem h1];simpa using h2
     obtain⟨m,hn,hl⟩:=I.loc;have kx:=hcap x hm;obtain⟨u,r,l⟩:=hl j x v hN hσ (by rcases kx with k | k;exact .inr (.inl k);exact .inr (.inr k));refine⟨u,r,.inr ⟨?_,?_⟩⟩
     ·rw[kinds x,bM hnd hm]
      simp only[O3z];split
      ·exact .inl rfl
      ·exact .inr rfl
     ·rcases l with⟨k,_⟩ | ⟨_,c,hc',z⟩
      ·rcases kx with k' | k'<;>(rw[k'] at k;cases k)
      ·exact⟨c,(same x hm).trans hc',z.keeps keep⟩
 ·rcases look x c e with⟨h,_⟩ | ⟨_,h,_⟩
  ·exact⟨_,own x c e h⟩
  ·obtain⟨v,z⟩:=I.cell x c h
   exact⟨v,z.keeps keep⟩
 ·rcases look x c e with⟨_,h⟩ | ⟨_,h,_⟩
  ·exact fresh (G2z h)
  ·exact I.freeC x c h
 ·show(qu X.N scope.names σ).length=(scope.names.map (·.1)).length
  unfold qu;rw[J3z,J3z]
structure Blk (X:Cx) (z0:List (Addr×Obj)) (H:Hp) (s:Shared) (C:Addr):Prop where
 ns:∃ m,s.heap.Ns C m
 free:H C=none
 loc:C≠X.env.locals
 abv:X.s₀.heap.objs.size<=C
 cel:∀ x c,X.env.cells.lookup x=some c->c≠C
 pin:∀ p∈X.pn++z0,p.1≠C
theorem o9{elt tg iter:Expr}{ifs:List Expr}{scope:Scope}{pos:Pos}{wi:TI}{g:Cx->TG}{tc:Cx->TT}{te:Cx->TE}(hc:X.calm=true)(hk:scope.kind=.function)(hnd:(scope.names.map (·.1)).Nodup)
  (hcap:∀ x,(x,NameKind.free)∈scope.names->X.env.kindOf x=some .cell\/X.env.kindOf x=some .free) (hi:PI X tg iter wi)
  (hin:∀ Xc:Cx,CompOf X scope Xc->PG Xc tg (g Xc)/\zE Xc ifs (tc Xc)/\PE Xc elt (te Xc)) {z0:List (Addr×Obj)} {s:Shared} {σ:St} {H:Hp} {Q:VK} (I:Inv X z0 σ H s) (h:qe X scope wi (qu X.N scope.names) g tc te σ H Q) {R:Value->Addr->Result->Shared->Prop}
  (fin:∀ acc C H' s',Inv X z0 σ H' s'->Blk X z0 H' s' C->Q (.ref acc) H'->R (.ref acc) C (.ok .next) s') :
  wpAny (model X.prog X.w) X.A (eval iter X.env) (fun x s₁=>wpAny (model X.prog X.w) X.A (pyIter x) (fun it s₂=>wpAny (model X.prog X.w) X.A (newList []) (fun acc s₃ =>
   wpAny (model X.prog X.w) X.A (newFunctionEnv scope X.env.globals (iD X.env.cells scope.names []) [] X.env.qual none .none (some X.env)) (fun cenv s₄ =>
    codeAny (model X.prog X.w) X.A (.compStart (.ListComp elt [⟨tg,iter,ifs,0⟩] scope pos) 0 it acc { cenv with scope:=relabel scope X.env }) (R acc cenv.locals) s₄) X.xe s₃) X.xe s₂) X.xe s₁) X.xe s:=by
 refine thn (hi z0 s σ H _ I h) fun v s1 h1=>thn h1 fun itv s2 h2=>?_;obtain⟨it,fp,tn,J,H2,rfl,I2,T,st2,f2,q2⟩:=h2;refine A2z ?_;have hf:H2 s2.heap.objs.size=none:=I2.hok.fresh (F5z _);have I3:=I2.lnew (ys:=[]) (its:=[]) (t':=s2.toks) .nil (H5z _);generalize hs3:({ s2 with heap:=s2.heap.push { cls:=.type "list",data:=.seq ([]:List Value).toArray },toks:=s2.toks }:Shared)=s3 at I3
 have lt2:∀ b∈fp,b<s2.heap.objs.size:=fun b hb=>by
  obtain⟨o,e,_⟩:=T.obj _ _ st2 b hb;exact T4z e
 have f3:∀ b∈fp,uT X z0 (upd H2 s2.heap.objs.size (.lst [])) b:=fun b hb=>⟨by rw[aJ (U4z (lt2 b hb))];exact(f2 b hb).1,(f2 b hb).2⟩
 have sz3:s3.heap.objs.size=s2.heap.objs.size+1:=by rw[<- hs3];exact G4z ..
 have lt3:∀ b∈fp,b<s3.heap.objs.size:=fun b hb=>by rw[sz3];exact F2z (lt2 b hb)
 have st3:tn 0 s3.heap:=T.keep _ _ _ st2 fun b hb o e=>by rw[<- hs3];exact Heap.get?_push_of_some _ e
 have J0:=BZ I3 hc hk hnd hcap f3 lt3;have cO:CompOf X scope (o8 X scope (cellsFrom (s3.heap.objs.size+1) scope.names (iD X.env.cells scope.names [])) s3.heap.objs.size s3 (upd H2 s2.heap.objs.size (.lst [])) fp):=⟨rfl,rfl,rfl,rfl,rfl,rfl,rfl,rfl,rfl,rfl,rfl⟩;obtain⟨hg,hif,he⟩:=hin _ cO;obtain⟨W,⟨m0,w0⟩,turn⟩:=q2 s2.heap.objs.size hf _ cO;refine qp ?_;have st4:tn 0 (pushCells (s3.heap.push { cls:=.type "dict",data:=.dict #[] }) scope.names):=T.keep _ _ _ st3 fun b _ o e=>P3z _ _ b o (Heap.get?_push_of_some _ e);generalize hXc:o8 X scope (cellsFrom (s3.heap.objs.size+1) scope.names (iD X.env.cells scope.names [])) s3.heap.objs.size s3 (upd H2 s2.heap.objs.size (.lst [])) fp=Xc at J0 hg hif he turn
 have hprog:Xc.prog=X.prog:=by rw[<- hXc];rfl
 have hw:Xc.w=X.w:=by rw[<- hXc];rfl
 have hK:Xc.K=X.K:=by rw[<- hXc];rfl
 have hA:Xc.A=X.A:=by rw[<- hXc];rfl
 have hcm:Xc.calm=true:=by rw[<- hXc];rfl
 have hxe:Xc.xe=fun _ _=>False:=by rw[<- hXc];rfl
 have hen:Xc.env=tK scope (cellsFrom (s3.heap.objs.size+1) scope.names (iD X.env.cells scope.names [])) s3.heap.objs.size X.env:=by rw[<- hXc];rfl
 have hex:Xc.ex=fp:=by rw[<- hXc];rfl
 have hfs:Xc.fs=frs X.stack:=by rw[<- hXc];rfl
 have hs0:Xc.s₀=s3:=by rw[<- hXc];rfl
 have hH0:Xc.H₀=upd H2 s2.heap.objs.size (.lst []):=by rw[<- hXc];rfl
 have hpn:Xc.pn=[]:=by rw[<- hXc];rfl
 have stat:∀ {H':Hp},(∀ b∈fp,H' b=none)->∀ b∈fp,uT Xc [] H' b:=fun {H'} hn b hb=>by
  refine⟨hn b hb,(J0.ok.exf b (by rw[hex];exact hb)).1,fun z=>J0.ok.exfs b (by rw[hex];exact hb) z,.inl (by rw[hex];exact hb),(J0.ok.exf b (by rw[hex];exact hb)).2,fun p hp=>?_⟩
  rw[hpn] at hp;exact absurd hp (by simp)
 have loop:codeAny (model X.prog X.w) X.A (.compLoop (.ListComp elt [⟨tg,iter,ifs,0⟩] scope pos) 0 (.ref it) (.ref s2.heap.objs.size) Xc.env)
   (R (.ref s2.heap.objs.size) s3.heap.objs.size) { s3 with heap:=pushCells (s3.heap.push { cls:=.type "dict",data:=.dict #[] }) scope.names }:=by
  refine fM (fun n s'=>∃ i σ' H',Inv Xc [] σ' H' s'/\tn i s'.heap/\(∀ b∈fp,H' b=none)/\W i n σ' H') ?_ m0 ⟨0,_,_,J0,st4,fun b hb=>(f3 b hb).1,w0⟩;rintro n s5 ⟨i,σ5,H5,I5,st5,fr5,w5⟩;rcases turn i n σ5 H5 w5 with⟨stop,qn⟩ | ⟨go,N,hN,step⟩
  ·have q:=T.done Xc hprog hw hK hcm i [] s5 σ5 H5 (fun _ _=>False) I5 (stat fr5) st5 stop
   rw[hA] at q;refine thn q fun r s6 ⟨hr,I6⟩=>?_;subst hr
   have hL:Xc.env.locals=s3.heap.objs.size:=by rw[hen];rfl
   have ub:=I6.base;rw[hfs,hex,hH0,hs0] at ub
   have IX:Inv X z0 σ H5 s6:=by
    refine I3.call' (ch:=fp) ?_ ub ?_ I6.bare fun b hb=>⟨(f3 b hb).2.2.2.1,(f3 b hb).2.1,(f3 b hb).2.2.2.2.1,(f3 b hb).2.2.2.2.2⟩
    ·have:=I6.os
     rw[hs0] at this;exact this
    ·have hok:=I6.hok
     rw[hprog,hw] at hok;exact hok
   refine fin _ _ _ _ IX ⟨?_,?_,W4z I3.lt,I3.sz,fun x c e=>?_,fun p hp=>?_⟩ qn
   ·obtain⟨m,hn,_⟩:=I6.loc
    rw[hL] at hn;exact⟨m,hn⟩
   ·have:=I6.free
    rw[hL] at this;exact this
   ·obtain⟨v,z⟩:=I3.cell x c e
    exact U4z z.lt
   ·exact U4z (T4z (I3.pin p hp).1)
  ·have q:=T.item Xc hprog hw hK hcm i [] s5 σ5 H5 (fun _ _=>False) I5 (stat fr5) st5 go
   rw[hA] at q;refine thn q fun r s6 ⟨u,hr,h6⟩=>?_;subst hr;refine thn h6 fun _ s7 ⟨x,H7,I7,r7,y7,st7,fr7⟩=>?_;have I7':=I7.pinned (stat fr7) (T.obj _ _ st7);have q8:=hg _ s7 σ5 H7 x u _ I7' r7 (step x H7 y7);rw[hprog,hw,hA,hxe] at q8;refine thn q8 fun _ s8 ⟨σ8,H8,I8,z8⟩=>?_;have q9:=hif _ s8 σ8 H8 _ I8 z8;rw[hprog,hw,hA,hxe] at q9;refine thn q9 fun ok s9 ⟨H9,I9,z9⟩=>?_
   have again:∀ {s':Shared} {σ':St} {H':Hp},Inv Xc ([]++oh fp s7.heap) σ' H' s'->N σ' H'->∃ m,m<n/\∃ i σ' H',Inv Xc [] σ' H' s'/\tn i s'.heap/\(∀ b∈fp,H' b=none)/\W i m σ' H':=fun {s' σ' H'} I' n'=>by
    obtain⟨m',hm,w'⟩:=hN σ' H' n';refine⟨m',hm,i+1,σ',H',I'.unpinned,T.keep _ _ _ st7 fun b hb o e=>(I'.pin (b,o) (T0z _ (T0z _ (fK hb e)))).1,fun b hb=>?_,w'⟩;obtain⟨o,e,d⟩:=T.obj _ _ st7 b hb;exact(I'.pin (b,o) (T0z _ (T0z _ (fK hb e)))).2.1
   cases ok with
   | false =>
    rw[Z5z P1z] at z9 ⊢;exact again I9 z9
   | true =>
    rw[Y5z rfl] at z9 ⊢;have q10:=he _ s9 σ8 H9 _ I9 z9;rw[hprog,hw,hA,hxe] at q10;refine thn q10 fun uv s10 ⟨v,H10,I10,r10,ys,hy,hz,z10⟩=>?_;have q11:=oJ (X:=Xc) _ s10 σ8 H10 (.ref s2.heap.objs.size) [v] (.ref s2.heap.objs.size) [uv] (fun _ H'=>N σ8 H') I10 rfl (.cons r10 .nil) ⟨_,ys,v,rfl,rfl,hy,hz,z10⟩;rw[hprog,hw,hA,hxe] at q11;exact thn q11 fun _ s11 ⟨_,H11,I11,_,z11⟩=>again I11 z11
 have eenv:({ (newEnv scope s3.heap.objs.size X.env.globals (cellsFrom (s3.heap.objs.size+1) scope.names (iD X.env.cells scope.names [])) X.env.qual none .none (some X.env) builtinsNs) with scope:=relabel scope X.env }:Env)=Xc.env:=by rw[hen];rfl
 rw[eenv];exact codeAny_compStart_list loop (T.self X.A 0 _ _ _ st4 loop)
theorem Blk.gone{z0:List (Addr×Obj)}{σ:St}{H:Hp}{s:Shared}{C:Addr}{h':Heap}(b:Blk X z0 H s C)(I:Inv X z0 σ H s)(hs:Heap.SameBut C s.heap h'):Inv X z0 σ H { s with heap:=h' } :=
 I.turned (t':=s.toks) (fun c o hc e=>(hs.2 c hc).trans e) b.free b.loc (.inr b.abv) b.cel b.pin
theorem lQ{elt tg iter:Expr}{ifs:List Expr}{scope:Scope}{pos:Pos}{wi:TI}{g:Cx->TG}{tc:Cx->TT}{te:Cx->TE}(hc:X.calm=true)(hk:scope.kind=.function)(hnd:(scope.names.map (·.1)).Nodup)
  (hcap:∀ x,(x,NameKind.free)∈scope.names->X.env.kindOf x=some .cell\/X.env.kindOf x=some .free) (hi:PI X tg iter wi)
  (hin:∀ Xc:Cx,CompOf X scope Xc->PG Xc tg (g Xc)/\zE Xc ifs (tc Xc)/\PE Xc elt (te Xc)) (hs:∀ x,foldedSetIterable iter X.env x=pure x) :
  PE X (.ListComp elt [⟨tg,iter,ifs,0⟩] scope pos) (qe X scope wi (qu X.N scope.names) g tc te):=by
 intro z0 s σ H Q I h;rw[eval_ListComp];refine wpAny_comprehension_free (use:=none) (cl:=iD X.env.cells scope.names []) rfl hs (fD (iw I hnd hcap).1) hk (fun x hx hl=>bM hnd (by rw[<- hl];exact hx)) ?_;refine o9 hc hk hnd hcap hi hin I h fun acc C H' s' I' b q=>?_;obtain⟨m,hn⟩:=b.ns;exact⟨m,hn,fun h' hsb=>⟨.ref acc,H',b.gone I' hsb,rfl,q⟩⟩
theorem wF{i:Nat}{x:Str}{elt tg iter:Expr}{ifs:List Expr}{scope:Scope}{pos pos' spos:Pos}{wi:TI}{g:Cx->TG}{tc:Cx->TT}{te:Cx->TE}(hN:X.N.Nodup)(hix:X.N[i]?=some x)(hx:X.env.scope.names.lookup x=some .local)
  (hc:X.calm=true) (hk:scope.kind=.function) (hnd:(scope.names.map (·.1)).Nodup)
  (hcap:∀ x,(x,NameKind.free)∈scope.names->X.env.kindOf x=some .cell\/X.env.kindOf x=some .free) (hi:PI X tg iter wi)
  (hin:∀ Xc:Cx,CompOf X scope Xc->PG Xc tg (g Xc)/\zE Xc ifs (tc Xc)/\PE Xc elt (te Xc)) (hs:∀ x,foldedSetIterable iter X.env x=pure x)
  (hsw:swapsWith (.ListComp elt [⟨tg,iter,ifs,0⟩] scope pos) (some (.Name x pos')) spos.line X.env=pure true) :
  PS X (.Assign [.Name x pos'] (.ListComp elt [⟨tg,iter,ifs,0⟩] scope pos) spos) (NZ (qe X scope wi (qu X.N scope.names) g tc te) (Bo i)):=by
 intro z0 s σ H D I h;rw[exec_Assign_Name_used _ _ _ _ hsw];refine N5z (N4z (N5z ?_));show wpAny _ X.A (do let _ <- comprehension (.ListComp elt [⟨tg,iter,ifs,0⟩] scope pos) scope X.env _ (newList []) false (eval iter X.env) (some (assign (.Name x pos') X.env))) _ _ s
 refine N5z (thn (wpAny_comprehension_free (use:=some (assign (.Name x pos') X.env)) (Q:=fun _ s'=>SP X z0 D .next s') (cl:=iD X.env.cells scope.names []) rfl hs (fD (iw I hnd hcap).1) hk (fun x hx hl=>bM hnd (by rw[<- hl];exact hx))
  (o9 hc hk hnd hcap hi hin I h fun acc C H' s' I' b q=>?_)) fun _ s' hq=>O5z (O5z hq))
 show wpAny _ X.A (assign (.Name x pos') X.env (.ref acc)) _ _ s';refine wpAny_assign_Name (nR I' hN hix (.inl hx) (v:=.ref acc) rfl (fun s'' I'' ⟨a,hsb,ha⟩=>?_) (.inr hx));obtain⟨m,hn⟩:=b.ns
 have hCa:C≠a:=by
  rcases ha with ha | ha
  ·rw[ha];exact b.loc
  ·exact(b.cel x a ha).symm
 have b2:Blk X z0 H' s'' C:=⟨⟨m,hn.sameBut hsb hCa⟩,b.free,b.loc,b.abv,b.cel,b.pin⟩;exact⟨m,hn.sameBut hsb hCa,fun h' hsb'=>⟨_,H',b2.gone I'' hsb',q⟩⟩
end
section
variable {prog:Program} {w:World} {A:Around} {E:Value->Shared->Prop} {s:Shared}
theorem BW{it t:Addr}{i:Nat}{its:Array Value}{Q:Value->Shared->Prop}(hh:A.handled=none)(hit:s.heap.IsTupleIter it t i)(ht:s.heap.IsTuple t its)
  (hs:∀ x h',its[i]?=some x->h'.IsTupleIter it t (i+1)->Heap.SameBut it s.heap h'->Q x { s with heap:=h' })
  (he:∀ h' e,its[i]?=none->Heap.ExtBut it s.heap h'->(∃ o,h'.get? e=some o/\o.cls=.type "StopIteration")->E (.ref e) { s with heap:=h' }) :
  wpAny (model prog w) A (Builtin.SmallTypes.nextOf (.ref it)) Q E s:=by
 obtain⟨oi,hoi,hci,hdi⟩:=id hit;obtain⟨ot,hot,_,nt,hdt⟩:=ht;unfold Builtin.SmallTypes.nextOf;refine N5z (wpAny_callSpecial?_slot (name:=Str.ofString "__next__") hit.typeIs F.slot_tuple_iterator_next (Q2z F.slot_tuple_iterator_next hit.typeIs F.entry_tuple_iterator_next ?_ (F.args_tuple_iterator_next_1 _)));show wpAny _ _ (field (.ref it) 0 >>=_) _ _ s;refine N5z (I5z hoi hdi (x:=.ref t) rfl ?_);have nn:¬ ((Value.ref t==Value.none)=true):=P1z;show wpAny _ _ (if(Value.ref t==Value.none)=true then _ else _) _ _ s;rw[Z5z nn];show wpAny _ _ (field (.ref it) 1 >>=_) _ _ s;refine N5z (I5z hoi hdi (x:=.int i 0) rfl ?_);show wpAny _ _ (seqItems? (.ref t) >>=_) _ _ s;refine N5z (H4z hot hdt ?_)
 cases hx:its[i]? with
 | some x =>
  simp only[H2z,hx];have fin:(s.heap.update it fun o=>o.mapFields (·.setIfInBounds 1 (rawInt ((i:Int)+1)))).IsTupleIter it t (i+1):=⟨_,Heap.get?_update_self _ hoi (Obj.isFreed_of_fields (Obj.data_mapFields hdi _)),(Obj.cls_mapFields ..).trans hci,by rw[Obj.data_mapFields hdi];simp[rawInt]⟩;exact N5z (wpAny_setField hoi hdi (by simp) (O5z ⟨x,rfl,O5z (hs x _ hx fin (L1z ..))⟩))
 | none =>
  simp only[H2z,hx];refine N5z (wpAny_rule (N5z (wpAny_setField hoi hdi (by simp) (N5z (m:=newExc (.type "StopIteration") []) ?_))));simp only[newExc,newTuple];refine N5z (A2z (N5z (m:=firstArgMember _ _) (wpAny_of_eq (a:=Value.none) (by first | rfl | (simp only[firstArgMember];rfl)) (A2z ?_ (by size_fits)))) (by size_fits));simp only[raiseNew];refine N5z (wpAny_handled ?_)
  first | rw[show A.in1.handled=none from hh] | rw[hh]
  exact N5z (O5z (wpAny_throw (he _ _ hx (((L1z ..).extBut.push _).push _) ⟨_,Heap.get?_push_size _ rfl,rfl⟩)))
structure ZT (h:Heap) (z ti to i1 i2 t1 t2:Addr) (k:Nat) (f:Value):Prop where
 hz:IsZip h z ti to f
 hi:IsPair h ti (.ref i1) (.ref i2)
 ho:∃ a b,IsPair h to a b
 h1:h.IsTupleIter i1 t1 k
 h2:h.IsTupleIter i2 t2 k
theorem ZT.keep{h h':Heap}{z ti to i1 i2 t1 t2:Addr}{k:Nat}{f:Value}(x:ZT h z ti to i1 i2 t1 t2 k f)(kp:∀ b∈[z,ti,to,i1,i2],∀ o,h.get? b=some o->h'.get? b=some o):ZT h' z ti to i1 i2 t1 t2 k f :=
 ⟨kp z (by simp) _ x.hz,kp ti (by simp) _ x.hi,let ⟨a,b,e⟩:=x.ho;⟨a,b,kp to (by simp) _ e⟩,x.h1.at fun o e=>kp i1 (by simp) o e,x.h2.at fun o e=>kp i2 (by simp) o e⟩
theorem uZ{z ti to i1 i2 t1 t2:Addr}{k:Nat}{xs ys:Array Value}{Q:Fin->Shared->Prop}(hh:A.handled=none)(D:ZipApart z ti to i1 i2 t1 t2)(hZ:ZT s.heap z ti to i1 i2 t1 t2 k .none)
  (ht1:s.heap.IsTuple t1 xs) (ht2:s.heap.IsTuple t2 ys)
  (hs : ∀ x y h', xs[k]? = some x -> ys[k]? = some y -> ZT h' z ti to i1 i2 t1 t2 (k + 1) (rawInt s.heap.objs.size) -> IsPair h' s.heap.objs.size x y -> h'.objs.size = s.heap.objs.size + 1 ->
   (∀ c o,c∉[z,to,i1,i2]->s.heap.get? c=some o->h'.get? c=some o)->Q (.done (.ret (.ref s.heap.objs.size))) { s with heap:=h' })
  (he:∀ h' e,(xs[k]?=none\/ys[k]?=none)->(∀ c o,c∉[z,to,i1,i2]->s.heap.get? c=some o->h'.get? c=some o)->(∃ o,h'.get? e=some o/\o.cls=.type "StopIteration")->E (.ref e) { s with heap:=h' }) :
  wpAny (model prog w) A (Builtin.«zip.__next__» ⟨[.ref z],[]⟩) Q E s:=by
 obtain⟨hz,hi,⟨a,b,ho⟩,h1,h2⟩:=hZ;show wpAny _ _ (field (.ref z) 2 >>=_) _ _ _;refine N5z (I5z hz rfl (x:=.bool false) rfl ?_);show wpAny _ _ (field (.ref z) 3 >>=_) _ _ _;refine N5z (I5z hz rfl (x:=.ref ti) rfl (N5z (H4z hi rfl ?_)));show wpAny _ _ (Builtin.SmallTypes.ownedTupleIsFree (.ref z) >>=_) _ _ _;unfold Builtin.SmallTypes.ownedTupleIsFree;refine N5z (N5z (I5z hz rfl (x:=.none) rfl (O5z ?_)));simp only[X5z];refine N5z (wpAny_rule (N5z (I5z hz rfl (x:=.ref to) rfl (N5z (V1z hz (by simp) fun ha za sa=>?_)))))
 replace za:IsZip ha z ti to .ellipsis:=za
 refine N5z ?_;simp only[List.zipIdx_cons,List.zipIdx_nil,M3z,F4z];refine N5z (N5z (wpAny_onRaise ?_))
 have ne4:∀ {c:Addr},c∉[z,to,i1,i2]->c≠z/\c≠to/\c≠i1/\c≠i2:=fun hc=>by simpa using hc
 show wpAny _ _ (Builtin.SmallTypes.nextOf (.ref i1) >>=_) _ _ _;refine N5z (BW hh (h1.extBut sa.extBut D.i1z) (ht1.extBut sa.extBut D.l1z) (fun x hb hx itb sb=>O5z ?_) fun hb e hx eb ⟨oe,oe1,oe2⟩=>?_)
 ·have tob:IsPair hb to a b:=sb.extBut _ _ D.TOi1 (sa.extBut _ _ D.TOz ho)
  refine N5z (H4z tob rfl (N5z (wpAny_updateSeq_pair tob fun hc toc sc=>N5z (wpAny_letGo (O5z ?_)))))
  replace toc:IsPair hc to x b:=toc
  refine N5z (N5z (wpAny_onRaise ?_));have h2c:hc.IsTupleIter i2 t2 k:=((h2.extBut sa.extBut D.i2z).extBut sb.extBut D.i12.symm).extBut sc.extBut D.TOi2.symm;have t2c:hc.IsTuple t2 ys:=((ht2.extBut sa.extBut D.l2z).extBut sb.extBut D.l2i1).extBut sc.extBut D.l2TO;show wpAny _ _ (Builtin.SmallTypes.nextOf (.ref i2) >>=_) _ _ _;refine N5z (BW hh h2c t2c (fun y hd hy itd sd=>O5z ?_) fun hd e hy ed ⟨oe,oe1,oe2⟩=>?_)
  ·have tod:IsPair hd to x b:=sd.extBut _ _ D.TOi2 toc
   refine N5z (H4z tod rfl (N5z (wpAny_updateSeq_pair tod fun hf tof sf=>N5z (wpAny_letGo (O5z (O5z ?_))))))
   replace tof:IsPair hf to x y:=tof
   refine N5z (H4z tof rfl (N5z (I4z ?_)))
   have szf:hf.objs.size=s.heap.objs.size:=by rw[sf.1,sd.1,sc.1,sb.1,sa.1]
   have zf:IsZip hf z ti to .ellipsis:=sf.extBut _ _ D.TOz.symm (sd.extBut _ _ D.i2z.symm (sc.extBut _ _ D.TOz.symm (sb.extBut _ _ D.i1z.symm za)))
   have kf:∀ c o,c∉[z,to,i1,i2]->s.heap.get? c=some o->hf.get? c=some o:=fun c o hc' e=>by
    obtain⟨c1,c2,c3,c4⟩:=ne4 hc';exact sf.extBut _ _ c2 (sd.extBut _ _ c4 (sc.extBut _ _ c2 (sb.extBut _ _ c3 (sa.extBut _ _ c1 e))))
   have i1f:hf.IsTupleIter i1 t1 (k+1):=((itb.extBut sc.extBut D.TOi1.symm).extBut sd.extBut D.i12).extBut sf.extBut D.TOi1.symm;have i2f:hf.IsTupleIter i2 t2 (k+1):=itd.extBut sf.extBut D.TOi2.symm;have tif:IsPair hf ti (.ref i1) (.ref i2):=sf.extBut _ _ D.TITO (sd.extBut _ _ D.TIi2 (sc.extBut _ _ D.TITO (sb.extBut _ _ D.TIi1 (sa.extBut _ _ D.TIz hi))));have zlt:z<hf.objs.size:=T4z zf;show wpAny _ _ (Builtin.SmallTypes.ownedTupleHandOut (.ref z) (.ref hf.objs.size) >>=_) _ _ _;unfold Builtin.SmallTypes.ownedTupleHandOut;have zg:IsZip (hf.push { cls:=.type "tuple",data:=.seq #[x,y] }) z ti to .ellipsis:=Heap.get?_push_of_some _ zf;refine N5z (N5z (V1z zg (by simp) fun hk zk sk=>V1z (show IsZip hk z ti to (rawInt hf.objs.size) from zk) (by simp) fun hm zm sm=>O5z ?_))
   replace zm:IsZip hm z ti to (rawInt hf.objs.size):=zm
   have up:∀ c o,c≠z->hf.get? c=some o->hm.get? c=some o:=fun c o c1 e=>sm.extBut _ _ c1 (sk.extBut _ _ c1 (Heap.get?_push_of_some _ e));have new:IsPair hm hf.objs.size x y:=sm.extBut _ _ (W4z zlt) (sk.extBut _ _ (W4z zlt) (Heap.get?_push_size _ rfl))
   have szm:hm.objs.size=hf.objs.size+1:=by rw[sm.1,sk.1,G4z]
   have q:=hs x y hm hx hy ⟨by rw[<- szf];exact zm,up _ _ D.TIz tif,⟨x,y,up _ _ D.TOz tof⟩,i1f.at fun o e=>up _ o D.i1z e,i2f.at fun o e=>up _ o D.i2z e⟩ (by rw[<- szf];exact new) (by rw[szm,szf]) fun c o hc' e=>up c o (ne4 hc').1 (kf c o hc' e)
   rw[<- szf] at q;exact q
  ·have zd:IsZip hd z ti to .ellipsis:=ed _ _ D.i2z.symm (sc.extBut _ _ D.TOz.symm (sb.extBut _ _ D.i1z.symm za))
   have ez:e≠z:=fun q=>by subst q;rw[zd] at oe1;cases oe1;simp at oe2
   refine V1z zd (by simp) fun hf _ sf=>he hf e (.inr hy) (fun c o hc' q=>?_) ⟨oe,sf.extBut _ _ ez oe1,oe2⟩;obtain⟨c1,c2,c3,c4⟩:=ne4 hc';exact sf.extBut _ _ c1 (ed _ _ c4 (sc.extBut _ _ c2 (sb.extBut _ _ c3 (sa.extBut _ _ c1 q))))
 ·have zb:IsZip hb z ti to .ellipsis:=eb _ _ D.i1z.symm za
  have ez:e≠z:=fun q=>by subst q;rw[zb] at oe1;cases oe1;simp at oe2
  refine V1z zb (by simp) fun hf _ sf=>he hf e (.inl hx) (fun c o hc' q=>?_) ⟨oe,sf.extBut _ _ ez oe1,oe2⟩;obtain⟨c1,c2,c3,c4⟩:=ne4 hc';exact sf.extBut _ _ c1 (eb _ _ c3 (sa.extBut _ _ c1 q))
theorem jm{z ti to i1 i2 t1 t2:Addr}{k:Nat}{xs ys:Array Value}{Q:Option Value->Shared->Prop}(hh:A.handled=none)(D:ZipApart z ti to i1 i2 t1 t2)(hZ:ZT s.heap z ti to i1 i2 t1 t2 k .none)
  (ht1:s.heap.IsTuple t1 xs) (ht2:s.heap.IsTuple t2 ys)
  (hs : ∀ x y h', xs[k]? = some x -> ys[k]? = some y -> ZT h' z ti to i1 i2 t1 t2 (k + 1) (rawInt s.heap.objs.size) -> IsPair h' s.heap.objs.size x y -> h'.objs.size = s.heap.objs.size + 1 ->
   (∀ c o,c∉[z,to,i1,i2]->s.heap.get? c=some o->h'.get? c=some o)->Q (some (.ref s.heap.objs.size)) { s with heap:=h' })
  (he:∀ h',(xs[k]?=none\/ys[k]?=none)->(∀ c o,c∉[z,to,i1,i2]->s.heap.get? c=some o->h'.get? c=some o)->Q none { s with heap:=h' }) :
  wpAny (model prog w) A (pyNext (.ref z)) Q E s:=by
 have hT:s.TypeIs (.ref z) "zip":=⟨_,hZ.hz,rfl⟩;unfold pyNext
 refine N5z (wpAny_attempt (wpAny_callSpecial?_slot (name:=Str.ofString "__next__") hT F.slot_zip_next (Q2z F.slot_zip_next hT F.entry_zip_next
  (uZ hh D hZ ht1 ht2 (fun x y h' a1 a2 a3 a4 a5 a6=>⟨_,rfl,O5z (hs x y h' a1 a2 a3 a4 a5 a6)⟩) fun h' e a1 a2 ⟨o,e1,e2⟩=>?_) (F.args_zip_next_1 _))))
 exact N5z (wpAny_isInstance (T:="StopIteration") (b:=true) ⟨o,e1,e2⟩ isSubtype_stop (O5z (he h' a1 a2)))
abbrev itT(t:Addr):Obj:={ cls:=.type "tuple_iterator",data:=.fields #[.ref t,.int 0 0] }
theorem Ew(hp H1 H2 H3 H4 H5:Heap)(t1 t2:Addr)(e1:H1=hp.push (itT t1))(e2:H2=H1.push (itT t2))(e3:H3=H2.push { cls:=.type "tuple",data:=.seq #[.ref hp.objs.size,.ref H1.objs.size] })(e4:H4=H3.push { cls:=.type "tuple",data:=.seq #[.none,.none] })
  (e5:H5=H4.push { cls:=.type "zip",data:=.fields #[.none,.bool false,.bool false,.ref H2.objs.size,.ref H3.objs.size] }) :
  H4.objs.size=hp.objs.size+4/\H5.objs.size=hp.objs.size+5/\(∀ c o,hp.get? c=some o->H5.get? c=some o)/\ZT H5 (hp.objs.size+4) (hp.objs.size+2) (hp.objs.size+3) hp.objs.size (hp.objs.size+1) t1 t2 0 .none:=by
 have z1:H1.objs.size=hp.objs.size+1:=by rw[e1,G4z]
 have z2:H2.objs.size=hp.objs.size+2:=by rw[e2,G4z,z1]
 have z3:H3.objs.size=hp.objs.size+3:=by rw[e3,G4z,z2]
 have z4:H4.objs.size=hp.objs.size+4:=by rw[e4,G4z,z3]
 have z5:H5.objs.size=hp.objs.size+5:=by rw[e5,G4z,z4]
 have k5:∀ c o,H4.get? c=some o->H5.get? c=some o:=fun c o e=>by rw[e5];exact Heap.get?_push_of_some _ e
 have k4:∀ c o,H3.get? c=some o->H5.get? c=some o:=fun c o e=>k5 c o (by rw[e4];exact Heap.get?_push_of_some _ e)
 have k3:∀ c o,H2.get? c=some o->H5.get? c=some o:=fun c o e=>k4 c o (by rw[e3];exact Heap.get?_push_of_some _ e)
 have k2:∀ c o,H1.get? c=some o->H5.get? c=some o:=fun c o e=>k3 c o (by rw[e2];exact Heap.get?_push_of_some _ e)
 have k1:∀ c o,hp.get? c=some o->H5.get? c=some o:=fun c o e=>k2 c o (by rw[e1];exact Heap.get?_push_of_some _ e)
 refine⟨z4,z5,k1,?_,?_,⟨.none,.none,?_⟩,⟨_,k2 _ _ (by rw[e1];exact Heap.get?_push_size _ rfl),rfl,rfl⟩,⟨_,k3 _ _ (by rw[e2,<- z1];exact Heap.get?_push_size _ rfl),rfl,rfl⟩⟩
 ·have q:H5.get? H4.objs.size=some { cls:=.type "zip",data:=.fields #[.none,.bool false,.bool false,.ref H2.objs.size,.ref H3.objs.size] }:=by rw[e5];exact Heap.get?_push_size _ rfl
  rw[z2,z3,z4] at q;exact q
 ·have q:H5.get? H2.objs.size=some { cls:=.type "tuple",data:=.seq #[.ref hp.objs.size,.ref H1.objs.size] }:=k4 _ _ (by rw[e3];exact Heap.get?_push_size _ rfl)
  rw[z1,z2] at q;exact q
 ·have q:H5.get? H3.objs.size=some { cls:=.type "tuple",data:=.seq #[.none,.none] }:=k5 _ _ (by rw[e4];exact Heap.get?_push_size _ rfl)
  rw[z3] at q;exact q
theorem zF(t1 t2:Addr)(xs ys:Array Value) :
    Meets (Builtin.«zip.__new__» ⟨[.type "zip",.ref t1,.ref t2],[]⟩) (fun _ R s=>s.heap.IsTuple t1 xs/\s.heap.IsTuple t2 ys /\
      ∀ h', (∀ c o, s.heap.get? c = some o -> h'.get? c = some o) -> h'.objs.size = s.heap.objs.size + 5 -> ZT h' (s.heap.objs.size + 4) (s.heap.objs.size + 2) (s.heap.objs.size + 3) s.heap.objs.size (s.heap.objs.size + 1) t1 t2 0 .none ->
        R (.ok (.ret (.ref (s.heap.objs.size+4)))) { s with heap:=h' }) :=
  .of_wp fun prog w A R s h=>by
    obtain⟨hp,g,d,tk,os⟩:=s;obtain⟨hl1,hl2,h⟩:=h
    have hsub:=sub_zip
    have hL1:Heap.IsTuple (Shared.heap ⟨hp,g,d,tk,os⟩) t1 xs:=hl1
    have hL2:Heap.IsTuple (Shared.heap ⟨hp.push (itT t1),g,d,tk,os⟩) t2 ys:=let ⟨o,e,r⟩:=hl2;⟨o,Heap.get?_push_of_some _ e,r⟩
    wp_walk using Q1z hL1,Q1z hL2
    refine⟨_,rfl,?_⟩
    obtain⟨z4,z5,kp,Z⟩:=Ew hp _ _ _ _ _ t1 t2 rfl rfl rfl rfl rfl
    have q:=h _ kp z5 Z
    rw[<- z4] at q
    exact q
theorem yP{t1 t2:Addr}{xs ys:Array Value}{Q:Value->Shared->Prop}(hl1:s.heap.IsTuple t1 xs)(hl2:s.heap.IsTuple t2 ys)
  (h : ∀ h', (∀ c o, s.heap.get? c = some o -> h'.get? c = some o) -> h'.objs.size = s.heap.objs.size + 5 -> ZT h' (s.heap.objs.size + 4) (s.heap.objs.size + 2) (s.heap.objs.size + 3) s.heap.objs.size (s.heap.objs.size + 1) t1 t2 0 .none ->
   Q (.ref (s.heap.objs.size+4)) { s with heap:=h' }):wpAny (model prog w) A (call (.type "zip") [.ref t1,.ref t2]) Q E s:=by
 refine callType_new F.called_zip (by decide) (F.typeCall_zip_2 _ _) (F.newCall_zip_2 _ _) (fun obj=>F.args_object_init_3 obj _ _) F.entry_zip_new (zF t1 t2 xs ys) ⟨hl1,hl2,fun h' kp z5 Z=>?_⟩;exact⟨⟨_,Z.hz,rfl⟩,h h' kp z5 Z⟩
end
namespace RF
end RF
section
variable {prog:Program} {w:World} {A:Around} {E:Value->Shared->Prop} {s:Shared}
end
end L2
namespace L2
open PySem PySem.Spec PyProof.Rows PySem.SeqAt
section
variable {prog:Program} {w:World} {A:Around} {E:Value->Shared->Prop} {s:Shared}
end
end L2
namespace L2
open PySem PySem.Spec PyProof.Rows
def Itz(K:Z2)(t1 t2:Addr):It :=
  ⟨fun i H=>∃ xs ys x y,SqT K H t1 xs/\SqT K H t2 ys/\xs[i]?=some x/\ys[i]?=some y,
   fun i H v H'=>∃ p,H p=none/\v=.ref p/\∀ xs ys x y,SqT K H t1 xs->SqT K H t2 ys->xs[i]?=some x->ys[i]?=some y->H'=upd H p (.tup [x,y]),
   fun i H=>∃ xs ys,SqT K H t1 xs/\SqT K H t2 ys/\(xs.length<=i\/ys.length<=i)⟩
theorem Inv.turnedNew{X:Cx}{z0:List (Addr×Obj)}{σ:St}{H:Hp}{s:Shared}{h':Heap}{ch:List Addr}{o:HO}{t':Nat}(I:Inv X z0 σ H s)(hf:∀ b∈ch,uT X z0 H b)(k:∀ b u,b∉ch->s.heap.get? b=some u->h'.get? b=some u)
  (new:cG X.prog X.w (upd H s.heap.objs.size o) h' s.heap.objs.size o):Inv X z0 σ (upd H s.heap.objs.size o) { s with heap:=h',toks:=t' }:=by
 have hn:H s.heap.objs.size=none:=I.hok.fresh (F5z _);refine I.call' (s':={ s with heap:=h',toks:=t' }) (ch:=ch) rfl ?_ ?_ I.bare fun b hb=>⟨(hf b hb).2.2.2.1,(hf b hb).2.1,(hf b hb).2.2.2.2.1,(hf b hb).2.2.2.2.2⟩
 ·refine⟨fun b u e _ _ hc=>k b u hc e,fun b u e _ _ hc=>⟨u.slots,k b u hc e⟩,fun b u e n hc=>?_,fun b u e hc=>⟨u,k b u hc e⟩,fun b xs e=>?_,fun b u xs e=>?_,fun b ps e=>⟨#[],?_⟩⟩
  ·rw[aJ (U4z (T4z e))];exact n
  ·rw[aJ (au e hn)];exact e
  ·rw[aJ (au e hn)];exact e
  ·rw[aJ (au e hn),e];simp
 ·intro b u e
  by_cases hb:b=s.heap.objs.size
  ·subst hb;rw[aP] at e;cases e;exact new
  ·rw[aJ hb] at e
   refine(I.hok b u e).stay (fun c v hc q=>k c v (fun z=>?_) q) (fun c q=>by rw[aJ (au q hn)];exact q) fun c xs q=>by rw[aJ (au q hn)];exact q
   have zn:=(hf c z).1;rcases hc with rfl | hc
   ·rw[zn] at e;cases e
   ·rw[zn] at hc;cases hc
theorem Inv.turnedAll{X:Cx}{z0:List (Addr×Obj)}{σ:St}{H:Hp}{s:Shared}{h':Heap}{ch:List Addr}{t':Nat}(I:Inv X z0 σ H s)(hf:∀ b∈ch,uT X z0 H b)(k:∀ b u,b∉ch->s.heap.get? b=some u->h'.get? b=some u) :
  Inv X z0 σ H { s with heap:=h',toks:=t' }:=by
 refine I.call' (s':={ s with heap:=h',toks:=t' }) (ch:=ch) rfl ?_ ?_ I.bare fun b hb=>⟨(hf b hb).2.2.2.1,(hf b hb).2.1,(hf b hb).2.2.2.2.1,(hf b hb).2.2.2.2.2⟩
 ·exact⟨fun b u e _ _ hc=>k b u hc e,fun b u e _ _ hc=>⟨u.slots,k b u hc e⟩,fun b u e n hc=>n,fun b u e hc=>⟨u,k b u hc e⟩,fun b xs e=>e,fun b u xs e=>e,fun b ps e=>⟨#[],by rw[e];simp⟩⟩
 ·intro b u e
  refine(I.hok b u e).stay (fun c v hc q=>k c v (fun z=>?_) q) (fun c q=>q) fun c xs q=>q;have zn:=(hf c z).1;rcases hc with rfl | hc
  ·rw[zn] at e;cases e
  ·rw[zn] at hc;cases hc
theorem zL{P:Program}{w:World}{K:Z2}{es:List Expr}{kt:Nat}{pt:Pos}{z ti to i1 i2 t1 t2:Addr}(D:ZipApart z ti to i1 i2 t1 t2) :
    Turn P w K (.Tuple es kt pt) (Itz K t1 t2) [z,ti,to,i1,i2] z (fun i h=>ZT h z ti to i1 i2 t1 t2 i .none) where
  mem:=by simp
  obj:=fun i h st b hb=>by
    simp at hb
    rcases hb with rfl | rfl | rfl | rfl | rfl
    · exact⟨_,st.hz,fun v q=>by have q':Data.fields _=Data.cell v:=q;cases q'⟩
    · exact⟨_,st.hi,fun v q=>by have q':Data.seq _ _=Data.cell v:=q;cases q'⟩
    · obtain⟨a,c,e⟩:=st.ho
      exact⟨_,e,fun v q=>by have q':Data.seq _ _=Data.cell v:=q;cases q'⟩
    · obtain⟨o,e,_,d⟩:=st.h1
      exact⟨o,e,fun v q=>by rw[d] at q;cases q⟩
    · obtain⟨o,e,_,d⟩:=st.h2
      exact⟨o,e,fun v q=>by rw[d] at q;cases q⟩
  keep:=fun i h h' st k=>st.keep k
  item:=by
    intro X hP hw hK hc i z0 s σ H E I hf st hg
    subst hP hw hK
    obtain⟨xs,ys,x,y,hq1,hq2,hx,hy⟩:=hg
    obtain⟨its1,rv1,p1,_⟩:=I.tuple hq1
    obtain⟨its2,rv2,p2,_⟩:=I.tuple hq2
    obtain⟨u1,hu1,ru1⟩:=rv1.get hx
    obtain⟨u2,hu2,ru2⟩:=rv2.get hy
    refine jm (I.ok.hd hc) D st (show s.heap.IsTuple t1 its1.toArray from p1) (show s.heap.IsTuple t2 its2.toArray from p2) (fun a b h' ha hb Z pr sz kp=>?_) fun h' hn _=>?_
    · have ea : a = u1 := by have : its1[i]? = some a := by simpa using ha
                             rw[hu1] at this;exact(E3z this).symm
      have eb : b = u2 := by have : its2[i]? = some b := by simpa using hb
                             rw[hu2] at this;exact(E3z this).symm
      subst ea eb
      have szl:2<=sizeLine:=by decide
      have hf4:∀ c∈[z,to,i1,i2],uT X z0 H c:=fun c hc'=>hf c (by simp at hc' ⊢;rcases hc' with h | h | h | h<;>simp[h])
      have I1:Inv X z0 σ (upd H s.heap.objs.size (.tup [x,y])) { s with heap:=h',toks:=s.toks }:=I.turnedNew hf4 kp ⟨szl,[a,b],.cons ru1 (.cons ru2 .nil),⟨_,pr,rfl,_,rfl⟩⟩
      have fresh:H s.heap.objs.size=none:=I.hok.fresh (F5z _)
      have ltf:∀ c∈[z,ti,to,i1,i2],c≠s.heap.objs.size:=fun c hc' e=>by
        have:H c=none:=(hf c hc').1
        simp at hc'
        have lt:c<s.heap.objs.size:=by
          rcases hc' with rfl | rfl | rfl | rfl | rfl
          · exact T4z st.hz
          · exact T4z st.hi
          · obtain⟨_,_,e'⟩:=st.ho;exact T4z e'
          · obtain⟨o,e',_⟩:=st.h1;exact T4z e'
          · obtain⟨o,e',_⟩:=st.h2;exact T4z e'
        exact U4z lt e
      refine⟨_,rfl,wpAny_letOwnedTupleGo_zip (s:={ s with heap:=h' }) Z.hz fun h2 z2 sb=>?_⟩
      have fz:=hf z (by simp)
      have I2:Inv X z0 σ (upd H s.heap.objs.size (.tup [x,y])) { s with heap:=h2 }:=I1.turned (t':=s.toks) (fun c o hc' e=>(sb.2 c hc').trans e) (by rw[aJ (ltf z (by simp))];exact fz.1) fz.2.1 fz.2.2.2.1 fz.2.2.2.2.1 fz.2.2.2.2.2
      refine⟨.ref s.heap.objs.size,_,I2,rfl,⟨_,fresh,rfl,fun xs' ys' x' y' a1 a2 a3 a4=>?_⟩,?_,fun c hc'=>by rw[aJ (ltf c hc')];exact(hf c hc').1⟩
      · have e1:=I.tuple_inj a1 hq1
        have e2:=I.tuple_inj a2 hq2
        subst e1 e2
        rw[hx] at a3;rw[hy] at a4
        cases a3;cases a4
        rfl
      · obtain⟨a',b',e'⟩:=Z.ho
        exact⟨z2,(sb.2 ti D.TIz).trans Z.hi,⟨a',b',(sb.2 to D.TOz).trans e'⟩,Z.h1.at fun o e=>(sb.2 i1 D.i1z).trans e,Z.h2.at fun o e=>(sb.2 i2 D.i2z).trans e⟩
    · rcases hn with hn | hn
      · have:its1[i]?=none:=by simpa using hn
        rw[hu1] at this;cases this
      · have:its2[i]?=none:=by simpa using hn
        rw[hu2] at this;cases this
  done:=by
    intro X hP hw hK hc i z0 s σ H E I hf st hg
    subst hP hw hK
    obtain⟨xs,ys,hq1,hq2,hl⟩:=hg
    obtain⟨its1,rv1,p1,_⟩:=I.tuple hq1
    obtain⟨its2,rv2,p2,_⟩:=I.tuple hq2
    have l1:=rv1.length
    have l2:=rv2.length
    refine jm (I.ok.hd hc) D st (show s.heap.IsTuple t1 its1.toArray from p1) (show s.heap.IsTuple t2 its2.toArray from p2) (fun a b h' ha hb Z pr sz kp=>?_) fun h' _ kp=>⟨rfl,?_⟩
    · exfalso
      have h1 : i < its1.length := by have : its1[i]? = some a := by simpa using ha
                                      exact(List.getElem?_eq_some_iff.mp this).1
      have h2 : i < its2.length := by have : its2[i]? = some b := by simpa using hb
                                      exact(List.getElem?_eq_some_iff.mp this).1
      omega
    · have hf4:∀ c∈[z,to,i1,i2],uT X z0 H c:=fun c hc'=>hf c (by simp at hc' ⊢;rcases hc' with h | h | h | h<;>simp[h])
      exact I.turnedAll (t':=s.toks) hf4 kp
  self:=fun _ _ _ _ _ st h=>wpAny_pyIter_zip st.hz h
section
variable {X:Cx}
def ZF(K:Z2)(ta:TA):TI:=fun σ H R=>ta σ H fun vs H1=>∃ a b,vs=[.ref a,.ref b]/\(∃ xs,SqT K H1 a xs)/\(∃ ys,SqT K H1 b ys)/\R (Itz K a b) H1
theorem KC{a b:Expr}{ta:TA}{p pos pt:Pos}{es:List Expr}{kt:Nat}(hg:Gl X "zip")(hm:X.mg "zip"=none)(ha:PA X [a,b] ta)(hs:starEach [a,b] X.env=[(false,eval a X.env),(false,eval b X.env)])(hs2:starEach [b] X.env=[(false,eval b X.env)]) :
  PI X (.Tuple es kt pt) (.Call (.Name "zip" p) [a,b] [] pos) (ZF X.K ta):=by
 intro z0 s σ H R I h;refine Call_ (eZ I hg hm boot_zip (C0z (thn (ha pos z0 s σ H _ I h) fun us s1 ⟨vs,H1,I1,r1,q1⟩=>?_) (by rw[hs,hs2]) (by rw[hs2];rfl)));obtain⟨a1,b1,e,⟨xs,hx⟩,⟨ys,hy⟩,q⟩:=q1;subst e
 cases r1 with
 | cons r rr =>
  cases rr with
  | cons r' rr =>
   cases rr;cases (show _=Value.ref a1 from r);cases (show _=Value.ref b1 from r');obtain⟨its1,_,p1,_⟩:=I1.tuple hx;obtain⟨its2,_,p2,_⟩:=I1.tuple hy;refine yP (show s1.heap.IsTuple a1 its1.toArray from p1) (show s1.heap.IsTuple b1 its2.toArray from p2) fun h' kp sz Z=>?_;refine wpAny_pyIter_zip (s:={ s1 with heap:=h' }) Z.hz ?_;have I2:Inv X z0 σ H1 { s1 with heap:=h' }:=I1.kept (t':=s1.toks) kp;refine⟨s1.heap.objs.size+4,_,_,_,H1,rfl,I2,zL (zipApart_new p1.lt p2.lt),Z,fun c hc=>?_,q⟩
   have hc':s1.heap.objs.size<=c:=by
    simp at hc
    rcases hc with h | h | h | h | h<;>rw[h]<;>first | exact F5z _ | exact R2z _ _
   exact I1.fpOk hc' (I1.hok.fresh hc')
end
section
variable {X:Cx}
end
section
variable {X:Cx} {tg:Expr}
end
section
variable {prog:Program} {w:World} {A:Around} {E:Value->Shared->Prop} {s:Shared}
theorem Ei(hh:A.handled=none)(it t:Addr)(ap:t≠it)(its:Array Value):Draws prog w A it [it,t] its.size (fun k v=>its[k]?=some v) (fun k h=>h.IsTupleIter it t k/\h.IsTuple t its) where
 live:=fun _ _ q=>by obtain⟨⟨o,e,_⟩,_⟩:=q;exact⟨o,e⟩
 frame:=fun _ _ _ q kp=>by
  obtain⟨⟨o,e,r⟩,⟨o2,e2,r2⟩⟩:=q;exact⟨⟨o,kp it (by simp) o e,r⟩,⟨o2,kp t (by simp) o2 e2,r2⟩⟩
 item:=fun k s Q E lt q fin=>BW hh q.1 q.2 (fun x h' hx a sb=>fin x h' s.toks hx ⟨a,by obtain⟨o2,e2,r2⟩:=q.2;exact⟨o2,(sb.2 t ap).trans e2,r2⟩⟩ sb) fun h' e hx _ _=>by
  have:its[k]?=some its[k]:=by simp[lt]
  rw[this] at hx;cases hx
 done:=fun s Q E q fin=>BW hh q.1 q.2 (fun x h' hx _ _=>by simp at hx) fun h' e _ a b=>fin h' e a b
set_option maxHeartbeats 1000000 in
theorem yH(t:Addr)(its:Array Value)(n:Nat)(dd:Option Addr)(sl:Array (Option Value)) :
  Meets (Builtin.«enumerate.__new__» ⟨[.type "enumerate",.ref t],[]⟩) (fun _ R s=>s.heap.get? t=some { cls:=.type "tuple",dict:=dd,data:=.seq its n,slots:=sl } /\
   R (.ok (.ret (.ref (s.heap.push (itT t)).objs.size))) { s with heap:=(s.heap.push (itT t)).push { cls:=.type "enumerate",data:=.fields #[.none,.bool false,.ref s.heap.objs.size,rawInt 0,.none,.none] } }) :=
 .of_wp fun prog w A R s h=>by
  obtain⟨hp,g,d,tk,os⟩:=s;obtain⟨hl,h⟩:=h
  have hsub:=sub_enumerate;have hL:Heap.IsTuple (Shared.heap ⟨hp,g,d,tk,os⟩) t its:=⟨_,hl,rfl,n,rfl⟩
  wp_walk using I0z hl
  refine wpAny_stack_any fun fr=>O5z ?_;split
  ·rename_i c _ _ _ _ _
   cases (c==Value.type "enumerate")<;>(wp_walk using I0z hl,Q1z hL;exact⟨_,rfl,h⟩)
  ·wp_walk using I0z hl,Q1z hL;exact⟨_,rfl,h⟩
theorem uO{t:Addr}{its:Array Value}{Q:Value->Shared->Prop}(ht:s.heap.IsTuple t its)
  (q:∀ h',IsEnum h' (s.heap.objs.size+1) s.heap.objs.size 0 .none->h'.IsTupleIter s.heap.objs.size t 0->(∀ b o,s.heap.get? b=some o->h'.get? b=some o)->Q (.ref (s.heap.objs.size+1)) { s with heap:=h' }) :
  wpAny (model prog w) A (call (.type "enumerate") [.ref t]) Q E s:=by
 obtain⟨⟨c,dd,dt,sl⟩,e,hc,n,hd⟩:=ht;cases (show c=.type "tuple" from hc);cases (show dt=.seq its n from hd);refine callType_new F.called_enumerate (by decide) (F.typeCall_enumerate_1 _) (F.newCall_enumerate_1 _) (fun obj=>F.args_object_init_2 obj _) F.entry_enumerate_new (yH t its n dd sl) ⟨e,?_⟩;have z:(s.heap.push (itT t)).objs.size=s.heap.objs.size+1:=G4z ..;have en:=Heap.get?_push_size (s.heap.push (itT t)) (o:={ cls:=.type "enumerate",data:=.fields #[.none,.bool false,.ref s.heap.objs.size,rawInt 0,.none,.none] }) rfl;rw[z] at en;show _/\_;rw[z];exact⟨⟨_,en,rfl⟩,q _ en ⟨_,Heap.get?_push_of_some _ (Heap.get?_push_size _ rfl),rfl,rfl⟩ fun b o x=>Heap.get?_push_of_some _ (Heap.get?_push_of_some _ x)⟩
end
def Ite(K:Z2)(t:Addr):It :=
 ⟨fun i H=>∃ xs x,SqT K H t xs/\xs[i]?=some x,fun i H v H'=>∃ p,H p=none/\v=.ref p/\∀ xs x,SqT K H t xs->xs[i]?=some x->H'=upd H p (.tup [.int i,x]),fun i H=>∃ xs,SqT K H t xs/\xs.length=i⟩
theorem vD{P:Program}{w:World}{K:Z2}{es:List Expr}{kt:Nat}{pt:Pos}{e it t:Addr}(d1:e≠it)(d2:e≠t)(d3:t≠it) :
  Turn P w K (.Tuple es kt pt) (Ite K t) [e,it] e (fun i h=>(∃ old,IsEnum h e it (i:Int) old)/\h.IsTupleIter it t i) where
 mem:=by simp
 obj:=fun i h q b hb=>by
  obtain⟨⟨old,q1⟩,o2,q2,_,q3⟩:=q;simp at hb;rcases hb with rfl | rfl
  ·exact⟨_,q1,fun v z=>by have z':Data.fields _=Data.cell v:=z;cases z'⟩
  ·exact⟨o2,q2,fun v z=>by rw[q3] at z;cases z⟩
 keep:=fun i h h' q kp=>by
  obtain⟨⟨old,q1⟩,o2,q2,q3⟩:=q;exact⟨⟨old,kp e (by simp) _ q1⟩,o2,kp it (by simp) _ q2,q3⟩
 item:=by
  intro X hP hw hK hc i z0 s σ H E I hf q hg;subst hP hw hK;obtain⟨xs,x,hq,hx⟩:=hg;obtain⟨⟨old,q1⟩,q2⟩:=q;obtain⟨its,rv,p,hz⟩:=I.tuple hq;obtain⟨u,hu,ru⟩:=rv.get hx
  have hi:i<its.toArray.size:=by simpa using(List.getElem?_eq_some_iff.mp hu).1
  have D:=Ei (prog:=X.prog) (w:=X.w) (A:=X.A.in1) (I.ok.hd hc) it t d3 its.toArray;refine wpAny_pyNext_enum_itemD D q1 ⟨q2,(show s.heap.IsTuple t its.toArray from p)⟩ hi d1 (by simp;exact⟨d1,d2⟩) fun y h' tk hy eo st' new sz kp=>?_
  have ey:y=u:=by
   have:its[i]?=some y:=by simpa using hy
   rw[hu] at this;exact(E3z this).symm
  subst ey
  have szl:2<=sizeLine:=by decide
  have hlt:∀ c∈[e,it],c<s.heap.objs.size:=fun c hc'=>by
   simp at hc';rcases hc' with rfl | rfl
   ·exact T4z q1
   ·obtain⟨o2,q2,_⟩:=q2;exact T4z q2
  have I1:Inv X z0 σ (upd H s.heap.objs.size (.tup [.int i,x])) { s with heap:=h',toks:=tk+1 }:=I.turnedNew (ch:=[e,it]) hf (fun b o hb z=>kp b o (fun q=>hb (by simp[q])) (fun q=>hb (by simp[q])) z) ⟨szl,[.int i tk,y],.cons ⟨tk,rfl⟩ (.cons ru .nil),⟨_,new,rfl,_,rfl⟩⟩;refine⟨_,rfl,wpAny_letOwnedTupleGo_enum (s:={ s with heap:=h',toks:=tk+1 }) eo fun h2 e2 sb=>?_⟩;obtain⟨f0,f1,f2,f3,f4,f5⟩:=hf e (by simp);have I2:Inv X z0 σ (upd H s.heap.objs.size (.tup [.int i,x])) { s with heap:=h2,toks:=tk+1 }:=I1.turned (t':=tk+1) (fun c o hc' z=>(sb.2 c hc').trans z) (by rw[aJ (U4z (hlt e (by simp)))];exact f0) f1 f3 f4 f5;refine⟨.ref s.heap.objs.size,_,I2,rfl,⟨_,I.hok.fresh (F5z _),rfl,fun xs' x' a1 a2=>?_⟩,⟨⟨y,by simpa using e2⟩,?_⟩,fun b hb=>by rw[aJ (U4z (hlt b hb))];exact(hf b hb).1⟩
  ·have e1:=I.tuple_inj a1 hq
   subst e1;rw[hx] at a2;cases a2;rfl
  ·obtain⟨o3,g1,g2⟩:=st'.1
   exact⟨o3,(sb.2 it d1.symm).trans g1,g2⟩
 done:=by
  intro X hP hw hK hc i z0 s σ H E I hf q hg;subst hP hw hK;obtain⟨xs,hq,hl⟩:=hg;obtain⟨⟨old,q1⟩,q2⟩:=q;obtain⟨its,rv,p,hz⟩:=I.tuple hq
  have hn:its.toArray.size=i:=by rw[C2z,<- rv.length,hl]
  have D:=Ei (prog:=X.prog) (w:=X.w) (A:=X.A.in1) (I.ok.hd hc) it t d3 its.toArray;refine wpAny_pyNext_enum_endD D q1 ⟨by rw[hn];exact q2,(show s.heap.IsTuple t its.toArray from p)⟩ fun h' eb=>⟨rfl,?_⟩;obtain⟨f0,f1,f2,f3,f4,f5⟩:=hf it (by simp);exact I.turned (t':=s.toks) (fun b o hb z=>eb b o hb z) f0 f1 f3 f4 f5
 self:=fun _ _ _ _ _ q h=>by obtain⟨⟨old,q1⟩,_⟩:=q;exact wpAny_pyIter_enum q1 h
section
variable {X:Cx}
def VF(K:Z2)(ta:TA):TI:=fun σ H R=>ta σ H fun vs H1=>∃ a,vs=[.ref a]/\(∃ xs,SqT K H1 a xs)/\R (Ite K a) H1
theorem Gp{a:Expr}{ta:TA}{p pos pt:Pos}{es:List Expr}{kt:Nat}(hg:Gl X "enumerate")(hm:X.mg "enumerate"=none)(ha:PA X [a] ta)(hs:starEach [a] X.env=[(false,eval a X.env)]) :
  PI X (.Tuple es kt pt) (.Call (.Name "enumerate" p) [a] [] pos) (VF X.K ta):=by
 intro z0 s σ H R I h;refine Call_ (eZ I hg hm (show bootBuiltins "enumerate"=some (.type "enumerate") by decide +kernel) (C0z (thn (ha pos z0 s σ H _ I h) fun us s1 ⟨vs,H1,I1,r1,q1⟩=>?_) hs rfl));obtain⟨a1,e,⟨xs,hx⟩,q⟩:=q1;subst e
 cases r1 with
 | cons r rr =>
  cases rr;cases (show _=Value.ref a1 from r);obtain⟨its1,rv,p1,hz⟩:=I1.tuple hx;refine uO (show s1.heap.IsTuple a1 its1.toArray from p1) fun h' en ti kp=>?_;refine wpAny_pyIter_enum (s:={ s1 with heap:=h' }) en ?_;have I2:Inv X z0 σ H1 { s1 with heap:=h' }:=I1.kept (t':=s1.toks) kp;have lt1:a1<s1.heap.objs.size:=p1.lt;refine⟨s1.heap.objs.size+1,_,_,_,H1,rfl,I2,vD (Nat.succ_ne_self _) (W4z (F2z lt1)) (U4z lt1),⟨⟨_,en⟩,ti⟩,fun c hc=>?_,q⟩
  have hc':s1.heap.objs.size<=c:=by
   simp at hc
   rcases hc with h | h<;>rw[h]<;>first | exact F5z _ | exact R2z _ _
  exact I1.fpOk hc' (I1.hok.fresh hc')
end
section
variable {X:Cx}
end
section
variable {prog:Program} {w:World} {A:Around} {E:Value->Shared->Prop} {s:Shared}
end
section
variable {X:Cx}
end
section
variable {prog:Program} {w:World} {A:Around} {E:Value->Shared->Prop} {s:Shared}
end
section
variable {X:Cx}
end
section
variable {X:Cx}
end
end L2
namespace L2
open PySem PySem.Spec PyProof.Rows PySem.SeqAt
section
variable {X:Cx}
def PX(K:Z2):R2:=fun x y H Q=>∃ l b us zs,x=.ref l/\y=.ref b/\SqL K H l us/\SqL K H b zs/\us.length+zs.length<=sizeLine/\∀ p,H p=none->Q (.ref p) (upd H p (.lst (us++zs)))
theorem wR:OpR X (binaryOp .Add) (PX X.K):=by
 intro z0 s σ H x y v u Q I rx ry h;obtain⟨l,b,us,zs,rfl,rfl,hH,hB,hz,q⟩:=h;cases (show v=Value.ref l from rx);cases (show u=Value.ref b from ry);obtain⟨its,r,pl,z1⟩:=I.list hH;obtain⟨its2,r2,pl2,z2⟩:=I.list hB;have e1:=r.length;have e2:=r2.length;obtain⟨⟨c1,d1,w1,t1⟩,n1,o1,hc1,hd1,hs1⟩:=pl;obtain⟨⟨c2,d2,w2,t2⟩,n2,o2,hc2,hd2,hs2⟩:=pl2;simp only at hc1 hs1 hc2 hs2;subst hc1 hs1 hc2 hs2;refine concat_meets ⟨_,o1,rfl⟩ ⟨_,o2,rfl⟩ noFill_list_add seq_list_add PySem.F.slot_list_add PySem.F.entry_list_add (PySem.F.args_list_add_2 _ _) (list_addW l b its.toArray its2.toArray n1 n2 d1 d2 t1 t2 (by rw[C2z,C2z];omega)) ⟨o1,o2,?_⟩;rw[show its.toArray++its2.toArray=(its++its2).toArray by simp];exact⟨.ref _,_,I.lnew (t':=s.toks) (r.append r2) (by rw[T1z];omega),rfl,q _ I.fresh⟩
def Pz(K:Z2):R2:=fun x y H Q=>∃ l k us,x=.ref l/\y=.int k/\SqL K H l us /\ -(2^63)<=k/\k<2^63/\us.length*k.toNat<=sizeLine /\
 ∀ p,H p=none->Q (.ref p) (upd H p (.lst (List.replicate k.toNat us).flatten))
theorem wQ:OpR X (binaryOp .Mult) (Pz X.K):=by
 intro z0 s σ H x y v u Q I rx ry h;obtain⟨l,k,us,rfl,rfl,hH,h1,h2,hz,q⟩:=h;cases (show v=Value.ref l from rx);obtain⟨t,rfl⟩:=ry;obtain⟨its,r,pl,z1⟩:=I.list hH;have hl:=r.length;obtain⟨⟨c1,d1,w1,t1⟩,n1,e,hc1,hd1,hs1⟩:=pl;simp only at hc1 hs1;subst hc1 hs1
 have a1:its.toArray.size*k.toNat<=sizeLine:=by rw[C2z,<- hl];exact hz
 have a2:¬ its.toArray.size*k.toNat>(2^63-1) / 8:=by
  have:(sizeLine:Nat)<=(2^63-1) / 8:=by decide
  omega
 have a3:¬ (!Builtin.List.listFitsIndex k)=true:=by rw[fitsIndex_both h1 h2];exact P1z
 have a4:¬ Builtin.List.listTooLong (its.toArray.size*k.toNat)=true:=by rw[lX a1];exact P1z
 have a5:List.foldl (fun x1 x2=>x1++x2) #[] (List.replicate (if its.toArray.isEmpty=true then 0 else k.toNat) its.toArray)=(List.replicate k.toNat its).flatten.toArray:=by
  have f0:∀ m:Nat,List.foldl (fun x1 x2=>x1++x2) #[] (List.replicate m its.toArray)=(List.replicate m its).flatten.toArray:=fun m=>(foldl_rep its m []).trans (by rw[Q3z]);rw[f0]
  cases its with
  | nil=>simp
  | cons a r'=>rw[Z5z (by simp)]
 refine wpAny_binaryOp_repeat_ref (T:="list") (U:="int") (by decide) ⟨_,e,rfl⟩ (fun s'=>typeIs_int s' k t) noFill_list_mul F.fills_int_mul F.slot_int_rmul repeat_list F.slot_int_index.lookup ?_;refine P5z F.slot_int_rmul (typeIs_int s k t) F.entry_int_rmul (F.args_int_rmul_2 _ _) (lm_int_rmul_list_any k t l its.toArray n1 d1 t1) ⟨e,rfl,⟨_,e,rfl⟩,?_⟩;refine P5z F.slot_list_mul ⟨_,e,rfl⟩ F.entry_list_mul (F.args_list_mul_2 _ _) (lm_list_mul_any l its.toArray n1 d1 t1 k t a3 a2 a4) ⟨e,?_⟩;rw[a5];exact⟨.ref _,_,I.lnew (t':=s.toks) (r.rep k.toNat) (by rw[len_rep,A5z];exact hz),rfl,q _ I.fresh⟩
end
section
variable {X:Cx}
end
section
variable {prog:Program} {w:World} {A:Around} {E:Value->Shared->Prop} {s:Shared}
end
section
variable {X:Cx}
end
end L2
namespace HT
open PySem PySem.Spec PyProof.Rows PySem.SeqAt L2
section
variable {prog:Program} {w:World} {A:Around} {E:Value->Shared->Prop} {s:Shared}
end
end HT
namespace L2
open PySem PyProof.Rows
section
variable {X:Cx}
end
end L2
namespace Kas
open PySem PySem.W PyProof.Rows
def run{α:Type}(lt:Nat->Nat->Bool):KasT α->α
 | .ret a=>a
 | .ask i j k=>run lt (k (lt i j))
theorem run_bind{α β:Type}{lt:Nat->Nat->Bool}{f:α->KasT β}:∀ t:KasT α,run lt (t.bind f)=run lt (f (run lt t))
 | .ret _=>rfl
 | .ask i j k=>run_bind (k (lt i j))
section
variable {r:Nat->Nat} {N:Nat}
abbrev K(r:Nat->Nat)(p:Array Nat)(i:Nat):Nat:=r (p.getD i 0)
abbrev ltR(r:Nat->Nat):Nat->Nat->Bool:=fun i j=>decide (r i<r j)
def So(r:Nat->Nat)(m:Nat)(p:Array Nat):Prop:=∀ i j,i<j->j<m->K r p i<K r p j
def De(r:Nat->Nat)(m:Nat)(p:Array Nat):Prop:=∀ i j,i<j->j<m->K r p j<K r p i
def Di(r:Nat->Nat)(N:Nat)(p:Array Nat):Prop:=∀ i j,i<j->j<N->K r p i≠K r p j
theorem So.more{m:Nat}{p:Array Nat}(h:So r m p)(hm:1<=m)(h1:K r p (m-1)<K r p m):So r (m+1) p:=fun i j hi hj=>by
 by_cases e:j=m
 ·subst e
  by_cases e2:i=j-1
  ·subst e2;exact h1
  ·exact B5z (h i (j-1) (by omega) (by omega)) h1
 ·exact h i j hi (by omega)
theorem De.more{m:Nat}{p:Array Nat}(h:De r m p)(hm:1<=m)(h1:K r p m<K r p (m-1)):De r (m+1) p:=fun i j hi hj=>by
 by_cases e:j=m
 ·subst e
  by_cases e2:i=j-1
  ·subst e2;exact h1
  ·exact B5z h1 (h i (j-1) (by omega) (by omega))
 ·exact h i j hi (by omega)
theorem asc{p:Array Nat}(d:Di r N p):∀ (f n:Nat),1<=n->n+f<=N->So r n p->n<=run (ltR r) (kas_asc p f n)/\run (ltR r) (kas_asc p f n)<=n+f/\So r (run (ltR r) (kas_asc p f n)) p/\(run (ltR r) (kas_asc p f n)=n->0<f->K r p n<K r p (n-1))
 | 0,n,h1,h2,h3=>⟨F5z _,F5z _,h3,fun _ h=>absurd h (by omega)⟩
 | f+1,n,h1,h2,h3=>by
  unfold kas_asc;simp only[run]
  by_cases c:K r p n<K r p (n-1)
  ·rw[show ltR r (p.getD n 0) (p.getD (n-1) 0)=true from E4z c]
   simp only[X5z,run];exact⟨F5z _,by omega,h3,fun _ _=>c⟩
  ·rw[show ltR r (p.getD n 0) (p.getD (n-1) 0)=false from D3z c]
   simp only[U1z,V5z];have ne:=d (n-1) n (by omega) (by omega);obtain⟨a1,a2,a3,_⟩:=asc d f (n+1) (by omega) (by omega) (h3.more h1 (by omega));exact⟨by omega,by omega,a3,fun e=>absurd e (by omega)⟩
theorem desc{p:Array Nat}(d:Di r N p):∀ (f n:Nat),1<=n->n+f<=N->De r n p->∃ m,run (ltR r) (kas_desc f p n 0)=(p,m,0)/\n<=m/\m<=n+f/\De r m p
 | 0,n,h1,h2,h3=>⟨n,rfl,F5z _,F5z _,h3⟩
 | f+1,n,h1,h2,h3=>by
  unfold kas_desc;simp only[run]
  by_cases c:K r p n<K r p (n-1)
  ·rw[show ltR r (p.getD n 0) (p.getD (n-1) 0)=true from E4z c]
   simp only[X5z,Z5z (show ¬ (0>0) by omega)];obtain⟨m,e,a1,a2,a3⟩:=desc d f (n+1) (by omega) (by omega) (h3.more h1 c);exact⟨m,e,by omega,by omega,a3⟩
  ·have ne:=d (n-1) n (by omega) (by omega)
   have c2:K r p (n-1)<K r p n:=by omega
   rw[show ltR r (p.getD n 0) (p.getD (n-1) 0)=false from D3z c];simp only[U1z,V5z,run];rw[show ltR r (p.getD (n-1) 0) (p.getD n 0)=true from E4z c2];simp only[X5z,run];exact⟨n,rfl,F5z _,by omega,h3⟩
theorem yh{p q:Array Nat}{i j:Nat}(h:p[i]?=q[j]?):p.getD i 0=q.getD j 0:=by
 rw[Array.getD_eq_getD_getElem?,Array.getD_eq_getD_getElem?,h]
theorem CJ{p:Array Nat}{m:Nat}(hm:m<=p.size)(k:Nat):(kas_rev p 0 m).getD k 0=p.getD (if k<m then m-1-k else k) 0:=by
 refine yh ?_;have:=getElem?_mirror_all (xs:=p) (i:=0) (j:=m) hm k;unfold kas_rev;rw[this]
 by_cases h:k<m
 ·rw[Y5z ⟨H5z _,h⟩,Y5z h]
  congr 1;omega
 ·rw[Z5z (fun q=>h q.2),Z5z h]
theorem Kf{p:Array Nat}{m:Nat}(hm:m<=p.size)(d:De r m p):So r m (kas_rev p 0 m):=fun i j hi hj=>by
 show r _<r _;rw[CJ hm,CJ hm,Y5z (by omega),Y5z hj];exact d (m-1-j) (m-1-i) (by omega) (by omega)
structure Ok (r:Nat->Nat) (N:Nat) (p:Array Nat):Prop where
 z:p.size=N
 pm:p.toList.Perm (List.range N)
 inj:∀ i j,i<N->j<N->r i=r j->i=j
theorem Ok.di{p:Array Nat}(o:Ok r N p):Di r N p:=fun i j hi hj e=>by
 have lt:∀ k (hk:k<N),p.getD k 0<N/\p.getD k 0=p.toList[k]'(by rw[H1z,o.z];exact hk):=fun k hk=>by
  have hk':k<p.size:=by rw[o.z];exact hk
  have e:p.getD k 0=p[k]:=by simp[Array.getD,hk']
  refine⟨?_,by rw[e,B1z]⟩
  have:p[k]∈p.toList:=by rw[<- B1z];exact S2z _
  rw[e];exact List.mem_range.mp (o.pm.mem_iff.mp this)
 have q:=o.inj _ _ (lt i (by omega)).1 (lt j hj).1 e;rw[(lt i (by omega)).2,(lt j hj).2] at q;have nd:p.toList.Nodup:=o.pm.nodup_iff.mpr T2z;have:=(List.getElem_inj nd).mp q;omega
theorem Ok.of{p q:Array Nat}(o:Ok r N p)(h:q.Perm p):Ok r N q:=⟨by rw[h.size_eq,o.z],(Array.perm_iff_toList_perm.mp h).trans o.pm,o.inj⟩
theorem count{p:Array Nat}(o:Ok r N p)(hN:2<=N):∃ m q,run (ltR r) (kas_count N p)=(m,q)/\1<=m/\m<=N/\Ok r N q/\So r m q:=by
 have d:=o.di;have s1:So r 1 p:=fun i j hi hj=>absurd hj (by omega);obtain⟨a1,a2,a3,a4⟩:=asc d (N-1) 1 (by omega) (by omega) s1;unfold kas_count;rw[run_bind];generalize run (ltR r) (kas_asc p (N-1) 1)=n at a1 a2 a3 a4 ⊢
 by_cases e:n=N
 ·rw[Y5z (by simpa using e)]
  exact⟨n,p,rfl,a1,by omega,o,a3⟩
 ·rw[Z5z (by simpa using e)]
  by_cases g:n>1
  ·rw[Y5z g]
   simp only[run];rw[show ltR r (p.getD 0 0) (p.getD (n-1) 0)=true from E4z (a3 0 (n-1) (by omega) (by omega))];simp only[X5z,run];exact⟨n,p,rfl,a1,by omega,o,a3⟩
  ·rw[Z5z g]
   have n1:n=1:=by omega
   subst n1;have dn:De r 1 p:=fun i j hi hj=>absurd hj (by omega);have d2:=dn.more (F5z 1) (a4 rfl (by omega));obtain⟨m,em,m1,m2,m3⟩:=desc d (N-(1+1)) 2 (by omega) (by omega) d2;unfold kas_descPart;rw[run_bind,em];simp only[Z5z (show ¬ (0>0) by omega)];unfold kas_tail3;rw[run_bind];have oq:Ok r N (kas_rev p 0 m):=o.of (mirror_perm _ _ _ _);obtain⟨b1,b2,b3,_⟩:=asc oq.di (N-m) m (by omega) (by omega) (Kf (by rw[o.z];omega) m3);exact⟨_,_,rfl,by omega,by omega,oq,b3⟩
theorem place{p:Array Nat}{k:Nat}(d:Di r N p)(hk:k<N)(s:So r k p):∀ (f l h:Nat),l<=h->h<=k->h-l<=f->(∀ i,i<l->K r p i<K r p k)->(∀ i,h<=i->i<k->K r p k<K r p i) ->
  ∃ l',run (ltR r) (kas_place p k f l h)=l'/\l'<=k/\(∀ i,i<l'->K r p i<K r p k)/\∀ i,l'<=i->i<k->K r p k<K r p i
 | 0,l,h,h1,h2,h3,h4,h5=>⟨l,rfl,by omega,h4,fun i a b=>h5 i (by omega) b⟩
 | f+1,l,h,h1,h2,h3,h4,h5=>by
  unfold kas_place
  by_cases e:l>=h
  ·rw[Y5z e]
   exact⟨l,rfl,by omega,h4,fun i a b=>h5 i (by omega) b⟩
  ·rw[Z5z e]
   simp only[run]
   by_cases c:K r p k<K r p ((l+h) / 2)
   ·rw[show ltR r (p.getD k 0) (p.getD ((l+h) / 2) 0)=true from E4z c]
    simp only[X5z];refine place d hk s f l ((l+h) / 2) (by omega) (by omega) (by omega) h4 fun i a b=>?_
    by_cases e2:i=(l+h) / 2
    ·rw[e2];exact c
    ·exact B5z c (s _ i (by omega) b)
   ·rw[show ltR r (p.getD k 0) (p.getD ((l+h) / 2) 0)=false from D3z c]
    simp only[U1z,V5z];have ne:=d ((l+h) / 2) k (by omega) hk;refine place d hk s f ((l+h) / 2+1) h (by omega) (by omega) (by omega) (fun i a=>?_) h5
    by_cases e2:i=(l+h) / 2
    ·rw[e2];omega
    ·exact B5z (s i ((l+h) / 2) (by omega) (by omega)) (by omega)
theorem Ep{p:Array Nat}{k l:Nat}(hk:k<p.size)(hl:l<=k)(i:Nat):(bubble p k (k-l)).getD i 0=p.getD (if i=l then k else if l<i/\i<=k then i-1 else i) 0:=by
 refine yh ?_;have:=getElem?_bubble hk (k-l) (by omega) i;rw[this];rw[show k-(k-l)=l by omega]
 by_cases h:i=l
 ·rw[Y5z h,Y5z h]
 ·rw[Z5z h,Z5z h]
  by_cases h2:l<i/\i<=k
  ·rw[Y5z h2,Y5z h2]
  ·rw[Z5z h2,Z5z h2]
theorem ins{p:Array Nat}{k l:Nat}(hk:k<p.size)(hl:l<=k)(s:So r k p)(h1:∀ i,i<l->K r p i<K r p k)(h2:∀ i,l<=i->i<k->K r p k<K r p i):So r (k+1) (bubble p k (k-l)):=fun i j hi hj=>by
 show r _<r _;rw[Ep hk hl,Ep hk hl]
 by_cases a:i=l
 ·rw[Y5z a,Z5z (by omega),Y5z (by omega)]
  exact h2 (j-1) (by omega) (by omega)
 ·by_cases b:j=l
  ·rw[Z5z a,Y5z b,Z5z (by omega)]
   exact h1 i (by omega)
  ·rw[Z5z a,Z5z b]
   by_cases c:l<i/\i<=k
   ·rw[Y5z c,Y5z (by omega)]
    exact s (i-1) (j-1) (by omega) (by omega)
   ·rw[Z5z c]
    by_cases c2:l<j/\j<=k
    ·rw[Y5z c2]
     by_cases e:i=j-1
     ·omega
     ·exact s i (j-1) (by omega) (by omega)
    ·rw[Z5z c2]
     exact s i j hi (by omega)
theorem bin:∀ (f k:Nat) {p:Array Nat},k+f=N->Ok r N p->So r k p->Ok r N (run (ltR r) (kas_bin f p k))/\So r N (run (ltR r) (kas_bin f p k))
  | 0, k, p, h, o, s => ⟨o, by have : k = N := by omega
                               subst this;exact s⟩
  | f+1,k,p,h,o,s=>by
    unfold kas_bin
    rw[run_bind]
    obtain⟨l,e,hl,h1,h2⟩:=place o.di (by omega) s k 0 k (H5z _) (F5z _) (by omega) (fun i hi=>absurd hi (by omega)) (fun i a b=>absurd b (by omega))
    rw[e]
    exact bin f (k+1) (by omega) (o.of (bubble_perm _ _ _)) (ins (by rw[o.z];omega) hl s h1 h2)
theorem FP(hN:2<=N)(inj:∀ i j,i<N->j<N->r i=r j->i=j):Ok r N (run (ltR r) (kas_sort N))/\So r N (run (ltR r) (kas_sort N)):=by
 have o:Ok r N (List.toArray (List.range N)):=⟨by simp,by simp,inj⟩;obtain⟨m,q,e,h1,h2,o2,s⟩:=count o hN;unfold kas_sort;rw[run_bind,e]
 by_cases g:m<N
 ·rw[Y5z g]
  rw[show max m 1=m by omega];exact bin (N-m) m (by omega) o2 s
 ·rw[Z5z g]
  have:m=N:=by omega
  subst this;exact⟨o2,s⟩
end
def okP{α:Type}(n:Nat):KasT α->(α->Prop)->Prop
 | .ret a,P=>P a
 | .ask i j k,P=>i<n/\j<n/\∀ b,okP n (k b) P
theorem okP.bind{α β:Type}{n:Nat}{f:α->KasT β}{P:α->Prop}{R:β->Prop}(hf:∀ a,P a->okP n (f a) R):∀ {t:KasT α},okP n t P->okP n (t.bind f) R
 | .ret a,q=>hf a q
 | .ask i j k,q=>⟨q.1,q.2.1,fun b=>(q.2.2 b).bind hf⟩
section
variable {n:Nat}
def Pn(n:Nat)(p:Array Nat):Prop:=∀ x∈p.toList,x<n
theorem Pn.at{p:Array Nat}(h:Pn n p)(h1:1<=n)(i:Nat):p.getD i 0<n:=by
 by_cases hi:i<p.size
 ·have e:p.getD i 0=p[i]:=by simp[Array.getD,hi]
  rw[e];exact h _ (by rw[<- B1z];exact S2z _)
 ·have e:p.getD i 0=0:=by simp[Array.getD,hi]
  omega
theorem Pn.of{p q:Array Nat}(h:Pn n p)(e:q.Perm p):Pn n q:=fun x hx=>h x ((Array.perm_iff_toList_perm.mp e).mem_iff.mp hx)
theorem wU{p:Array Nat}(h1:1<=n)(h:Pn n p):∀ (f m:Nat),okP n (kas_asc p f m) fun _=>True
 | 0,m=>trivial
 | f+1,m=>⟨h.at h1 _,h.at h1 _,fun b=>by
  cases b
  ·exact wU h1 h f (m+1)
  ·exact trivial⟩
theorem oF{p:Array Nat}(h:Pn n p)(i j:Nat):Pn n (kas_rev p i j):=h.of (mirror_perm _ _ _ _)
theorem lW(h1:1<=n):∀ (f:Nat) {p:Array Nat} (m q:Nat),Pn n p->okP n (kas_desc f p m q) fun r=>Pn n r.1
 | 0,p,m,q,h=>h
 | f+1,p,m,q,h=>⟨h.at h1 _,h.at h1 _,fun b=>by
  cases b
  ·refine⟨h.at h1 _,h.at h1 _,fun c=>?_⟩
   cases c
   ·exact lW h1 f _ _ h
   ·exact h
  ·show okP n (if q>0 then _ else _) _
   split
   ·exact lW h1 f _ _ (oF h _ _)
   ·exact lW h1 f _ _ h⟩
theorem rZ{p:Array Nat}(h1:1<=n)(h:Pn n p)(m k:Nat):okP n (kas_tail3 m k p) fun r=>Pn n r.2:=okP.bind (n:=n) (P:=fun _=>True) (R:=fun r=>Pn n r.2) (f:=fun a=>.ret (a,kas_rev p 0 m)) (fun a _=>(show Pn n (kas_rev p 0 m) from oF h 0 m)) (wU h1 (oF h 0 m) (k-m) m)
theorem jx{p:Array Nat}(h1:1<=n)(h:Pn n p)(m k:Nat):okP n (kas_descPart m k p) fun r=>Pn n r.2:=(lW h1 (k-(m+1)) (m+1) 0 h).bind fun r hr=>by
 split
 ·exact rZ h1 (oF hr _ _) _ _
 ·exact rZ h1 hr _ _
theorem Ak{p:Array Nat}(h1:1<=n)(h:Pn n p)(k:Nat):okP n (kas_count k p) fun r=>Pn n r.2:=(wU h1 h (k-1) 1).bind fun m _=>by
 split
 ·exact h
 ·split
  ·refine⟨h.at h1 _,h.at h1 _,fun c=>?_⟩
   cases c
   ·exact jx h1 (oF h 0 m) m k
   ·exact h
  ·exact jx h1 h m k
theorem lV{p:Array Nat}(h1:1<=n)(h:Pn n p)(k:Nat):∀ (f l r:Nat),okP n (kas_place p k f l r) fun _=>True
 | 0,l,r=>trivial
 | f+1,l,r=>by
  unfold kas_place;split
  ·exact trivial
  ·refine⟨h.at h1 _,h.at h1 _,fun c=>?_⟩
   cases c
   ·exact lV h1 h k f _ _
   ·exact lV h1 h k f _ _
theorem Dj(h1:1<=n):∀ (f:Nat) {p:Array Nat} (k:Nat),Pn n p->okP n (kas_bin f p k) (Pn n)
 | 0,p,k,h=>h
 | f+1,p,k,h=>(lV h1 h k k 0 k).bind fun l _=>Dj h1 f (k+1) (h.of (bubble_perm _ _ _))
theorem ql(h1:1<=n):okP n (kas_sort n) (Pn n):=by
 have h0:Pn n (List.toArray (List.range n)):=fun x hx=>List.mem_range.mp (by simpa using hx)
 exact(Ak h1 h0 n).bind fun r hr=>by
  split
  ·exact Dj h1 _ _ hr
  ·exact hr
end
theorem wp_run{α:Type}{n:Nat}{lt:Nat->Nat->Bool}{cmp:Nat->Nat->(Bool->Shared->Prop)->Shared->Prop}{J:Shared->Prop}(hc:∀ i j C s,i<n->j<n->J s->(∀ s',J s'->C (lt i j) s')->cmp i j C s){P:α->Prop}{Q:α->Shared->Prop}:∀ {t:KasT α} {s:Shared},okP n t P->J s->(∀ s',J s'->Q (run lt t) s')->t.kasWp cmp Q s
 | .ret a,s,_,hJ,h=>h s hJ
 | .ask i j k,s,ok,hJ,h=>hc i j _ s ok.1 ok.2.1 hJ fun s' hJ'=>wp_run hc (ok.2.2 (lt i j)) hJ' h
def uz(fin:Bool):List Int->List Int->Bool
 | a::as,b::bs=>if a=b then uz fin as bs else decide (a<b)
 | _,_=>fin
section
variable {prog:Program} {w:World} {A:Around} {E:Value->Shared->Prop} {s:Shared} {Q:Bool->Shared->Prop} {b fin:Bool}
end
theorem kZ{lt:Nat->Nat->Bool}{n:Nat}:∀ (f:Nat) {p:Array Nat} (m q:Nat),p.size=n->(run lt (kas_desc f p m q)).1.size=n
 | 0,p,m,q,h=>h
 | f+1,p,m,q,h=>by
  unfold kas_desc;simp only[run];cases lt (p.getD m 0) (p.getD (m-1) 0)
  ·simp only[U1z,V5z,run]
   cases lt (p.getD (m-1) 0) (p.getD m 0)
   ·simp only[U1z,V5z]
    exact kZ f _ _ h
   ·simp only[X5z,run]
    exact h
  ·simp only[X5z]
   split
   ·exact kZ f _ _ (by rw[<- h];exact(mirror_perm _ _ _ _).size_eq)
   ·exact kZ f _ _ h
theorem vK{p:Array Nat}{i j n:Nat}(h:p.size=n):(kas_rev p i j).size=n:=by rw[<- h];exact(mirror_perm _ _ _ _).size_eq
theorem rB{lt:Nat->Nat->Bool}{p:Array Nat}{m k n:Nat}(h:p.size=n):(run lt (kas_tail3 m k p)).2.size=n:=by
 unfold kas_tail3;rw[run_bind];exact vK h
theorem jf{lt:Nat->Nat->Bool}{p:Array Nat}{m k n:Nat}(h:p.size=n):(run lt (kas_descPart m k p)).2.size=n:=by
 unfold kas_descPart;rw[run_bind];have q:=kZ (lt:=lt) (k-(m+1)) (m+1) 0 h;split
 ·exact rB (vK q)
 ·exact rB q
theorem zN{lt:Nat->Nat->Bool}{p:Array Nat}{k n:Nat}(h:p.size=n):(run lt (kas_count k p)).2.size=n:=by
 unfold kas_count;rw[run_bind];split
 ·exact h
 ·split
  ·simp only[run]
   split
   ·exact h
   ·exact jf (vK h)
  ·exact jf h
theorem Cr{lt:Nat->Nat->Bool}{n:Nat}:∀ (f:Nat) {p:Array Nat} (k:Nat),p.size=n->(run lt (kas_bin f p k)).size=n
 | 0,p,k,h=>h
 | f+1,p,k,h=>by
  unfold kas_bin;rw[run_bind];exact Cr f _ (by rw[<- h];exact(bubble_perm _ _ _).size_eq)
theorem zT{lt:Nat->Nat->Bool}{n:Nat}:(run lt (kas_sort n)).size=n:=by
 unfold kas_sort;rw[run_bind];have q:=zN (lt:=lt) (k:=n) (p:=List.toArray (List.range n)) (n:=n) (by simp);split
 ·exact Cr _ _ q
 ·exact q
section
variable {prog:Program} {w:World} {A:Around} {E:Value->Shared->Prop} {s:Shared}
end
theorem nW{α:Type}{n:Nat}{P:α->Prop}{lt lt':Nat->Nat->Bool}(h:∀ i j,i<n->j<n->lt i j=lt' i j):∀ {t:KasT α},okP n t P->run lt t=run lt' t
 | .ret a,_=>rfl
 | .ask i j k,q=>by
  simp only[Kas.run];rw[h i j q.1 q.2.1];exact nW h (q.2.2 _)
theorem O9{r:Nat->Nat}{n:Nat}{p:Array Nat}(s:So r n p)(h:∀ i,i<n->K r p i<n):∀ i,i<n->K r p i=i:=by
 have lo:∀ i,i<n->i<=K r p i:=by
  intro i
  induction i with
  | zero=>intro _;exact H5z _
  | succ i ih =>
   intro hi;have:=ih (by omega);have:=s i (i+1) (by omega) hi;omega
 have up:∀ k i,i+k<n->K r p i+k<=K r p (i+k):=by
  intro k
  induction k with
  | zero=>intro i _;exact F5z _
  | succ k ih =>
   intro i hi;have:=ih i (by omega);have:=s (i+k) (i+k+1) (by omega) (by omega)
   have e:i+(k+1)=i+k+1:=by omega
   rw[e];omega
 intro i hi;have a:=lo i hi;have b:=up (n-1-i) i (by omega);have c:=h (i+(n-1-i)) (by omega);omega
theorem FQ{n:Nat}{lt:Nat->Nat->Bool}{vs:List Value}(hn:2<=n)(hv:vs.length=n)(rise:∀ i j,i<n->j<n->lt i j=decide (i<j)) :
  (run lt (kas_sort n)).toList.map (fun i=>vs.getD i Value.none)=vs:=by
 have e1:run lt (kas_sort n)=run (ltR fun i=>i) (kas_sort n):=nW (n:=n) (P:=Pn n) (fun i j hi hj=>rise i j hi hj) (ql (by omega));rw[e1];obtain⟨o,so⟩:=FP (r:=fun i=>i) (N:=n) hn (fun i j hi hj e=>e);generalize run (ltR fun i=>i) (kas_sort n)=q at o so
 have hq:∀ i,i<n->q.getD i 0<n:=fun i hi=>by
  have hi':i<q.size:=by rw[o.z];exact hi
  have e:q.getD i 0=q[i]:=by simp[Array.getD,hi']
  rw[e];exact List.mem_range.mp (o.pm.mem_iff.mp (by rw[<- B1z];exact S2z _))
 have kk:=O9 so (fun i hi=>hq i hi);refine List.ext_getElem (by simp[o.z,hv]) fun i h1 h2=>?_
 have hi:i<n:=by omega
 have hi':i<q.size:=by rw[o.z];exact hi
 rw[U2z,B1z]
 have e:q.getD i 0=q[i]:=by simp[Array.getD,hi']
 have k1:q.getD i 0=i:=kk i hi;rw[<- e,k1,List.getD_eq_getElem?_getD,List.getElem?_eq_getElem h2];rfl
section
variable {prog:Program} {w:World} {A:Around} {E:Value->Shared->Prop} {s:Shared}
theorem mq{a:Addr}{vs:List Value}{n:Nat}{P:PySem.Fin->Shared->Prop}(ho:s.heap.get? a=some (seqObj "list" vs.toArray n))(h2:vs.length<2)(h:P (.done (.ret .none)) { s with heap:=sortedHeap s.heap a vs vs.toArray }):wpAny (model prog w) A (Builtin.«list.sort» ⟨[.ref a],[]⟩) P E s:=by
 rw[list_sort_plain];have ha:a<s.heap.objs.size:=T4z ho;refine N5z (listItems_at ho rfl ?_);refine N5z (listUpdate_at ho rfl ?_ (by rw[C2z,G5z];omega) (H5z _));obtain⟨e1,ho1⟩:∃ e1,(s.heap.update a (Obj.mapSeq fun _ => #[])).get? a=some (seqObj "list" #[] e1):=⟨_,get?_update_seq ho (fun _ => #[])⟩;refine N5z (seqEpoch_at ho1 rfl ?_);refine N5z (I4z ?_ (by show vs.length<=_;rw[G5z];omega));refine N5z (wpAny_newList ?_ (H5z _));refine M4z ?_
 have ho6:(((s.heap.update a (Obj.mapSeq fun _ => #[])).push (seqObj "tuple" vs.toArray 0)).push (seqObj "list" #[] 0)).get? a=some (seqObj "list" #[] e1):=by
  rw[Heap.get?_push_ne _ _ _ (by rw[size_push',V2z];exact U4z (F2z ha)),Heap.get?_push_ne _ _ _ (by rw[V2z];exact U4z ha)]
  exact ho1
 show wpAny (model prog w) A _ P E { s with heap:=((s.heap.update a (Obj.mapSeq fun _ => #[])).push (seqObj "tuple" vs.toArray 0)).push (seqObj "list" #[] 0) };dsimp only
 have h2':vs.toArray.size<2:=by simpa using h2
 rw[Y5z h2',Y5z h2'];refine N5z (O5z ?_);rw[StateT.run_pure];refine N5z (O5z ?_);dsimp only
 have ez:Array.map (fun x=>x.2) (arrOf (SortSt.mk' general' (vs.toArray.zip vs.toArray) #[] 7 none))=vs.toArray:=by
  apply Array.toList_inj.mp;show(Array.map (fun(x:Value×Value)=>x.2) (vs.toArray.zip vs.toArray)).toList=vs;simp[List.map_snd_zip]
 refine N5z (seqEpoch_at ho6 rfl ?_);refine N5z (listUpdate_at ho6 rfl ?_ (H5z _) (by show(Array.map (fun(x:Value×Value)=>x.2) (vs.toArray.zip vs.toArray)).size<=_;simp;rw[G5z];omega));simp only[bne_self_eq_false,U1z,V5z];refine O5z ?_;rw[<- ez] at h;simp only[ez] at h ⊢;exact h
theorem qC{a:Addr}{vs:List Value}{n:Nat}{T:Value}{lt:Nat->Nat->Bool}{P:PySem.Fin->Shared->Prop}(ho:s.heap.get? a=some (seqObj "list" vs.toArray n))(h2:2<=vs.length)(h64:vs.length<64)(hT:(T==T)=true)
  (hk:∀ h':Heap,(∀ b o,o.cls=.type "tuple"->s.heap.get? b=some o->h'.get? b=some o)->∃ fs,KatTups h' vs fs/\fs.length=vs.length/\∀ v∈fs,Looks (model prog w) h' (typeOf v) T)
  (hlt:∀ h':Heap,(∀ b o,o.cls=.type "tuple"->s.heap.get? b=some o->h'.get? b=some o)->∀ i j (hi:i<vs.length) (hj:j<vs.length) (C:Bool->Shared->Prop),C (lt i j) { s with heap:=h' }->wpAny (model prog w) A (keyLt' (tuples' (T !=Value.type "tuple")) vs[i] vs[j]) C (fun _ _=>False) { s with heap:=h' })
  (h:P (.done (.ret .none)) { s with heap:=sortedHeap s.heap a vs (List.toArray ((run lt (kas_sort vs.length)).toList.map fun i=>vs.getD i Value.none)) }) :
  wpAny (model prog w) A (Builtin.«list.sort» ⟨[.ref a],[]⟩) P E s:=by
 rw[list_sort_plain];have ha:a<s.heap.objs.size:=T4z ho;refine N5z (listItems_at ho rfl ?_);refine N5z (listUpdate_at ho rfl ?_ (by rw[C2z,G5z];omega) (H5z _));obtain⟨e1,ho1⟩:∃ e1,(s.heap.update a (Obj.mapSeq fun _ => #[])).get? a=some (seqObj "list" #[] e1):=⟨_,get?_update_seq ho (fun _ => #[])⟩;refine N5z (seqEpoch_at ho1 rfl ?_);refine N5z (I4z ?_ (by show vs.length<=_;rw[G5z];omega));refine N5z (wpAny_newList ?_ (H5z _));refine M4z ?_
 have ho6:(((s.heap.update a (Obj.mapSeq fun _ => #[])).push (seqObj "tuple" vs.toArray 0)).push (seqObj "list" #[] 0)).get? a=some (seqObj "list" #[] e1):=by
  rw[Heap.get?_push_ne _ _ _ (by rw[size_push',V2z];exact U4z (F2z ha)),Heap.get?_push_ne _ _ _ (by rw[V2z];exact U4z ha)]
  exact ho1
 have k6:∀ b o,o.cls=.type "tuple"->s.heap.get? b=some o->(((s.heap.update a (Obj.mapSeq fun _ => #[])).push (seqObj "tuple" vs.toArray 0)).push (seqObj "list" #[] 0)).get? b=some o:=fun b o c e=>by
  have hb:b≠a:=fun q=>by
   rw[q,ho] at e;cases e;exact absurd c (by simp[seqObj])
  refine Heap.get?_push_of_some _ (Heap.get?_push_of_some _ ?_);rw[Heap.get?_update_ne _ _ _ _ hb];exact e
 show wpAny (model prog w) A _ P E { s with heap:=((s.heap.update a (Obj.mapSeq fun _ => #[])).push (seqObj "tuple" vs.toArray 0)).push (seqObj "list" #[] 0) };dsimp only
 have hn2:¬ vs.toArray.size<2:=by rw[C2z];omega
 rw[Z5z hn2,Z5z hn2];obtain⟨fs,f1,f2,f3⟩:=hk _ k6;refine N5z (kat_kind (T:=T) f1 (by omega) (fun v hv=>f3 v hv) hT ?_);refine N5z (M5z (kat_run (Q:=fun st' s'=>s'={ s with heap:=((s.heap.update a (Obj.mapSeq fun _ => #[])).push (seqObj "tuple" vs.toArray 0)).push (seqObj "list" #[] 0) }/\arrOf st'=(run (lt) (kas_sort vs.length)).map (kas_item (vs.toArray.zip vs.toArray))/\failedOf st'=none) (G:=fun p s'=>p=run (lt) (kas_sort vs.length)/\s'={ s with heap:=((s.heap.update a (Obj.mapSeq fun _ => #[])).push (seqObj "tuple" vs.toArray 0)).push (seqObj "list" #[] 0) }) rfl h2 h64 (fun p st' s' a1 a2 a3 a4=>⟨a4.2,by rw[a2,a4.1],a3⟩) ?_) ?_ fun _ _ e=>e)
 ·refine wp_run (J:=fun s'=>s'={ s with heap:=((s.heap.update a (Obj.mapSeq fun _ => #[])).push (seqObj "tuple" vs.toArray 0)).push (seqObj "list" #[] 0) }) (lt:=lt) (fun i j C s' hi hj hJ hC=>?_) (ql (by omega)) rfl fun s' hJ=>⟨rfl,hJ⟩
  subst hJ;unfold kas_ask
  have e1:vs.getD i Value.none=vs[i]:=by rw[List.getD_eq_getElem?_getD,List.getElem?_eq_getElem hi];rfl
  have e2:vs.getD j Value.none=vs[j]:=by rw[List.getD_eq_getElem?_getD,List.getElem?_eq_getElem hj];rfl
  rw[e1,e2];exact hlt _ k6 i j hi hj C (hC _ rfl)
 rintro⟨⟨⟩,st'⟩ s' ⟨rfl,har,hf⟩;dsimp only;have hout:=kat_snds (ks:=vs) (vs:=vs) rfl har;rw[hout];have okr:=ql (n:=vs.length) (by omega)
 have hsz:(List.toArray ((run (lt) (kas_sort vs.length)).toList.map fun i=>vs.getD i Value.none)).size<=sizeLine+1:=by
  have:=zT (n:=vs.length) (lt:=lt);rw[C2z,J3z,H1z,this,G5z];omega
 refine N5z (seqEpoch_at ho6 rfl ?_);refine N5z (listUpdate_at ho6 rfl ?_ (H5z _) hsz);rw[hf];simp only[bne_self_eq_false,U1z,V5z];exact O5z h
end
theorem JW(l b:Addr)(its its2:Array Value)(n n2:Nat)(dd dd2:Option Addr)(sl sl2:Array (Option Value))(as bs:List Int) :
  Meets (Builtin.«tuple.__lt__» ⟨[.ref l,.ref b],[]⟩)
   (fun A R s => s.heap.get? l = some { cls := .type "tuple", dict := dd, data := .seq its n, slots := sl } /\ s.heap.get? b = some { cls := .type "tuple", dict := dd2, data := .seq its2 n2, slots := sl2 } /\
    IntsAre its.toList as/\IntsAre its2.toList bs/\R (.ok (.ret (.bool (uz (decide (its.size<its2.size)) as bs)))) s) :=
 .of_wp fun prog w A R s h=>by
  obtain⟨hp,g,d,tk,os⟩:=s;obtain⟨hl,hb,ia,ib,h⟩:=h
  have f2:=AutoSeq1.sub_tuple_tuple
  wp_walk using wpAny_loadPart' hl,wpAny_loadPart' hb,wpAny_forIn_list _ (fun rest b s'=>b.1=none/\s'=⟨hp,g,d,tk,os⟩/\∃ xs ys as' bs',rest=xs.zip ys/\IntsAre xs as'/\IntsAre ys bs' /\
   R (.ok (.ret (.bool (uz (decide (its.size<its2.size)) as' bs')))) ⟨hp,g,d,tk,os⟩) _
  case turn =>
   rintro⟨y,x⟩ rest b s' ⟨hb',rfl,xs,ys,as',bs',hz,ix,iy,hR⟩
   cases ix with
   | nil=>cases hz
   | cons m t ix =>
    cases iy with
    | nil=>cases hz
    | cons k u iy =>
     rw[W1z] at hz;injection hz with hyx hrest;cases hyx;refine N5z (wpAny_eqBool_int ?_)
     by_cases q:m=k
     ·simp only[uz,q,X5z] at hR
      simp only[q,P2z]
      wp_walk
      exact⟨rfl,rfl,_,_,_,_,hrest,ix,iy,hR⟩
     ·simp only[uz,Z5z q] at hR
      have q':(m==k)=false:=by simpa using q
      simp only[q'];rw[Y5z (by rfl)];refine N5z (wpAny_rule (N5z (show wpAny _ _ (richCompare .Lt (Value.int m t) (Value.int k u)) _ _ _ from lt_int ?_)));exact N5z (O5z (O5z (O5z ⟨_,rfl,hR⟩)))
  case fin =>
   rintro⟨b1,b2⟩ s' ⟨hb',rfl,xs,ys,as',bs',hz,ix,iy,hR⟩;simp only at hb';subst hb'
   have e:uz (decide (its.size<its2.size)) as' bs'=decide (its.size<its2.size):=by
    cases ix with
    | nil=>cases bs'<;>rfl
    | cons m t ix =>
     cases iy with
     | nil=>rfl
     | cons k u iy=>cases hz
   rw[e] at hR
   wp_walk
   exact⟨_,rfl,by simpa[Builtin.Tuple.tupleCompareSizes] using hR⟩
  case h =>
   exact⟨rfl,rfl,_,_,_,_,rfl,ia,ib,h⟩
def fG(h:Heap)(vs:List Value)(ks:List (List Int)):Prop:=vs.length=ks.length/\∀ (i:Nat) (v:Value) (k:List Int),vs[i]?=some v->ks[i]?=some k->∃ a o n p u op its' n',v=.ref a/\h.get? a=some o/\o.cls=.type "tuple"/\o.data=.seq #[.ref p,u] n/\h.get? p=some op/\op.cls=.type "tuple"/\op.data=.seq its' n'/\IntsAre its'.toList k
theorem fG.keep{h h':Heap}{vs:List Value}{ks:List (List Int)}(t:fG h vs ks)(k:∀ b o,o.cls=.type "tuple"->h.get? b=some o->h'.get? b=some o):fG h' vs ks:=⟨t.1,fun i v q h1 h2=>by
 obtain⟨a,o,n,p,u,op,its',n',e1,e2,e3,e4,e5,e6,e7,e8⟩:=t.2 i v q h1 h2
 exact⟨a,o,n,p,u,op,its',n',e1,k _ _ e3 e2,e3,e4,k _ _ e6 e5,e6,e7,e8⟩⟩
def PrF(h:Heap)(f:Value):Prop:=∃ p op,f=.ref p/\h.get? p=some op/\op.cls=.type "tuple"
theorem fG.firsts{h:Heap}:∀ {vs:List Value} {ks:List (List Int)},fG h vs ks->∃ fs,KatTups h vs fs/\fs.length=vs.length/\∀ f∈fs,PrF h f
 | [],ks,t=>⟨[],.nil,rfl,fun f hf=>nomatch hf⟩
 | v::vs,ks,t=>by
  obtain⟨l,t⟩:=t
  cases ks with
  | nil=>simp at l
  | cons k ks =>
   obtain⟨a,o,n,p,u,op,its',n',rfl,e2,e3,e4,e5,e6,e7,e8⟩:=t 0 v k rfl rfl;obtain⟨fs,f1,f2,f3⟩:=fG.firsts (vs:=vs) (ks:=ks) ⟨by simpa using l,fun i v k h1 h2=>t (i+1) v k (by simpa using h1) (by simpa using h2)⟩;refine⟨.ref p::fs,.cons e2 e3 e4 rfl f1,by simp[f2],fun f hf=>?_⟩;rcases List.mem_cons.mp hf with rfl | hf
   ·exact⟨p,op,rfl,e5,e6⟩
   ·exact f3 f hf
def ltP(ks:List (List Int))(i j:Nat):Bool:=if i=j then false else uz (decide ((ks.getD i []).length<(ks.getD j []).length)) (ks.getD i []) (ks.getD j [])
theorem mG{prog:Program}{w:World}:∀ {us:List Value} {k:List Int},IntsAre us k->PySem.ItemsAre (intKind prog w) k us
 | _,_,.nil=>.nil
 | _,_,.cons m t h=>.cons (by show Value.isInt m (.int m t)=true;simp[Value.isInt]) (mG h)
section
variable {prog:Program} {w:World} {A:Around} {E:Value->Shared->Prop} {s:Shared}
theorem Hh{vs:List Value}{ks:List (List Int)}{C:Bool->Shared->Prop}(hu:A.units+1<cLine)(t:fG s.heap vs ks)(nd:∀ i j,i<vs.length->j<vs.length->i≠j->ks.getD i []≠ks.getD j [])(i j:Nat)(hi:i<vs.length)(hj:j<vs.length)(h:C (ltP ks i j) s) :
  wpAny (model prog w) A (keyLt' (tuples' false) vs[i] vs[j]) C E s:=by
 have lk:=t.1;obtain⟨x,ox,nx,p,u,op,ps,np,ex,gx,cx,dx,gp,cp,dp,ip⟩:=t.2 i vs[i] (ks[i]'(by omega)) (List.getElem?_eq_getElem hi) (List.getElem?_eq_getElem (by omega));obtain⟨y,oy,ny,q,u',oq,qs,nq,ey,gy,cy,dy,gq,cq,dq,iq⟩:=t.2 j vs[j] (ks[j]'(by omega)) (List.getElem?_eq_getElem hj) (List.getElem?_eq_getElem (by omega))
 have e3:ks.getD i []=ks[i]'(by omega):=by rw[List.getD_eq_getElem?_getD,List.getElem?_eq_getElem (by omega)];rfl
 have e4:ks.getD j []=ks[j]'(by omega):=by rw[List.getD_eq_getElem?_getD,List.getElem?_eq_getElem (by omega)];rfl
 rw[ex,ey];refine kat_lt gx dx gy dy ?_;show KatLex prog w A false _ C [(Value.ref p,Value.ref q),(u,u')] 0 s;refine kat_cons ?_;have kp:(tupleKind (intKind prog w)).is s.heap (ks[i]'(by omega)) p:=⟨op,ps,np,gp,cp,dp,mG ip⟩;have kq:(tupleKind (intKind prog w)).is s.heap (ks[j]'(by omega)) q:=⟨oq,qs,nq,gq,cq,dq,mG iq⟩;refine(tupleKind (intKind prog w)).eqBool (by show A.units<cLine;omega) kp kq ?_
 by_cases hij:i=j
 ·subst hij
  rw[ex] at ey;cases ey;rw[gx] at gy;cases gy;rw[dx] at dy;cases dy;simp only[J5z];refine kat_yes (kat_cons ?_);refine PySem.SeqAt.EqAt.same u prog w _ _ ?_;refine kat_yes (kat_nil ?_);unfold ltP at h;rw[Y5z rfl] at h;simpa using h
 ·have ne:=nd i j hi hj hij
  rw[e3,e4] at ne;rw[D3z ne];refine kat_no (kat_one _ _ ?_);unfold ltP at h;rw[Z5z hij,e3,e4] at h;obtain⟨cls,dd,data,sl⟩:=op;obtain⟨cls2,dd2,data2,sl2⟩:=oq;simp only at cp dp cq dq;subst cp dp cq dq;have l1:=ip.length;have l2:=iq.length;simp only[H1z] at l1 l2;refine richCompare_meets_room (op:=.Lt) ⟨_,gp,rfl⟩ ⟨_,gq,rfl⟩ PySem.F.slot_tuple_lt PySem.F.entry_tuple_lt (PySem.F.args_tuple_lt_2 _ _) (JW p q ps qs np nq dd dd2 sl sl2 _ _) ⟨gp,gq,ip,iq,?_⟩ (by omega);refine⟨(fun z=>nomatch z),?_⟩;rw[l1,l2];exact h
theorem pB{l:Addr}{vs:List Value}{ks:List (List Int)}{Q:Value->Shared->Prop}(hu:A.units+3<cLine)(hl:s.heap.IsList l vs.toArray)(t:fG s.heap vs ks)(h64:vs.length<64)
  (rise:∀ i j,i<vs.length->j<vs.length->i≠j->ks.getD i []≠ks.getD j []/\uz (decide ((ks.getD i []).length<(ks.getD j []).length)) (ks.getD i []) (ks.getD j [])=decide (i<j))
  (h:Q (.ref (s.heap.objs.size+1)) { s with heap:=sortedAll s.heap vs vs.toArray }):wpAny (model prog w) A (call (.builtin "sorted") [.ref l]) Q E s:=by
 refine Calls.call_function_entry kind_sorted plain_sorted entry_sorted (args_sorted1 _) ?_;unfold Builtin.«sorted»;refine N5z (m:=checkCount "sorted" 1 1 _) (O5z (N5z (collect_list hl ?_ (by rw[G5z];omega))));refine N5z (wpAny_newList ?_ (by rw[G5z];omega))
 have hsz:((s.heap.push (seqObj "list" #[] 0)).update s.heap.objs.size (Obj.mapSeq (· ++ vs.toArray))).objs.size=s.heap.objs.size+1:=by rw[V2z,size_push']
 have hoL:(((s.heap.push (seqObj "list" #[] 0)).update s.heap.objs.size (Obj.mapSeq (· ++ vs.toArray))).push (seqObj "list" vs.toArray 0)).get? (s.heap.objs.size+1)=some (seqObj "list" vs.toArray 0):=by
  rw[<- hsz];exact Heap.get?_push_size _ rfl
 show wpAny _ _ _ _ _ { s with heap:=((s.heap.push (seqObj "list" #[] 0)).update s.heap.objs.size (Obj.mapSeq (· ++ vs.toArray))).push (seqObj "list" vs.toArray 0) };rw[hsz]
 have keep:∀ b o,s.heap.get? b=some o->(((s.heap.push (seqObj "list" #[] 0)).update s.heap.objs.size (Obj.mapSeq (· ++ vs.toArray))).push (seqObj "list" vs.toArray 0)).get? b=some o:=fun b o e=>by
  refine Heap.get?_push_of_some _ ?_;rw[Heap.get?_update_ne _ _ _ _ (U4z (T4z e))];exact Heap.get?_push_of_some _ e
 have t':=t.keep fun b o _ e=>keep b o e;refine N5z (M4z (Q2z slot_list_sort ⟨_,hoL,rfl⟩ entry_list_sort ?body (args_list_sort _)))
 case body =>
  by_cases h2:vs.length<2
  ·refine mq (s:={ s with heap:=((s.heap.push (seqObj "list" #[] 0)).update s.heap.objs.size (Obj.mapSeq (· ++ vs.toArray))).push (seqObj "list" vs.toArray 0) }) hoL h2 ?_
   exact⟨_,rfl,O5z ⟨_,rfl,h⟩⟩
  ·have nd:∀ i j,i<vs.length->j<vs.length->i≠j->ks.getD i []≠ks.getD j []:=fun i j a b c=>(rise i j a b c).1
   refine qC (T:=.type "tuple") (lt:=ltP ks) (s:={ s with heap:=((s.heap.push (seqObj "list" #[] 0)).update s.heap.objs.size (Obj.mapSeq (· ++ vs.toArray))).push (seqObj "list" vs.toArray 0) }) hoL (by omega) h64 (by decide) (fun h' k'=>?_) (fun h' k' i j hi hj C hC=>?_) ?_
   ·obtain⟨fs,f1,f2,f3⟩:=(t'.keep k').firsts
    refine⟨fs,f1,f2,fun v hv=>?_⟩;obtain⟨p,op,rfl,g,c⟩:=f3 v hv;have lk:Looks (model prog w) h' (typeOf (.ref p)) op.cls:=(Looks.ld g).andThen .now;rw[c] at lk;exact lk
   ·exact Hh (s:={ s with heap:=h' }) (by show A.units+1+1+1<cLine;omega) (t'.keep k') nd i j hi hj hC
   ·rw[FQ (by omega) rfl fun i j hi hj=>by
     unfold ltP
     by_cases hij:i=j
     ·rw[Y5z hij,hij];simp
     ·rw[Z5z hij];exact(rise i j hi hj hij).2]
    exact⟨_,rfl,O5z ⟨_,rfl,h⟩⟩
end
end Kas
namespace DE
open PySem
inductive D where
 | non | bl (b:Bool) | int (i:Int) | str (x:Str) | tup (xs:List D) | lst (xs:List D)
 | exc (c:Str)
 | dic (ks:List (Sum Int Str)) (xs:List D)
 | dt (ks:List (List Int)) (xs:List D)
 deriving Inhabited
inductive Sl where
 | no | sh (d:D) | ow (ds:List D) | oo (dss:List (List D))
 | od (l:List (List Int×D))
 deriving Inhabited
abbrev Rho:=List (Str×Sl)
inductive Fl where
 | nxt (ρ:Rho) | ret (d:D)
 deriving Inhabited
def b2i(b:Bool):Int:=if b then 1 else 0
mutual
def deq:D->D->Bool
 | .non,.non=>true
 | .bl a,.bl b=>a==b
 | .bl a,.int j=>b2i a==j
 | .int i,.bl b=>i==b2i b
 | .int i,.int j=>i==j
 | .str x,.str y=>x==y
 | .tup xs,.tup ys=>oZ xs ys
 | .lst xs,.lst ys=>oZ xs ys
 | _,_=>false
def oZ:List D->List D->Bool
 | [],[]=>true
 | x::xs,y::ys=>deq x y&&oZ xs ys
 | _,_=>false
end
mutual
def dep:D->Nat
 | .tup xs=>deps xs+1
 | .lst xs=>deps xs+1
 | .exc _=>1000
 | .dic _ _=>1000
 | .dt _ _=>1000
 | _=>0
def deps:List D->Nat
 | []=>0
 | x::xs=>max (dep x) (deps xs)
end
def asB:D->Option Bool
 | .bl b=>some b
 | _=>none
def asI:D->Option Int
 | .int i=>some i
 | _=>none
def items:D->Option (List D)
 | .tup xs=>some xs
 | .lst xs=>some xs
 | _=>none
def tupI:D->Option (List D)
 | .tup xs=>some xs
 | _=>none
def iH:List D->Option (List Int)
 | []=>some []
 | .int i::r=>(iH r).map (i::·)
 | _=>none
def Js:List Int->Bool
 | x::y::r=>decide (x<=y)&&Js (y::r)
 | _=>true
def whF:Nat:=10000000000000000000000000000000000000000000000000000000000000000000000000000000000000000000000000000
def pO:List D->Option (List Bool)
 | []=>some []
 | .bl i::r=>(pO r).map (i::·)
 | _=>none
def small(i:Int):Bool:=decide (-(2^64)<i)&&decide (i<2^64)
def mid(i:Int):Bool:=decide (i.natAbs.log2<10000)
def szl(n:Nat):Bool:=decide (n<=100000)
def binop:Operator->D->D->Option D
 | .Add,.int i,.int j=>some (.int (i+j))
 | .Add,.tup xs,.tup ys=>if szl (xs.length+ys.length) then some (.tup (xs++ys)) else none
 | .Add,.lst xs,.lst ys=>if szl (xs.length+ys.length) then some (.lst (xs++ys)) else none
 | .Sub,.int i,.int j=>some (.int (i-j))
 | .Mult,.int i,.int j=>if small i||small j||(mid i&&mid j) then some (.int (i*j)) else none
 | .Mult,.lst xs,.int j=>if decide (j<=1000)&&decide (-1000<=j)&&szl (xs.length*j.toNat) then some (.lst (List.replicate j.toNat xs).flatten) else none
 | .Mult,.tup xs,.int j=>if true then none else none
 | .FloorDiv,.int i,.int j=>if decide (0<j)&&decide (j<1073741824) then some (.int (i / j)) else if decide (j≠0)&&decide (j.natAbs.log2<9000) then some (.int (i.fdiv j)) else none
 | .Mod,.int i,.int j=>if decide (0<j) then some (.int (i%j)) else if decide (j≠0) then some (.int (i.fmod j)) else none
 | _,_,_=>none
def pQ:List D->Option (List Str)
 | []=>some []
 | .str i::r=>(pQ r).map (i::·)
 | _=>none
def inS(x:D)(ys:List D):Option Bool:=(pQ ys).bind fun ss=>if decide (dep x<=50) then some (ss.any fun t=>deq (.str t) x) else none
def inT(x:D)(ys:List D):Option Bool:=match asI x,iH ys with
 | some i,some ns=>some (ns.any (· ==i))
 | _,_=>inS x ys
def Ho:D->Option (Sum Int Str)
 | .int i=>some (.inl i)
 | .str x=>some (.inr x)
 | _=>none
def putD(l:List (Sum Int Str×D))(k:Sum Int Str)(d:D):List (Sum Int Str×D):=if(l.any fun q=>decide (q.1=k))=true then l.map (fun q=>if q.1=k then(q.1,d) else q) else l++[(k,d)]
def zB(ks:List (Sum Int Str))(ds:List D)(k:Sum Int Str):Option D:=((ks.zip ds).find? fun q=>decide (q.1=k)).map (·.2)
def IV(l:List (Sum Int Str×D)):D:=.dic (l.map (·.1)) (l.map (·.2))
def dB(f:Expr->Option D):List (Option Expr)->List Expr->Option (List (Sum Int Str×D))
 | [],[]=>some []
 | some k::ks,v::vs=>do let x <- (f k).bind Ho;let d <- f v;let r <- dB f ks vs;some ((x,d)::r)
 | _,_=>none
def Ys(l:List (Sum Int Str×D)):List (Sum Int Str×D):=l.foldl (fun a q=>putD a q.1 q.2) []
def HD:D->D->D->Option D
 | .dic ks ds,y,z=>(Ho y).map fun k=>(zB ks ds k).getD z
 | _,_,_=>none
def CQ(l:List (List Int×D))(k:List Int)(d:D):List (List Int×D):=if(l.any fun q=>decide (q.1=k))=true then l.map (fun q=>if q.1=k then(q.1,d) else q) else l++[(k,d)]
def xr(l:List (List Int×D))(k:List Int):Option D:=(l.find? fun q=>decide (q.1=k)).map (·.2)
def gU(l:List (List Int×D)):D:=.dt (l.map (·.1)) (l.map (·.2))
def xM:D->Option (List Int)
 | .tup ts=>iH ts
 | _=>none
def HB:D->D->D->Option D
 | .dt ks ds,y,z=>(xM y).map fun k=>(xr (ks.zip ds) k).getD z
 | _,_,_=>none
def Jr:D->Option (List D)
 | .dt ks ds=>some ((ks.zip ds).map fun q=>.tup [.tup (q.1.map D.int),q.2])
 | _=>none
def dt1(f:Expr->Option D):List (Option Expr)->List Expr->Option D
 | [some k],[v]=>do let x <- (f k).bind xM;let d <- f v;some (.dt [x] [d])
 | _,_=>none
def Ht:D->Bool
 | .non=>true
 | _=>false
def cmpop:CmpOp->D->D->Option D
 | .Eq,x,y=>if decide (dep x<=50)&&decide (dep y<=50) then some (.bl (deq x y)) else none
 | .NotEq,x,y=>if decide (dep x<=50)&&decide (dep y<=50) then some (.bl (!deq x y)) else none
 | .Lt,.int i,.int j=>some (.bl (decide (i<j)))
 | .LtE,.int i,.int j=>some (.bl (decide (i<=j)))
 | .Gt,.int i,.int j=>some (.bl (decide (j<i)))
 | .GtE,.int i,.int j=>some (.bl (decide (j<=i)))
 | .Is,x,.non=>some (.bl (Ht x))
 | .IsNot,x,.non=>some (.bl (!Ht x))
 | .Is,.bl a,.bl b=>some (.bl (a==b))
 | .IsNot,.bl a,.bl b=>some (.bl (!(a==b)))
 | .In,x,.tup ys=>(inT x ys).map fun b=>.bl b
 | .NotIn,x,.tup ys=>(inT x ys).map fun b=>.bl (!b)
 | _,_,_=>none
def ixD(n:Nat)(i:Int):Option Nat:=if 0<=i then(if i<n then some i.toNat else none) else if -(n:Int)<=i then some (i+n).toNat else none
def atD(xs:List D)(i:Int):Option D:=(ixD xs.length i).bind fun j=>xs[j]?
def N5:D->D->Option D
 | .tup xs,.int i=>atD xs i
 | .lst xs,.int i=>atD xs i
 | .dic ks ds,y=>(Ho y).bind (zB ks ds)
 | _,_=>none
mutual
def fB:D->Bool
 | .non=>true
 | .bl _=>true
 | .int _=>true
 | .str _=>true
 | .tup ds=>gK ds
 | _=>false
def gK:List D->Bool
 | []=>true
 | d::r=>fB d&&gK r
end
def Dz:String->D->Bool
 | "int",.int _=>true
 | "int",.bl _=>true
 | "bool",.bl _=>true
 | "tuple",.tup _=>true
 | "list",.lst _=>true
 | "str",.str _=>true
 | _,_=>false
def Et:List D->Option (List (List Int))
 | []=>some []
 | .tup [.tup ts,_]::r=>(match iH ts,Et r with
  | some k,some l=>some (k::l)
  | _,_=>none)
 | _=>none
def Gb(ks:List (List Int)):Bool:=(List.range ks.length).all fun i=>(List.range ks.length).all fun j=>i==j||(!(ks.getD i []==ks.getD j [])&&(Kas.uz (decide ((ks.getD i []).length<(ks.getD j []).length)) (ks.getD i []) (ks.getD j [])==decide (i<j)))
def blt:String->List D->Option D
 | "len",[d]=>do let l <- items d;some (.int l.length)
 | "all",[.lst xs]=>do let bs <- pO xs;some (.bl (bs.all id))
 | "tuple",[d]=>do let l <- items d;some (.tup l)
 | "list",[d]=>do let l <- items d;some (.lst l)
 | "sorted",[.lst xs]=>(match iH xs with
  | some ns=>if Js ns&&decide (ns.length<64) then some (.lst xs) else none
  | none=>(match Et xs with
   | some ks=>if Gb ks&&decide (ks.length<64) then some (.lst xs) else none
   | none=>none))
 | "abs",[.int i]=>some (.int (if i<0 then -i else i))
 | "int",[.bl b]=>some (.int (b2i b))
 | "int",[.int i]=>some (.int i)
 | _,_=>none
structure Cxt where
 cst:List (Str×D)
 blt:List (Str×String)
 fns:List Str
 exs:List Str
 top:Str
 rs:Bool
 call:Str->List D->Option D
 callx:Str->List D->Option Str
def isExc:D->Bool
 | .exc _=>true
 | .dic _ _=>true
 | .dt _ _=>true
 | _=>false
def Jj(top c c':Str):Bool:=c==c'||c'==top
noncomputable def jP(scope sc:Scope):Scope :=
 { scope with names:=scope.names.map fun(n,k)=>if(k==.free&&sc.kind==.function&&sc.names.lookup n==some .cell) then(n,.cell) else(n,k) }
def Pb:Option Sl->Sl
 | some (.sh d)=>.sh d
 | _=>.no
def bC(scope:Scope)(ρ:Rho):Rho:=scope.names.map fun p=>(p.1,if p.2==.free then Pb (ρ.lookup p.1) else .no)
def oH:List Str->Bool
 | []=>true
 | x::r => !r.contains x&&oH r
def gP(sc scope:Scope):Bool :=
 scope.kind==.function&&oH (scope.names.map (·.1))&&scope.names.all fun p=>p.2 !=.free||sc.names.lookup p.1==some .cell||sc.names.lookup p.1==some .free
def cB:Rho->Str->Sl->Rho
 | [],_,_=>[]
 | (y,s)::r,x,v=>if x==y then(y,v)::r else(y,s)::cB r x v
def aF(x:Str):Bool:=x !="__debug__"&&x !="__classdict__"
def ownIn(scope:Scope)(x:Str):Bool:=scope.names.lookup x==some .local||scope.names.lookup x==some .cell
def bindNames(scope:Scope):List Expr->List D->Rho->Option Rho
 | [],[],ρ=>some ρ
 | .Name x _::es,d::ds,ρ=>if ownIn scope x&&(ρ.map (·.1)).contains x then bindNames scope es ds (cB ρ x (.sh d)) else none
 | _,_,_=>none
def fO(scope:Scope):Expr->D->Rho->Option Rho
 | .Name x _,d,ρ=>if ownIn scope x&&(ρ.map (·.1)).contains x then some (cB ρ x (.sh d)) else none
 | .Tuple es _ _,.tup ds,ρ=>bindNames scope es ds ρ
 | _,_,_=>none
def mF(cx:Cxt)(sc:Scope)(x:Str):Bool:=sc.names.lookup x==some .globalImplicit
def bx(cx:Cxt)(sc:Scope)(x:Str):Option String:=if mF cx sc x then cx.blt.lookup x else none
def bD(f:D->Option (Option D)):List D->Option (List D)
 | []=>some []
 | x::r=>do
  match <- f x with
  | some v=>(bD f r).map (v::·)
  | none=>bD f r
def cI(lo hi:Int):List D:=(List.range (hi-lo).toNat).map fun(k:Nat)=>.int (lo+(k:Int))
def jQ(f:Expr->Option D):List Expr->Option (List D)
 | []=>some []
 | e::r=>do let d <- f e;let ds <- jQ f r;some (d::ds)
def bR(op:BoolOp)(f:Expr->Option D):List Expr->Option D
 | []=>none
 | [e]=>f e
 | e::e'::r=>do
  let d <- f e
  let b <- asB d
  match op with
  | .And=>if b then bR op f (e'::r) else some (.bl false)
  | .Or=>if b then some (.bl true) else bR op f (e'::r)
def dU(i:Int):Bool:=decide (-(2^62)<=i)&&decide (i<2^62)
def d7:Expr->Bool
 | .Tuple .. =>true
 | _=>false
inductive Wk where
 | r1 (a:Expr) | r2 (a b:Expr) | r3 (a b c:Expr) | zp (a b:Expr) | rv (a:Expr) | en (a:Expr) | it (a:Expr) | sq
def qY(cx:Cxt)(sc:Scope):Expr->Wk
 | .Call (.Name x _) args [] _=>(match bx cx sc x with
  | some "range"=>(match args with | [a]=>.r1 a | [a,b]=>.r2 a b | [a,b,c]=>.r3 a b c | _=>.sq)
  | some "zip"=>(match args with | [a,b]=>.zp a b | _=>.sq)
  | some "reversed"=>(match args with | [a]=>.rv a | _=>.sq)
  | some "enumerate"=>(match args with | [a]=>.en a | _=>.sq)
  | _=>.sq)
 | .Call (.Attribute (.Name y py) m ap) [] [] p=>if ap.endLine==p.line&&m=="items" then .it (.Name y py) else .sq
 | _=>.sq
def enD(xs:List D):List D:=xs.zipIdx.map fun q=>.tup [.int (q.2:Int),q.1]
def Ny:D->D->Option (List D)
 | .tup xs,.tup ys=>some ((xs.zip ys).map fun q=>.tup [q.1,q.2])
 | .lst xs,.lst ys=>if true then none else none
 | .lst xs,.tup ys=>if true then none else none
 | .tup xs,.lst ys=>if true then none else none
 | _,_=>none
def evI(cx:Cxt)(tup:Bool)(f:Expr->Option D)(sc:Scope)(e:Expr):Option (List D):=match qY cx sc e with
 | .r1 a=>do let j <- (f a).bind asI;if dU j then some (cI 0 j) else none
 | .r2 a b=>do let i <- (f a).bind asI;let j <- (f b).bind asI;if dU i&&dU j then some (cI i j) else none
 | .r3 a b c=>if true then none else none
 | .zp a b=>do let x <- f a;let y <- f b;if tup then Ny x y else none
 | .rv a=>if true then none else none
 | .en a=>do let x <- f a;if tup then(tupI x).map enD else none
 | .it a=>do let x <- f a;if tup then Jr x else none
 | .sq=>(f e).bind items
inductive Wc where
 | lr1 (a:Expr) | lr2 (a b:Expr) | tv (a:Expr) | ls (a:Expr) | tr1 (a:Expr) | al
def Wn(cx:Cxt)(sc:Scope):Expr->Option Expr
 | .Call (.Name y _) [a] [] _=>if bx cx sc y==some "set" then some a else none
 | _=>none
def Cm(cx:Cxt)(sc:Scope)(b:String)(args:List Expr):Wc:=match args with
 | [e]=>(match b,qY cx sc e with
  | "list",.r1 a=>.lr1 a
  | "list",.r2 a b=>.lr2 a b
  | "tuple",.rv a=>.tv a
  | "tuple",.r1 a=>.tr1 a
  | "len",.sq=>(match Wn cx sc e with | some a=>.ls a | none=>.al)
  | _,_=>.al)
 | _=>.al
def fQ:String->Bool
 | "int"=>true
 | "bool"=>true
 | "tuple"=>true
 | "list"=>true
 | "str"=>true
 | _=>false
def tyOf(cx:Cxt)(sc:Scope):Expr->Option String
 | .Name x _=>bx cx sc x
 | _=>none
def xOf(cx:Cxt)(sc:Scope):Expr->Option Str
 | .Name x _=>if mF cx sc x&&(cx.exs.contains x||x==cx.top)&&aF x then some x else none
 | _=>none
def cntB(b:Bool)(bs:List Bool):Nat:=(bs.filter (· ==b)).length
def mH(f:Expr->Option D):List Expr->Option Bool
 | []=>some true
 | [c]=>(f c).bind asB
 | _=>none
def lZ(m:Str):D->D->Option D
 | .lst xs,.bl b=>do
  let bs <- pO xs
  if m=="count" then some (.int (cntB b bs)) else if m=="index"&&bs.contains b then some (.int (bs.idxOf b)) else none
 | _,_=>none
def aG:Expr->Bool
 | .Starred .. =>false
 | .Set .. =>false
 | .Slice .. =>false
 | _=>true
def ev(cx:Cxt):Nat->Scope->Rho->Expr->Option D
 | 0,_,_,_=>none
 | n+1,sc,ρ,e=>match e with
  | .Name x _=>if aF x then(match sc.names.lookup x with
    | some .local=>(match ρ.lookup x with | some (.sh d)=>some d | _=>none)
    | some .cell=>(match ρ.lookup x with | some (.sh d)=>some d | _=>none)
    | some .free=>(match ρ.lookup x with | some (.sh d)=>some d | _=>none)
    | some .globalImplicit=>cx.cst.lookup x
    | _=>none) else none
  | .Constant c _ _=>(match c with
    | .none=>some .non
    | .bool b=>some (.bl b)
    | .int i=>some (.int i)
    | .str x=>some (.str x)
    | _=>none)
  | .BinOp a op b _=>do let x <- ev cx n sc ρ a;let y <- ev cx n sc ρ b;binop op x y
  | .UnaryOp op a _=>do
    let x <- ev cx n sc ρ a
    match op with
    | .USub=>(asI x).map fun i=>.int (-i)
    | .Not=>(asB x).map fun b=>.bl (!b)
    | _=>none
  | .BoolOp op es _=>bR op (ev cx n sc ρ) es
  | .Compare a ops bs _=>(match ops,bs with
    | [op],[b]=>do let x <- ev cx n sc ρ a;let y <- ev cx n sc ρ b;cmpop op x y
    | [op,op'],[b,c]=>if !aG c then none else do
     let x <- ev cx n sc ρ a
     let y <- ev cx n sc ρ b
     let k <- (cmpop op x y).bind asB
     if k then do let z <- ev cx n sc ρ c;cmpop op' y z else some (.bl false)
    | _,_=>none)
  | .IfExp c a b _=>do
    let k <- (ev cx n sc ρ c).bind asB
    if k then ev cx n sc ρ a else ev cx n sc ρ b
  | .Tuple es _ _=>do let ds <- jQ (ev cx n sc ρ) es;if szl ds.length then some (.tup ds) else none
  | .List es _=>do let ds <- jQ (ev cx n sc ρ) es;if szl ds.length then some (.lst ds) else none
  | .Subscript a b _=>do
    let x <- ev cx n sc ρ a
    match b with
    | .Slice .. =>if true then none else none
    | b=>do
     let y <- ev cx n sc ρ b
     N5 x y
  | .Dict ks vs _=>match dt1 (ev cx n sc ρ) ks vs with
   | some d=>some d
   | none=>if ks.isEmpty||decide (15<ks.length) then none else(dB (ev cx n sc ρ) ks vs).map fun l=>IV (Ys l)
  | .Call f args kws p=>(match f,kws with
    | .Name x _,[] =>
     if mF cx sc x then
      match cx.blt.lookup x with
      | some "isinstance"=>(match args with
       | [a,t]=>do
        let d <- ev cx n sc ρ a
        match xOf cx sc t with
        | some c'=>(match d with | .exc c=>if cx.exs.contains c then some (.bl (Jj cx.top c c')) else none | _=>none)
        | none=>do
         let ty <- tyOf cx sc t
         match d with
         | .exc c=>if cx.exs.contains c&&ty=="ValueError" then some (.bl true) else none
         | .dic _ _=>none
         | .dt _ _=>none
         | d=>if fQ ty then some (.bl (Dz ty d)) else none
       | _=>none)
      | some b=>(match Cm cx sc b args with
       | .lr1 a=>do let j <- (ev cx n sc ρ a).bind asI;if dU j&&szl j.toNat then some (.lst (cI 0 j)) else none
       | .lr2 a a'=>do let i <- (ev cx n sc ρ a).bind asI;let j <- (ev cx n sc ρ a').bind asI;if dU i&&dU j&&szl (j-i).toNat then some (.lst (cI i j)) else none
       | .tr1 a=>if true then none else none
       | .tv a=>if true then none else none
       | .ls a=>if true then none else none
       | .al=>if args.isEmpty then none else do let ds <- jQ (ev cx n sc ρ) args;blt b ds)
      | none=>if cx.fns.contains x && !args.isEmpty then do let ds <- jQ (ev cx n sc ρ) args;cx.call x ds else none
     else none
    | .Name x _,[k]=>(match args with
     | [a]=>if bx cx sc x==some "max" then none else none
     | _=>none)
    | .Attribute (.Name y py) m ap,[]=>(match args with
     | [e]=>if ap.endLine==p.line then do
       let x <- ev cx n sc ρ (.Name y py)
       let z <- ev cx n sc ρ e
       lZ m x z else none
     | [e,e2]=>if ap.endLine==p.line&&m=="get"&&aG e&&aG e2 then do
       let x <- ev cx n sc ρ (.Name y py)
       let y <- ev cx n sc ρ e
       let z <- ev cx n sc ρ e2
       HB x y z else none
     | _=>none)
    | .Attribute (.Call g (a1::as) ks gp) m ap,[]=>(match args with
     | [e,e2]=>if ap.endLine==p.line&&m=="get"&&aG e&&aG e2 then do
       let x <- ev cx n sc ρ (.Call g (a1::as) ks gp)
       let y <- ev cx n sc ρ e
       let z <- ev cx n sc ρ e2
       HB x y z else none
     | _=>none)
    | .Attribute (.List ks lp) m ap,[]=>(match args with
     | [e]=>if ap.endLine==p.line then do
       let x <- ev cx n sc ρ (.List ks lp)
       let z <- ev cx n sc ρ e
       lZ m x z else none
     | _=>none)
    | .Attribute (.Dict ks vs dp) m ap,[]=>(match args with
     | [e,e2]=>if ap.endLine==p.line&&m=="get"&&aG e&&aG e2 then do
       let x <- ev cx n sc ρ (.Dict ks vs dp)
       let y <- ev cx n sc ρ e
       let z <- ev cx n sc ρ e2
       HD x y z else none
     | _=>none)
    | .Subscript (.List es _) ix _,[]=>if true then none else none
    | _,_=>none)
  | .ListComp elt gens scope _=>(match gens with
    | [⟨tg,iter,ifs,a⟩]=>if a==0&&gP sc scope then do
      let l <- evI cx (d7 tg) (ev cx n sc ρ) sc iter
      if szl l.length then do
       let out <- bD (fun d=>do
        let ρ1 <- fO scope tg d (bC scope ρ)
        let b <- mH (ev cx n (jP scope sc) ρ1) ifs
        if b then(ev cx n (jP scope sc) ρ1 elt).map some else some none) l
       some (.lst out)
      else none
     else none
    | _=>none)
  | _=>none
def evx(cx:Cxt):Nat->Scope->Rho->Expr->Option Str
 | 0,_,_,_=>none
 | n+1,sc,ρ,e=>match e with
  | .Call (.Name x _) args [] _=>if mF cx sc x && !args.isEmpty&&args.all aG&&cx.fns.contains x then
    (match jQ (ev cx n sc ρ) args with
    | some ds=>cx.callx x ds
    | none=>none)
   else none
  | .IfExp c a b _=>(match (ev cx n sc ρ c).bind asB with
   | some true=>evx cx n sc ρ a
   | some false=>evx cx n sc ρ b
   | none=>none)
  | _=>none
def dG:Nat->Str->Expr->Bool
 | 0,_,_=>true
 | n+1,x,e=>match e with
  | .Name y _=>x==y
  | .Constant .. =>false
  | .BinOp a _ b _=>dG n x a||dG n x b
  | .UnaryOp _ a _=>dG n x a
  | .BoolOp _ es _=>es.any (dG n x)
  | .Compare a _ bs _=>dG n x a||bs.any (dG n x)
  | .IfExp c a b _=>dG n x c||dG n x a||dG n x b
  | .Tuple es _ _=>es.any (dG n x)
  | .List es _=>es.any (dG n x)
  | .Subscript a b _=>dG n x a||dG n x b
  | .Slice lo hi st _=>(lo.map (dG n x)).getD false||(hi.map (dG n x)).getD false||(st.map (dG n x)).getD false
  | .Attribute a _ _=>dG n x a
  | .Call f args kws _=>dG n x f||args.any (dG n x) || !kws.isEmpty
  | .ListComp elt gens _ _=>dG n x elt||gens.any fun g=>dG n x g.iter||g.ifs.any (dG n x)
  | _=>true
def frz(n:Nat)(e:Expr)(ρ:Rho):Rho:=ρ.map fun p=>match p.2 with
 | .ow ds=>if dG n p.1 e then(p.1,.sh (.lst ds)) else p
 | .oo dss=>if dG n p.1 e then(p.1,.sh (.lst (dss.map .lst))) else p
 | .od l=>if dG n p.1 e then(p.1,.sh (gU l)) else p
 | _=>p
def Oe:Expr->Bool
 | .Dict [] [] _=>true
 | _=>false
noncomputable def isL:Expr->Bool
 | .List .. =>true
 | _=>false
def Yv:Operator->Bool
 | .Mult=>true
 | _=>false
def aZ:Expr->Bool
 | .List .. =>true
 | .ListComp .. =>true
 | .BinOp a op _ _=>isL a&&Yv op
 | _=>false
def calmS:Sl->Bool
 | .no=>true
 | .sh _=>true
 | _=>false
def Od:Sl->Bool
 | .oo _=>true
 | .od _=>true
 | _=>false
def lU(ρ:Rho)(x:Str):Bool:=ρ.all fun p=>p.1==x||calmS p.2
def Ao(ρ:Rho)(x:Str):Bool:=ρ.all fun p=>p.1==x || !Od p.2
def Oc(cx:Cxt)(sc:Scope):Expr->Bool
 | .Name y _=>aF y&&sc.names.lookup y==some .local
 | .Call (.Name f _) _ [] _=>mF cx sc f&&(cx.blt.lookup f).isNone
 | _=>false
def Yw:Operator->Bool
 | .Add=>true
 | _=>false
def Qf(cx:Cxt)(sc:Scope):Expr->Bool
 | .Call (.Name l _) [y] [] _=>bx cx sc l==some "list"&&Oc cx sc y
 | .ListComp .. =>true
 | .BinOp _ op b _=>Yw op&&aZ b
 | _=>false
def Jq(cx:Cxt)(sc:Scope):Expr->Bool
 | .Call (.Name l _) [y] [] _=>bx cx sc l==some "list"&&Oc cx sc y
 | _=>false
def ooE(cx:Cxt)(sc:Scope):Expr->Bool
 | .ListComp elt [⟨.Name _ _,_,[],_⟩] scope _=>Qf cx (jP scope sc) elt
 | _=>false
def Jp:List D->Option (List (List D))
 | []=>some []
 | .lst ds::r=>(Jp r).map (ds::·)
 | _=>none
def Ln:D->Option (List (List D))
 | .lst ds=>Jp ds
 | _=>none
def Nq(x:Str):Expr->Option (Expr×Expr)
 | .BinOp (.Subscript (.Name y _) i _) .Add e _=>if x==y then some (i,e) else none
 | _=>none
def lB(e:Expr)(d:D):Sl:=match d with
 | .lst ds=>if aZ e then .ow ds else .sh (.lst ds)
 | d=>.sh d
def nc0:Expr->Bool
 | .Call .. =>true
 | .Name x _=>x !="__debug__"
 | .IfExp .. =>true
 | .ListComp .. =>true
 | .Compare .. =>true
 | _=>false
def nc1:Expr->Bool
 | .Subscript v _ _=>nc0 v
 | e=>nc0 e
def nc:Expr->Bool
 | .Subscript v i _=>nc0 v||nc0 i
 | .BinOp l _ r _=>nc1 l||nc1 r
 | e=>nc0 e
def Bf:Expr->Bool
 | .Constant .. =>true
 | _=>false
def swp(sc:Scope)(ts:List Expr)(value:Expr):Option Bool:=match value with
 | .Tuple vs _ _=>(match ts,vs with
  | [.Name x px,.Name y py],[a,b] =>
   if sc.names.lookup x==some .local&&sc.names.lookup y==some .local then
    (if px.line==py.line&&x !=y&&(nc a||nc b)&&aG a&&aG b then some true else if Bf a&&Bf b then some false else none)
   else some false
  | [.Name x _,.Name y _,.Name z _],[_,_,_]=>if sc.names.lookup x==some .cell&&sc.names.lookup y==some .cell&&sc.names.lookup z==some .cell then some false else none
  | _,_=>none)
 | _=>some false
def rdA:Expr->Bool
 | .Call (.Name _ _) [.Subscript _ _ _,.Subscript _ _ _] [] _=>true
 | _=>false
def bO(f:D->Rho->Option Fl):List D->Rho->Option Fl
 | [],ρ=>some (.nxt ρ)
 | x::r,ρ=>do
  match <- f x ρ with
  | .ret d=>some (.ret d)
  | .nxt ρ'=>bO f r ρ'
def iI(f:Rho->Stmt->Option Fl):List Stmt->Rho->Option Fl
 | [],ρ=>some (.nxt ρ)
 | s::r,ρ=>do
  match <- f ρ s with
  | .ret d=>some (.ret d)
  | .nxt ρ'=>iI f r ρ'
def rm(c:Rho->Option (Rho×Bool))(f:Rho->Option Fl):Nat->Rho->Option Fl
 | 0,_=>none
 | m+1,ρ=>match c ρ with
  | none=>none
  | some (ρ1,b)=>if b then(match f ρ1 with
   | none=>none
   | some (.ret d)=>some (.ret d)
   | some (.nxt ρ')=>rm c f m ρ') else some (.nxt ρ1)
def um:List ExceptHandler->List Stmt->List Stmt->Option (Str×Str×Str)
 | [.ExceptHandler (some (.Name c _)) (some e) [.Assign [.Name kn _] (.Name e' _) _] _],[],[]=>if e==e' then some (c,e,kn) else none
 | _,_,_=>none
def wY:Expr->Option Expr
 | .UnaryOp .Not (.Call f as ks p) _=>some (.Call f as ks p)
 | _=>none
def fZ(f:Rho->Stmt->Option Fl)(g:Rho->Stmt->Option (Str×Rho)):List Stmt->Rho->Option (Str×Rho)
 | [],_=>none
 | s::r,ρ=>match f ρ s with
  | some (.nxt ρ')=>fZ f g r ρ'
  | some (.ret _)=>none
  | none=>g ρ s
mutual
def st(cx:Cxt)(F:Nat):Nat->Scope->Rho->Stmt->Option Fl
 | 0,_,_,_=>none
 | n+1,sc,ρ,s=>match s with
  | .Pass _=>some (.nxt ρ)
  | .Return v _=>(match v with
    | none=>some (.ret .non)
    | some e=>(ev cx F sc (frz F e ρ) e).map .ret)
  | .Assign tgs e _=>(match tgs with
    | [.Name x _]=>if ownIn sc x&&(ρ.map (·.1)).contains x then
      (if ooE cx sc e&&lU (frz F e ρ) x then(ev cx F sc (frz F e ρ) e).bind fun d=>(Ln d).map fun dss=>.nxt (cB (frz F e ρ) x (.oo dss))
      else if Jq cx sc e&&Ao (frz F e ρ) x then none
      else if aZ e && !Ao (frz F e ρ) x then none
      else if rdA e then none
      else(match ev cx F sc (frz F e ρ) e with
       | some d=>some (.nxt (cB (frz F e ρ) x (lB e d)))
       | none=>if Oe e&&lU ρ x then some (.nxt (cB ρ x (.od []))) else none)) else none
    | [.Tuple es _ _]=>if(swp sc es e).isSome||false then do
      let d <- ev cx F sc (frz F e ρ) e
      let l <- items d
      (bindNames sc es l (frz F e ρ)).map .nxt
     else none
    | [.Subscript t ie _]=>(match t with
     | .Name x _=>(match Nq x e with
      | some (i2,e2)=>if true then none else none
      | none=>(match (frz F ie (frz F e ρ)).lookup x with
       | some (.sh _)=>(match ρ.lookup x with
        | some (.od l)=>if ownIn sc x&&aF x && !aZ e then do
          let d <- ev cx F sc (frz F e ρ) e
          let y <- ev cx F sc (frz F e ρ) ie
          let k <- xM y
          if fB d&&decide (l.length<=1000) then some (.nxt (cB ρ x (.od (CQ l k d)))) else none
         else none
        | _=>none)
       | _=>none))
     | .Subscript (.Name x _) i1 _=>(match ρ.lookup x with
      | some (.oo dss)=>if ownIn sc x&&aF x && !aZ e then do
        let d <- ev cx F sc (frz F e ρ) e
        let j1 <- (ev cx F sc (frz F i1 ρ) i1).bind asI
        let n1 <- ixD dss.length j1
        let ds <- dss[n1]?
        let j2 <- (ev cx F sc (frz F ie ρ) ie).bind asI
        let n2 <- ixD ds.length j2
        if fB d then some (.nxt (cB ρ x (.oo (dss.set n1 (ds.set n2 d))))) else none
       else none
      | _=>none)
     | _=>none)
    | _=>none)
  | .Expr v _=>(match v with
    | .Call (.Attribute (.Name x _) m ap) [e] [] cp=>(match (frz F e ρ).lookup x with
      | some (.ow ds)=>if ownIn sc x&&aF x&&ap.endLine==cp.line then
        if m=="append"&&szl (ds.length+1) then(ev cx F sc (frz F e ρ) e).map fun d=>.nxt (cB (frz F e ρ) x (.ow (ds++[d])))
        else if m=="extend" then do
         let d <- ev cx F sc (frz F e ρ) e
         (match d with
         | .lst zs=>if szl (ds.length+zs.length) then some (.nxt (cB (frz F e ρ) x (.ow (ds++zs)))) else none
         | .tup zs=>if szl (ds.length+zs.length) then some (.nxt (cB (frz F e ρ) x (.ow (ds++zs)))) else none
         | _=>none)
        else none
       else none
      | _=>none)
    | .ListComp .. =>none
    | .Constant .. =>none
    | e=>(ev cx F sc (frz F e ρ) e).map fun _=>.nxt (frz F e ρ))
  | .If c a b _=>do
    let k <- (ev cx F sc (frz F c ρ) c).bind asB
    if k then iI (fun ρ s=>st cx F n sc ρ s) a ρ else iI (fun ρ s=>st cx F n sc ρ s) b ρ
  | .For tg iter body orelse _=>(match orelse with
    | []=>do
     let l <- evI cx (d7 tg) (ev cx F sc (frz F iter ρ)) sc iter
     bO (fun d ρ=>do let ρ1 <- fO sc tg d ρ;iI (fun ρ s=>st cx F n sc ρ s) body ρ1) l (frz F iter ρ)
    | _=>none)
  | .While c body orelse _=>(match orelse with
    | []=>rm (fun ρ=>((ev cx F sc (frz F c ρ) c).bind asB).map fun b=>(frz F c ρ,b)) (fun ρ=>iI (fun ρ s=>st cx F n sc ρ s) body ρ) whF ρ
    | _=>none)
  | .Try body hs orelse fin _=>(match um hs orelse fin with
   | some (c,e,kn)=>(match iI (fun ρ s=>st cx F n sc ρ s) body ρ with
    | some fl=>some fl
    | none=>(match fZ (fun ρ s=>st cx F n sc ρ s) (fun ρ s=>stx { cx with rs:=false } F n sc ρ s) body ρ with
     | some (c',ρ')=>if mF cx sc c&&c==cx.top&&cx.exs.contains c'&&e !=kn&&aF e&&sc.names.lookup e==some .local&&sc.names.lookup kn==some .local&&(ρ.map (·.1)).contains e&&(ρ.map (·.1)).contains kn&&aF c then
       some (.nxt (cB (cB ρ' kn (.sh (.exc c'))) e .no)) else none
     | none=>none))
   | none=>none)
  | _=>none
def stx(cx:Cxt)(F:Nat):Nat->Scope->Rho->Stmt->Option (Str×Rho)
 | 0,_,_,_=>none
 | n+1,sc,ρ,s=>match s with
  | .Raise (some (.Call (.Name c _) [.Constant (.str _) _ _] [] _)) none _=>if cx.rs&&mF cx sc c&&cx.exs.contains c&&aF c then some (c,ρ) else none
  | .Expr e _=>if aZ e then none else(evx cx F sc (frz F e ρ) e).map fun c=>(c,frz F e ρ)
  | .Assign [.Name _ _] e _=>if aZ e then none else(evx cx F sc (frz F e ρ) e).map fun c=>(c,frz F e ρ)
  | .If c a b _=>(match (ev cx F sc (frz F c ρ) c).bind asB with
    | some k=>fZ (fun ρ s=>st cx F n sc ρ s) (fun ρ s=>stx cx F n sc ρ s) (if k then a else b) (frz F c ρ)
    | none=>(match wY c with
     | some e=>(evx cx F sc (frz F c ρ) e).map fun x=>(x,frz F c ρ)
     | none=>none))
  | _=>none
end
structure Fd where
 ps:List Str
 N:List Str
 sc:Scope
 body:List Stmt
def bY(fd:Fd)(ds:List D):Rho:=(fd.ps.zip (ds.map Sl.sh))++(fd.N.drop fd.ps.length).map fun x=>(x,.no)
structure Pg where
 cst:List (Str×D)
 blt:List (Str×String)
 defs:List (Str×Fd)
 exs:List Str:=[]
 top:Str:="MinorError"
inductive Rs where
 | val (d:D) | exc (c:Str)
def Rs.val?:Option Rs->Option D
 | some (.val d)=>some d
 | _=>none
def Rs.exc?:Option Rs->Option Str
 | some (.exc c)=>some c
 | _=>none
def Pg.cx(P:Pg)(c:Str->List D->Option Rs):Cxt:=⟨P.cst,P.blt,P.defs.map (·.1),P.exs,P.top,true,fun f ds=>Rs.val? (c f ds),fun f ds=>Rs.exc? (c f ds)⟩
def pG(cx:Cxt)(F:Nat)(sc:Scope)(body:List Stmt)(ρ:Rho):Option Rs:=match iI (fun ρ s=>st cx F F sc ρ s) body ρ with
 | some (.ret d)=>some (.val d)
 | some (.nxt _)=>some (.val .non)
 | none=>(match fZ (fun ρ s=>st cx F F sc ρ s) (fun ρ s=>stx cx F F sc ρ s) body ρ with
  | some (c,_)=>some (.exc c)
  | none=>none)
@[irreducible] def eN (P:Pg) (F:Nat):Nat->Str->List D->Option Rs
 | 0,_,_=>none
 | k+1,f,ds=>match P.defs.lookup f with
  | none=>none
  | some fd=>if ds.length==fd.ps.length then pG (P.cx (eN P F k)) F fd.sc fd.body (bY fd ds) else none
theorem qO{P:Pg}{F:Nat}{f:Str}{ds:List D}:eN P F 0 f ds=none:=by with_unfolding_all rfl
theorem jN{P:Pg}{F k:Nat}{f:Str}{ds:List D}:eN P F (k+1) f ds=(match P.defs.lookup f with
  | none=>none
  | some fd=>if ds.length==fd.ps.length then pG (P.cx (eN P F k)) F fd.sc fd.body (bY fd ds) else none):=by with_unfolding_all rfl
@[irreducible] def aD (P:Pg) (F k:Nat) (f:Str) (ds:List D):Option D:=Rs.val? (eN P F k f ds)
theorem gQ{P:Pg}{F k:Nat}{f:Str}{ds:List D}:aD P F k f ds=Rs.val? (eN P F k f ds):=by with_unfolding_all rfl
@[irreducible] def eO (P:Pg) (F k:Nat) (f:Str) (ds:List D):Option Str:=Rs.exc? (eN P F k f ds)
theorem tQ{P:Pg}{F k:Nat}{f:Str}{ds:List D}:eO P F k f ds=Rs.exc? (eN P F k f ds):=by with_unfolding_all rfl
end DE
namespace L2
open PySem PySem.Spec PyProof.Rows PySem.SeqAt
section
variable {prog:Program} {w:World} {A:Around} {I:Addr} {fp wr:List Addr} {n:Nat} {P:Nat->Value->Prop} {St:Nat->Heap->Prop}
end
end L2
namespace L2
open PySem PySem.Spec PyProof.Rows
section
variable (P:Program) (w:World)
end
section
variable {P:Program} {w:World} {H H':Hp} {h h':Heap} {a:Addr} {o:HO}
end
section
variable {P:Program} {w:World} {H:Hp} {h h':Heap} {x e:Addr} {o':HO}
end
section
variable {fs fs' ex ex':List Addr} {H H1 H2:Hp} {h h1 h2 h':Heap} {a x e:Addr} {o:HO}
end
section
variable {X:Cx} {z0:List (Addr×Obj)} {σ:List (Option V)} {H H':Hp} {s:Shared} {h':Heap}
end
section
variable {X:Cx}
variable {a b:Expr} {ta tb:TE} {pos:Pos}
variable {tA tB':TT} {rest:List Expr}
end
section
variable {X:Cx} {z0:List (Addr×Obj)} {σ:St} {H:Hp} {s:Shared} {a:Addr} {xs ys:List V}
end
section
variable {X:Cx} {z0:List (Addr×Obj)} {σ:St} {H:Hp} {s:Shared} {E:Value->Shared->Prop}
end
section
variable {X:Cx} {st:Stmt} {rest:List Stmt} {t u:TS} {e:Expr} {te:TE} {pos:Pos}
end
section
variable {X:Cx} {pos:Pos}
end
section
variable {X:Cx} {pos:Pos}
end
section
variable {X:Cx} {tg:Expr}
end
section
variable {X:Cx} {a b c:Expr} {ta tb tc:TE} {pos:Pos}
end
section
variable {X:Cx} {a b c:Expr} {ta tb tc:TE} {pos:Pos}
end
section
variable {prog:Program} {w:World} {A:Around} {E:Value->Shared->Prop} {s:Shared} {K:Z2} {x dx C f:Addr} {mA:Str->Option Value} {name:Str} {v:Value}
end
section
variable {P:Program} {w:World} {H H':Hp} {h h':Heap} {a C dx:Addr} {fs fs':List (Str×V)}
end
section
variable {X:Cx} {z0:List (Addr×Obj)} {σ:St} {H:Hp} {s:Shared} {a C dx:Addr} {fs:List (Str×V)} {f:Str} {v:V} {A:Around} {E:Value->Shared->Prop}
end
section
variable {X:Cx} {o e value:Expr} {f:Str} {pos pos' tpos:Pos} {ta tv:TE}
end
section
variable {X:Cx} {z0:List (Addr×Obj)} {σ:St} {H:Hp} {s:Shared} {A:Around} {E:Value->Shared->Prop} {Q:Value->Shared->Prop} {c:Value} {b:Bool}
end
section
variable {X:Cx} {e:Expr} {es:List Expr} {te:TE} {t:TA} {pos:Pos}
end
section
variable {X:Cx} {z0:List (Addr×Obj)} {σ:St} {H:Hp} {s s':Shared}
end
section
variable {X:Cx} {CX:CXT} {k:Nat} {f C:Addr} {fd:FuncData} {ps:List Str} {sp:Sp} {dvs:List V} {ds:List Value} {E:XK} {x m:Str} {p pos apos:Pos} {e o:Expr} {es:List Expr} {ta:TE} {t:TA}
end
section
variable {X:Cx} {CX:CXT} {k:Nat} {f C:Addr} {fd:FuncData} {ps ks:List Str} {sp:Sp} {E:XK} {x m:Str} {p pos apos kpos:Pos} {e o:Expr} {es:List Expr} {kws:List Keyword} {te ta:TE} {t tk:TA} {nm:Option Str}
variable {g:List Value->List Value->List Value} {gV:List V->List V->List V}
end
section
variable {X:Cx} {x:Str} {p pos:Pos} {e:Expr} {es:List Expr} {t:TA} {id T:String} {r:List V->Hp->VK->Prop}
end
section
variable {κ:Type} [DecidableEq κ]
def ud(kvs:List (κ×V))(k:κ):Option V:=(kvs.find? fun kv=>decide (kv.1=k)).map (·.2)
noncomputable def putK(kvs:List (κ×V))(k:κ)(v:V):List (κ×V) :=
 if(kvs.any fun kv=>decide (kv.1=k))=true then kvs.map (fun kv=>if kv.1=k then(kv.1,v) else kv) else kvs++[(k,v)]
theorem zJ{p:κ×V}{r:List (κ×V)}{k:κ}(e:p.1=k):ud (p::r) k=some p.2:=by simp[ud,List.find?_cons,e]
theorem zK{p:κ×V}{r:List (κ×V)}{k:κ}(e:¬ p.1=k):ud (p::r) k=ud r k:=by simp[ud,List.find?_cons,e]
theorem qF(kvs:List (κ×V))(k:κ)(v:V):(putK kvs k v).length<=kvs.length+1:=by
 unfold putK;split
 ·rw[J3z];omega
 ·rw[T1z,W2z,R3z];omega
theorem zx.isSome_eq{o:Option V}{u:Option Value}(r:zx o u):o.isSome=u.isSome:=by
 cases o with
 | none=>cases u with
  | none=>rfl
  | some _=>exact(show False from r).elim
 | some _=>cases u with
  | none=>exact(show False from r).elim
  | some _=>rfl
theorem zx.getD{o:Option V}{u:Option Value}{d:V}{d':Value}(r:zx o u)(rd:RelV d d'):RelV (o.getD d) (u.getD d'):=by
 cases o with
 | none=>cases u with
  | none=>exact rd
  | some _=>exact(show False from r).elim
 | some _=>cases u with
  | none=>exact(show False from r).elim
  | some _=>exact r
theorem KV.val{kvs:List (κ×V)}{vs:List (κ×Value)}(r:KV kvs vs)(k:κ):zx (ud kvs k) (valueAt vs k):=by
 unfold KV at r
 induction r with
 | nil=>exact True.intro
 | @cons p q ps qs h t ih =>
  obtain⟨h1,h2⟩:=h
  by_cases e:p.1=k
  ·have e':q.1=k:=h1.symm.trans e
   have b:valueAt (q::qs) k=some q.2:=by simp[valueAt,List.find?_cons,e']
   rw[zJ e,b];exact h2
  ·have e':¬ q.1=k:=fun z=>e (h1.trans z)
   have b:valueAt (q::qs) k=valueAt qs k:=by simp[valueAt,List.find?_cons,e']
   rw[zK e,b];exact ih
theorem KV.any{kvs:List (κ×V)}{vs:List (κ×Value)}(r:KV kvs vs)(k:κ):(kvs.any fun kv=>decide (kv.1=k))=vs.any fun kv=>decide (kv.1=k):=by
 unfold KV at r
 induction r with
 | nil=>rfl
 | cons h t ih=>rw[P4z,P4z,ih,h.1]
theorem KV.repl{kvs:List (κ×V)}{vs:List (κ×Value)}(r:KV kvs vs)(k:κ){y:V}{u:Value}(ry:RelV y u) :
  KV (kvs.map fun kv=>if kv.1=k then(kv.1,y) else kv) (vs.map fun kv=>if kv.1=k then(kv.1,u) else kv):=by
 unfold KV at r ⊢
 induction r with
 | nil=>exact .nil
 | @cons p q ps qs h t ih =>
  rw[O4z,O4z];refine .cons ?_ ih;obtain⟨h1,h2⟩:=h
  by_cases e:p.1=k
  ·rw[Y5z e,Y5z (h1.symm.trans e)];exact⟨h1,ry⟩
  ·rw[Z5z e,Z5z (fun z=>e (h1.trans z))];exact⟨h1,h2⟩
theorem KV.put{kvs:List (κ×V)}{vs:List (κ×Value)}(r:KV kvs vs)(k:κ){y:V}{u:Value}(ry:RelV y u):KV (putK kvs k y) (stored vs k u):=by
 unfold putK stored;rw[r.any k]
 by_cases e:(vs.any fun kv=>decide (kv.1=k))=true
 ·rw[Y5z e,Y5z e];exact r.repl k ry
 ·rw[Z5z e,Z5z e];exact Paired.snoc r ⟨rfl,ry⟩
end
theorem Hq{P:Program}{w:World}{k:Key}{u:Value}(r:RelV (kV k) u):(bT P w).is k u=true:=by
 cases k with
 | inl i=>obtain⟨t,e⟩:=(show ∃ t,u=Value.int i t from r);subst e;exact qx P w i t
 | inr x=>obtain⟨t,e⟩:=(show ∃ t,u=Value.str x t from r);subst e;exact qw P w x t
section
variable {P:Program} {w:World} {H:Hp} {h:Heap} {a:Addr}
theorem Pu{u:HO}(ok:HOk P w H h)(e:Rd H a u):cG P w H h a u:=e.ok ok
theorem Nf{kvs:List (Key×V)}(ok:HOk P w H h)(e:Rd H a (.dK kvs)):kvs.length<=sizeLine/\(a==sysModules)=false/\∃ vs,KV kvs vs/\h.DictOf (bT P w) a vs :=
 show cG P w H h a (.dK kvs) from Pu ok e
theorem V2{kvs:List (Key×V)}(ok:HOk P w H h)(e:H a=some (.dK kvs)):kvs.length<=sizeLine/\(a==sysModules)=false/\∃ vs,KV kvs vs/\h.DictOf (bT P w) a vs:=Nf ok (.inl e)
end
section
variable {X:Cx} {z0:List (Addr×Obj)} {σ:St} {H:Hp} {s:Shared} {a:Addr} {y v:V} {u r:Value} {o:Option V} {A:Around} {E:Value->Shared->Prop}
theorem Inv.big(I:Inv X z0 σ H s):sysModules<s.heap.objs.size:=by
 have h:mainGlobals<s.heap.objs.size:=(I.mod.glob.keeps I.bk).lt;exact B5z (by decide) h
theorem qL{h':Heap}{t':Nat}{ob:HO}(I:Inv X z0 σ H s)(mu:Mut (H a))(hs:Heap.SameBut a s.heap h')(he:∃ q,h'.get? a=some q)(new:cG X.prog X.w (upd H a ob) h' a ob) :
  Inv X z0 σ (upd H a ob) { s with heap:=h',toks:=t' } :=
 I.write (x:=a) (e:=a) mu (.inl rfl) (fun b q hb z=>(hs.2 b hb).trans z) he new
theorem Ng{P:Program}{w:World}{H':Hp}{h':Heap}{kvs:List (Key×V)}{vs:List (Key×Value)}(z:kvs.length<=sizeLine)(hd:(a==sysModules)=false)(rel:KV kvs vs)(dd:h'.DictOf (bT P w) a vs) :
  cG P w H' h' a (.dK kvs):=⟨z,hd,vs,rel,dd⟩
end
section
variable {X:Cx} {z0:List (Addr×Obj)} {σ:St} {H:Hp} {s:Shared} {a:Addr} {kvs:List (Key×V)} {k:Key} {u:Value} {A:Around} {E:Value->Shared->Prop}
end
def YL(i:Expr):Prop:=∀ ov iv,subscripted i false ov iv=operate [ov,iv] (getItem ov iv)
theorem Fw{prog:Program}{w:World}{A:Around}{E:Value->Shared->Prop}{s:Shared}{env:Env}{value slice:Expr}{pos:Pos}{T id:String}{Q:Value->Shared->Prop}
  (hl:typeLookup (.type T) "__getitem__"=pure (some (.builtin id))) (hs:YL slice)
  (h:wpAny (model prog w) A (eval value env) (fun o s₁=>wpAny (model prog w) A (eval slice env) (fun i s₂=>s₂.TypeIs o T/\wpAny (model prog w) A (getItem o i) Q E s₂) E s₁) E s) :
  wpAny (model prog w) A (eval (.Subscript value slice pos) env) Q E s:=by
 refine Subscript_ (M5z h (fun o s₁ h₁=>M5z h₁ (fun i s₂ h₂=>?_) fun _ _ x=>x) fun _ _ x=>x);obtain⟨hT,h₂⟩:=h₂;unfold subscriptTail;refine N5z ?_;rw[getitemInPython_of_ne hT.not_modules];refine N5z (wpAny_specialOf hT hl ?_)
 have fin:wpAny (model prog w) A (subscripted slice false o i) (fun r s₃=>wpAny (model prog w) A (letTemporaryGo value o r >>=fun _=>pure r) Q E s₃) E s₂:=by
  rw[hs o i];exact wpAny_operating (M5z h₂ (fun r s₃ h₃=>N5z (wpAny_letTemporaryGo (O5z h₃))) fun _ _ x=>x)
 first
  | exact O5z (N5z fin)
  | exact N5z (O5z (N5z fin))
  | exact N5z fin
section
variable {X:Cx} {o i e value:Expr} {pos pos' tpos:Pos} {td ty tv:TE}
end
theorem BX{P:Program}{w:World}{H:Hp}(h:Heap)(hb:sysModules<h.objs.size):cG P w H (h.push { cls:=.type "dict",data:=.dict #[] }) h.objs.size (.dK []) :=
 ⟨H5z _,K1z.mpr (W5z (U4z hb)),[],.nil,Heap.DictOf.new h⟩
section
variable {X:Cx} {pos:Pos}
end
def nH:List (TE×TE)->St->Hp->(List (V×V)->Hp->Prop)->Prop
 | [],_,H,Q=>Q [] H
 | (tk,tv)::r,σ,H,Q=>tk σ H fun x H1=>tv σ H1 fun y H2=>nH r σ H2 fun ps H3=>Q ((x,y)::ps) H3
abbrev VV:List (V×V)->List (Value×Value)->Prop:=Paired fun p q=>RelV p.1 q.1/\RelV p.2 q.2
def PPs(X:Cx)(pos:Pos)(keys:List (Option Expr))(values:List Expr)(trs:List (TE×TE)):Prop :=
  ∀ (z0 : List (Addr × Obj)) (s : Shared) (σ : St) (H : Hp) (Q : List (V × V) -> Hp -> Prop), Inv X z0 σ H s -> nH trs σ H Q ->
    wpAny (model X.prog X.w) X.A (evalPairs (pairTrees keys values X.env pos)) (fun vs s'=>∃ ps H',Inv X z0 σ H' s'/\VV ps vs/\Q ps H') X.xe s
theorem wH{X:Cx}{pos:Pos}:PPs X pos [] [] []:=fun z0 s σ H Q I h=>pairTrees_nil_walk ⟨[],H,I,.nil,h⟩
theorem rT{X:Cx}{pos:Pos}{k v:Expr}{ks:List (Option Expr)}{vs:List Expr}{tk tv:TE}{trs:List (TE×TE)}(hk:PE X k tk)(hv:PE X v tv)(hr:PPs X pos ks vs trs) :
  PPs X pos (some k::ks) (v::vs) ((tk,tv)::trs):=fun z0 s σ H Q I h =>
 pairTrees_cons_walk (thn (hk z0 s σ H _ I h) fun u s1 ⟨x,H1,I1,rx,q1⟩=>thn (hv z0 s1 σ H1 _ I1 q1) fun w2 s2 ⟨y,H2,I2,ry,q2⟩ =>
  thn (hr z0 s2 σ H2 _ I2 q2) fun ws s3 ⟨ps,H3,I3,rel,q3⟩=>⟨(x,y)::ps,H3,I3,.cons ⟨rx,ry⟩ rel,q3⟩)
def gB(kvs more:List (Key×V)):List (Key×V):=more.foldl (fun acc kv=>putK acc kv.1 kv.2) kvs
theorem KV.merge:∀ {more:List (Key×V)} {rs:List (Key×Value)} {kvs:List (Key×V)} {vs:List (Key×Value)},KV more rs->KV kvs vs->KV (gB kvs more) (merged vs rs):=by
 intro more rs kvs vs r;unfold KV at r
 induction r generalizing kvs vs with
 | nil=>intro q;exact q
 | @cons p q ps qs h t ih =>
  intro r0
  have e:KV (putK kvs p.1 p.2) (stored vs q.1 q.2):=by
   have:=r0.put p.1 h.2;rw[<- h.1];exact this
  exact ih e
theorem gG:∀ (more kvs:List (Key×V)),(gB kvs more).length<=kvs.length+more.length
 | [],kvs=>by show kvs.length<=kvs.length+0;omega
 | p::r,kvs=>by
  have h1:=gG r (putK kvs p.1 p.2);have h2:=qF kvs p.1 p.2;show(gB (putK kvs p.1 p.2) r).length<=_;rw[W2z];omega
theorem kh{P:Program}{w:World}:∀ {kvs:List (Key×V)} {ws:List (Value×Value)},VV (kvs.map fun kv=>(kV kv.1,kv.2)) ws->∃ rs,Carries (bT P w) ws rs/\KV kvs rs
 | [],_,r=>by rw[Y4z] at r;cases r;exact⟨[],True.intro,.nil⟩
 | p::kvs,_,r=>by
  rw[O4z] at r
  cases r with
  | @cons a b as bs h t =>
   obtain⟨rs,c,q⟩:=kh (P:=P) (w:=w) t;obtain⟨b1,b2⟩:=b;exact⟨(p.1,b2)::rs,⟨Hq h.1,rfl,c⟩,.cons ⟨rfl,h.2⟩ q⟩
def O2(trs:List (TE×TE)):TE:=fun σ H Q=>∀ p,H p=none->nH trs σ (upd H p (.dK [])) fun ps H2=>H2 p=some (.dK [])/\∃ kvs:List (Key×V),ps=kvs.map (fun kv=>(kV kv.1,kv.2))/\kvs.length<=15/\Q (.ref p) (upd H2 p (.dK (gB [] kvs)))
theorem Gw{X:Cx}{pos:Pos}{keys:List (Option Expr)}{values:List Expr}{trs:List (TE×TE)}(h:PPs X pos keys values trs)(hall:keys.all (·.isSome)=true)(hl:keys.length=values.length)(h0:keys≠[])
  (h15:keys.length<=15):PE X (.Dict keys values pos) (O2 trs):=by
 intro z0 s σ H Q I q;have hn:=I.hok.fresh (F5z s.heap.objs.size);have I1:=I.laid (a:=s.heap.objs.size) (o:=.dK []) (h':=s.heap.push { cls:=.type "dict",data:=.dict #[] }) (t':=s.toks) (fun _ _ q=>Heap.get?_push_of_some _ q) (F5z _) (BX s.heap I.big);refine wpAny_Dict_walk (knd:=bT X.prog X.w) hall hl h0 h15 (thn (h z0 _ σ _ _ I1 (q _ hn)) fun ws s2 ⟨ps,H2,I2,rel,e,kvs,ep,lk,q2⟩=>?_);subst ep;obtain⟨rs,c,rk⟩:=kh (P:=X.prog) (w:=X.w) rel;obtain⟨z,hd,vs0,r0,dd⟩:=V2 I2.hok e;cases r0;refine⟨rs,c,dd,fun h' dd' hs=>⟨.ref s.heap.objs.size,_,?_,rfl,q2⟩⟩
 have hz:(gB [] kvs).length<=sizeLine:=by
  have h1:=gG kvs [];rw[R3z] at h1;rw[G5z];omega
 have he:∃ q,h'.get? s.heap.objs.size=some q:=let ⟨q,_,_,hq,_⟩:=dd';⟨q,hq⟩
 exact qL I2 (by rw[e];exact True.intro) hs he (Ng hz hd (rk.merge .nil) dd')
structure M2 (X:Cx) (o:Expr) (m:Str) (apos:Pos) (e f:Expr) (cpos:Pos):Prop where
 base:attributeBase o m X.env (eval o X.env)=eval o X.env
 few:((backTo cpos (starEach [e,f] X.env)).all (fun x => !x.1)&&(backToKw cpos (keywordEach [] X.env)).all (fun x=>x.1.isSome)
  && decide (([e,f]:List Expr).length+([]:List Keyword).length+(if([]:List Keyword).isEmpty then 0 else 1)<30))=true
 line:(apos.endLine==cpos.line)=true
 trees:backTo cpos (starEach [e,f] X.env)=[(false,eval e X.env),(false,eval f X.env)]
section
variable {X:Cx} {z0:List (Addr×Obj)} {σ:St} {H:Hp} {s:Shared} {a:Addr} {y d:V} {u r:Value} {o:Option V} {A:Around} {E:Value->Shared->Prop}
end
section
variable {X:Cx} {o e f:Expr} {apos cpos:Pos} {td ty tx:TE}
end
section
variable {X:Cx} {z0:List (Addr×Obj)} {σ:St} {H:Hp} {s:Shared} {a:Addr} {kvs:List (Key×V)} {A:Around} {E:Value->Shared->Prop}
end
section
variable {X:Cx} {z0:List (Addr×Obj)} {σ:St} {H:Hp} {s:Shared} {a:Addr} {y:V} {u:Value} {A:Around} {E:Value->Shared->Prop}
end
end L2
namespace Att
open PySem PySem.W PySem.Calls PyProof.Rows
section
variable {prog:Program} {w:World} {A:Around} {E:Value->Shared->Prop} {s:Shared} {K:Frag}
end
end Att
namespace L2
open PySem PySem.Spec PyProof.Rows
section
variable {P:Program} {w:World} {K:Z2} {mg:Str->Option Value} {base:Heap}
end
section
variable {X:Cx}
end
section
variable {κ:Type} [DecidableEq κ]
end
def KDc(K:Z2)(a:Addr)(kvs:List (Key×V)):Prop:=∃ (o:Obj) (es:Array DictEntry) (n:Nat),K.lookup a=some o/\o.ExactDict/\o.data=.dict es n/\(a==sysModules)=false/\(kvs.map (·.1)).Nodup/\Paired (fun(p:Key×V) (e:DictEntry)=>(∃ x t,p.1=.inr x/\e.key=.str x t)/\RelV p.2 e.val) kvs es.toList
def hsO(o:Obj):List Int:=match o.data with | .dict es _=>es.toList.map (·.hash) | _=>[]
def hsX(w:World)(o:Obj):List Int:=match o.data with | .dict es _=>es.toList.map (fun e=>match e.key with | .str x _=>hashStr w x | _=>e.hash) | _=>[]
def KnW(K:Z2)(w:World):Prop:=K.map (fun p=>hsO p.2)=K.map (fun p=>hsX w p.2)
theorem lookup_mem{α:Type}:∀ {l:List (Addr×α)} {a:Addr} {o:α},l.lookup a=some o->(a,o)∈l
 | (b,u)::r,a,o,h=>by
  rw[N2z] at h
  cases hb:a==b with
  | true =>
   rw[hb] at h
   have e1:a=b:=by simpa using hb
   cases h;subst e1;exact O1z
  | false =>
   rw[hb] at h;exact Y0z _ (lookup_mem h)
theorem KnW.at{K:Z2}{w:World}{a:Addr}{o:Obj}{es:Array DictEntry}{n:Nat}(kw:KnW K w)(h:K.lookup a=some o)(hd:o.data=.dict es n):∀ e∈es.toList,∀ x t,e.key=.str x t->e.hash=hashStr w x:=by
 have:=List.map_inj_left.mp kw (a,o) (lookup_mem h);simp only[hsO,hsX,hd] at this;intro e he x t hk;have q:=List.map_inj_left.mp this e he;rw[hk] at q;exact q
theorem xQ{P:Program}{w:World}{kvs:List (Key×V)}{es:List DictEntry}(p:Paired (fun(p:Key×V) (e:DictEntry)=>(∃ x t,p.1=.inr x/\e.key=.str x t)/\RelV p.2 e.val) kvs es)(hh:∀ e∈es,∀ x t,e.key=.str x t->e.hash=hashStr w x) :
  ∃ vs:List (Key×Value),KV kvs vs/\Pairs (bT P w) es vs/\vs.map (·.1)=kvs.map (·.1)/\∀ e∈es,∃ k,(bT P w).is k e.key=true/\e.hash=(bT P w).hash k:=by
 induction p with
 | nil=>exact⟨[],.nil,.nil,rfl,fun e he=>nomatch he⟩
 | @cons q e kvs es h t ih =>
  obtain⟨vs,h1,h2,h3,h4⟩:=ih fun e he=>hh e (Y0z _ he);obtain⟨⟨x,tk,g1,g2⟩,g3⟩:=h
  have gi:(bT P w).is q.1 e.key=true:=by
   rw[g1,g2];show Value.isStrOf x (.str x tk)=true;simp[Value.isStrOf]
  refine⟨(q.1,e.val)::vs,.cons ⟨rfl,g3⟩ h1,.cons gi rfl h2,by simp[h3],fun e' he=>?_⟩;rcases List.mem_cons.mp he with r | r
  ·subst r
   refine⟨q.1,gi,?_⟩;rw[hh _ O1z x tk g2,g1];rfl
  ·exact h4 e' r
def DAt(K:Z2)(H:Hp)(a:Addr)(kvs:List (Key×V)):Prop:=Rd H a (.dK kvs)\/KDc K a kvs
section
variable {X:Cx} {z0:List (Addr×Obj)} {σ:St} {H:Hp} {s:Shared} {a:Addr} {kvs:List (Key×V)} {k:Key} {v d:V} {u r:Value} {A:Around} {E:Value->Shared->Prop} {o i e f:Expr} {td ty tx:TE} {pos apos cpos:Pos}
theorem mW(I:Inv X z0 σ H s)(kw:KnW X.K X.w)(g:DAt X.K H a kvs):(a==sysModules)=false/\∃ vs,KV kvs vs/\s.heap.DictOf (bT X.prog X.w) a vs:=by
 rcases g with g | ⟨o,es,n,h1,h2,h3,h4,h5,h6⟩
 ·exact(Nf I.hok g).2
 ·obtain⟨vs,g1,g2,g3,g4⟩:=xQ (P:=X.prog) h6 (kw.at h1 h3)
  exact⟨h4,vs,g1,o,es,n,I.kIn a o h1,h2,h3,fun e he=>g4 e (by simpa using he),g2,by rw[g3];exact h5⟩
theorem xT{Q:Value->Shared->Prop}(I:Inv X z0 σ H s)(kw:KnW X.K X.w)(g:DAt X.K H a kvs)(l:some v=ud kvs k)(ry:RelV (kV k) u)(h:∀ w' s',Inv X z0 σ H s'->RelV v w'->Q w' s') :
  s.TypeIs (.ref a) "dict"/\wpAny (model X.prog X.w) A (getItem (.ref a) u) Q E s:=by
 obtain⟨hd,vs,rel,dd⟩:=mW I kw g;obtain⟨w',hw,rw'⟩:=zx.some_of (v:=v) (o:=valueAt vs k) (by rw[l];exact rel.val k);exact⟨dd.typeIs,wpAny_getItem_of (Hq ry) dd.mapOf hw (h w' _ (I.tok _) rw')⟩
def OJ(K:Z2)(td ty:TE):TE:=fun σ H Q=>td σ H fun x H1=>ty σ H1 fun y H2=>∃ a v kvs k,x=.ref a/\DAt K H2 a kvs/\y=kV k/\some v=ud kvs k/\Q v H2
theorem Gu(kw:KnW X.K X.w)(ho:PE X o td)(hi:PE X i ty)(hs:YL i):PE X (.Subscript o i pos) (OJ X.K td ty):=by
 intro z0 s σ H Q I h;refine Fw PySem.F.slot_dict_getitem.lookup hs (thn (ho z0 s σ H _ I h) fun u s1 ⟨x,H1,I1,rx,q1⟩=>thn (hi z0 s1 σ H1 _ I1 q1) fun iv s2 ⟨y,H2,I2,ry,a,v,kvs,k,ex,g,ey,l,q2⟩=>?_);subst ex;subst ey;obtain rfl:u=Value.ref a:=rx;exact xT I2 kw g l ry fun w' s3 I3 rw'=>⟨v,H2,I3,rw',q2⟩
def J1(K:Z2)(td ty tx:TE):TE:=fun σ H Q=>td σ H fun x H1=>∃ a kvs,x=.ref a/\DAt K H1 a kvs/\ty σ H1 fun y H2=>tx σ H2 fun z H3=>∃ k,DAt K H3 a kvs/\y=kV k/\Q ((ud kvs k).getD z) H3
theorem Ag(kw:KnW X.K X.w)(ho:PE X o td)(he:PE X e ty)(hf:PE X f tx)(m:M2 X o "get" apos e f cpos):PE X (.Call (.Attribute o "get" apos) [e,f] [] cpos) (J1 X.K td ty tx):=by
 intro z0 s σ H Q I h;refine wpAny_Call_method m.base m.few m.line K0z V0z PySem.F.type_dict_get (thn (ho z0 s σ H _ I h) fun u s1 ⟨x,H1,I1,rx,a,kvs,ex,d,q1⟩=>?_);subst ex;obtain rfl:u=Value.ref a:=rx;obtain⟨hd,vs,rel,dd⟩:=mW I1 kw d;refine⟨dd.typeIs,fun b q=>by cases q;obtain⟨ob,_,_,h1,h2,_⟩:=dd;exact⟨ob,h1,h2.2.1⟩,?_⟩;rw[m.trees]
 refine P0z rfl (A1z (R1z (thn (he z0 s1 σ H1 _ I1 q1) fun iv s2 ⟨y,H2,I2,ry,q2⟩ =>
  R1z (thn (hf z0 s2 σ H2 _ I2 q2) fun fv s3 ⟨z,H3,I3,rz,k,g,ey,q3⟩=>B2z ?_))))
 subst ey;obtain⟨hd3,vs3,rel3,dd3⟩:=mW I3 kw g;refine call_meetsIn V0z dd3.typeIs PySem.F.entry_dict_get (PySem.F.args_dict_get_3 _ _ _) (meets_dict_get_default (bT X.prog X.w) a (Hq ry) hd3 fv) ⟨_,dd3.mapOf,⟨_,H3,I3.tok _,?_,q3⟩⟩;exact(rel3.val k).getD rz
end
section
variable {prog:Program} {w:World} {A:Around} {E:Value->Shared->Prop} {s:Shared} {d it v:Addr} {od:Obj} {es:Array DictEntry} {ep i:Nat} {k0 v0:Value}
theorem Iu(hd:(d==sysModules)=false):MeetsIn prog w (Builtin.«dict.items» ⟨[.ref d],[]⟩) (fun _ R s=>s.TypeIs (.ref d) "dict" /\
   R (.ok (.ret (.ref s.heap.objs.size))) { s with heap:=s.heap.push { cls:=.type "dict_items",data:=.fields #[.ref d] } }) :=
 .of_wp fun A R s ⟨ht,q⟩=>by
  unfold Builtin.«dict.items» Builtin.Dict.noArgs;refine N5z (N5z (wpAny_notOrdered_dict ht ?_));show wpAny _ _ (pure d) _ _ s;apply O5z;show wpAny _ _ (Builtin.Dict.showsAll d >>=_) _ _ s;unfold Builtin.Dict.showsAll;simp only[hd,U1z,V5z];exact N5z (O5z (N5z (A2z (O5z ⟨_,rfl,q⟩))))
theorem Iz{Q:Value->Shared->Prop}(hv:s.heap.IsItemsView v d)(ho:s.heap.get? d=some od)(hd:od.data=.dict es ep)
  (q:Q (.ref s.heap.objs.size) { s with heap:=s.heap.push { cls:=.type "dict_itemiterator",data:=.fields #[.none,.bool false,.ref d,.int 0 0,.int es.size 0,.int ep 0,.none,.none] } }) :
  wpAny (model prog w) A (pyIter (.ref v)) Q E s:=by
 obtain⟨ov,e1,e2,e3⟩:=id hv;apply wpAny_pyIter_slot hv.typeIs F.slot_dict_items_iter;refine Q2z F.slot_dict_items_iter hv.typeIs F.entry_dict_items_iter ?_ (F.args_dict_items_iter_1 _);unfold Builtin.«dict_items.__iter__»;refine N5z (O5z (N5z ?_));unfold Builtin.Dict_items.dictOf;refine N5z (I5z e1 e3 (x:=.ref d) rfl (O5z (N5z ?_)));unfold Builtin.Dict_items.newIterator;refine N5z (wpAny_dictEntries ho hd (N5z (wpAny_dictEpoch ho hd ?_)))
 have ow:Builtin.Dict_items.ownsTuple "dict_itemiterator"=true:=by decide
 simp only[ow,X5z];refine A2z (O5z ⟨_,rfl,"dict_itemiterator",_,⟨_,Heap.get?_push_size _ rfl,rfl⟩,B0z.lookup,?_⟩) ?_
 ·simpa[rawInt,Builtin.Dict_items.ownedTupleFields] using q
 ·simp only[sizeOk,Builtin.Dict_items.ownedTupleFields,C2z,T1z,W2z,R3z,G5z];omega
theorem Iw{Q:Option Value->Shared->Prop}(hit:IsItemIter s.heap it d i es.size ep k0 v0)(ho:s.heap.get? d=some od)(hd:od.data=.dict es ep)(hi:i<es.size)
  (q : ∀ h', IsItemIterOut h' it d (i + 1) es.size ep es[i].key es[i].val s.heap.objs.size -> h'.get? s.heap.objs.size = some { cls := .type "tuple", data := .seq #[es[i].key, es[i].val] } -> h'.objs.size = s.heap.objs.size + 1 ->
   (∀ b o,b≠it->s.heap.get? b=some o->h'.get? b=some o)->Q (some (.ref s.heap.objs.size)) { s with heap:=h' }) :
  wpAny (model prog w) A (pyNext (.ref it)) Q E s:=by
 obtain⟨hp,g,dr,tk,os⟩:=s;have ty:Shared.TypeIs ⟨hp,g,dr,tk,os⟩ (.ref it) "dict_itemiterator":=⟨_,hit,rfl⟩
 have ow:Builtin.Dict_items.ownsTuple "dict_itemiterator"=true:=by decide
 unfold pyNext;apply N5z;apply wpAny_attempt;apply wpAny_callSpecial?_slot (name:=Str.ofString "__next__") ty B0z;refine Q2z B0z ty F.entry_dict_itemiterator_next ?_ (F.args_dict_itemiterator_next_1 _);refine N5z (O5z (N5z (N5z ?_)))
 first | refine N5z (A0z ty (O5z ?_)) | refine N5z (E0z ty (O5z ?_))
 apply N5z;apply wpAny_fieldsOf hit rfl;simp only[ow,X5z];show wpAny _ _ (if(Value.ref d==Value.none)=true then _ else _) _ _ _;rw[Z5z (show ¬ ((Value.ref d==Value.none)=true) from P1z)];refine N5z (O5z (N5z (wpAny_dictEntries ho hd ?_)));rw[Z5z (by simp)];refine N5z (O5z (N5z (wpAny_dictEpoch ho hd ?_)));rw[Z5z (by simp)];apply O5z;simp only[show ¬ ((i:Int)<0) from by omega,V5z,H2z,Array.getElem?_eq_getElem hi];apply N5z
 first | refine N5z (A0z ty (O5z ?_)) | refine N5z (E0z ty (O5z ?_))
 refine N5z (Q0z ty ?_);show wpAny _ _ (setField (.ref it) 3 (rawInt ((i:Int)+1)) >>=_) _ _ ⟨hp,g,dr,tk,os⟩;refine N5z (V1z hit (by simp) fun ha fa sa=>?_);have sa:Heap.SameBut it hp ha:=sa
 have fa:IsItemIter ha it d (i+1) es.size ep k0 v0:=by
  have e:((i+1:Nat):Int)=(i:Int)+1:=by omega
  unfold IsItemIter;rw[e];simpa[rawInt] using fa
 have ta:Shared.TypeIs ⟨ha,g,dr,tk,os⟩ (.ref it) "dict_itemiterator":=⟨_,fa,rfl⟩;refine N5z (M4z (N5z (Q0z ta (N5z (Q0z ta ?_)))));show wpAny _ _ (Builtin.Dict_items.pairFromOwner (.ref it) 6 es[i].key es[i].val) _ _ ⟨ha,g,dr,tk,os⟩;unfold Builtin.Dict_items.pairFromOwner;refine N5z (I4z ?_);have fb:IsItemIter (ha.push { cls:=.type "tuple",data:=.seq #[es[i].key,es[i].val] }) it d (i+1) es.size ep k0 v0:=Heap.get?_push_of_some _ fa;have za:ha.objs.size=hp.objs.size:=sa.1;have lt:it<hp.objs.size:=T4z hit
 have gb:(ha.push { cls:=.type "tuple",data:=.seq #[es[i].key,es[i].val] }).get? hp.objs.size=some { cls:=.type "tuple",data:=.seq #[es[i].key,es[i].val] }:=by rw[<- za];exact Heap.get?_push_size _ rfl
 have zb:(ha.push { cls:=.type "tuple",data:=.seq #[es[i].key,es[i].val] }).objs.size=hp.objs.size+1:=by rw[G4z,za]
 have kb:∀ b o,b≠it->hp.get? b=some o->(ha.push { cls:=.type "tuple",data:=.seq #[es[i].key,es[i].val] }).get? b=some o:=fun b o n e=>Heap.get?_push_of_some _ (sa.extBut b o n e);generalize ha.push { cls:=.type "tuple",data:=.seq #[es[i].key,es[i].val] }=hb at fb gb zb kb;show wpAny _ _ (Builtin.Dict_items.ownedTupleIsFree (.ref it) >>=_) _ _ ⟨hb,g,dr,tk,os⟩;rw[za];apply N5z;unfold Builtin.Dict_items.ownedTupleIsFree;refine N5z (I5z fb rfl (x:=.none) rfl (O5z ?_));simp only[X5z];refine N5z (I5z fb rfl (x:=k0) rfl (N5z (I5z fb rfl (x:=v0) rfl ?_)));refine N5z (V1z fb (by simp) fun hc fc sc=>?_);have sc:Heap.SameBut it hb hc:=sc;have fc:IsItemIter hc it d (i+1) es.size ep es[i].key v0:=fc;refine N5z (V1z fc (by simp) fun hd' fd sd=>?_);have sd:Heap.SameBut it hc hd':=sd;have fd:IsItemIter hd' it d (i+1) es.size ep es[i].key es[i].val:=fd;refine N5z (V1z fd (by simp) fun he fe se=>?_);have se:Heap.SameBut it hd' he:=se;have fe:IsItemIterOut he it d (i+1) es.size ep es[i].key es[i].val hp.objs.size:=fe;refine N5z (V1z fe (by simp) fun hf ff sf=>?_);have sf:Heap.SameBut it he hf:=sf;have ff:IsItemIterOut hf it d (i+1) es.size ep es[i].key es[i].val hp.objs.size:=ff;have all:∀ b o,b≠it->hb.get? b=some o->hf.get? b=some o:=fun b o n e=>sf.extBut b o n (se.extBut b o n (sd.extBut b o n (sc.extBut b o n e)));refine N5z (wpAny_letGo (O5z (O5z ⟨_,rfl,O5z (q hf ff ?_ ?_ ?_)⟩)))
 ·exact all _ _ (W4z lt) gb
 ·show hf.objs.size=hp.objs.size+1
  rw[sf.1,se.1,sd.1,sc.1,zb]
 ·exact fun b o n e=>all b o n (kb b o n e)
theorem Nb{Q:Option Value->Shared->Prop}(hh:A.handled=none)(hit:IsItemIter s.heap it d es.size es.size ep k0 v0)(ho:s.heap.get? d=some od)(hd:od.data=.dict es ep)
  (q:∀ h',Heap.ExtBut it s.heap h'->Q none { s with heap:=h' }):wpAny (model prog w) A (pyNext (.ref it)) Q E s:=by
 have ty:s.TypeIs (.ref it) "dict_itemiterator":=⟨_,hit,rfl⟩
 have ow:Builtin.Dict_items.ownsTuple "dict_itemiterator"=true:=by decide
 unfold pyNext;apply N5z;apply wpAny_attempt;apply wpAny_callSpecial?_slot (name:=Str.ofString "__next__") ty B0z;refine Q2z B0z ty F.entry_dict_itemiterator_next ?_ (F.args_dict_itemiterator_next_1 _);refine N5z (O5z (N5z (N5z ?_)))
 first | refine N5z (A0z ty (O5z ?_)) | refine N5z (E0z ty (O5z ?_))
 apply N5z;apply wpAny_fieldsOf hit rfl;simp only[ow,X5z];show wpAny _ _ (if(Value.ref d==Value.none)=true then _ else _) _ _ s;rw[Z5z (show ¬ ((Value.ref d==Value.none)=true) from P1z)];refine N5z (O5z (N5z (wpAny_dictEntries ho hd ?_)));rw[Z5z (by simp)];refine N5z (O5z (N5z (wpAny_dictEpoch ho hd ?_)));rw[Z5z (by simp)];apply O5z;simp only[show ¬ ((es.size:Int)<0) from by omega,V5z,H2z,Array.getElem?_eq_none (F5z es.size)];apply N5z
 first | refine N5z (A0z ty (O5z ?_)) | refine N5z (E0z ty (O5z ?_))
 show wpAny _ _ (setField (.ref it) 2 .none >>=_) _ _ s;apply N5z;refine wpAny_setField hit rfl (by simp) ?_;show wpAny _ _ (newExc (.type "StopIteration") [] >>=_) _ _ _;apply N5z;simp only[newExc,newTuple];refine N5z (A2z (N5z (m:=firstArgMember _ _) (wpAny_of_eq (a:=Value.none) (by first | rfl | (simp only[firstArgMember];rfl)) (A2z ?_ (by size_fits)))) (by size_fits));simp only[raiseNew];refine N5z (wpAny_handled ?_);rw[show A.in1.handled=none from hh];refine N5z (O5z (wpAny_throw ?_));refine N5z (wpAny_isInstance (T:="StopIteration") (b:=true) ⟨_,Heap.get?_push_size _ rfl,rfl⟩ isSubtype_stop ?_);exact O5z (q _ (((L1z ..).extBut.push _).push _))
end
def hKt(ks:List Int):Int:=reduceHash (Builtin.Tuple.tupleHashOf (ks.map fun k=>hashInt k))
abbrev En:=List Int×Addr×V
abbrev EnV:=List Int×Addr×Value
def YC(x:EnV):DictEntry:=⟨hKt x.1,.ref x.2.1,x.2.2⟩
abbrev KE:List En->List EnV->Prop:=Paired fun e x=>e.1=x.1/\e.2.1=x.2.1/\RelV e.2.2 x.2.2
def dtP(a:Addr)(es:List En)(o:Obj)(h:Heap):Prop:=h.get? a=some o/\(a==sysModules)=false/\es.length<=sizeLine/\∃ xs,KE es xs/\∃ ens ep,o.ExactDict/\o.data=.dict ens ep/\ens.toList=xs.map YC/\(xs.map (·.1)).Nodup
def DtO(a:Addr)(es:List En)(o:Obj):HO:=.ext (dtP a es o)
theorem Iv{p:Program}{w:World}{H:Hp}{h:Heap}{a:Addr}{es:List En}{o:Obj}(x:dtP a es o h):cG p w H h a (DtO a es o):=⟨x,⟨o,x.1⟩,fun _ _ q k=>⟨k _ q.1,q.2⟩⟩
def Keyed(K:Z2)(H:Hp)(es:List En):Prop:=∀ e∈es,SqT K H e.2.1 (e.1.map V.int)
theorem Keyed.same{K:Z2}{H H':Hp}{es:List En}(sm:∀ {a xs},SqT K H a xs->SqT K H' a xs)(h:Keyed K H es):Keyed K H' es:=fun e he=>sm (h e he)
theorem j7{p:Program}{w:World}:∀ {ks:List Int} {us:List Value},Vals (ks.map V.int) us->PySem.ItemsAre (intKind p w) ks us
 | [],_,r=>by rw[Y4z] at r;cases r;exact .nil
 | k::ks,_,r=>by
  rw[O4z] at r
  cases r with
  | cons h t =>
   obtain⟨u,rfl⟩:=h;exact .cons (by show Value.isInt k (.int k u)=true;simp[Value.isInt]) (j7 t)
def jz(es:List En)(k:List Int):Option V:=(es.find? fun e=>decide (e.1=k)).map (·.2.2)
def wC(es:List En)(k:List Int)(b:Addr)(v:V):List En:=if(jz es k).isSome then es.map (fun e=>if e.1=k then(e.1,e.2.1,v) else e) else es++[(k,b,v)]
theorem KE.look{es:List En}{xs:List EnV}(r:KE es xs)(k:List Int):zx (jz es k) ((atKey xs k).map (·.2)):=by
 induction r with
 | nil=>exact True.intro
 | @cons p q ps qs h t ih =>
  obtain⟨h1,_,h2⟩:=h;unfold jz atKey at ih ⊢;rw[List.find?_cons,List.find?_cons]
  by_cases e:p.1=k
  ·have e':q.1=k:=h1▸e
   simp only[e,e',J5z];exact h2
  ·have e':¬ q.1=k:=fun z=>e (h1.trans z)
   simp only[e,e',C5z];exact ih
theorem KE.put{es:List En}{xs:List EnV}(r:KE es xs)(k:List Int)(b:Addr){v:V}{u:Value}(rv:RelV v u):KE (wC es k b v) (storedH xs k b u):=by
 have e:(jz es k).isSome=(atKey xs k).isSome:=by rw[(r.look k).isSome_eq,Option.isSome_map]
 unfold wC storedH;rw[e];split
 ·rename_i q
  clear e q
  induction r with
  | nil=>exact .nil
  | @cons p q ps qs h t ih =>
   rw[O4z,O4z];refine .cons ?_ ih;obtain⟨h1,h2,h3⟩:=h;unfold putAt
   by_cases e:p.1=k
   ·rw[Y5z e,Y5z (h1▸e)];exact⟨h1,h2,rv⟩
   ·rw[Z5z e,Z5z fun z=>e (h1.trans z)];exact⟨h1,h2,h3⟩
 ·exact Paired.snoc r ⟨rfl,rfl,rv⟩
theorem z6(es:List En)(k:List Int)(b:Addr)(v:V):(wC es k b v).length<=es.length+1:=by
 unfold wC;split
 ·rw[J3z];omega
 ·simp
theorem z7{es:List En}{k:List Int}{b:Addr}{v:V}{e:En}(h:e∈wC es k b v):(∃ e'∈es,e.1=e'.1/\e.2.1=e'.2.1)\/(e.1=k/\e.2.1=b):=by
 unfold wC at h;split at h
 ·obtain⟨e',he,rfl⟩:=List.mem_map.mp h
  refine .inl ⟨e',he,?_⟩
  split<;>exact⟨rfl,rfl⟩
 ·rcases List.mem_append.mp h with h | h
  ·exact .inl ⟨e,h,rfl,rfl⟩
  ·rw[List.mem_singleton.mp h];exact .inr ⟨rfl,rfl⟩
section
variable {X:Cx} {z0:List (Addr×Obj)} {σ:St} {H:Hp} {s:Shared} {a b:Addr} {es:List En} {o:Obj} {k:List Int} {A:Around} {E:Value->Shared->Prop}
theorem key_is(I:Inv X z0 σ H s)(h:SqT X.K H b (k.map V.int)):(tupleKind (intKind X.prog X.w)).is s.heap k b:=by
 obtain⟨its,r,⟨o,e,c,n,d⟩,_⟩:=I.tuple h;exact⟨o,its.toArray,n,e,c,d,by simpa using j7 r⟩
theorem qK(I:Inv X z0 σ H s)(e:H a=some (DtO a es o))(ky:Keyed X.K H es):s.heap.get? a=some o/\(a==sysModules)=false/\es.length<=sizeLine/\∃ xs,KE es xs/\s.heap.DictOfH (tupleKind (intKind X.prog X.w)) a xs:=by
 obtain⟨h1,h2,h3,xs,h4,ens,ep,h5,h6,h7,h8⟩:=(I.hok a _ e).1;refine⟨h1,h2,h3,xs,h4,o,ens,ep,h1,h5,h6,h7,fun x hx=>?_,h8⟩
 have all:∀ {l:List En} {m:List EnV},KE l m->Keyed X.K H l->∀ x∈m,(tupleKind (intKind X.prog X.w)).is s.heap x.1 x.2.1:=by
  intro l m q
  induction q with
  | nil=>intro _ x hx;exact nomatch hx
  | @cons p q ps qs hq t ih =>
   intro ky x hx;rcases List.mem_cons.mp hx with e | hx
   ·subst e
    have:=key_is I (ky p O1z);rw[hq.1,hq.2.1] at this;exact this
   ·exact ih (fun e he=>ky e (Y0z _ he)) x hx
 exact all h4 ky x hx
theorem IK{z:V}{r:Value}{Q:Value->Shared->Prop}(hu:A.units+1<cLine)(I:Inv X z0 σ H s)(e:H a=some (DtO a es o))(ky:Keyed X.K H es)(kb:SqT X.K H b (k.map V.int))(rd:RelV z r)(h:∀ w' s',Inv X z0 σ H s'->RelV ((jz es k).getD z) w'->Q w' s') :
  wpAny (model X.prog X.w) A (call (.builtin "dict.get") [.ref a,.ref b,r]) Q E s:=by
 obtain⟨_,hd,hz,xs,rel,dd⟩:=qK I e ky;exact call_meetsIn V0z dd.typeIs PySem.F.entry_dict_get (PySem.F.args_dict_get_3 _ _ _) (meetsH_dict_get_default (tupleKind (intKind X.prog X.w)) a b hd r) ⟨tupleKind_room_in1 hu,k,xs,key_is I kb,dd,h _ _ (I.tok _) ((rel.look k).getD rd)⟩
def Px(K:Z2):V->V->V->Hp->(Hp->Prop)->Prop:=fun x i v H Q=>∃ a es o b k,x=.ref a/\i=.ref b/\H a=some (DtO a es o)/\Keyed K H es/\SqT K H b (k.map V.int)/\es.length<sizeLine/\∀ o',Q (upd H a (DtO a (wC es k b v) o'))
theorem Kd(hu:X.A.units+1<cLine):Wa X (Px X.K):=by
 intro z0 s σ H x i v ov iv u Q I ro ri rv h;obtain⟨a,es,o,b,k,rfl,rfl,e,ky,kb,hl,q⟩:=h;cases ro;cases ri;obtain⟨_,hd,hz,xs,rel,dd⟩:=qK I e ky
 have hz':xs.length<=sizeLine:=by rw[<- Paired.length rel];exact hz
 refine wpAny_setItem_heap (hsz:=hz') (tupleKind_room_in1 hu) (key_is I kb) dd fun h' dd' hs=>?_;obtain⟨o',ens,ep,hq,h2,h3,h4,_,h5⟩:=dd';refine⟨_,?_,q o'⟩;exact qL I (by rw[e];exact True.intro) hs ⟨o',hq⟩ (Iv ⟨hq,hd,by have:=z6 es k b v;omega,_,rel.put k b rv,ens,ep,h2,h3,h4,h5⟩)
end
def Y8(K:Z2)(tk tv:TE):TE:=fun σ H Q=>∀ p o,H p=none->nH [(tk,tv)] σ (upd H p (DtO p [] o)) fun ps H2=>H2 p=some (DtO p [] o)/\∃ b ks y,ps=[(.ref b,y)]/\SqT K H2 b (ks.map V.int)/\∀ o',Q (.ref p) (upd H2 p (DtO p [(ks,b,y)] o'))
def Y9:TE:=fun _ H Q=>∀ p o,H p=none->Q (.ref p) (upd H p (DtO p [] o))
theorem oY{p:Program}{w:World}{H:Hp}(h:Heap)(hb:sysModules<h.objs.size):cG p w H (h.push { cls:=.type "dict",data:=.dict #[] }) h.objs.size (DtO h.objs.size [] { cls:=.type "dict",data:=.dict #[] }) :=
 Iv ⟨Heap.get?_push_size _ rfl,K1z.mpr (W5z (U4z hb)),H5z _,[],.nil,#[],0,⟨rfl,rfl,rfl⟩,rfl,rfl,List.nodup_nil⟩
section
variable {X:Cx} {pos:Pos}
theorem K4:PE X (.Dict [] [] pos) Y9:=fun z0 s σ H Q I h =>
 wpAny_Dict_empty ⟨.ref s.heap.objs.size,_,I.laid (a:=s.heap.objs.size) (t':=s.toks) (fun _ _ q=>Heap.get?_push_of_some _ q) (F5z _) (oY s.heap I.big),rfl,h _ _ (I.hok.fresh (F5z _))⟩
theorem K3{k v:Expr}{tk tv:TE}(hu:X.A.units+1<cLine)(hk:PE X k tk)(hv:PE X v tv):PE X (.Dict [some k] [v] pos) (Y8 X.K tk tv):=by
 intro z0 s σ H Q I q;have hn:=I.hok.fresh (F5z s.heap.objs.size);have I1:=I.laid (a:=s.heap.objs.size) (h':=s.heap.push { cls:=.type "dict",data:=.dict #[] }) (t':=s.toks) (fun _ _ q=>Heap.get?_push_of_some _ q) (F5z _) (oY (p:=X.prog) (w:=X.w) (H:=upd H s.heap.objs.size (DtO s.heap.objs.size [] { cls:=.type "dict",data:=.dict #[] })) s.heap I.big)
 refine wpAny_Dict_any rfl rfl nofun (show 1<=15 by decide) (thn (rT (pos:=pos) hk hv wH z0 _ σ _ _ I1 (q _ _ hn)) fun ws s2 ⟨ps,H2,I2,rel,e,b,ks,y,eps,kb,q2⟩=>?_)
 subst eps
 cases rel with
 | @cons x1 x2 r1 r2 hr rr =>
  cases rr;obtain⟨u1,u2⟩:=x2;cases (show u1=Value.ref b from hr.1)
  obtain⟨_,hd,hz,xs,rel,dd⟩:=qK I2 e fun _ h=>nomatch h
  cases rel;show wpAny _ _ (storeAll _ [(Value.ref b,u2)]) _ _ _;unfold storeAll;rw[M3z];refine N5z (N5z (wpAny_dictSet_heap (hsz:=H5z _) (knd:=tupleKind (intKind X.prog X.w)) (by show X.A.units<cLine;omega) (key_is I2 kb) dd fun h' dd' hs=>O5z ?_));show wpAny _ _ (forIn [] PUnit.unit _) _ _ _;rw[F4z];obtain⟨o',ens,ep,hq,h2,h3,h4,_,h5⟩:=dd';refine O5z ⟨.ref s.heap.objs.size,_,?_,rfl,q2 o'⟩;exact qL I2 (by rw[e];exact True.intro) hs ⟨o',hq⟩ (Iv ⟨hq,hd,by rw[G5z];simp,_,KE.put (es:=[]) .nil ks b hr.2,ens,ep,h2,h3,h4,h5⟩)
def Y7(K:Z2)(td ty tx:TE):TE:=fun σ H Q=>td σ H fun x H1=>∃ a es o,x=.ref a/\H1 a=some (DtO a es o)/\Keyed K H1 es/\ty σ H1 fun y H2=>tx σ H2 fun z H3=>H3 a=some (DtO a es o)/\Keyed K H3 es/\∃ b k,y=.ref b/\SqT K H3 b (k.map V.int)/\Q ((jz es k).getD z) H3
theorem yL{X:Cx}{z0:List (Addr×Obj)}{σ:St}{H:Hp}{s:Shared}{a:Addr}{es:List En}{o:Obj}(I:Inv X z0 σ H s)(e:H a=some (DtO a es o)):s.TypeIs (.ref a) "dict"/\∀ b,Value.ref a=.ref b->∃ ob,s.heap.get? b=some ob/\ob.dict=none:=by
 obtain⟨h1,_,_,xs,_,ens,ep,h5,_⟩:=(I.hok a _ e).1;exact⟨⟨o,h1,h5.1⟩,fun b q=>by cases q;exact⟨o,h1,h5.2.1⟩⟩
theorem K1{o e f:Expr}{td ty tx:TE}{apos cpos:Pos}(hu:X.A.units+1<cLine)(ho:PE X o td)(he:PE X e ty)(hf:PE X f tx)(m:M2 X o "get" apos e f cpos):PE X (.Call (.Attribute o "get" apos) [e,f] [] cpos) (Y7 X.K td ty tx):=by
 intro z0 s σ H Q I h;refine wpAny_Call_method m.base m.few m.line K0z V0z PySem.F.type_dict_get (thn (ho z0 s σ H _ I h) fun u s1 ⟨x,H1,I1,rx,a,es,ob,ex,e1,ky,q1⟩=>?_);subst ex;obtain rfl:u=Value.ref a:=rx;obtain⟨t1,t2⟩:=yL I1 e1;refine⟨t1,t2,?_⟩;rw[m.trees];refine P0z rfl (A1z (R1z (thn (he z0 s1 σ H1 _ I1 q1) fun iv s2 ⟨y,H2,I2,ry,q2⟩=>R1z (thn (hf z0 s2 σ H2 _ I2 q2) fun fv s3 ⟨z,H3,I3,rz,e3,ky3,b,k,ey,kb,q3⟩=>B2z ?_))));subst ey;cases (show iv=Value.ref b from ry);exact IK hu I3 e3 ky3 kb rz fun w' s4 I4 rw'=>⟨_,H3,I4,rw',q3⟩
def ItT(K:Z2)(d:Addr)(es:List En)(o:Obj):It :=
 ⟨fun i H=>H d=some (DtO d es o)/\i<es.length,fun i H x H'=>∃ p e,H p=none/\x=.ref p/\es[i]?=some e/\H'=upd H p (.tup [.ref e.2.1,e.2.2]),fun i H=>H d=some (DtO d es o)/\i=es.length⟩
theorem Vv{es:List En}{xs:List EnV}(r:KE es xs){i:Nat}{e:En}(h:es[i]?=some e):∃ x,xs[i]?=some x/\e.1=x.1/\e.2.1=x.2.1/\RelV e.2.2 x.2.2:=by
 induction r generalizing i with
 | nil=>cases h
 | @cons p q ps qs hq t ih =>
  cases i with
  | zero=>cases h;exact⟨q,rfl,hq⟩
  | succ i=>exact ih (i:=i) (by simpa using h)
theorem uh{P:Program}{w:World}{K:Z2}{ts:List Expr}{kt:Nat}{pt:Pos}{d it:Addr}{es:List En}{o:Obj}{ens:Array DictEntry}{ep:Nat}(hd:o.data=.dict ens ep)(hz:ens.size=es.length)(hne:d≠it) :
  Turn P w K (.Tuple ts kt pt) (ItT K d es o) [it] it (fun i h=>∃ k0 v0,IsItemIter h it d i ens.size ep k0 v0) where
 mem:=by simp
 obj:=fun i h q b hb=>by
  obtain⟨k0,v0,q⟩:=q
  have e:b=it:=by simpa using hb
  subst e;exact⟨_,q,fun v z=>by have z':Data.fields _=Data.cell v:=z;cases z'⟩
 keep:=fun i h h' q k=>by
  obtain⟨k0,v0,q⟩:=q;exact⟨k0,v0,k it (by simp) _ q⟩
 item:=by
  intro X hP hw hK hc i z0 s σ H E I hf q hg;subst hP hw hK;obtain⟨k0,v0,q⟩:=q;obtain⟨e,hi⟩:=hg;obtain⟨h1,_,_,xs,rel,ens',ep',h5,h6,h7,h8⟩:=(I.hok d _ e).1;rw[hd] at h6;cases h6;obtain⟨x,gx,g1,g2,g3⟩:=Vv rel (List.getElem?_eq_getElem hi)
  have hi':i<ens.size:=by omega
  have ge:ens[i]=YC x:=by
   have:=congrArg (fun l=>l[i]?) h7;simp only[List.getElem?_map,gx,O3z,Array.getElem?_toList,Array.getElem?_eq_getElem hi'] at this;exact E3z this
  have lt:it<s.heap.objs.size:=T4z q;refine Iw q h1 hd hi' fun h' eo new sz kp=>?_
  have ek:ens[i].key=.ref (es[i]).2.1:=by rw[ge,g2];rfl
  have ev:RelV (es[i]).2.2 ens[i].val:=by rw[ge];exact g3
  have szl:2<=sizeLine:=by decide
  have I1:Inv X z0 σ (upd H s.heap.objs.size (.tup [.ref (es[i]).2.1,(es[i]).2.2])) { s with heap:=h' }:=I.turnedNew (t':=s.toks) (ch:=[it]) hf (fun b ob hb z=>kp b ob (fun w=>hb (by simp[w])) z) ⟨szl,[ens[i].key,ens[i].val],.cons ek (.cons ev .nil),⟨_,new,rfl,_,rfl⟩⟩;refine⟨_,rfl,wpAny_letOwnedTupleGo_items (s:={ s with heap:=h' }) eo fun h2 e2 sb=>?_⟩;obtain⟨f0,f1,f2,f3,f4,f5⟩:=hf it (by simp);have I2:Inv X z0 σ (upd H s.heap.objs.size (.tup [.ref (es[i]).2.1,(es[i]).2.2])) { s with heap:=h2 }:=I1.turned (t':=s.toks) (fun c ob hc' z=>(sb.2 c hc').trans z) (by rw[aJ (U4z lt)];exact f0) f1 f3 f4 f5
  exact⟨.ref s.heap.objs.size,_,I2,rfl,⟨_,_,I.hok.fresh (F5z _),rfl,List.getElem?_eq_getElem hi,rfl⟩,⟨_,_,e2⟩,fun b hb=>by
   have eb:b=it:=by simpa using hb
   subst eb
   rw[aJ (U4z lt)];exact f0⟩
 done:=by
  intro X hP hw hK hc i z0 s σ H E I hf q hg;subst hP hw hK;obtain⟨k0,v0,q⟩:=q;obtain⟨e,hi⟩:=hg;obtain⟨h1,_⟩:=(I.hok d _ e).1;rw[hi,<- hz] at q;obtain⟨f0,f1,f2,f3,f4,f5⟩:=hf it (by simp);exact Nb (I.ok.hd hc) q h1 hd fun h' eb=>⟨rfl,I.turned (t':=s.toks) (fun b ob hb z=>eb b ob hb z) f0 f1 f3 f4 f5⟩
 self:=fun A i s Q E q h=>by
  obtain⟨k0,v0,q⟩:=q;exact PySem.W.kcp_self q h
def Mq(K:Z2)(td:TE):TI:=fun σ H R=>td σ H fun x H1=>∃ a es o,x=.ref a/\H1 a=some (DtO a es o)/\R (ItT K a es o) H1
theorem Ae{o:Expr}{td:TE}{apos cpos pt:Pos}{ts:List Expr}{kt:Nat}(ho:PE X o td)(hbase:attributeBase o "items" X.env (eval o X.env)=eval o X.env)(hline:(apos.endLine==cpos.line)=true) :
  PI X (.Tuple ts kt pt) (.Call (.Attribute o "items" apos) [] [] cpos) (Mq X.K td):=by
 intro z0 s σ H R I h;refine wpAny_Call_method0_late hbase hline (thn (ho z0 s σ H _ I h) fun v s1 ⟨x,H1,I1,r1,a,es,ob,ex,e1,q1⟩=>?_);subst ex;cases (show v=Value.ref a from r1);obtain⟨t1,t2⟩:=yL I1 e1;obtain⟨h1,h2,h3,xs,rel,ens,ep,h5,h6,h7,h8⟩:=(I1.hok a _ e1).1
 have hz:ens.size=es.length:=by rw[<- H1z,h7,J3z,<- Paired.length rel]
 refine⟨"dict","dict.items",K0z,PySem.F.slot_dict_items,PySem.F.type_dict_items,t1,t2,P0z rfl (PySem.evalArgs_none ?_)⟩;refine call_meetsIn PySem.F.slot_dict_items t1 PySem.F.entry_dict_items (PySem.F.args_dict_items_1 _) (Iu h2) ⟨t1,?_⟩;have lt:a<s1.heap.objs.size:=T4z h1;refine Iz (s:={ s1 with heap:=s1.heap.push { cls:=.type "dict_items",data:=.fields #[.ref a] } }) ⟨_,Heap.get?_push_size _ rfl,rfl,rfl⟩ (Heap.get?_push_of_some _ h1) h6 ?_;refine⟨(s1.heap.push { cls:=.type "dict_items",data:=.fields #[.ref a] }).objs.size,_,_,_,H1,rfl,I1.kept (t':=s1.toks) fun b o e=>Heap.get?_push_of_some _ (Heap.get?_push_of_some _ e),uh h6 hz ?_,⟨_,_,Heap.get?_push_size _ rfl⟩,fun c hc=>?_,q1⟩
 ·rw[G4z];exact U4z (F2z lt)
 ·have hc':c=(s1.heap.push { cls:=.type "dict_items",data:=.fields #[.ref a] }).objs.size:=by simpa using hc
  have le:s1.heap.objs.size<=c:=by rw[hc',G4z];exact K5z _
  exact I1.fpOk le (I1.hok.fresh le)
end
section
variable {P:Program} {w:World} {H H':Hp} {h h':Heap} {a:Addr} {o:HO}
theorem cG.there(x:cG P w H h a o):∃ ob,h.get? a=some ob:=by
 cases o with
 | lst xs=>obtain⟨_,_,_,_,e⟩:=x;exact⟨_,e⟩
 | tup xs=>obtain⟨_,_,_,ob,e,_⟩:=x;exact⟨_,e⟩
 | dK kvs=>obtain⟨_,_,_,_,o,_,_,e,_⟩:=x;exact⟨_,e⟩
 | dT kvs=>obtain⟨_,_,_,_,o,_,_,e,_⟩:=x;exact⟨_,e⟩
 | set S n=>obtain⟨o,_,_,_,e,_⟩:=x;exact⟨_,e⟩
 | ins C dx fs=>obtain⟨_,_,_,e,_⟩:=x;exact⟨_,e⟩
 | own y=>exact x
 | xd fs=>obtain⟨_,⟨_,_,_,e,_⟩,_⟩:=x;exact⟨_,e⟩
 | rng lo hi=>obtain⟨_,_,_,e⟩:=x;exact⟨_,e⟩
 | frz ob u=>obtain⟨e,_⟩:=x;exact⟨_,e⟩
 | tbl ps=>exact⟨_,(show h.get? a=some _ from x)⟩
 | met f y=>exact⟨_,(show h.get? a=some _ from x)⟩
 | ext φ=>exact x.2.1
theorem HOk.none_of(x:HOk P w H h)(e:h.get? a=none):H a=none:=by
 cases q:H a with
 | none=>rfl
 | some u =>
  obtain⟨ob,r⟩:=(x a u q).there;rw[e] at r;cases r
theorem HOk.part{B:Heap}(x:HOk P w H h)(k:∀ b u ob,H b=some u->h.get? b=some ob->B.get? b=some ob):HOk P w H B:=fun b u e=>by
 refine(x b u e).stay (fun c v hc q=>?_) (fun _ q=>q) fun _ _ q=>q;rcases hc with rfl | hc
 ·exact k _ _ _ e q
 ·exact k _ _ _ hc q
end
section
variable {fs fs' ex:List Addr} {H H':Hp} {h h1 h2 B:Heap}
theorem Un.fly(U:Un fs [] H H' h h1)(kB:∀ b o,h.get? b=some o->H b=none->b∉fs->B.get? b=some o)(tB:∀ b o,h.get? b=some o->b∉fs->∃ o',B.get? b=some o')(st:B.StaysIn h2)
  (nf:∀ b∈fs,∀ o,h1.get? b=some o->∀ vs,o.data≠.fields vs) (up:h1.UpToSlots h2):Un fs [] H H' h h2 where
 keep:=fun b o q n hb _=>st b o (kB b o q n hb)
 slot:=fun b o q n hb hx=>by
  obtain⟨sl,e⟩:=U.slot b o q n hb hx;obtain⟨sl',e'⟩:=up b _ e (nf b hb _ e);exact⟨sl',e'⟩
 free:=U.free
 there:=fun b o q hx=>by
  by_cases hb:b∈fs
  ·obtain⟨o',e⟩:=U.there b o q hx
   obtain⟨sl,e'⟩:=up b _ e (nf b hb _ e);exact⟨_,e'⟩
  ·obtain⟨o',e⟩:=tB b o q hb
   exact⟨o',st b o' e⟩
 tups:=U.tups
 frzs:=U.frzs
 tbls:=U.tbls
theorem Un.restrict(U:Un fs' ex H H' h h1)(hs:∀ b o,b∈fs'->h.get? b=some o->b∈fs):Un fs ex H H' h h1 where
 keep:=fun b o q n hb hx=>U.keep b o q n (fun z=>hb (hs b o z q)) hx
 slot:=fun b o q n _ hx=>U.any q n hx
 free:=U.free
 there:=U.there
 tups:=U.tups
 frzs:=U.frzs
 tbls:=U.tbls
end
structure Fly (P:Program) (w:World) (outer:List Env) (H:Hp) (s:Shared) (H':Hp) (ea:Addr) (cls:Value) (s':Shared):Prop where
 os:s'.os=s.os
 bare:AllBare s'.gens
 un:Un (frs outer) [] H H' s.heap s'.heap
 fly:∃ B a0,Heap.FlyingW B outer ea cls a0 s'.heap/\HOk P w H' B/\(∀ b o,s.heap.get? b=some o->H b=none->b∉frs outer->B.get? b=some o)/\(∀ b o,s.heap.get? b=some o->b∉frs outer->∃ o',B.get? b=some o')
 fresh:s.heap.get? ea=none
def CX1(P:Program)(w:World):CXT:=fun outer H s E e s'=>∃ ea cls H',e=.ref ea/\Fly P w outer H s H' ea cls s'/\H' ea=none/\E cls none H'
theorem Qe{P:Program}{w:World}{X:Cx}:Passes (CX1 P w) X E0:=fun _ _ _ _ _ _ _ h=>by obtain⟨_,_,_,_,_,_,z⟩:=h;exact z.elim
theorem Am{B h:Heap}{l:List Env}(f:h.FunFrames B l):∀ b∈frs l,∀ o,h.get? b=some o->∀ vs,o.data≠.fields vs:=fun b hb o e=>by
 obtain⟨_,o',e',hd⟩:=f.mem hb;rw[e] at e';cases e';exact hd
section
variable {P:Program} {w:World} {K:Z2} {mg:Str->Option Value} {base:Heap} {N:List Str} {qual:Str} {scope:Scope} {f:Addr} {cd:Value} {A:Around} {outer:List Env} {s:Shared} {H:Hp} {E:XK}
theorem sY{env:Env}{L:Addr}(hf:env.frame=some L):frs (env::outer)=L::frs outer:=by
 unfold frs;rw[G1z,hf]
theorem wO:Passes (CX1 P w) (iu (CX1 P w) P w K mg base N qual scope f cd A outer s H E) E:=by
 intro z0 σ H1 s1 e s' I h;obtain⟨ea,cls,H',rfl,Fl,hn,hE⟩:=h;obtain⟨B,a0,fl,hokB,kB,tB⟩:=Fl.fly;have hfr:frs (iu (CX1 P w) P w K mg base N qual scope f cd A outer s H E).stack=s.heap.objs.size::frs outer:=sY rfl;have nL:∀ b o,s.heap.get? b=some o->b≠s.heap.objs.size:=fun b o q=>U4z (T4z q)
 have nin:∀ b o,s.heap.get? b=some o->b∉frs outer->b∉frs (iu (CX1 P w) P w K mg base N qual scope f cd A outer s H E).stack:=fun b o q hb z=>by
  rw[hfr] at z;rcases List.mem_cons.mp z with z | z
  ·exact nL b o q z
  ·exact hb z
 have noex:∀ b:Addr,b∉(iu (CX1 P w) P w K mg base N qual scope f cd A outer s H E).ex:=fun b z=>absurd (show b∈([]:List Addr) from z) (by simp);show wpAny _ _ (leaving _ (.ref ea)) _ _ _;refine wpAny_leaves_onW I.ok.frames rfl fl fun h2 fl2 up=>?_;refine⟨ea,cls,H',rfl,⟨Fl.os.trans I.os,Fl.bare,?_,⟨B,a0,fl2,hokB,fun b o q n hb=>?_,fun b o q hb=>?_⟩,?_⟩,hn,hE⟩
 ·have U1:=Un.fly Fl.un kB tB fl2.1 (Am fl.2.2.1) up
  have U0:Un (frs (iu (CX1 P w) P w K mg base N qual scope f cd A outer s H E).stack) [] H H1 s.heap s1.heap:=I.base.mono (fun b hb=>by rw[hfr];exact Y0z _ hb) (fun b hb=>hb)
  exact(U0.trans U1).restrict fun b o hb q=>by
   rw[hfr] at hb;rcases List.mem_cons.mp hb with z | z
   ·exact absurd z (nL b o q)
   ·exact z
 ·exact kB b o (I.base.keep b o q n hb (noex b)) (I.base.free b o q n (noex b)) (nin b o q hb)
 ·obtain⟨o1,q1⟩:=I.base.there b o q (noex b)
  exact tB b o1 q1 (nin b o q hb)
 ·cases q:s.heap.get? ea with
  | none=>rfl
  | some o =>
   obtain⟨o1,q1⟩:=I.base.there ea o q (noex ea);rw[Fl.fresh] at q1;cases q1
theorem uw{z0:List (Addr×Obj)}{σ:St}{H1:Hp}{s1:Shared}{C e:Addr}{h':Heap}{args:List Value}(I:Inv (iu (CX1 P w) P w K mg base N qual scope f cd A outer s H E) z0 σ H1 s1)(hx:Heap.MadeExcOf s1.heap h' e (.ref C) args)(hE:E (.ref C) none H1) :
  (iu (CX1 P w) P w K mg base N qual scope f cd A outer s H E).xe (.ref e) { s1 with heap:=h' }:=by
 have hfr:frs (iu (CX1 P w) P w K mg base N qual scope f cd A outer s H E).stack=s.heap.objs.size::frs outer:=sY rfl;have nL:∀ b o,s.heap.get? b=some o->b≠s.heap.objs.size:=fun b o q=>U4z (T4z q)
 have nin:∀ b o,s.heap.get? b=some o->b∉frs outer->b∉frs (iu (CX1 P w) P w K mg base N qual scope f cd A outer s H E).stack:=fun b o q hb z=>by
  rw[hfr] at z;rcases List.mem_cons.mp z with z | z
  ·exact nL b o q z
  ·exact hb z
 have noex:∀ b:Addr,b∉(iu (CX1 P w) P w K mg base N qual scope f cd A outer s H E).ex:=fun b z=>absurd (show b∈([]:List Addr) from z) (by simp);have hin:∀ env∈(iu (CX1 P w) P w K mg base N qual scope f cd A outer s H E).stack,∀ b,env.frame=some b->b∈frs (iu (CX1 P w) P w K mg base N qual scope f cd A outer s H E).stack:=fun env he b hb=>List.mem_filterMap.mpr ⟨env,he,hb⟩;show wpAny _ _ (leaving _ (.ref e)) _ _ _;have kB:∀ b o,s1.heap.get? b=some o->b∉frs (iu (CX1 P w) P w K mg base N qual scope f cd A outer s H E).stack->(PySem.W.hideAll s1.heap (frs (iu (CX1 P w) P w K mg base N qual scope f cd A outer s H E).stack)).get? b=some o:=fun b o q hb=>PySem.W.hideAll_get _ q hb;refine wpAny_leaves_madeW I.ok.frames rfl (fun b o q=>PySem.W.of_hideAll _ q) (PySem.W.funFrames_hide I.stack hin) hx fun h2 t x1 x2 x3 x4=>?_;have up:s1.heap.UpToSlots h2:=(Heap.UpToSlots.of_keeps hx.keeps).trans x4
 have hok:HOk P w H1 (PySem.W.hideAll s1.heap (frs (iu (CX1 P w) P w K mg base N qual scope f cd A outer s H E).stack)):=HOk.part I.hok fun b u ob hu q=>kB b ob q fun z=>by
  rw[I.stkFree b z] at hu;cases hu
 have hn:H1 e=none:=HOk.none_of I.hok hx.new;refine⟨e,.ref C,H1,rfl,⟨I.os,I.bare,?_,⟨_,_,x1,hok,fun b o q n hb=>?_,fun b o q hb=>?_⟩,?_⟩,hn,hE⟩
 ·have U1:Un (frs (iu (CX1 P w) P w K mg base N qual scope f cd A outer s H E).stack) [] H1 H1 s1.heap h2:=Un.fly Un.refl (fun b o q _ hb=>kB b o q hb) (fun b o q hb=>⟨o,kB b o q hb⟩) x1.1 (Am I.stack) up
  have U0:Un (frs (iu (CX1 P w) P w K mg base N qual scope f cd A outer s H E).stack) [] H H1 s.heap s1.heap:=I.base.mono (fun b hb=>by rw[hfr];exact Y0z _ hb) (fun b hb=>hb)
  exact(U0.trans U1).restrict fun b o hb q=>by
   rw[hfr] at hb;rcases List.mem_cons.mp hb with z | z
   ·exact absurd z (nL b o q)
   ·exact z
 ·exact kB b o (I.base.keep b o q n hb (noex b)) (nin b o q hb)
 ·obtain⟨o1,q1⟩:=I.base.there b o q (noex b)
  exact⟨o1,kB b o1 q1 (nin b o q hb)⟩
 ·cases q:s.heap.get? e with
  | none=>rfl
  | some o =>
   obtain⟨o1,q1⟩:=I.base.there e o q (noex e);have:=hx.new;rw[this] at q1;cases q1
end
def nsOk(K:Z2)(N:Addr):Bool:=match K.lookup N with
 | some ⟨_,_,.dict es _,_⟩=>es.toList.all (fun e=>match e.key with | .str _ _=>true | _=>false)&&(PySem.W.nsIn K N "__init__"==some none)
 | _=>false
def xIn(K:Z2)(C M:Addr):Bool:=match K.lookup C,K.lookup M with
 | some ⟨.type "type",_,.cls cd,sl⟩,some ⟨_,_,.cls cdM,_⟩ =>
  (match sl.toList with | [_,_,_,_,some (.builtin n),_]=>n=="ValueError.__new__" | _=>false)&&cd.mro==[.ref C,.ref M,.type "ValueError",.type "Exception",.type "BaseException",.type "object"] && !cd.hasDel&&nsOk K cd.ns&&nsOk K cdM.ns
 | _,_=>false
theorem wX{K:Z2}{N:Addr}(e:nsOk K N=true):∃ mN:Str->Option Value,mN "__init__"=none/\∀ h:Heap,K.In h->h.Ns N mN:=by
 unfold nsOk at e;split at e
 ·rename_i c d es n sl ho
  rw[X2z] at e;refine⟨nsFind es,?_,fun h X=>⟨_,es,n,X _ _ ho,rfl,fun en hen=>?_,fun _=>rfl⟩⟩
  ·have e2:PySem.W.nsIn K N "__init__"=some none:=by simpa using e.2
   unfold PySem.W.nsIn at e2;rw[ho] at e2;simp only at e2;unfold nsFind findBy;rw[<- Array.find?_toList];split at e2
   ·cases e2
   ·rename_i q
    rw[q];rfl
  ·have:=A3z.mp e.1 en (by simpa using hen)
   split at this
   ·rename_i x t hk;exact⟨x,t,hk⟩
   ·cases this
 ·cases e
theorem Jw{K:Z2}{C M:Addr}(e:xIn K C M=true):∃ nm q N bs hdct sn sub ab col dd k0 k1 k2 k3 k5 mN,mN "__init__"=none/\∀ h:Heap,K.In h ->
  h.get? C=some (excClassObj nm q C N bs [.ref M,.type "ValueError",.type "Exception",.type "BaseException",.type "object"] hdct sn sub ab col dd k0 k1 k2 k3 k5 "ValueError.__new__")/\h.Ns N mN /\
   OwnTail h [.type "ValueError",.type "Exception",.type "BaseException",.type "object"] [.ref M,.type "ValueError",.type "Exception",.type "BaseException",.type "object"]:=by
 unfold xIn at e;split at e
 ·rename_i dd cd sl cM dM cdM slM hC hM
  simp only[X2z,I2z] at e;obtain⟨⟨⟨⟨e1,e2⟩,e3⟩,e4⟩,e5⟩:=e;split at e1
  ·rename_i k0 k1 k2 k3 n k5 hs
   have en:n="ValueError.__new__":=by simpa using e1
   subst en
   have hsl:sl = #[k0,k1,k2,k3,some (.builtin "ValueError.__new__"),k5]:=by
    obtain⟨l⟩:=sl;simp only at hs;rw[hs]
   have em:cd.mro=[.ref C,.ref M,.type "ValueError",.type "Exception",.type "BaseException",.type "object"]:=by simpa using e2
   obtain⟨nm,bs,mro,ns,qn,hd,sn,sub,ab,col,del⟩:=cd;simp only at em e3 e4;subst em e3 hsl;obtain⟨mN,n2,n1⟩:=wX e4;obtain⟨mM,m2,m1⟩:=wX e5;exact⟨_,_,_,_,_,_,_,_,_,_,_,_,_,_,_,mN,n2,fun h X=>⟨X _ _ hC,n1 h X,.own (X _ _ hM) (m1 h X) m2 .base⟩⟩
  ·cases e1
 ·cases e
section
variable {X:Cx}
theorem zW{x:Str}{C M:Addr}{np cpos pos:Pos}{txt:Str}{j:Nat}{p1:Pos}{Q:Flow->Shared->Prop}{z0:List (Addr×Obj)}{σ:St}{H:Hp}{s:Shared}(I:Inv X z0 σ H s)(hc:X.A.handled=none)(hg:Gl X x)(hm:X.mg x=some (.ref C))(hd:(x==("__debug__":Str))=false)(hx:xIn X.K C M=true)
  (k:∀ (s2:Shared) (h':Heap) (e:Addr) (args:List Value),Inv X z0 σ H s2->Heap.MadeExcOf s2.heap h' e (.ref C) args->X.xe (.ref e) { s2 with heap:=h' }) :
  wpAny (model X.prog X.w) X.A (exec (.Raise (some (.Call (.Name x np) [.Constant (.str txt) j p1] [] cpos)) none pos) X.env) Q X.xe s:=by
 obtain⟨nm,q,N,bs,hdct,sn,sub,ab,col,dd,k0,k1,k2,k3,k5,mN,hni,fx⟩:=Jw hx
 refine wpAny_Raise_call_subU (C:=C) (nm:=nm) (q:=q) (N:=N) (bs:=bs) (bm:=[.ref M,.type "ValueError",.type "Exception",.type "BaseException",.type "object"]) (hdct:=hdct) (sn:=sn) (sub:=sub) (ab:=ab) (col:=col) (dd:=dd) (k0:=k0) (k1:=k1) (k2:=k2) (k3:=k3) (k5:=k5)
  F.excBase_ValueError (by decide) F.excBase_ValueError (mN:=mN) ((fx _ I.kIn).2.2.hasType F.excBase_ValueError.hasBase) hc rfl hni (jA I hg hm ⟨rfl,?_⟩ hd)
 have ha:PA X [.Constant (.str txt) j p1] (J2 (tC (.str txt)) Wj):=bB Df cY;show wpAny _ _ (evalArgs (.ref C) true (backTo cpos ((false,eval (.Constant (.str txt) j p1) X.env)::starEach [] X.env)) []) _ _ _;refine A1z (M5z (ha cpos z0 s σ H (fun vs H1=>vs.length<=1/\H1=H) I ⟨F5z _,rfl⟩) (fun us s2 hq=>?_) fun _ _ y=>y);obtain⟨vs,H1,I1,r,q1,rfl⟩:=hq;obtain⟨f1,f2,f3⟩:=fx _ I1.kIn
 have h1:(1:Nat)<=sizeLine:=by decide
 have h2:=r.length;exact⟨rfl,(show us.length<=sizeLine by omega),f1,f2,f3,fun h' e hm'=>k s2 h' e us I1 hm'⟩
end
abbrev Cx.inSuite(X:Cx)(e:Value)(xe:Value->Shared->Prop):Cx:={ X with A:=X.A.mark (some e),calm:=false,xe:=xe }
section
variable {X:Cx} {z0:List (Addr×Obj)} {σ:St} {H H':Hp} {s s':Shared} {e:Value} {xe:Value->Shared->Prop}
theorem Inv.inSuite(I:Inv X z0 σ H s)(e:Value)(xe:Value->Shared->Prop):Inv (X.inSuite e xe) z0 σ H s :=
 ⟨⟨I.ok.mod,I.ok.kind,I.ok.glob,I.ok.blt,I.ok.above,I.ok.inj,I.ok.has,I.ok.cab,fun z=>(nomatch z),I.ok.frames,I.ok.stk,I.ok.exf,I.ok.bs,I.ok.bsz,I.ok.noex,I.ok.exfs,I.ok.funs,I.ok.frf⟩,I.os,I.bare,I.base,I.loc,I.cell,I.free,I.freeC,I.pin,I.hok,I.len⟩
theorem Inv.outSuite(ok:X.Ok)(I:Inv (X.inSuite e xe) z0 σ H s):Inv X z0 σ H s:=⟨ok,I.os,I.bare,I.base,I.loc,I.cell,I.free,I.freeC,I.pin,I.hok,I.len⟩
theorem Inv.unbound{i:Nat}{x:Str}{v:Option Value}{m:Str->Option Value}{h':Heap}{t':Nat}(I:Inv X z0 σ H s)(hN:X.N.Nodup)(hi:X.N[i]?=some x)(hm:s.heap.Ns X.env.locals m)(hn:h'.Ns X.env.locals (fun y=>if y=x then v else m y))(hs:Heap.SameBut X.env.locals s.heap h') :
  Inv X z0 (σ.set i none) H { s with heap:=h',toks:=t' }:=by
 have cne:=I.cne
 have hiσ:i<σ.length:=by rw[I.len];exact(List.getElem?_eq_some_iff.mp hi).1
 obtain⟨m0,hn0,hl⟩:=id I.loc
 have hmm:∀ y,m0 y=m y:=fun y=>by
  obtain⟨o1,es1,ep1,g1,g2,_,g3⟩:=hn0;obtain⟨o2,es2,ep2,f1,f2,_,f3⟩:=hm;rw[g1] at f1;cases f1;rw[g2] at f2;cases f2;rw[<- g3,<- f3]
 obtain⟨oL,_,_,hoL,_⟩:=id hn0
 have tracked:HOk X.prog X.w H h':=fun b ob e=>by
  refine(I.hok b ob e).stay (fun c w' hc q=>(hs.2 c ?_).trans q) (fun _ q=>q) fun _ _ q=>q;rintro rfl;rcases hc with rfl | hc
  ·rw[I.free] at e;cases e
  ·rw[I.free] at hc;cases hc
 refine⟨I.ok,I.os,I.bare,⟨fun b o e n hb hx=>?_,fun b o e n hb hx=>?_,I.base.free,fun b o e hx=>?_,I.base.tups,I.base.frzs,I.base.tbls⟩,⟨_,hn,fun j y v' e1 e2 e3=>?_⟩,fun y c e=>?_,I.free,I.freeC,fun p hp=>?_,tracked,by simpa using I.len⟩
 ·exact(hs.2 b (U4z (N1z (T4z e) I.ok.above))).trans (I.base.keep b o e n hb hx)
 ·obtain⟨sl,e1⟩:=I.base.slot b o e n hb hx
  exact⟨sl,(hs.2 b (U4z (N1z (T4z e) I.ok.above))).trans e1⟩
 ·obtain⟨o',e1⟩:=I.base.there b o e hx
  exact⟨o',(hs.2 b (U4z (N1z (T4z e) I.ok.above))).trans e1⟩
 ·by_cases hj:j=i
  ·subst hj
   rw[List.getElem?_set_self hiσ] at e2;cases e2
  ·rw[List.getElem?_set_ne (W5z hj)] at e2
   obtain⟨u',r',q⟩:=hl j y v' e1 e2 e3;refine⟨u',r',?_⟩;rcases q with⟨k,e⟩ | ⟨k,c,e,z⟩
   ·refine .inl ⟨k,?_⟩
    have:y≠x:=fun e=>hj (lY hN e1 (e▸hi));simp only[this,V5z];rw[<- hmm];exact e
   ·exact .inr ⟨k,c,e,z.sameBut hs (cne y c e)⟩
 ·obtain⟨w',z⟩:=I.cell y c e
  exact⟨w',z.sameBut hs (cne y c e)⟩
 ·obtain⟨e,n,ne,nf,d⟩:=I.pin p hp
  exact⟨(hs.2 p.1 ne).trans e,n,ne,nf,d⟩
end
def isX(a:Addr)(cls:Value)(h:Heap):Prop:=∃ o,h.get? a=some o/\o.cls=cls/\∃ vs,o.data=.fields vs
theorem Ml{P:Program}{w:World}{H:Hp}{h:Heap}{a:Addr}{cls:Value}(x:isX a cls h):cG P w H h a (.ext (isX a cls)) :=
 ⟨x,let ⟨o,e,_⟩:=x;⟨o,e⟩,fun _ _ ⟨o,e,r⟩ k=>⟨o,k o e,r⟩⟩
section
variable {X:Cx} {z0:List (Addr×Obj)} {σ:St} {H H':Hp} {s s':Shared} {ea:Addr} {cls:Value}
theorem Fly.lands{h2:Heap}{B:Heap}{t':Nat}(I:Inv X z0 σ H s)(Fl:Fly X.prog X.w X.stack H s H' ea cls s')(hokB:HOk X.prog X.w H' B)(U:Un (frs X.stack) [] H H' s.heap h2)(st:B.StaysIn h2):Inv X z0 σ H' { s' with heap:=h2,toks:=t' } :=
 I.call' (s':={ s' with heap:=h2,toks:=t' }) Fl.os U (hokB.kept st) Fl.bare (fun b z=>absurd z (by simp))
end
def kI(K:Z2)(C:Addr):Bool :=
 PySem.W.findIn K (.ref C) "__getattribute__"==some (some (.builtin "BaseException.__getattribute__"))&&PySem.W.findIn K (.ref C) "__getattr__"==some none&&PySem.W.findIn K (.ref C) "__class__"==some (some (.builtin "object.__class__")) &&
  PySem.W.mroIn K C (.type "object")==some true&&PySem.W.mroIn K C (.type "BaseException")==some true&&(PySem.W.clsIn K C).isSome
section
open PySem.Builtin PySem.Builtin.ObjectAttr PySem.Builtin.Getset_descriptor
variable {prog:Program} {w:World} {A:Around} {E:Value->Shared->Prop} {K:Z2} {h:Heap} {g:Array GenState} {d:Drawn} {t:Nat} {os:OsState} {a C:Addr} {o:Obj}
theorem xty{M:Model}(hx:h.get? a=some o)(hc:o.cls=.ref C):PySem.W.Looks M h (typeOf (.ref a)) (.ref C):=hc▸(PySem.W.Looks.ld hx).andThen .now
theorem tZ{R:Result->Shared->Prop}(X:K.In h)(hx:h.get? a=some o)(hc:o.cls=.ref C)(hm:PySem.W.mroIn K C (.type "object")=some true)(hq:R (.ok (.ret (.ref C))) ⟨h,g,d,t,os⟩) :
  codeAny (model prog w) A (.call (.builtin "getset_descriptor.__get__") ⟨[.builtin "object.__class__",.ref a,.ref C],[]⟩) R ⟨h,g,d,t,os⟩:=by
 have hT5:(⟨h,g,d,t,os⟩:Shared).TypeIs (.builtin "object.__class__") "getset_descriptor":=W0z;have L0:=xty (M:=model prog w) hx hc;have L1:=PySem.W.looks_mroIn (M:=model prog w) X hm;refine codeAny_call_builtin PySem.W.KF.slot_gs.plain PySem.W.KF.entry_gs (PySem.W.KF.slot_gs.check _ _ _ _ _ _ _ _ PySem.W.KF.type_class (PySem.W.KF.args_gs _ _ _) ?_);unfold Builtin.«getset_descriptor.__get__» descrGet;rw[PySem.W.dga_obj];refine N5z (O5z ?_);unfold descrGetter descrCheckInstance descrNameAndClass isInstance;simp only[PySem.W.KF.owner_class]
 repeat lk
 refine⟨Code.quiet_builtin _ (by decide +kernel),codeAny_builtin PySem.W.KF.entry_class ?_⟩;unfold Builtin.«object.__class__» shownTypeOf
 repeat lk
 exact hq
theorem nA{tk:Tok}{Q:Fin->Shared->Prop}(X:K.In h)(hx:h.get? a=some o)(hc:o.cls=.ref C)(hm:PySem.W.mroIn K C (.type "object")=some true)(hf:PySem.W.findIn K (.ref C) "__class__"=some (some (.builtin "object.__class__")))(hq:Q (.done (.ret (.ref C))) ⟨h,g,d,t,os⟩) :
  wpAny (model prog w) A (Builtin.«object.__getattribute__» ⟨[.ref a,.str "__class__" tk],[]⟩) Q E ⟨h,g,d,t,os⟩:=by
 have hT5:(⟨h,g,d,t,os⟩:Shared).TypeIs (.builtin "object.__class__") "getset_descriptor":=W0z;have f5:=W0z;have f6:=F.slot_gs_get.lookup;have f7:=F.slot_gs_set.lookup;have LF:=C1z (M:=model prog w) X hf
 repeat (any_goals (first | assumption | (with_reducible refine wpAny_loadPart_at hx ?_;rw[hc]) | with_reducible refine LF.at ?_ | wp_step))
 refine tZ X hx hc hm ?_
 repeat (any_goals (first | assumption | wp_step))
theorem nC{M:Model}{nameV:Value}{Q:Unit->Shared->Prop}(X:K.In h)(hx:h.get? a=some o)(hc:o.cls=.ref C)(hm:PySem.W.mroIn K C (.type "BaseException")=some true)(hq:Q () ⟨h,g,d,t,os⟩):wpAny M A (checkBuiltinCall "BaseException.__getattribute__" ⟨[.ref a,nameV],[]⟩) Q E ⟨h,g,d,t,os⟩:=by
 have hk:builtinKind "BaseException.__getattribute__"=some .slot:=by decide +kernel
 have hsplit:splitId "BaseException.__getattribute__"=some ("BaseException","__getattribute__"):=by decide +kernel
 have ha:=F.args_bexc_ga (.ref a) nameV;have LM:=PySem.W.looks_mroIn (M:=M) X hm;simp only[checkBuiltinCall,hk,hsplit];refine N5z ?_
 ·unfold isInstance
  repeat (first | (with_reducible refine wpAny_loadPart_at hx ?_;rw[hc]) | with_reducible refine LM.at ?_ | wp_step)
  exact hq
theorem u5{tk:Tok}{fill expr:Bool}{Q:Value->Shared->Prop}(X:K.In h)(hx:h.get? a=some o)(hc:o.cls=.ref C)(hA:kI K C=true)(hq:Q (.ref C) ⟨h,g,d,t,os⟩) :
  wpAny (model prog w) A (getAttrBy (.ref a) (.str "__class__" tk) fill expr) Q E ⟨h,g,d,t,os⟩:=by
 unfold kI at hA;simp only[X2z,Q5z] at hA;obtain⟨⟨⟨⟨⟨g1,g2⟩,g3⟩,g4⟩,g5⟩,g6⟩:=hA;have f3:=F.excAttr_ValueError.ga.bind (.ref a)
 have hx0:(expr&&onTheHeap (Value.builtin "BaseException.__getattribute__"))=false:=by cases expr<;>rfl
 have hx2:(Value.builtin "BaseException.__getattribute__"==Value.builtin "object.__getattribute__")=false:=by decide +kernel
 have hx1:(onTheHeap (Value.ref C)&&Value.builtin "BaseException.__getattribute__"==Value.builtin "object.__getattribute__")=false:=by rw[hx2];rfl
 have L1:=C1z (M:=model prog w) X g1;have L2':=C1z (M:=model prog w) X g2
 repeat (any_goals (first | assumption | (with_reducible refine wpAny_loadPart_at hx ?_;rw[hc]) | with_reducible refine L1.at ?_ | with_reducible refine L2'.at ?_ | wp_step))
 refine codeAny_call_builtin F.excAttr_ValueError.ga.plain F.entry_bexc_ga (nC X hx hc g5 (nA X hx hc g4 g3 ?_))
 repeat (any_goals (first | assumption | wp_step))
theorem Ju{Q:Option Value->Shared->Prop}(X:K.In h)(hx:h.get? a=some o)(hc:o.cls=.ref C)(hA:kI K C=true)(hq:Q (some (.ref C)) ⟨h,g,d,t+1,os⟩) :
  wpAny (model prog w) A (getAttr? (.ref a) "__class__") Q E ⟨h,g,d,t,os⟩:=by
 unfold getAttr? getAttrBy?
 repeat (any_goals (first | assumption | with_reducible apply u5 X hx hc hA | wp_step))
end
theorem Bc{K:Z2}{a C:Addr}(hA:kI K C=true):PySem.W.KitX K (.ref a) (.ref C) (isX a (.ref C)) where
 ty:=fun _ _ _ ⟨o,e,c,_⟩=>xty e c
 it:=fun _ _ X _=>by
  unfold kI at hA;rw[X2z] at hA;obtain⟨cdD,hcD⟩:=Option.isSome_iff_exists.mp hA.2;unfold PySem.W.clsIn at hcD;split at hcD
  ·rename_i c' d' cd' sl' ho
   intro A' Q' E' s' k q;unfold isType loadHead;exact N5z (wpAny_loadPart (k _ _ (X _ _ ho)) (O5z q))
  ·cases hcD
 ne:=fun h tp dd its n sl X htp=>by
  unfold kI at hA;rw[X2z] at hA;obtain⟨cdD,hcD⟩:=Option.isSome_iff_exists.mp hA.2;refine Bool.eq_false_iff.mpr fun q=>?_;have e:C=tp:=Value.ref.inj (Q5z.mp q);subst e;unfold PySem.W.clsIn at hcD;split at hcD
  ·rename_i c' d' cd' sl' ho
   have z:=(X _ _ ho).symm.trans htp;cases z
  ·cases hcD
 ca:=fun {prog w A E Q s} X p k=>by
  obtain⟨h,g,d,t,os⟩:=s;obtain⟨o,e,c,_⟩:=p;exact Ju X e c hA k
section
variable {X:Cx} {z0:List (Addr×Obj)} {σ:St} {H H':Hp} {s s':Shared} {ea C:Addr}
theorem caught{c n kn:Str}{Mc:Addr}{np p1 p2 p3 hp:Pos}{i j:Nat}{Q:Flow->Shared->Prop}(I:Inv X z0 σ H s)(Fl:Fly X.prog X.w X.stack H s H' ea (.ref C) s')(hn:H' ea=none)(hst:X.stack=X.env::X.outer/\X.env.frame=some X.env.locals)
  (hg:Gl X c) (hm:X.mg c=some (.ref Mc)) (hcd:(c==("__debug__":Str))=false) (hx:PySem.W.exmOne X.K (.ref C) (.ref Mc)=some true) (nd:X.N.Nodup) (hi:X.N[i]?=some n) (hj:X.N[j]?=some kn) (hij:i≠j)
  (ln:X.env.scope.names.lookup n=some .local) (lk:X.env.scope.names.lookup kn=some .local) (d1:(n==("__debug__":Str))=false) (d2:(n==("__classdict__":Str))=false)
  (k:∀ s2,Inv X z0 ((σ.set j (some (.ref ea))).set i none) (upd H' ea (.ext (isX ea (.ref C)))) s2->Q .next s2) :
  wpAny (model X.prog X.w) X.A (noteFrame (.ref ea) X.env) (fun _ s₂=>wpAny (model X.prog X.w) X.A (setFlight (.ref ea) none) (fun _ s₃ =>
   wpAny (model X.prog X.w) X.A (handleBy (.ref ea) X.env [.ExceptHandler (some (.Name c np)) (some n) [.Assign [.Name kn p1] (.Name n p2) p3] hp]) Q X.xe s₃) X.xe s₂) X.xe s':=by
 obtain⟨B,a0,fl,hokB,kB,tB⟩:=Fl.fly
 have hfr:X.A.frames=some (X.env::X.outer):=by rw[<- hst.1];exact I.ok.frames
 have fl':Heap.FlyingW B (X.env::X.outer) ea (.ref C) a0 s'.heap:=by rw[<- hst.1];exact fl
 refine wpAny_looks_onW hfr hst.2 fl' fun h4 held4 up4=>?_;refine wpAny_landsW held4 fun h5 fl5 up5=>?_;have U5:Un (frs X.stack) [] H H' s.heap h5:=Un.fly Fl.un kB tB fl5.1 (Am fl.2.2.1) (up4.trans up5);have I5:Inv X z0 σ H' { s' with heap:=h5 }:=Fly.lands I Fl hokB U5 fl5.1;refine wpAny_handleBy_cons (codeAny_handlers_test ?_) (by intro q;cases q);refine jA (I5.inSuite (.ref ea) X.xe) hg hm ?_ hcd
 have LT:PySem.W.Looks (model X.prog X.w) h5 (typeOf (.ref ea)) (.ref C):=by
  obtain⟨ob,hob,hoc⟩:=fl5.there;exact xty hob hoc
 refine(PySem.W.exm_one I5.kIn LT hx).here ?_;refine codeAny_handlers_suite_as ?_;refine lands_againW fl5 fun h6 fl6 up6=>?_;have U6:Un (frs X.stack) [] H H' s.heap h6:=Un.fly Fl.un kB tB fl6.1 (Am fl.2.2.1) ((up4.trans up5).trans up6)
 have hX6:isX ea (.ref C) h6:=by
  obtain⟨oe,ws,e1,e2,e3,_⟩:=fl6.first
  exact⟨oe,e1,e2,ws,e3⟩
 have hok6:HOk X.prog X.w (upd H' ea (.ext (isX ea (.ref C)))) h6:=fun b u e=>by
  by_cases hb:b=ea
  ·subst hb;rw[aP] at e;cases e;exact Ml hX6
  ·rw[aJ hb] at e
   exact((hokB.kept fl6.1) b u e).stay (fun _ _ _ q=>q) (fun b' q=>by rw[aJ (au q hn)];exact q) fun b' xs q=>by rw[aJ (au q hn)];exact q
 have U6':Un (frs X.stack) [] H (upd H' ea (.ext (isX ea (.ref C)))) s.heap h6:=by
  refine⟨U6.keep,U6.slot,fun b o q n hx=>?_,U6.there,fun b xs q=>?_,fun b o u q=>?_,fun b ps q=>?_⟩
  ·rw[aJ (fun z=>by rw[z,Fl.fresh] at q;cases q)]
   exact U6.free b o q n hx
  ·have:=U6.tups b xs q
   rw[aJ (au this hn)];exact this
  ·have:=U6.frzs b o u q
   rw[aJ (au this hn)];exact this
  ·obtain⟨more,e⟩:=U6.tbls b ps q
   exact⟨more,by rw[aJ (au e hn)];exact e⟩
 have I6:Inv X z0 σ (upd H' ea (.ext (isX ea (.ref C)))) { s' with heap:=h6 }:=I.call' (s':={ s' with heap:=h6 }) Fl.os U6' hok6 Fl.bare (fun b z=>absurd z (by simp));refine f9 (X:=X.inSuite (.ref ea) X.xe) (I6.inSuite (.ref ea) X.xe) nd hi (.inl ln) (v:=.ref ea) rfl (fun s7 I7=>?_) (.inr ln)
 have hiσ:i<σ.length:=by rw[I.len];exact(List.getElem?_eq_some_iff.mp hi).1
 have hps:PSs (X.inSuite (.ref ea) fun _ _=>False) [.Assign [.Name kn p1] (.Name n p2) p3] (Wi (NZ (NT i) (Bo j)) Ft):=lM (jo (X:=X.inSuite (.ref ea) fun _ _=>False) nd hj (.inl lk) (ju (X:=X.inSuite (.ref ea) fun _ _=>False) hi (.inl ln) d1 d2) rfl (.inr lk)) wD;have I7':Inv (X.inSuite (.ref ea) fun _ _=>False) z0 (σ.set i (some (.ref ea))) (upd H' ea (.ext (isX ea (.ref C)))) s7:=(I7.outSuite I.ok).inSuite _ _;refine M5z (hps z0 s7 _ _ { nx:=fun σ' H''=>σ'=(σ.set i (some (.ref ea))).set j (some (.ref ea))/\H''=upd H' ea (.ext (isX ea (.ref C))),rt:=fun _ _=>False } I7' ⟨.ref ea,by rw[List.getElem?_set_self hiσ],rfl,rfl⟩) (fun f s8 h8=>?_) fun _ _ z=>z.elim
 cases f with
 | next =>
  obtain⟨σ8,H8,I8,rfl,rfl⟩:=h8;have I8':Inv X z0 ((σ.set i (some (.ref ea))).set j (some (.ref ea))) (upd H' ea (.ext (isX ea (.ref C)))) s8:=I8.outSuite I.ok;obtain⟨m,hm8,_⟩:=id I8'.loc;refine wpAny_nameGoes_keeps ln hm8 (by rw[I.ok.kind];rfl) fun h9 v hn9 hs9=>?_;have I9:=I8'.unbound (t':=s8.toks+1) nd hi hm8 hn9 hs9
  have eσ:(((σ.set i (some (V.ref ea))).set j (some (.ref ea))).set i none)=((σ.set j (some (.ref ea))).set i none):=by
   rw[List.set_comm _ _ hij,List.set_set]
  rw[eσ] at I9;exact k _ I9
 | brk=>obtain⟨_,_,_,z⟩:=h8;exact z.elim
 | cont=>obtain⟨_,_,_,z⟩:=h8;exact z.elim
 | ret u=>obtain⟨_,_,_,_,_,z⟩:=h8;exact z.elim
end
end L2
namespace L2
open PySem PySem.Spec PyProof.Rows DE PySem.SeqAt
theorem Same.tup{K:Z2}{H H':Hp}{a:Addr}{xs:List V}(e:Same H H')(h:SqT K H a xs):SqT K H' a xs:=by
 rcases h with(h | ⟨o,h⟩) | h
 ·exact .inl (.inl (e _ _ h))
 ·exact .inl (.inr ⟨o,e _ _ h⟩)
 ·exact .inr h
mutual
def Rep(K:Z2)(H:Hp):D->V->Prop
 | .non,v=>v=.non
 | .bl b,v=>v=.bl b
 | .int i,v=>v=.int i
 | .str x,v=>v=.str x
 | .tup ds,v=>∃ a vs,v=.ref a/\SqT K H a vs/\aM K H ds vs
 | .lst ds,v=>∃ a vs,v=.ref a/\SqL K H a vs/\aM K H ds vs
 | .exc c,v=>∃ a C,v=.ref a/\PySem.W.nsIn K mainGlobals c=some (some (.ref C))/\H a=some (.ext (isX a (.ref C)))
 | .dic ks ds,v=>∃ (a:Addr) (kvs:List (Key×V)),v=.ref a/\DAt K H a kvs/\kvs.map (·.1)=ks/\aM K H ds (kvs.map (·.2))
 | .dt ks ds,v=>∃ (a:Addr) (es:List En) (o:Obj),v=.ref a/\H a=some (DtO a es o)/\es.map (·.1)=ks/\Keyed K H es/\aM K H ds (es.map (·.2.2))
def aM(K:Z2)(H:Hp):List D->List V->Prop
 | [],vs=>vs=[]
 | d::ds,vs=>∃ v r,vs=v::r/\Rep K H d v/\aM K H ds r
end
mutual
theorem Rep.same{K:Z2}{H H':Hp}(e:Same H H'):∀ (d:D) (v:V),Rep K H d v->Rep K H' d v
 | .non,v,h=>by simpa[Rep] using h
 | .bl b,v,h=>by simpa[Rep] using h
 | .int i,v,h=>by simpa[Rep] using h
 | .str x,v,h=>by simpa[Rep] using h
 | .tup ds,v,h=>by
  simp only[Rep] at h ⊢;obtain⟨a,vs,h1,h2,h3⟩:=h;exact⟨a,vs,h1,e.tup h2,aM.same e ds vs h3⟩
 | .lst ds,v,h=>by
  simp only[Rep] at h ⊢;obtain⟨a,vs,h1,h2,h3⟩:=h;exact⟨a,vs,h1,e.seq h2,aM.same e ds vs h3⟩
 | .exc c,v,h=>by
  simp only[Rep] at h ⊢;obtain⟨a,C,h1,h2,h3⟩:=h;exact⟨a,C,h1,h2,e _ _ h3⟩
 | .dic ks ds,v,h=>by
  simp only[Rep] at h ⊢;obtain⟨a,kvs,h1,h2,h3,h4⟩:=h;refine⟨a,kvs,h1,?_,h3,aM.same e ds _ h4⟩;rcases h2 with(h2 | ⟨o,h2⟩) | h2
  ·exact .inl (.inl (e _ _ h2))
  ·exact .inl (.inr ⟨o,e _ _ h2⟩)
  ·exact .inr h2
 | .dt ks ds,v,h=>by
  simp only[Rep] at h ⊢;obtain⟨a,es,o,h1,h2,h3,h4,h5⟩:=h;exact⟨a,es,o,h1,e _ _ h2,h3,h4.same fun h=>e.tup h,aM.same e ds _ h5⟩
theorem aM.same{K:Z2}{H H':Hp}(e:Same H H'):∀ (ds:List D) (vs:List V),aM K H ds vs->aM K H' ds vs
 | [],vs,h=>by simpa[aM] using h
 | d::ds,vs,h=>by
  simp only[aM] at h ⊢;obtain⟨v,r,h1,h2,h3⟩:=h;exact⟨v,r,h1,Rep.same e d v h2,aM.same e ds r h3⟩
end
theorem aM.length{K:Z2}{H:Hp}:∀ {ds:List D} {vs:List V},aM K H ds vs->ds.length=vs.length
 | [],vs,h=>by simp only[aM] at h;subst h;rfl
 | d::ds,vs,h=>by
  simp only[aM] at h;obtain⟨v,r,rfl,_,h3⟩:=h;simp[h3.length]
theorem aM.nil{K:Z2}{H:Hp}:aM K H [] []:=by simp[aM]
theorem aM.cons{K:Z2}{H:Hp}{d:D}{ds:List D}{v:V}{vs:List V}(h:Rep K H d v)(r:aM K H ds vs):aM K H (d::ds) (v::vs):=by
 simp only[aM];exact⟨v,vs,rfl,h,r⟩
theorem aM.append{K:Z2}{H:Hp}:∀ {ds es:List D} {vs us:List V},aM K H ds vs->aM K H es us->aM K H (ds++es) (vs++us)
 | [],es,vs,us,h,h'=>by simp only[aM] at h;subst h;exact h'
 | d::ds,es,vs,us,h,h'=>by
  simp only[aM] at h;obtain⟨v,r,rfl,h2,h3⟩:=h;exact .cons h2 (h3.append h')
theorem aM.get{K:Z2}{H:Hp}:∀ {ds:List D} {vs:List V} {i:Nat} {d:D},aM K H ds vs->ds[i]?=some d->∃ v,vs[i]?=some v/\Rep K H d v
 | [],vs,i,d,_,e=>by simp at e
 | d'::ds,vs,0,d,h,e=>by
  simp only[aM] at h;obtain⟨v,r,rfl,h2,h3⟩:=h;simp at e;subst e;exact⟨v,rfl,h2⟩
 | d'::ds,vs,i+1,d,h,e=>by
  simp only[aM] at h;obtain⟨v,r,rfl,h2,h3⟩:=h;obtain⟨u,e1,e2⟩:=h3.get (i:=i) (d:=d) (by simpa using e);exact⟨u,by simpa using e1,e2⟩
theorem aM.take{K:Z2}{H:Hp}:∀ (n:Nat) {ds:List D} {vs:List V},aM K H ds vs->aM K H (ds.take n) (vs.take n)
 | 0,_,_,_=>by simpa using aM.nil
 | n+1,[],vs,h=>by simp only[aM] at h;subst h;simpa using aM.nil
 | n+1,d::ds,vs,h=>by
  simp only[aM] at h;obtain⟨v,r,rfl,h2,h3⟩:=h;simpa using aM.cons h2 (h3.take n)
theorem aM.drop{K:Z2}{H:Hp}:∀ (n:Nat) {ds:List D} {vs:List V},aM K H ds vs->aM K H (ds.drop n) (vs.drop n)
 | 0,_,_,h=>by simpa using h
 | n+1,[],vs,h=>by simp only[aM] at h;subst h;simpa using aM.nil
 | n+1,d::ds,vs,h=>by
  simp only[aM] at h;obtain⟨v,r,rfl,h2,h3⟩:=h;simpa using h3.drop n
theorem aM.reverse{K:Z2}{H:Hp}:∀ {ds:List D} {vs:List V},aM K H ds vs->aM K H ds.reverse vs.reverse
 | [],vs,h=>by simp only[aM] at h;subst h;simpa using aM.nil
 | d::ds,vs,h=>by
  simp only[aM] at h;obtain⟨v,r,rfl,h2,h3⟩:=h;simpa using h3.reverse.append (.cons h2 .nil)
structure Ext (Hs H Hs' H':Hp):Prop where
 vis:Same Hs Hs'
 all:Same H H'
 sub:Same Hs' H'
 hid:∀ b o,H b=some o->Hs b=none->Hs' b=none
theorem Ext.refl{Hs H:Hp}(h:Same Hs H):Ext Hs H Hs H:=⟨.refl _,.refl _,h,fun _ _ _ h=>h⟩
theorem Ext.trans{Hs H Hs1 H1 Hs2 H2:Hp}(a:Ext Hs H Hs1 H1)(b:Ext Hs1 H1 Hs2 H2):Ext Hs H Hs2 H2 :=
 ⟨a.vis.trans b.vis,a.all.trans b.all,b.sub,fun c o h1 h2=>b.hid c o (a.all c o h1) (a.hid c o h1 h2)⟩
theorem Ext.new{Hs H:Hp}(h:Same Hs H){p:Addr}(o:HO)(hp:H p=none):Ext Hs H (upd Hs p o) (upd H p o) where
 vis:=fun b u e=>by rw[aJ (au (h b u e) hp)];exact e
 all:=fun b u e=>by rw[aJ (au e hp)];exact e
 sub:=fun b u e=>by
  by_cases hb:b=p
  ·subst hb;rw[aP] at e ⊢;exact e
  ·rw[aJ hb] at e ⊢;exact h b u e
 hid:=fun b u e n=>by rw[aJ (au e hp)];exact n
theorem isT{X:Cx}{z0:List (Addr×Obj)}{σ:St}{H:Hp}{s:Shared}{a:Addr}{vs:List V}(I:Inv X z0 σ H s)(h:SqT X.K H a vs):∃ its:List Value,Vals vs its/\s.heap.IsTuple a its.toArray:=by
 obtain⟨its,r,p,_⟩:=I.tuple h;exact⟨its,r,p⟩
theorem isL{X:Cx}{z0:List (Addr×Obj)}{σ:St}{H:Hp}{s:Shared}{a:Addr}{vs:List V}(I:Inv X z0 σ H s)(h:SqL X.K H a vs):∃ its:List Value,Vals vs its/\s.heap.IsList a its.toArray:=by
 obtain⟨its,r,p,_⟩:=I.list h;exact⟨its,r,p.isList⟩
mutual
theorem mV:∀ d:D,dep d<1000->deq d d=true
 | .non,_=>rfl
 | .bl b,_=>by simp[deq]
 | .int i,_=>by simp[deq]
 | .str x,_=>by simp[deq]
 | .tup xs,h=>by simp only[deq];exact jF xs (by simp only[dep] at h;omega)
 | .lst xs,h=>by simp only[deq];exact jF xs (by simp only[dep] at h;omega)
 | .exc c,h=>absurd h (by simp[dep])
 | .dic _ _,h=>absurd h (by simp[dep])
 | .dt _ _,h=>absurd h (by simp[dep])
theorem jF:∀ ds:List D,deps ds<1000->oZ ds ds=true
 | [],_=>rfl
 | d::ds,h=>by
  simp only[deps] at h;simp only[oZ,mV d (by omega),jF ds (by omega),Q4z]
end
theorem tH:∀ {xs ys:List D} {e:Nat->Bool},(∀ (j:Nat) (x y:D),xs[j]?=some x->ys[j]?=some y->e j=deq x y)->((List.range (min xs.length ys.length)).all e&&xs.length==ys.length)=oZ xs ys
 | [],[],_,_=>rfl
 | [],y::ys,_,_=>by simp[oZ]
 | x::xs,[],_,_=>by simp[oZ]
 | x::xs,y::ys,e,h=>by
  have ih:=tH (xs:=xs) (ys:=ys) (e:=fun j=>e (j+1)) fun j a b e1 e2=>h (j+1) a b (by simpa using e1) (by simpa using e2);have h0:=h 0 x y rfl rfl;simp only[oZ,<- ih,<- h0,W2z];rw[show min (xs.length+1) (ys.length+1)=min xs.length ys.length+1 by omega,List.range_succ_eq_map,List.all_cons,List.all_map];rw[Bool.and_assoc];congr 1;congr 1;simp
section
variable {X:Cx} {z0:List (Addr×Obj)} {σ:St} {H:Hp} {s:Shared}
mutual
theorem Rep.inj(I:Inv X z0 σ H s):∀ (d d':D) (v:V),dep d<1000->dep d'<1000->Rep X.K H d v->Rep X.K H d' v->d=d'
 | .non,d',v,z,z',h,h'=>by simp only[Rep] at h;subst h;cases d'<;>simp[Rep] at h' ⊢
 | .bl b,d',v,z,z',h,h'=>by simp only[Rep] at h;subst h;cases d'<;>simp[Rep] at h' ⊢;exact h'
 | .int b,d',v,z,z',h,h'=>by simp only[Rep] at h;subst h;cases d'<;>simp[Rep] at h' ⊢;exact h'
 | .str b,d',v,z,z',h,h'=>by simp only[Rep] at h;subst h;cases d'<;>simp[Rep] at h' ⊢;exact h'
 | .tup ds,d',v,z,z',h,h'=>by
  simp only[Rep] at h;obtain⟨a,vs,rfl,h2,h3⟩:=h
  cases d' with
  | tup es =>
   simp only[Rep] at h';obtain⟨a',vs',e,h2',h3'⟩:=h';cases e;have:=I.tuple_inj h2 h2';subst this;rw[aM.inj I ds es vs (by simp only[dep] at z;omega) (by simp only[dep] at z';omega) h3 h3']
  | lst es =>
   simp only[Rep] at h';obtain⟨a',vs',e,h2',h3'⟩:=h';cases e;obtain⟨i1,_,p1⟩:=isT I h2;obtain⟨i2,_,p2⟩:=isL I h2';exact absurd rfl (ne_of_list_tuple p2 p1)
  | non=>simp[Rep] at h'
  | bl _=>simp[Rep] at h'
  | int _=>simp[Rep] at h'
  | str _=>simp[Rep] at h'
  | exc _=>exact absurd z' (by simp[dep])
  | dic _ _=>exact absurd z' (by simp[dep])
  | dt _ _=>exact absurd z' (by simp[dep])
 | .lst ds,d',v,z,z',h,h'=>by
  simp only[Rep] at h;obtain⟨a,vs,rfl,h2,h3⟩:=h
  cases d' with
  | lst es =>
   simp only[Rep] at h';obtain⟨a',vs',e,h2',h3'⟩:=h';cases e;have:=I.list_inj h2 h2';subst this;rw[aM.inj I ds es vs (by simp only[dep] at z;omega) (by simp only[dep] at z';omega) h3 h3']
  | tup es =>
   simp only[Rep] at h';obtain⟨a',vs',e,h2',h3'⟩:=h';cases e;obtain⟨i1,_,p1⟩:=isL I h2;obtain⟨i2,_,p2⟩:=isT I h2';exact absurd rfl (ne_of_list_tuple p1 p2)
  | non=>simp[Rep] at h'
  | bl _=>simp[Rep] at h'
  | int _=>simp[Rep] at h'
  | str _=>simp[Rep] at h'
  | exc _=>exact absurd z' (by simp[dep])
  | dic _ _=>exact absurd z' (by simp[dep])
  | dt _ _=>exact absurd z' (by simp[dep])
 | .exc c,d',v,z,z',h,h'=>absurd z (by simp[dep])
 | .dic _ _,d',v,z,z',h,h'=>absurd z (by simp[dep])
 | .dt _ _,d',v,z,z',h,h'=>absurd z (by simp[dep])
theorem aM.inj(I:Inv X z0 σ H s):∀ (ds es:List D) (vs:List V),deps ds<1000->deps es<1000->aM X.K H ds vs->aM X.K H es vs->ds=es
 | [],es,vs,z,z',h,h'=>by
  simp only[aM] at h;subst h
  cases es with
  | nil=>rfl
  | cons e es=>simp[aM] at h'
 | d::ds,es,vs,z,z',h,h'=>by
  simp only[aM] at h;obtain⟨v,r,rfl,h2,h3⟩:=h
  cases es with
  | nil=>simp[aM] at h'
  | cons e es =>
   simp only[aM] at h';obtain⟨v',r',e',h2',h3'⟩:=h';cases e';simp only[deps] at z z';rw[Rep.inj I d e v (by omega) (by omega) h2 h2',aM.inj I ds es r (by omega) (by omega) h3 h3']
end
def eJ(ds es:List D)(j:Nat):Bool:=match ds[j]?,es[j]? with
 | some x,some y=>deq x y
 | _,_=>true
theorem yK(ds es:List D):((List.range (min ds.length es.length)).all (eJ ds es)&&ds.length==es.length)=oZ ds es :=
 tH fun j x y e1 e2=>by unfold eJ;rw[e1,e2]
theorem yJ(ds es:List D)(h:ds.length=es.length):(List.range ds.length).all (eJ ds es)=oZ ds es:=by
 rw[<- yK ds es,<- h];simp
theorem mU:∀ {xs ys:List D},xs.length≠ys.length->oZ xs ys=false
 | [],[],h=>absurd rfl h
 | [],_::_,_=>rfl
 | _::_,[],_=>rfl
 | x::xs,y::ys,h=>by
  simp only[oZ,mU (xs:=xs) (ys:=ys) (by intro e;exact h (by simp[e])),J4z]
theorem iQ{A:Around}:A.in1.units=A.units+1:=rfl
inductive Vw (s:Shared):D->Value->Prop
 | n:Vw s .non .none
 | b (c:Bool):Vw s (.bl c) (.bool c)
 | i (c:Int) (t:Tok):Vw s (.int c) (.int c t)
 | s (c:Str) (t:Tok):Vw s (.str c) (.str c t)
 | t {ds:List D} {a:Addr} {its:Array Value} (p:s.heap.IsTuple a its):Vw s (.tup ds) (.ref a)
 | l {ds:List D} {a:Addr} {its:Array Value} (p:s.heap.IsList a its):Vw s (.lst ds) (.ref a)
theorem view(I:Inv X z0 σ H s){d:D}{v:V}{u:Value}(h:Rep X.K H d v)(r:RelV v u)(z:dep d<1000):Vw s d u:=by
 cases d<;>simp only[Rep] at h<;>first
  | (simp[dep] at z;done)
  | (subst h;first | (cases (show u=_ from r);constructor;done) | (obtain⟨t,rfl⟩:=r;constructor;done))
  | (obtain⟨a,vs,rfl,h2,h3⟩:=h;cases (show u=Value.ref a from r);first | exact .t (isT I h2).choose_spec.2 | exact .l (isL I h2).choose_spec.2)
def Vq:D->D->Bool
 | .tup _,.tup _=>false
 | .lst _,.lst _=>false
 | _,_=>true
theorem gO{A:Around}{d d':D}{u u':Value}(a:Vw s d u)(b:Vw s d' u')(hu:A.units<cLine)(k:Vq d d'=true):EqAt A s u u' (deq d d'):=by
 cases a with
 | n =>
  cases b with
  | n=>exact EqAt.same _
  | b e=>exact EqAt.none_bool e
  | i e f=>exact EqAt.none_int e f
  | s e f=>exact EqAt.none_str e f
  | t q=>exact EqAt.none_tuple q hu
  | l q=>exact EqAt.none_list q hu
 | b c =>
  cases b with
  | n=>exact EqAt.bool_none c
  | b e=>exact EqAt.bool_bool c e
  | i e f=>exact EqAt.bool_int c e f
  | s e f=>exact EqAt.bool_str c e f
  | t q=>exact EqAt.bool_tuple c q hu
  | l q=>exact EqAt.bool_list c q hu
 | i c t =>
  cases b with
  | n=>exact EqAt.int_none c t
  | b e=>exact EqAt.int_bool c t e
  | i e f=>exact EqAt.int_int c t e f
  | s e f=>exact EqAt.int_str c t e f
  | t q=>exact EqAt.int_tuple c t q hu
  | l q=>exact EqAt.int_list c t q hu
 | s c t =>
  cases b with
  | n=>exact EqAt.str_none c t
  | b e=>exact EqAt.str_bool c t e
  | i e f=>exact EqAt.str_int c t e f
  | s e f=>exact EqAt.str_str c t e f
  | t q=>exact EqAt.str_tuple c t q hu
  | l q=>exact EqAt.str_list c t q hu
 | t p =>
  cases b with
  | n=>exact EqAt.tuple_none p hu
  | b e=>exact EqAt.tuple_bool e p hu
  | i e f=>exact EqAt.tuple_int e f p hu
  | s e f=>exact EqAt.tuple_str e f p hu
  | t q=>cases k
  | l q=>exact EqAt.tuple_list p q hu
 | l p =>
  cases b with
  | n=>exact EqAt.list_none p hu
  | b e=>exact EqAt.list_bool e p hu
  | i e f=>exact EqAt.list_int e f p hu
  | s e f=>exact EqAt.list_str e f p hu
  | t q=>exact EqAt.list_tuple p q hu
  | l q=>cases k
theorem Kh{A:Around}{d d':D}{u u':Value}(a:Vw s d u)(b:Vw s d' u')(hu:A.units<cLine)(k:Vq d d'=true):RcAt A s u u' (deq d d')/\RcNeAt A s u u' (!deq d d'):=by
 cases a with
 | n =>
  cases b with
  | n=>exact⟨RcAt.none_none,RcNeAt.none_none⟩
  | b e=>exact⟨RcAt.none_bool e,RcNeAt.none_bool e⟩
  | i e f=>exact⟨RcAt.none_int e f,RcNeAt.none_int e f⟩
  | s e f=>exact⟨RcAt.none_str e f,RcNeAt.none_str e f⟩
  | t q=>exact⟨RcAt.none_tuple q hu,RcNeAt.none_tuple q hu⟩
  | l q=>exact⟨RcAt.none_list q hu,RcNeAt.none_list q hu⟩
 | b c =>
  cases b with
  | n=>exact⟨RcAt.bool_none c,RcNeAt.bool_none c⟩
  | b e=>exact⟨RcAt.bool_bool c e,RcNeAt.bool_bool c e⟩
  | i e f=>exact⟨RcAt.bool_int c e f,RcNeAt.bool_int c e f⟩
  | s e f=>exact⟨RcAt.bool_str c e f,RcNeAt.bool_str c e f⟩
  | t q=>exact⟨RcAt.bool_tuple c q hu,RcNeAt.bool_tuple c q hu⟩
  | l q=>exact⟨RcAt.bool_list c q hu,RcNeAt.bool_list c q hu⟩
 | i c t =>
  cases b with
  | n=>exact⟨RcAt.int_none c t,RcNeAt.int_none c t⟩
  | b e=>exact⟨RcAt.int_bool c t e,RcNeAt.int_bool c t e⟩
  | i e f=>exact⟨RcAt.int_int c t e f,RcNeAt.int_int c t e f⟩
  | s e f=>exact⟨RcAt.int_str c t e f,RcNeAt.int_str c t e f⟩
  | t q=>exact⟨RcAt.int_tuple c t q hu,RcNeAt.int_tuple c t q hu⟩
  | l q=>exact⟨RcAt.int_list c t q hu,RcNeAt.int_list c t q hu⟩
 | s c t =>
  cases b with
  | n=>exact⟨RcAt.str_none c t,RcNeAt.str_none c t⟩
  | b e=>exact⟨RcAt.str_bool c t e,RcNeAt.str_bool c t e⟩
  | i e f=>exact⟨RcAt.str_int c t e f,RcNeAt.str_int c t e f⟩
  | s e f=>exact⟨RcAt.str_str c t e f,RcNeAt.str_str c t e f⟩
  | t q=>exact⟨RcAt.str_tuple c t q hu,RcNeAt.str_tuple c t q hu⟩
  | l q=>exact⟨RcAt.str_list c t q hu,RcNeAt.str_list c t q hu⟩
 | t p =>
  cases b with
  | n=>exact⟨RcAt.tuple_none p hu,RcNeAt.tuple_none p hu⟩
  | b e=>exact⟨RcAt.tuple_bool e p hu,RcNeAt.tuple_bool e p hu⟩
  | i e f=>exact⟨RcAt.tuple_int e f p hu,RcNeAt.tuple_int e f p hu⟩
  | s e f=>exact⟨RcAt.tuple_str e f p hu,RcNeAt.tuple_str e f p hu⟩
  | t q=>cases k
  | l q=>exact⟨RcAt.tuple_list p q hu,RcNeAt.tuple_list p q hu⟩
 | l p =>
  cases b with
  | n=>exact⟨RcAt.list_none p hu,RcNeAt.list_none p hu⟩
  | b e=>exact⟨RcAt.list_bool e p hu,RcNeAt.list_bool e p hu⟩
  | i e f=>exact⟨RcAt.list_int e f p hu,RcNeAt.list_int e f p hu⟩
  | s e f=>exact⟨RcAt.list_str e f p hu,RcNeAt.list_str e f p hu⟩
  | t q=>exact⟨RcAt.list_tuple p q hu,RcNeAt.list_tuple p q hu⟩
  | l q=>cases k
mutual
theorem yG(I:Inv X z0 σ H s):∀ (d d':D) (v v':V) (u u':Value) (A:Around),Rep X.K H d v->Rep X.K H d' v'->RelV v u->RelV v' u'->A.units+dep d<cLine->dep d<1000->dep d'<1000->EqAt A s u u' (deq d d')
 | .tup ds,d',v,v',u,u',A,h,h',r,r',hu,z,z'=>by
  have hu0:A.units<cLine:=X1z (R2z _ _) hu
  cases d' with
  | tup es =>
   have hh:=h;have hh':=h';simp only[Rep] at h h';obtain⟨a,vs,rfl,h2,h3⟩:=h;cases (show u=Value.ref a from r);obtain⟨its,rv,p⟩:=isT I h2
   have hu1:A.in1.units+deps ds<cLine:=by have:dep (.tup ds)=deps ds+1:=rfl;rw[iQ];omega
   obtain⟨b,us,rfl,h2',h3'⟩:=h';cases (show u'=Value.ref b from r');obtain⟨its',rv',p'⟩:=isT I h2'
   by_cases hab:a=b
   ·subst hab
    have:=Rep.inj I _ _ _ z z' hh hh';rw[<- this,mV _ z];exact EqAt.same _
   ·have q:=RcAt.tuples p p' hu0 (e:=eJ ds es) fun j g1 g2=>gM I ds es vs us its its' A.in1 h3 h3' rv rv' hu1 (by simp only[dep] at z;omega) (by simp only[dep] at z';omega) j _ _ (by simp at g1 ⊢) (by simp at g2 ⊢)
    have l1:=h3.length;have l2:=rv.length;have l3:=h3'.length;have l4:=rv'.length
    rw[C2z,C2z,<- l2,<- l1,<- l4,<- l3,yK] at q;exact .of_refs hab q
  | _=>exact gO (view I h r z) (view I h' r' z') hu0 rfl
 | .lst ds,d',v,v',u,u',A,h,h',r,r',hu,z,z'=>by
  have hu0:A.units<cLine:=X1z (R2z _ _) hu
  cases d' with
  | lst es =>
   have hh:=h;have hh':=h';simp only[Rep] at h h';obtain⟨a,vs,rfl,h2,h3⟩:=h;cases (show u=Value.ref a from r);obtain⟨its,rv,p⟩:=isL I h2
   have hu1:A.in1.units+deps ds<cLine:=by have:dep (.lst ds)=deps ds+1:=rfl;rw[iQ];omega
   obtain⟨b,us,rfl,h2',h3'⟩:=h';cases (show u'=Value.ref b from r');obtain⟨its',rv',p'⟩:=isL I h2'
   have l1:=h3.length;have l2:=rv.length;have l3:=h3'.length;have l4:=rv'.length
   by_cases hab:a=b
   ·subst hab
    have:=Rep.inj I _ _ _ z z' hh hh';rw[<- this,mV _ z];exact EqAt.same _
   ·by_cases hl:ds.length=es.length
    ·have q:=RcAt.lists p p' (by simp;omega) hu0 (e:=eJ ds es) fun j g1 g2=>gM I ds es vs us its its' A.in1 h3 h3' rv rv' hu1 (by simp only[dep] at z;omega) (by simp only[dep] at z';omega) j _ _ (by simp at g1 ⊢) (by simp at g2 ⊢)
     rw[C2z,<- l2,<- l1,yJ _ _ hl] at q;exact .of_refs hab q
    ·have q:=RcAt.lists_lengths p p' (by simp;omega) hu0
     rw[show deq (.lst ds) (.lst es)=oZ ds es from rfl,mU hl];exact .of_refs hab q
  | _=>exact gO (view I h r z) (view I h' r' z') hu0 rfl
 | .non,_,_,_,_,_,_,h,h',r,r',hu,z,z'=>gO (view I h r z) (view I h' r' z') (X1z (R2z _ _) hu) rfl
 | .bl _,_,_,_,_,_,_,h,h',r,r',hu,z,z'=>gO (view I h r z) (view I h' r' z') (X1z (R2z _ _) hu) rfl
 | .int _,_,_,_,_,_,_,h,h',r,r',hu,z,z'=>gO (view I h r z) (view I h' r' z') (X1z (R2z _ _) hu) rfl
 | .str _,_,_,_,_,_,_,h,h',r,r',hu,z,z'=>gO (view I h r z) (view I h' r' z') (X1z (R2z _ _) hu) rfl
 | .exc _,_,_,_,_,_,_,h,h',r,r',hu,z,z'=>gO (view I h r z) (view I h' r' z') (X1z (R2z _ _) hu) rfl
 | .dic _ _,_,_,_,_,_,_,h,h',r,r',hu,z,z'=>gO (view I h r z) (view I h' r' z') (X1z (R2z _ _) hu) rfl
 | .dt _ _,_,_,_,_,_,_,h,h',r,r',hu,z,z'=>gO (view I h r z) (view I h' r' z') (X1z (R2z _ _) hu) rfl
theorem gM(I:Inv X z0 σ H s):∀ (ds es:List D) (vs us:List V) (its its':List Value) (A:Around),aM X.K H ds vs->aM X.K H es us->Vals vs its->Vals us its'->A.units+deps ds<cLine->deps ds<1000->deps es<1000 ->
  ∀ (j:Nat) (u u':Value),its[j]?=some u->its'[j]?=some u'->EqAt A s u u' (eJ ds es j)
 | [],es,vs,us,its,its',A,h,h',r,r',hu,z,z',j,u,u',e1,e2=>by
  simp only[aM] at h;subst h;cases r;simp at e1
 | d::ds,es,vs,us,its,its',A,h,h',r,r',hu,z,z',j,u,u',e1,e2=>by
  simp only[aM] at h;obtain⟨v,vr,rfl,h2,h3⟩:=h
  cases r with
  | cons r rr =>
   cases es with
   | nil=>simp only[aM] at h';subst h';cases r';simp at e2
   | cons e es =>
    simp only[aM] at h';obtain⟨v',vr',rfl,h2',h3'⟩:=h'
    cases r' with
    | cons r' rr' =>
     have hd:dep d<=deps (d::ds):=Nat.le_max_left _ _;have hds:deps ds<=deps (d::ds):=Nat.le_max_right _ _
     cases j with
     | zero =>
      simp at e1 e2;subst e1 e2
      exact yG I d e v v' _ _ A h2 h2' r r' (by omega) (by simp only[deps] at z;omega) (by simp only[deps] at z';omega)
     | succ j =>
      have q:=gM I ds es vr vr' _ _ A h3 h3' rr rr' (by omega) (by simp only[deps] at z;omega) (by simp only[deps] at z';omega) j u u' (by simpa using e1) (by simpa using e2)
      simpa[eJ] using q
end
theorem tL(I:Inv X z0 σ H s){d d':D}{v v':V}{u u':Value}(A:Around)(h:Rep X.K H d v)(h':Rep X.K H d' v')(r:RelV v u)(r':RelV v' u')(hu:A.units+dep d<cLine)(z:dep d<1000)(z':dep d'<1000):RcAt A s u u' (deq d d')/\RcNeAt A s u u' (!deq d d'):=by
 have hu0:A.units<cLine:=X1z (R2z _ _) hu
 cases k:Vq d d' with
 | true=>exact Kh (view I h r z) (view I h' r' z') hu0 k
 | false =>
  cases d<;>cases d'<;>first | (cases k;done) | skip
  all_goals
   rename_i ds es;simp only[Rep] at h h';obtain⟨a,vs,rfl,h2,h3⟩:=h;cases (show u=Value.ref a from r);obtain⟨b,us,rfl,h2',h3'⟩:=h';cases (show u'=Value.ref b from r')
   have hu1:A.in1.units+deps ds<cLine:=by simp only[dep] at hu;rw[iQ];omega
   have l1:=h3.length;have l3:=h3'.length
  ·obtain⟨its,rv,p⟩:=isT I h2;obtain⟨its',rv',p'⟩:=isT I h2'
   have l2:=rv.length;have l4:=rv'.length
   have he:∀ j (g1:j<its.toArray.size) (g2:j<its'.toArray.size),EqAt A.in1 s its.toArray[j] its'.toArray[j] (eJ ds es j):=fun j g1 g2=>gM I ds es vs us its its' A.in1 h3 h3' rv rv' hu1 (by simp only[dep] at z;omega) (by simp only[dep] at z';omega) j _ _ (by simp at g1 ⊢) (by simp at g2 ⊢)
   have q:=RcAt.tuples p p' hu0 he;have q':=RcNeAt.tuples p p' hu0 he;rw[C2z,C2z,<- l2,<- l1,<- l4,<- l3,yK] at q q';exact⟨q,q'⟩
  ·obtain⟨its,rv,p⟩:=isL I h2;obtain⟨its',rv',p'⟩:=isL I h2'
   have l2:=rv.length;have l4:=rv'.length
   by_cases hl:ds.length=es.length
   ·have he:∀ j (g1:j<its.toArray.size) (g2:j<its'.toArray.size),EqAt A.in1 s its.toArray[j] its'.toArray[j] (eJ ds es j):=fun j g1 g2=>gM I ds es vs us its its' A.in1 h3 h3' rv rv' hu1 (by simp only[dep] at z;omega) (by simp only[dep] at z';omega) j _ _ (by simp at g1 ⊢) (by simp at g2 ⊢)
    have q:=RcAt.lists p p' (by simp;omega) hu0 he
    have q':=RcNeAt.lists p p' (by simp;omega) hu0 he
    rw[C2z,<- l2,<- l1,yJ _ _ hl] at q q';exact⟨q,q'⟩
   ·rw[show deq (.lst ds) (.lst es)=oZ ds es from rfl,mU hl]
    exact⟨RcAt.lists_lengths p p' (by simp;omega) hu0,RcNeAt.lists_lengths p p' (by simp;omega) hu0⟩
end
def m9(X:Cx)(e:Expr):TE:=fun σ H Q=>∀ z0 s,Inv X z0 σ H s->wpAny (model X.prog X.w) X.A (eval e X.env) (EP X z0 σ Q) X.xe s
def vG(X:Cx)(e:Expr):TT:=fun σ H Q=>∀ z0 s,Inv X z0 σ H s->wpAny (model X.prog X.w) X.A (isTrue e X.env (eval e X.env)) (TP X z0 σ Q) X.xe s
def vH(X:Cx)(es:List Expr):TA:=fun σ H Q=>∀ pos z0 s,Inv X z0 σ H s->wpAny (model X.prog X.w) X.A (spliced (backTo pos (starEach es X.env))) (AP X z0 σ Q) X.xe s
def qd(X:Cx)(tg iter:Expr):TI:=fun σ H R=>∀ z0 s,Inv X z0 σ H s->wpAny (model X.prog X.w) X.A (eval iter X.env) (fun v s1=>wpAny (model X.prog X.w) X.A (pyIter v) (PIE X z0 σ tg R) X.xe s1) X.xe s
section
variable {X:Cx} {e:Expr}
theorem aq:PE X e (m9 X e):=fun z0 s σ H Q I h=>h z0 s I
theorem dI:PT X e (vG X e):=fun z0 s σ H Q I h=>h z0 s I
theorem iB{es:List Expr}:PA X es (vH X es):=fun pos z0 s σ H Q I h=>h pos z0 s I
theorem jt{tg iter:Expr}:PI X tg iter (qd X tg iter):=fun z0 s σ H R I h=>h z0 s I
theorem PE.sem{t:TE}{σ:St}{H:Hp}{Q:VK}(h:PE X e t)(q:t σ H Q):m9 X e σ H Q:=fun z0 s I=>h z0 s σ H Q I q
theorem PT.sem{t:TT}{σ:St}{H:Hp}{Q:Bool->Hp->Prop}(h:PT X e t)(q:t σ H Q):vG X e σ H Q:=fun z0 s I=>h z0 s σ H Q I q
theorem PA.sem{es:List Expr}{t:TA}{σ:St}{H:Hp}{Q:List V->Hp->Prop}(h:PA X es t)(q:t σ H Q):vH X es σ H Q:=fun pos z0 s I=>h pos z0 s σ H Q I q
theorem PI.sem{tg iter:Expr}{t:TI}{σ:St}{H:Hp}{R:It->Hp->Prop}(h:PI X tg iter t)(q:t σ H R):qd X tg iter σ H R:=fun z0 s I=>h z0 s σ H R I q
end
def cC(K:Z2)(Hs:Hp)(ρ:Rho)(σ:St):Prop:=∀ (i:Nat) (x:Str) (d:D),ρ[i]?=some (x,.sh d)->∃ v,σ[i]?=some (some v)/\Rep K Hs d v
theorem cC.same{K:Z2}{Hs Hs':Hp}{ρ:Rho}{σ:St}(h:cC K Hs ρ σ)(e:Same Hs Hs'):cC K Hs' ρ σ:=fun i x d q=>by
 obtain⟨v,e1,e2⟩:=h i x d q;exact⟨v,e1,Rep.same e d v e2⟩
def Nv(K:Z2)(J:It)(Hs0:Hp)(ds:List D):Prop:=∀ Hs H,Same Hs0 Hs->Same Hs H->J.stop ds.length H/\∀ (i:Nat) (d:D),ds[i]?=some d->J.go i H/\∀ x H',J.yld i H x H'->∃ Hs',Ext Hs H Hs' H'/\Rep K Hs' d x
def Ev(X:Cx)(ρ:Rho)(e:Expr)(d:D):Prop:=∀ σ H Hs Q,Same Hs H->cC X.K Hs ρ σ->(∀ v H' Hs',Ext Hs H Hs' H'->Rep X.K Hs' d v->Q v H')->m9 X e σ H Q
def EvT(X:Cx)(ρ:Rho)(e:Expr)(b:Bool):Prop:=∀ σ H Hs Q,Same Hs H->cC X.K Hs ρ σ->(∀ H' Hs',Ext Hs H Hs' H'->Q b H')->vG X e σ H Q
def EvA(X:Cx)(ρ:Rho)(es:List Expr)(ds:List D):Prop:=∀ σ H Hs Q,Same Hs H->cC X.K Hs ρ σ->(∀ vs H' Hs',Ext Hs H Hs' H'->aM X.K Hs' ds vs->Q vs H')->vH X es σ H Q
def EvI(X:Cx)(ρ:Rho)(tg iter:Expr)(ds:List D):Prop:=∀ σ H Hs R,Same Hs H->cC X.K Hs ρ σ->(∀ J H' Hs',Ext Hs H Hs' H'->Nv X.K J Hs' ds->R J H')->qd X tg iter σ H R
def spX(K:Z2)(call:Str->List D->Option D)(callx:Str->List D->Option Str)(f:Str)(ps:List Str):Sp:=fun vs H Q E=>vs.length=ps.length/\∃ Hs ds,Same Hs H/\aM K Hs ds vs /\
 ((∃ d,call f ds=some d/\∀ v H' Hs',Ext Hs H Hs' H'->Rep K Hs' d v->Q v H')\/(∃ c,callx f ds=some c/\∀ C H' Hs',PySem.W.nsIn K mainGlobals c=some (some (.ref C))->Ext Hs H Hs' H'->E (.ref C) none H'))
def Cj(K:Z2)(exs:List Str)(top:Str):Bool:=match PySem.W.nsIn K mainGlobals top with
  | some (some (.ref M))=>exs.all fun c=>match PySem.W.nsIn K mainGlobals c with
    | some (some (.ref C)) => xIn K C M && kI K C && PySem.W.exmOne K (.ref C) (.ref M) == some true && PySem.W.kitOne K (.ref C) (.ref M) == some true && PySem.W.kitOne K (.ref C) (.type "ValueError") == some true &&
      exs.all fun c'=>match PySem.W.nsIn K mainGlobals c' with
        | some (some (.ref C'))=>PySem.W.kitOne K (.ref C) (.ref C')==some (c==c')
        | _=>false
    | _=>false
  | _=>exs.isEmpty
structure XText (K:Z2) (mg:Str->Option Value) (exs:List Str) (top:Str):Prop where
 glob:∀ x v,PySem.W.nsIn K mainGlobals x=some (some v)->mg x=some v
 cls:∀ c,exs.contains c=true->∃ C M,PySem.W.nsIn K mainGlobals c=some (some (.ref C))/\PySem.W.nsIn K mainGlobals top=some (some (.ref M))/\xIn K C M=true/\kI K C=true/\PySem.W.exmOne K (.ref C) (.ref M)=some true/\PySem.W.kitOne K (.ref C) (.ref M)=some true/\PySem.W.kitOne K (.ref C) (.type "ValueError")=some true
 sub:∀ c c',exs.contains c=true->exs.contains c'=true->∃ C C',PySem.W.nsIn K mainGlobals c=some (some (.ref C))/\PySem.W.nsIn K mainGlobals c'=some (some (.ref C'))/\PySem.W.kitOne K (.ref C) (.ref C')=some (c==c')
theorem XText.of{K:Z2}{mg:Str->Option Value}{exs:List Str}{top:Str}(hg:∀ x v,PySem.W.nsIn K mainGlobals x=some (some v)->mg x=some v)(h:Cj K exs top=true):XText K mg exs top:=by
 unfold Cj at h;split at h
 ·rename_i M hM
  have all:=fun c (hc:exs.contains c=true)=>A3z.mp h c (by simpa using hc);refine⟨hg,fun c hc=>?_,fun c c' hc hc'=>?_⟩
  ·have q:=all c hc
   split at q
   ·rename_i C hC
    simp only[X2z,Q5z] at q;exact⟨C,M,hC,hM,q.1.1.1.1.1,q.1.1.1.1.2,q.1.1.1.2,q.1.1.2,q.1.2⟩
   ·cases q
  ·have q:=all c hc
   split at q
   ·rename_i C hC
    simp only[X2z] at q;have q2:=A3z.mp q.2 c' (by simpa using hc');split at q2
    ·rename_i C' hC'
     exact⟨C,C',hC,hC',by simpa using q2⟩
    ·cases q2
   ·cases q
 ·have e:exs=[]:=by simpa using h
  subst e;exact⟨hg,fun c hc=>absurd hc (by simp),fun c c' hc=>absurd hc (by simp)⟩
structure Good (cx:Cxt) (k:Nat) (X:Cx) (sc:Scope):Prop where
 calm:X.calm=true
 room:Room k X.A
 sce:X.env.scope=sc
 kind:sc.kind=.function
 nd:X.N.Nodup
 cst:∀ x d,cx.cst.lookup x=some d->∃ v u,(∀ H,Rep X.K H d v)/\X.mg x=some u/\RelV v u
 blt:∀ x b,cx.blt.lookup x=some b->X.mg x=none/\x=Str.ofString b
 exs:XText X.K X.mg cx.exs cx.top
 fns:∀ f,cx.fns.contains f=true->(f==("__debug__":Str))=false/\∃ a fd ps,(∀ ds d,cx.call f ds=some d->ds.length=ps.length)/\(∀ ds c,cx.callx f ds=some c->ds.length=ps.length)/\X.mg f=some (.ref a)/\PySem.W.keepIn X.K (.ref a)=true/\Binds X.K fd ps []/\FnOk X.prog X.w X.K X.mg X.base (CX1 X.prog X.w) k a fd ps (spX X.K cx.call cx.callx f ps)
 kw:KnW X.K X.w
section
variable {X:Cx} {ρ:Rho} {cx:Cxt} {k:Nat} {sc:Scope}
theorem cR:∀ {ρ:Rho} {x:Str} {s:Sl},ρ.lookup x=some s->∃ i:Nat,ρ[i]?=some (x,s)/\(ρ.map (·.1)).idxOf? x=some i
 | (y,t)::r,x,s,h=>by
  rw[N2z] at h
  cases hb:x==y with
  | true =>
   rw[hb] at h;cases h
   have:x=y:=by simpa using hb
   subst this;exact⟨0,rfl,by simp[List.idxOf?,List.findIdx?_cons]⟩
  | false =>
   rw[hb] at h;obtain⟨i,h1,h2⟩:=cR h;refine⟨i+1,by simpa using h1,?_⟩
   have hy:(y==x)=false:=by
    rw[K1z] at hb ⊢;exact fun e=>hb e.symm
   simp only[O4z,List.idxOf?,List.findIdx?_cons,hy,U1z,V5z];simp only[List.idxOf?] at h2;rw[h2];rfl
theorem HW{x:Str}{d:D}{pos:Pos}(hN:X.N=ρ.map (·.1))(hv:Vis X.env.scope x)(hp:aF x=true)(h:ρ.lookup x=some (.sh d)):Ev X ρ (.Name x pos) d:=by
 intro σ H Hs Q hs hr hq;obtain⟨i,h1,_⟩:=cR h;obtain⟨v,e1,e2⟩:=hr i x d h1;unfold aF at hp;rw[X2z,R5z,R5z] at hp;refine PE.sem (ju (i:=i) (by rw[hN,List.getElem?_map,h1];rfl) hv (by simpa using hp.1) (by simpa using hp.2)) ⟨v,e1,hq v H Hs (.refl hs) e2⟩
theorem M6{x:Str}{d:D}{v:V}{u:Value}{pos:Pos}(hg:Gl X x)(hd:∀ H,Rep X.K H d v)(hm:X.mg x=some u)(r:RelV v u)(hp:aF x=true):Ev X ρ (.Name x pos) d:=by
 intro σ H Hs Q hs hr hq;unfold aF at hp;rw[X2z,R5z,R5z] at hp;exact PE.sem (qj hg hm r (by simpa using hp.1)) (hq _ H Hs (.refl hs) (hd Hs))
theorem Bx{c:Const}{d:D}{j:Nat}{pos:Pos}(h:(match c with | .none=>some D.non | .bool b=>some (.bl b) | .int i=>some (.int i) | .str x=>some (.str x) | _=>none)=some d):Ev X ρ (.Constant c j pos) d:=by
 intro σ H Hs Q hs hr hq
 cases c<;>simp at h<;>subst h
 ·exact PE.sem KY (hq _ H Hs (.refl hs) (by simp[Rep]))
 ·exact PE.sem Qd (hq _ H Hs (.refl hs) (by simp[Rep]))
 ·exact PE.sem KZ (hq _ H Hs (.refl hs) (by simp[Rep]))
 ·exact PE.sem Df (hq _ H Hs (.refl hs) (by simp[Rep]))
theorem d8{a b:Expr}{x y d:D}{r:R2}{e:Expr}(ha:Ev X ρ a x)(hb:Ev X ρ b y)(hp:PE X e (tOp r (m9 X a) (m9 X b)))
  (hr:∀ u v H Hs Q,Same Hs H->Rep X.K Hs x u->Rep X.K Hs y v->(∀ w H' Hs',Ext Hs H Hs' H'->Rep X.K Hs' d w->Q w H')->r u v H Q):Ev X ρ e d:=by
 intro σ H Hs Q hs hst hq;refine hp.sem (ha σ H Hs _ hs hst fun u H1 Hs1 E1 r1=>hb σ H1 Hs1 _ E1.sub (hst.same E1.vis) fun v H2 Hs2 E2 r2=>?_);exact hr u v H2 Hs2 Q E2.sub (Rep.same E2.vis x u r1) r2 fun w H' Hs' E3 r3=>hq w H' Hs' (E1.trans (E2.trans E3)) r3
theorem rJ{i:Int}(h:small i=true):-(2^64)<i/\i<2^64:=by
 unfold small at h;rw[X2z,J2z,J2z] at h;exact h
theorem eU{n:Nat}(h:szl n=true):n<=sizeLine:=by
 unfold szl at h;rw[J2z] at h;exact V4z h (by rw[G5z];decide)
theorem vJ{n:Nat}(h:szl n=true):n<sizeLine:=by
 unfold szl at h;rw[J2z] at h;exact X1z h (by rw[G5z];decide)
theorem aO{K:Z2}{H:Hp}{i:Int}{v:V}(h:Rep K H (.int i) v):v=.int i:=by simpa[Rep] using h
theorem cH{K:Z2}{H:Hp}{i:Bool}{v:V}(h:Rep K H (.bl i) v):v=.bl i:=by simpa[Rep] using h
theorem bF{K:Z2}{H:Hp}{ds:List D}{v:V}(h:Rep K H (.tup ds) v):∃ a vs,v=.ref a/\SqT K H a vs/\aM K H ds vs:=by simpa[Rep] using h
theorem bG{K:Z2}{H:Hp}{ds:List D}{v:V}(h:Rep K H (.lst ds) v):∃ a vs,v=.ref a/\SqL K H a vs/\aM K H ds vs:=by simpa[Rep] using h
theorem qm{Hs H:Hp}{ds:List D}{vs:List V}{p:Addr}{Q:VK}(hs:Same Hs H)(hr:aM X.K Hs ds vs)(hp:H p=none)(hq:∀ w H' Hs',Ext Hs H Hs' H'->Rep X.K Hs' (.tup ds) w->Q w H'):Q (.ref p) (upd H p (.tup vs)) :=
 hq _ _ _ (Ext.new hs (.tup vs) hp) (by simp only[Rep];exact⟨p,vs,rfl,.of aP,aM.same (Ext.new hs (.tup vs) hp).vis ds vs hr⟩)
theorem eY{Hs H:Hp}{ds:List D}{vs:List V}{p:Addr}{Q:VK}(hs:Same Hs H)(hr:aM X.K Hs ds vs)(hp:H p=none)(hq:∀ w H' Hs',Ext Hs H Hs' H'->Rep X.K Hs' (.lst ds) w->Q w H'):Q (.ref p) (upd H p (.lst vs)) :=
 hq _ _ _ (Ext.new hs (.lst vs) hp) (by simp only[Rep];exact⟨p,vs,rfl,.of aP,aM.same (Ext.new hs (.lst vs) hp).vis ds vs hr⟩)
def P0(K:Z2):R2:=fun x y H Q=>∃ a b xs ys,x=.ref a/\y=.ref b/\SqT K H a xs/\SqT K H b ys/\xs.length+ys.length<=sizeLine /\
 (xs=[]->Q (.ref b) H)/\(xs≠[]->ys=[]->Q (.ref a) H)/\(xs≠[]->ys≠[]->∀ p,H p=none->Q (.ref p) (upd H p (.tup (xs++ys))))
theorem GZ:OpR X (binaryOp .Add) (P0 X.K):=by
 intro z0 s σ H x y v u Q I rx ry h;obtain⟨a,b,xs,ys,rfl,rfl,ha,hb,hz,q0,q1,q2⟩:=h
 by_cases hx:xs=[]
 ·subst hx
  cases (show v=Value.ref a from rx);cases (show u=Value.ref b from ry);obtain⟨its,r1,p1,_⟩:=I.tuple ha;obtain⟨its2,r2,p2,_⟩:=I.tuple hb;have e0:its=[]:=r1.nil_iff.mpr rfl;subst e0;obtain⟨⟨c,dd,data,sl⟩,ho,hc,n,hd⟩:=id p1;obtain⟨⟨c2,dd2,data2,sl2⟩,ho2,hc2,n2,hd2⟩:=id p2;simp only at hc hd hc2 hd2;subst hc hd hc2 hd2;exact concat_meets ⟨_,ho,rfl⟩ ⟨_,ho2,rfl⟩ noFill_tuple_add seq_tuple_add O0z J0z (H0z _ _) (tuple_addW0 a b _ its2.toArray n n2 dd dd2 sl sl2 rfl) ⟨ho,ho2,.ref b,H,I,rfl,q0 rfl⟩
 ·exact GR z0 s σ H (.ref a) (.ref b) v u Q I rx ry ⟨a,b,xs,ys,rfl,rfl,ha,hb,hx,hz,q1 hx,q2 hx⟩
theorem aM.rep{K:Z2}{H:Hp}{ds:List D}{vs:List V}(h:aM K H ds vs):∀ n:Nat,aM K H (List.replicate n ds).flatten (List.replicate n vs).flatten
 | 0=>by simp[aM]
 | n+1=>by
  simp only[J1z,D2z];exact h.append (h.rep n)
def Nx(i j:Int):Prop:=Wb i j\/(i.natAbs.log2<10000/\j.natAbs.log2<10000)
theorem Ds{i:Int}(h:mid i=true):i.natAbs.log2<10000:=by unfold mid at h;simpa using h
theorem tV{i:Int}(h:i.natAbs.log2<10000):Builtin.Int.intBits i<=2^20:=by
 unfold Builtin.Int.intBits
 split<;>omega
theorem GK:OpR X (binaryOp .Mult) (rI Nx fun i j=>.int (i*j)):=opI fun _ _ _ _ _ _ _ hc q=>mul_int q (hc.elim (fun z=>z.ok) fun z=>.of_bits (tV z.1) (tV z.2))
def Wd(i j:Int):Prop:=j≠0/\j.natAbs.log2<9000
theorem Aj:OpR X (binaryOp .FloorDiv) (rI Wd fun i j=>.int (i.fdiv j)):=opI fun _ _ _ _ _ _ _ hc q=>floordiv_int hc.1 q (.inl (PyProof.noPylong_of_log2 hc.2))
theorem BK{a b:Expr}{op:Operator}{x y d:D}{pos:Pos}(ha:Ev X ρ a x)(hb:Ev X ρ b y)(h:binop op x y=some d):Ev X ρ (.BinOp a op b pos) d:=by
 unfold binop at h;split at h
 ·cases h
  exact d8 ha hb (iK Lb aq aq) fun u v H Hs Q hs r1 r2 hq=>⟨_,_,aO r1,aO r2,hq _ H Hs (.refl hs) (by simp[Rep])⟩
 ·split at h
  ·rename_i hz
   cases h;refine d8 ha hb (iK GZ aq aq) fun u v H Hs Q hs r1 r2 hq=>?_;obtain⟨p,us,rfl,h1,h2⟩:=bF r1;obtain⟨q,ws,rfl,h3,h4⟩:=bF r2;have l1:=h2.length;have l2:=h4.length
   have nil:∀ (l:List D),l.length=0->l=[]:=fun l hl=>by cases l<;>simp at hl ⊢
   refine⟨p,q,us,ws,rfl,rfl,hs.tup h1,hs.tup h3,by have:=eU hz;omega,fun e=>?_,fun _ e=>?_,fun _ _ l hl=>qm hs (h2.append h4) hl hq⟩
   ·subst e
    have e2:=nil _ l1;subst e2;exact hq _ H Hs (.refl hs) r2
   ·subst e
    have e2:=nil _ l2;subst e2;refine hq _ H Hs (.refl hs) ?_;rw[H3z];exact r1
  ·cases h
 ·split at h
  ·rename_i hz
   cases h;refine d8 ha hb (iK wR aq aq) fun u v H Hs Q hs r1 r2 hq=>?_;obtain⟨p,us,rfl,h1,h2⟩:=bG r1;obtain⟨q,ws,rfl,h3,h4⟩:=bG r2;have l1:=h2.length;have l2:=h4.length;exact⟨p,q,us,ws,rfl,rfl,hs.seq h1,hs.seq h3,by have:=eU hz;omega,fun l hl=>eY hs (h2.append h4) hl hq⟩
  ·cases h
 ·cases h
  exact d8 ha hb (iK K7 aq aq) fun u v H Hs Q hs r1 r2 hq=>⟨_,_,aO r1,aO r2,hq _ H Hs (.refl hs) (by simp[Rep])⟩
 ·split at h
  ·rename_i hz
   cases h;rw[S3z,S3z,X2z] at hz;have hz':Nx _ _:=hz.elim (fun z=>z.elim (fun z=>.inl (.inl (rJ z))) (fun z=>.inl (.inr (rJ z)))) (fun z=>.inr ⟨Ds z.1,Ds z.2⟩);exact d8 ha hb (iK GK aq aq) fun u v H Hs Q hs r1 r2 hq=>⟨_,_,aO r1,aO r2,hz',hq _ H Hs (.refl hs) (by simp[Rep])⟩
  ·cases h
 ·split at h
  ·rename_i hz
   cases h;rw[X2z,X2z,J2z,J2z] at hz;refine d8 ha hb (iK wQ aq aq) fun u v H Hs Q hs r1 r2 hq=>?_;obtain⟨p,us,rfl,h1,h2⟩:=bG r1;have l1:=h2.length;exact⟨p,_,us,rfl,aO r2,hs.seq h1,by omega,by omega,by have:=eU hz.2;rw[<- l1];exact this,fun l hl=>eY hs (h2.rep _) hl hq⟩
  ·cases h
 ·simp at h
 ·split at h
  ·rename_i hz
   cases h;rw[X2z,J2z,J2z] at hz;exact d8 ha hb (iK GQ aq aq) fun u v H Hs Q hs r1 r2 hq=>⟨_,_,aO r1,aO r2,hz,hq _ H Hs (.refl hs) (by simp[Rep])⟩
  ·split at h
   ·rename_i hz
    cases h;rw[X2z,J2z,J2z] at hz;exact d8 ha hb (iK Aj aq aq) fun u v H Hs Q hs r1 r2 hq=>⟨_,_,aO r1,aO r2,hz,hq _ H Hs (.refl hs) (by simp[Rep])⟩
   ·cases h
 ·split at h
  ·rename_i hz
   cases h;rw[J2z] at hz;exact d8 ha hb (iK K8 aq aq) fun u v H Hs Q hs r1 r2 hq=>⟨_,_,aO r1,aO r2,hz,hq _ H Hs (.refl hs) (by simp[Rep])⟩
  ·split at h
   ·rename_i hz
    cases h;rw[J2z] at hz;exact d8 ha hb (iK GP aq aq) fun u v H Hs Q hs r1 r2 hq=>⟨_,_,aO r1,aO r2,hz,hq _ H Hs (.refl hs) (by simp[Rep])⟩
   ·cases h
 ·cases h
end
section
variable {X:Cx} {ρ:Rho} {cx:Cxt} {k:Nat} {sc:Scope}
theorem ao{e:Expr}{es:List Expr}{env:Env}(h:aG e=true):starEach (e::es) env=(false,eval e env)::starEach es env:=by
 cases e<;>first | rfl | (simp[aG] at h)
theorem iU{e:Expr}(h:aG e=true):zA e:=by
 intro o i
 cases e<;>first | rfl | (simp[aG] at h)
theorem dz{e:Expr}{env:Env}(h:aG e=true)(x:Value):foldedSetIterable e env x=pure x:=by
 cases e<;>first | rfl | (simp[aG] at h)
theorem g8{e:Expr}{op:CmpOp}(h:aG e=true):behindInMarks op e=false:=by
 cases e<;>first | rfl | (simp[aG] at h)
theorem eV{env:Env}{pos:Pos}:∀ {es:List Expr},(∀ e∈es,aG e=true)->(backTo pos (starEach es env)).any (·.1)=false
 | [],_=>rfl
 | e::es,h=>by
  rw[ao (h e O1z)];have ih:=eV (env:=env) (pos:=pos) fun e' he=>h e' (Y0z _ he);show((false:Bool)||(backTo pos (starEach es env)).any (·.1))=false;rw[ih];rfl
theorem aY:∀ {n:Nat} {ρ:Rho} {e:Expr} {d:D},ev cx n sc ρ e=some d->aG e=true
 | 0,_,_,_,h=>by simp[ev] at h
 | n+1,ρ,e,d,h=>by
  cases e<;>first | rfl | (exact nomatch (show(Option.none:Option D)=some d from h))
def Fq(X:Cx)(e:Expr):TT:=fun σ H Q=>∀ whole z0 s,Inv X z0 σ H s->wpAny (model X.prog X.w) X.A (isTrue e X.env whole) (TP X z0 σ Q) X.xe s
def EvW(X:Cx)(ρ:Rho)(e:Expr)(b:Bool):Prop:=∀ σ H Hs Q,Same Hs H->cC X.K Hs ρ σ->(∀ H' Hs',Ext Hs H Hs' H'->Q b H')->Fq X e σ H Q
theorem rR{e:Expr}:PW X e (Fq X e):=fun whole z0 s σ H Q I h=>h whole z0 s I
theorem PW.sem{e:Expr}{t:TT}{σ:St}{H:Hp}{Q:Bool->Hp->Prop}(h:PW X e t)(q:t σ H Q):Fq X e σ H Q:=fun whole z0 s I=>h whole z0 s σ H Q I q
theorem EvW.t{e:Expr}{b:Bool}(h:EvW X ρ e b):EvT X ρ e b:=fun σ H Hs Q hs hr hq z0 s I=>h σ H Hs Q hs hr hq _ z0 s I
theorem Ik{e:Expr}{b:Bool}(h:Ev X ρ e (.bl b))(he:∀ whole,isTrue e X.env whole=(do let v <- whole;standAt e.pos;holding [v] (truthy v))):EvT X ρ e b:=fun σ H Hs Q hs hr hq =>
 (CV aq he).sem (h σ H Hs _ hs hr fun v H' Hs' E1 r1=>⟨b,cH r1,hq H' Hs' E1⟩)
theorem MK{a:Expr}{b:Bool}{pos:Pos}(h:Ev X ρ a (.bl b)):Ev X ρ (.UnaryOp .Not a pos) (.bl (!b)):=fun σ H Hs Q hs hr hq =>
 (KR aq).sem (h σ H Hs _ hs hr fun v H' Hs' E1 r1=>⟨b,cH r1,hq _ H' Hs' E1 (by simp[Rep])⟩)
theorem Il{a:Expr}{b:Bool}{pos:Pos}(h:EvT X ρ a b):EvT X ρ (.UnaryOp .Not a pos) (!b):=fun σ H Hs Q hs hr hq =>
 (CW dI).sem (h σ H Hs _ hs hr fun H' Hs' E1=>hq H' Hs' E1)
theorem MN{a:Expr}{i:Int}{pos:Pos}(h:Ev X ρ a (.int i)):Ev X ρ (.UnaryOp .USub a pos) (.int (-i)):=fun σ H Hs Q hs hr hq =>
 (Qc JT aq).sem (h σ H Hs _ hs hr fun v H' Hs' E1 r1=>⟨i,aO r1,hq _ H' Hs' E1 (by simp[Rep])⟩)
theorem oX{op:BoolOp}{f:Expr->Option D}{pos:Pos}:∀ {es:List Expr} {d:D},(∀ e∈es,∀ d,f e=some d->Ev X ρ e d/\∀ b,d=.bl b->EvT X ρ e b)->bR op f es=some d ->
  Ev X ρ (.BoolOp op es pos) d/\∀ b,d=.bl b->EvW X ρ (.BoolOp op es pos) b
 | [],d,_,h=>by simp[bR] at h
 | [e],d,hf,h=>by
  obtain⟨h1,h2⟩:=hf e (by simp) d (by simpa[bR] using h);refine⟨fun σ H Hs Q hs hr hq=>(KQ aq).sem (h1 σ H Hs Q hs hr hq),fun b hb σ H Hs Q hs hr hq=>?_⟩
  cases op with
  | And=>exact(Gf dI).sem (h2 b hb σ H Hs Q hs hr hq)
  | Or=>exact(Kp dI).sem (h2 b hb σ H Hs Q hs hr hq)
 | e::e'::r,d,hf,h=>by
  simp only[bR] at h
  cases he:f e with
  | none=>rw[he] at h;simp at h
  | some x =>
   rw[he] at h
   cases x with
   | bl c =>
    obtain⟨h1,h2⟩:=hf e (by simp) _ he;have h2':=h2 c rfl;simp only[asB,Y2z,Option.bind_eq_bind,bind,Option.bind] at h;have ih:=fun d' (q:bR op f (e'::r)=some d')=>oX (pos:=pos) (es:=e'::r) (fun a ha=>hf a (Y0z _ ha)) q
    cases op with
    | And =>
     cases c with
     | true =>
      simp only[X5z] at h;obtain⟨i1,i2⟩:=ih d h;refine⟨fun σ H Hs Q hs hr hq=>(Dh aq aq).sem (h1 σ H Hs _ hs hr fun v H' Hs' E1 r1=>⟨true,cH r1,uX (i1 σ H' Hs' Q E1.sub (hr.same E1.vis) fun w H2 Hs2 E2 r2=>hq w H2 Hs2 (E1.trans E2) r2)⟩),fun b hb σ H Hs Q hs hr hq=>?_⟩;exact(CP dI rR).sem (h2' σ H Hs _ hs hr fun H' Hs' E1=>uX (i2 b hb σ H' Hs' Q E1.sub (hr.same E1.vis) fun H2 Hs2 E2=>hq H2 Hs2 (E1.trans E2)))
     | false =>
      simp only[U1z,V5z,K2z] at h;subst h;refine⟨fun σ H Hs Q hs hr hq=>(Dh aq aq).sem (h1 σ H Hs _ hs hr fun v H' Hs' E1 r1=>⟨false,cH r1,xX (hq _ H' Hs' E1 (by simp[Rep]))⟩),fun b hb σ H Hs Q hs hr hq=>?_⟩;cases hb;exact(CP dI rR).sem (h2' σ H Hs _ hs hr fun H' Hs' E1=>xX (hq H' Hs' E1))
    | Or =>
     cases c with
     | true =>
      simp only[X5z,K2z] at h;subst h;refine⟨fun σ H Hs Q hs hr hq=>(KN aq aq).sem (h1 σ H Hs _ hs hr fun v H' Hs' E1 r1=>⟨true,cH r1,uX (hq _ H' Hs' E1 (by simp[Rep]))⟩),fun b hb σ H Hs Q hs hr hq=>?_⟩;cases hb;exact(Kq dI rR).sem (h2' σ H Hs _ hs hr fun H' Hs' E1=>uX (hq H' Hs' E1))
     | false =>
      simp only[U1z,V5z] at h;obtain⟨i1,i2⟩:=ih d h;refine⟨fun σ H Hs Q hs hr hq=>(KN aq aq).sem (h1 σ H Hs _ hs hr fun v H' Hs' E1 r1=>⟨false,cH r1,xX (i1 σ H' Hs' Q E1.sub (hr.same E1.vis) fun w H2 Hs2 E2 r2=>hq w H2 Hs2 (E1.trans E2) r2)⟩),fun b hb σ H Hs Q hs hr hq=>?_⟩;exact(Kq dI rR).sem (h2' σ H Hs _ hs hr fun H' Hs' E1=>xX (i2 b hb σ H' Hs' Q E1.sub (hr.same E1.vis) fun H2 Hs2 E2=>hq H2 Hs2 (E1.trans E2)))
   | _=>simp[asB] at h
def PL(X:Cx)(op:CmpOp):R2:=fun u v H Q=>∃ Hs x y d,Same Hs H/\Rep X.K Hs x u/\Rep X.K Hs y v/\cmpop op x y=some d/\∃ b,d=.bl b/\Q (.bl b) H
theorem lE{K:Z2}{H:Hp}{v:V}(h:Rep K H .non v):v=.non:=by simpa[Rep] using h
theorem sU{K:Z2}{H:Hp}{x:D}{v:V}(h:Rep K H x v):Ht x=decide (v=V.non):=by
  cases x with
  | non=>rw[lE h];rfl
  | bl b=>rw[cH h];rfl
  | int b=>rw[aO h];rfl
  | str b => have e : v = .str b := by simpa [Rep] using h
             rw[e];rfl
  | tup b=>obtain⟨a,vs,e,_⟩:=bF h;rw[e];rfl
  | lst b=>obtain⟨a,vs,e,_⟩:=bG h;rw[e];rfl
  | exc c=>simp only[Rep] at h;obtain⟨a,C,e,_⟩:=h;rw[e];rfl
  | dic k x=>simp only[Rep] at h;obtain⟨a,C,e,_⟩:=h;rw[e];rfl
  | dt k x=>simp only[Rep] at h;obtain⟨a,es,o,e,_⟩:=h;rw[e];rfl
theorem gR{K:Z2}{H:Hp}:∀ {ds:List D} {ns:List Int} {vs:List V},iH ds=some ns->aM K H ds vs->vs=ns.map V.int
 | [],ns,vs,h,r=>by
  simp only[iH,K2z] at h;subst h
  simpa[aM] using r
 | .int i::ds,ns,vs,h,r=>by
  simp only[iH,R0z] at h;obtain⟨ms,h1,rfl⟩:=h;simp only[aM] at r;obtain⟨v,r',rfl,h2,h3⟩:=r;rw[aO h2,gR h1 h3];rfl
 | .non::ds,ns,vs,h,r=>by simp[iH] at h
 | .bl _::ds,ns,vs,h,r=>by simp[iH] at h
 | .str _::ds,ns,vs,h,r=>by simp[iH] at h
 | .tup _::ds,ns,vs,h,r=>by simp[iH] at h
 | .lst _::ds,ns,vs,h,r=>by simp[iH] at h
 | .exc _::ds,ns,vs,h,r=>by simp[iH] at h
 | .dic _ _::ds,ns,vs,h,r=>by simp[iH] at h
 | .dt _ _::ds,ns,vs,h,r=>by simp[iH] at h
theorem any_ints(i:Int):∀ {ns:List Int} {us:List Value},Vals (ns.map V.int) us->us.any (fun y=>match y with | .int j _=>j==i | _=>false)=ns.any (· ==i)
 | [],us,r=>by rw[Y4z] at r;cases r;rfl
 | n::ns,us,r=>by
  rw[O4z] at r
  cases r with
  | cons r1 r2 =>
   obtain⟨t,e⟩:=(show ∃ t,_=Value.int n t from r1);subst e;simp only[P4z,any_ints i r2]
theorem sI:∀ {ns:List Int} {us:List Value},Vals (ns.map V.int) us->∀ y∈us,∃ j t,y=Value.int j t
 | [],us,r,y,hy=>by rw[Y4z] at r;cases r;simp at hy
 | n::ns,us,r,y,hy=>by
  rw[O4z] at r
  cases r with
  | cons r1 r2 =>
   obtain⟨t,e⟩:=(show ∃ t,_=Value.int n t from r1);subst e;rcases List.mem_cons.mp hy with rfl | hy
   ·exact⟨n,t,rfl⟩
   ·exact sI r2 y hy
theorem Hw{z0:List (Addr×Obj)}{σ:St}{H:Hp}{s:Shared}{i:Int}{ys:List D}{ns:List Int}{u v:V}{w z:Value}(I:Inv X z0 σ H s)(A:Around)(hu:u=.int i)(hv:Rep X.K H (.tup ys) v)(hn:iH ys=some ns)(ru:RelV u w)(rv:RelV v z) :
  (∀ (Q:Value->Shared->Prop) (E:Value->Shared->Prop),Q (.bool (ns.any (· ==i))) s->wpAny (model X.prog X.w) A (compareOp .In w z) Q E s)/\(∀ (Q:Value->Shared->Prop) (E:Value->Shared->Prop),Q (.bool (!ns.any (· ==i))) s->wpAny (model X.prog X.w) A (compareOp .NotIn w z) Q E s):=by
 subst hu;obtain⟨t,e⟩:=(show ∃ t,w=Value.int i t from ru);subst e;obtain⟨a,vs,rfl,h1,h2⟩:=bF hv;cases (show z=Value.ref a from rv);have e:=gR hn h2;subst e;obtain⟨its,r,p⟩:=isT I h1
 have he:∀ y,y∈its.toArray->EqAt A.in1 s y (.int i t) (match y with | .int j _=>j==i | _=>false):=fun y hy=>by
  obtain⟨j,t',rfl⟩:=sI r y (by simpa using hy);exact fun P w Q E q=>wpAny_eqBool_int q
 have ea:its.toArray.any (fun y=>match y with | .int j _=>j==i | _=>false)=ns.any (· ==i):=by
  rw[List.any_toArray];exact any_ints i r
 refine⟨fun Q E q=>in_tupleAt _ p he (by rw[ea];exact q),fun Q E q=>notIn_tupleAt _ p he (by rw[ea];exact q)⟩
theorem tW{K:Z2}{H:Hp}:∀ {ds:List D} {ns:List Str} {vs:List V},pQ ds=some ns->aM K H ds vs->vs=ns.map V.str
 | [],ns,vs,h,r=>by
  simp only[pQ,K2z] at h;subst h
  simpa[aM] using r
 | .str i::ds,ns,vs,h,r=>by
  simp only[pQ] at h;obtain⟨ms,h1,rfl⟩:=R0z.mp h;simp only[aM] at r;obtain⟨v,rr,rfl,h2,h3⟩:=r
  have e:v=.str i:=by simpa[Rep] using h2
  rw[tW h1 h3,e];rfl
 | .non::ds,ns,vs,h,r=>by simp[pQ] at h
 | .bl _::ds,ns,vs,h,r=>by simp[pQ] at h
 | .int _::ds,ns,vs,h,r=>by simp[pQ] at h
 | .tup _::ds,ns,vs,h,r=>by simp[pQ] at h
 | .lst _::ds,ns,vs,h,r=>by simp[pQ] at h
 | .exc _::ds,ns,vs,h,r=>by simp[pQ] at h
 | .dic _ _::ds,ns,vs,h,r=>by simp[pQ] at h
 | .dt _ _::ds,ns,vs,h,r=>by simp[pQ] at h
def eS(x:D):Value->Bool
 | .str t _=>deq (.str t) x
 | _=>false
theorem tY(x:D):∀ {ns:List Str} {us:List Value},Vals (ns.map V.str) us->us.any (eS x)=ns.any fun t=>deq (.str t) x
 | [],us,r=>by rw[Y4z] at r;cases r;rfl
 | n::ns,us,r=>by
  rw[O4z] at r
  cases r with
  | cons r1 r2 =>
   obtain⟨t,e⟩:=(show ∃ t,_=Value.str n t from r1);subst e;simp only[P4z,tY x r2,eS]
theorem sH:∀ {ns:List Str} {us:List Value},Vals (ns.map V.str) us->∀ y∈us,∃ j t,y=Value.str j t
 | [],us,r,y,hy=>by rw[Y4z] at r;cases r;simp at hy
 | n::ns,us,r,y,hy=>by
  rw[O4z] at r
  cases r with
  | cons r1 r2 =>
   obtain⟨t,e⟩:=(show ∃ t,_=Value.str n t from r1);subst e;rcases List.mem_cons.mp hy with rfl | hy
   ·exact⟨n,t,rfl⟩
   ·exact sH r2 y hy
theorem Hv{z0:List (Addr×Obj)}{σ:St}{H:Hp}{s:Shared}{x:D}{ys:List D}{ns:List Str}{u v:V}{w z:Value}(I:Inv X z0 σ H s)(A:Around)(hA:A.units+2<cLine)(hx:Rep X.K H x u)(hd:dep x<=50)(hv:Rep X.K H (.tup ys) v)(hn:pQ ys=some ns)(ru:RelV u w)(rv:RelV v z) :
  (∀ (Q:Value->Shared->Prop) (E:Value->Shared->Prop),Q (.bool (ns.any fun t=>deq (.str t) x)) s->wpAny (model X.prog X.w) A (compareOp .In w z) Q E s)/\(∀ (Q:Value->Shared->Prop) (E:Value->Shared->Prop),Q (.bool (!ns.any fun t=>deq (.str t) x)) s->wpAny (model X.prog X.w) A (compareOp .NotIn w z) Q E s):=by
 obtain⟨a,vs,rfl,h1,h2⟩:=bF hv;cases (show z=Value.ref a from rv);have e:=tW hn h2;subst e;obtain⟨its,r,p⟩:=isT I h1
 have he:∀ y,y∈its.toArray->EqAt A.in1 s y w (eS x y):=fun y hy=>by
  obtain⟨j,t',rfl⟩:=sH r y (by simpa using hy);exact yG I (.str j) x (.str j) u (.str j t') w A.in1 (by simp[Rep]) hx ⟨t',rfl⟩ ru (by rw[iQ];simp only[dep];omega) (by simp[dep]) (by omega)
 have ea:its.toArray.any (eS x)=ns.any fun t=>deq (.str t) x:=by
  rw[List.any_toArray];exact tY x r
 refine⟨fun Q E q=>in_tupleAt _ p he (by rw[ea];exact q),fun Q E q=>notIn_tupleAt _ p he (by rw[ea];exact q)⟩
theorem Mp{x:D}{ys:List D}{b:Bool}(h:inT x ys=some b):(∃ i ns,x=.int i/\iH ys=some ns/\b=ns.any (· ==i))\/∃ ss,pQ ys=some ss/\dep x<=50/\b=ss.any fun t=>deq (.str t) x:=by
 have hS:∀ {b},inS x ys=some b->∃ ss,pQ ys=some ss/\dep x<=50/\b=ss.any fun t=>deq (.str t) x:=fun {b} h=>by
  unfold inS at h;obtain⟨ss,h1,h2⟩:=Option.bind_eq_some_iff.mp h;split at h2
  ·rename_i hd
   cases h2;exact⟨ss,h1,by simpa using hd,rfl⟩
  ·cases h2
 unfold inT at h;split at h
 ·rename_i i ns e1 e2
  cases x<;>simp[asI] at e1
  cases h;subst e1;exact .inl ⟨_,ns,rfl,e2,rfl⟩
 ·exact .inr (hS h)
theorem DK{z0:List (Addr×Obj)}{σ:St}{H:Hp}{s:Shared}{x:D}{ys:List D}{b:Bool}{u v:V}{w z:Value}(I:Inv X z0 σ H s)(A:Around)(hA:A.units+2<cLine)(hx:Rep X.K H x u)(hv:Rep X.K H (.tup ys) v)(h:inT x ys=some b)(ru:RelV u w)(rv:RelV v z) :
  (∀ (Q:Value->Shared->Prop) (E:Value->Shared->Prop),Q (.bool b) s->wpAny (model X.prog X.w) A (compareOp .In w z) Q E s)/\(∀ (Q:Value->Shared->Prop) (E:Value->Shared->Prop),Q (.bool (!b)) s->wpAny (model X.prog X.w) A (compareOp .NotIn w z) Q E s):=by
 rcases Mp h with⟨i,ns,rfl,e1,rfl⟩ | ⟨ss,e1,e2,rfl⟩
 ·exact Hw I A (aO hx) hv e1 ru rv
 ·exact Hv I A hA hx e2 hv e1 ru rv
theorem La:OpR X (compareOp .Is) (fun x y H Q=>∃ a b,x=.bl a/\y=.bl b/\Q (.bl (a==b)) H):=by
 intro z0 s σ H x y v u Q I rx ry h;obtain⟨a,b,rfl,rfl,q⟩:=h;cases (show v=Value.bool a from rx);cases (show u=Value.bool b from ry)
 cases a<;>cases b<;>exact O5z ⟨.bl _,H,I,rfl,q⟩
theorem GJ:OpR X (compareOp .IsNot) (fun x y H Q=>∃ a b,x=.bl a/\y=.bl b/\Q (.bl (!(a==b))) H):=by
 intro z0 s σ H x y v u Q I rx ry h;obtain⟨a,b,rfl,rfl,q⟩:=h;cases (show v=Value.bool a from rx);cases (show u=Value.bool b from ry)
 cases a<;>cases b<;>exact O5z ⟨.bl _,H,I,rfl,q⟩
theorem jZ(hr:Room k X.A)(op:CmpOp):OpR X (compareOp op) (PL X op):=by
 intro z0 s σ H u v w z Q I ru rv h;obtain⟨Hs,x,y,d,hs,rx,ry,hc,b,rfl,q⟩:=h;have rx':=Rep.same hs x u rx;have ry':=Rep.same hs y v ry;unfold cmpop at hc;split at hc
 ·split at hc
  ·rename_i hd
   rw[X2z,J2z,J2z] at hd;cases hc;exact(tL I X.A rx' ry' ru rv (by have:=hr.un;omega) (by omega) (by omega)).1 _ _ _ _ ⟨.bl _,H,I,rfl,q⟩
  ·cases hc
 ·split at hc
  ·rename_i hd
   rw[X2z,J2z,J2z] at hd;cases hc;exact(tL I X.A rx' ry' ru rv (by have:=hr.un;omega) (by omega) (by omega)).2 _ _ _ _ ⟨.bl _,H,I,rfl,q⟩
  ·cases hc
 ·cases hc;exact Qg z0 s σ H u v w z Q I ru rv ⟨_,_,aO rx,aO ry,q⟩
 ·cases hc;exact Qh z0 s σ H u v w z Q I ru rv ⟨_,_,aO rx,aO ry,q⟩
 ·cases hc;exact Qi z0 s σ H u v w z Q I ru rv ⟨_,_,aO rx,aO ry,q⟩
 ·cases hc;exact Qj z0 s σ H u v w z Q I ru rv ⟨_,_,aO rx,aO ry,q⟩
 ·cases hc;rw[sU rx] at q;exact K9 z0 s σ H u v w z Q I ru rv ⟨lE ry,q⟩
 ·cases hc;rw[sU rx] at q;exact GF z0 s σ H u v w z Q I ru rv ⟨lE ry,q⟩
 ·cases hc;exact La z0 s σ H u v w z Q I ru rv ⟨_,_,cH rx,cH ry,q⟩
 ·cases hc;exact GJ z0 s σ H u v w z Q I ru rv ⟨_,_,cH rx,cH ry,q⟩
 ·obtain⟨ns,hn,he⟩:=R0z.mp hc
  cases he;exact(DK I X.A (by have:=hr.un;omega) rx' ry' hn ru rv).1 _ _ ⟨.bl _,H,I,rfl,q⟩
 ·obtain⟨ns,hn,he⟩:=R0z.mp hc
  cases he;exact(DK I X.A (by have:=hr.un;omega) rx' ry' hn ru rv).2 _ _ ⟨.bl _,H,I,rfl,q⟩
 ·cases hc
theorem El{op:CmpOp}{x y d:D}(h:cmpop op x y=some d):∃ b,d=.bl b:=by
 unfold cmpop at h
 split at h<;>first | (cases h;exact⟨_,rfl⟩) | (obtain⟨_,_,rfl⟩:=R0z.mp h;exact⟨_,rfl⟩) | (split at h<;>first | (cases h;exact⟨_,rfl⟩) | cases h) | cases h
theorem Ii{a b:Expr}{op:CmpOp}{x y d:D}{pos:Pos}(hr:Room k X.A)(ha:Ev X ρ a x)(hb:Ev X ρ b y)(hm:aG b=true)(h:cmpop op x y=some d):Ev X ρ (.Compare a [op] [b] pos) d/\∀ c,d=.bl c->EvT X ρ (.Compare a [op] [b] pos) c:=by
 obtain⟨c,rfl⟩:=El h;refine⟨d8 ha hb (Gx (jZ hr op) aq aq (g8 hm)) fun u v H Hs Q hs r1 r2 hq=>⟨Hs,x,y,_,hs,r1,r2,h,c,rfl,hq _ H Hs (.refl hs) (by simp[Rep])⟩,fun c' hc' σ H Hs Q hs hst hq=>?_⟩;cases hc';refine(Gh (jZ hr op) aq aq (g8 hm)).sem (ha σ H Hs _ hs hst fun u H1 Hs1 E1 r1=>hb σ H1 Hs1 _ E1.sub (hst.same E1.vis) fun v H2 Hs2 E2 r2=>?_);exact⟨Hs2,x,y,_,E2.sub,Rep.same E2.vis x u r1,r2,h,c,rfl,c,rfl,hq H2 Hs2 (E1.trans E2)⟩
theorem xJ{op op':CmpOp}{b c:Expr}(h:aG c=true):lastMarks [op,op'] [b,c]=false:=g8 h
theorem yC{a b e:Expr}{op op':CmpOp}{x y d:D}{c:Bool}{pos:Pos}(hr:Room k X.A)(ha:Ev X ρ a x)(hb:Ev X ρ b y)(hm:aG e=true)(h:cmpop op x y=some (.bl c))(hd:(c=true->∃ z,Ev X ρ e z/\cmpop op' y z=some d)/\(c=false->d=.bl false)) :
  Ev X ρ (.Compare a [op,op'] [b,e] pos) d/\∀ c,d=.bl c->EvT X ρ (.Compare a [op,op'] [b,e] pos) c:=by
 have core:∀ σ H Hs Q,Same Hs H->cC X.K Hs ρ σ->(∀ v H' Hs',Ext Hs H Hs' H'->Rep X.K Hs' d v->Q v H')->vI (PL X op) (PL X op') (m9 X a) (m9 X b) (m9 X e) σ H Q:=by
  intro σ H Hs Q hs hst hq;refine ha σ H Hs _ hs hst fun u H1 Hs1 E1 r1=>hb σ H1 Hs1 _ E1.sub (hst.same E1.vis) fun v H2 Hs2 E2 r2=>?_;refine⟨Hs2,x,y,_,E2.sub,Rep.same E2.vis x u r1,r2,h,c,rfl,c,rfl,?_⟩
  cases c with
  | false=>rw[hd.2 rfl] at hq;exact xX (hq _ H2 Hs2 (E1.trans E2) (by simp[Rep]))
  | true =>
   obtain⟨z,hz,hc⟩:=hd.1 rfl;obtain⟨c',rfl⟩:=El hc;refine uX (hz σ H2 Hs2 _ E2.sub ((hst.same E1.vis).same E2.vis) fun w H3 Hs3 E3 r3=>?_);exact⟨Hs3,y,z,_,E3.sub,Rep.same E3.vis y v r2,r3,hc,c',rfl,hq _ H3 Hs3 (E1.trans (E2.trans E3)) (by simp[Rep])⟩
 refine⟨fun σ H Hs Q hs hst hq=>(Ah (jZ hr op) (jZ hr op') aq aq aq (xJ hm)).sem (core σ H Hs Q hs hst hq),fun c' hc' σ H Hs Q hs hst hq=>?_⟩;subst hc';exact(Aa (jZ hr op) (jZ hr op') aq aq aq (xJ hm)).sem (core σ H Hs _ hs hst fun v H' Hs' E1 r1=>⟨c',cH r1,hq H' Hs' E1⟩)
theorem M4{c a b:Expr}{t:Bool}{d:D}{pos:Pos}(hc:EvT X ρ c t)(ha:t=true->Ev X ρ a d)(hb:t=false->Ev X ρ b d):Ev X ρ (.IfExp c a b pos) d:=fun σ H Hs Q hs hst hq =>
 (lO dI aq aq).sem (hc σ H Hs _ hs hst fun H1 Hs1 E1=>by
  cases t with
  | true=>exact uX (ha rfl σ H1 Hs1 Q E1.sub (hst.same E1.vis) fun v H' Hs' E2 r=>hq v H' Hs' (E1.trans E2) r)
  | false=>exact xX (hb rfl σ H1 Hs1 Q E1.sub (hst.same E1.vis) fun v H' Hs' E2 r=>hq v H' Hs' (E1.trans E2) r))
theorem Eh{c a b:Expr}{t r:Bool}{pos:Pos}(hc:EvT X ρ c t)(ha:t=true->EvT X ρ a r)(hb:t=false->EvT X ρ b r):EvT X ρ (.IfExp c a b pos) r:=by
 intro σ H Hs Q hs hst hq z0 s I;refine isTrue_IfExp (thn (hc σ H Hs (fun b' H'=>b'=t/\∃ Hs',Ext Hs H Hs' H') hs hst (fun H1 Hs1 E1=>⟨rfl,Hs1,E1⟩) z0 s I) fun b' s2 ⟨H2,I2,e2,Hs2,E2⟩=>?_);subst e2
 cases b' with
 | true=>exact uX (ha rfl σ H2 Hs2 Q E2.sub (hst.same E2.vis) (fun H' Hs' E3=>hq H' Hs' (E2.trans E3)) z0 s2 I2)
 | false=>exact xX (hb rfl σ H2 Hs2 Q E2.sub (hst.same E2.vis) (fun H' Hs' E3=>hq H' Hs' (E2.trans E3)) z0 s2 I2)
theorem fC{f:Expr->Option D}:∀ {es:List Expr} {ds:List D},(∀ e∈es,∀ d,f e=some d->Ev X ρ e d/\aG e=true)->jQ f es=some ds->EvA X ρ es ds/\(∀ e∈es,aG e=true)
 | [],ds,_,h=>by
  simp only[jQ,K2z] at h;subst h;exact⟨fun σ H Hs Q hs hst hq=>cY.sem (hq [] H Hs (.refl hs) .nil),fun e he=>absurd he (by simp)⟩
 | e::es,ds,hf,h=>by
  simp only[jQ,bind,Option.bind] at h
  cases he:f e with
  | none=>rw[he] at h;cases h
  | some d =>
   rw[he] at h;simp only at h
   cases hr:jQ f es with
   | none=>rw[hr] at h;cases h
   | some dr =>
    rw[hr] at h;simp only[K2z] at h;subst h;obtain⟨h1,hp⟩:=hf e (by simp) d he;obtain⟨h2,hps⟩:=fC (fun a ha=>hf a (Y0z _ ha)) hr;refine⟨fun σ H Hs Q hs hst hq=>(bB aq iB (ao hp)).sem (h1 σ H Hs _ hs hst fun v H1 Hs1 E1 r1=>h2 σ H1 Hs1 _ E1.sub (hst.same E1.vis) fun vs H2 Hs2 E2 r2=>?_),fun a ha=>?_⟩
    ·exact hq _ H2 Hs2 (E1.trans E2) (.cons (Rep.same E2.vis d v r1) r2)
    ·rcases List.mem_cons.mp ha with rfl | ha
     ·exact hp
     ·exact hps a ha
theorem Bv{es:List Expr}{ds:List D}{j:Nat}{pos:Pos}(h:EvA X ρ es ds)(hz:szl ds.length=true):Ev X ρ (.Tuple es j pos) (.tup ds):=fun σ H Hs Q hs hst hq =>
 (KJ iB).sem (h σ H Hs _ hs hst fun vs H1 Hs1 E1 r1=>⟨by rw[<- r1.length];exact eU hz,fun p hp=>qm E1.sub r1 hp fun w H' Hs' E2 r2=>hq w H' Hs' (E1.trans E2) r2⟩)
theorem HX{es:List Expr}{ds:List D}{pos:Pos}(h:EvA X ρ es ds)(hz:szl ds.length=true):Ev X ρ (.List es pos) (.lst ds):=fun σ H Hs Q hs hst hq =>
 (Dg iB).sem (h σ H Hs _ hs hst fun vs H1 Hs1 E1 r1=>⟨by rw[<- r1.length];exact eU hz,fun p hp=>eY E1.sub r1 hp fun w H' Hs' E2 r2=>hq w H' Hs' (E1.trans E2) r2⟩)
theorem xW(n:Nat)(i:Int):ixD n i=ixN n i:=rfl
theorem yZ{K:Z2}{H:Hp}{ds:List D}{vs:List V}{i:Int}{d:D}(h:aM K H ds vs)(e:atD ds i=some d):∃ v,atI vs i=some v/\Rep K H d v:=by
 unfold atD at e;rw[xW,h.length] at e
 cases q:ixN vs.length i with
 | none=>rw[q] at e;cases e
 | some j =>
  rw[q] at e;obtain⟨v,h1,h2⟩:=h.get (i:=j) (d:=d) e;exact⟨v,by unfold atI;rw[q];exact h1,h2⟩
theorem wA{K:Z2}{H:Hp}{ks:List (Sum Int Str)}{ds:List D}{v:V}(h:Rep K H (.dic ks ds) v):∃ (a:Addr) (kvs:List (Key×V)),v=.ref a/\DAt K H a kvs/\kvs.map (·.1)=ks/\aM K H ds (kvs.map (·.2)):=by simpa[Rep] using h
theorem pX{K:Z2}{H:Hp}{k:Key}{d:D}:∀ {kvs:List (Key×V)} {ds:List D},aM K H ds (kvs.map (·.2))->zB (kvs.map (·.1)) ds k=some d->∃ v,ud kvs k=some v/\Rep K H d v
 | [],ds,r,h=>by simp[zB] at h
 | (k',v')::kvs,ds,r,h=>by
  cases ds with
  | nil=>simp[zB] at h
  | cons d' ds =>
   simp only[O4z,aM] at r;obtain⟨v,rr,e,h2,h3⟩:=r;cases e;unfold zB at h;simp only[O4z,W1z,List.find?_cons] at h;unfold ud;rw[List.find?_cons]
   by_cases q:k'=k
   ·simp only[q,J5z] at h ⊢
    simp only[O3z,K2z] at h ⊢;subst h;exact⟨v',rfl,h2⟩
   ·simp only[q,C5z] at h ⊢
    exact pX h3 h
theorem vp{K:Z2}{H:Hp}{k:Key}:∀ {kvs:List (Key×V)} {ds:List D},aM K H ds (kvs.map (·.2))->zB (kvs.map (·.1)) ds k=none->ud kvs k=none
 | [],ds,r,h=>rfl
 | (k',v')::kvs,ds,r,h=>by
  cases ds with
  | nil=>simp[aM] at r
  | cons d' ds =>
   simp only[O4z,aM] at r;obtain⟨v,rr,e,h2,h3⟩:=r;cases e;unfold zB at h;simp only[O4z,W1z,List.find?_cons] at h;unfold ud;rw[List.find?_cons]
   by_cases q:k'=k
   ·simp only[q,J5z] at h
    simp at h
   ·simp only[q,C5z] at h ⊢
    exact vp h3 h
theorem qG{K:Z2}{H:Hp}{d:D}{v:V}{k:Key}(h:Ho d=some k)(r:Rep K H d v):v=kV k:=by
 cases d<;>simp[Ho] at h
 ·subst h;exact aO r
 ·subst h
  rename_i x
  have e:v=.str x:=by simpa[Rep] using r
  exact e
theorem Ie{a b:Expr}{ks:List (Sum Int Str)}{ds:List D}{y d:D}{k':Key}{pos:Pos}(kw:KnW X.K X.w)(ha:Ev X ρ a (.dic ks ds))(hb:Ev X ρ b y)(hp:aG b=true)(hk:Ho y=some k')(hd:zB ks ds k'=some d):Ev X ρ (.Subscript a b pos) d:=by
 intro σ H Hs Q hs hst hq;refine PE.sem (Gu kw aq aq fun ov iv=>iU hp ov iv) (ha σ H Hs _ hs hst fun v H1 Hs1 E1 r1=>hb σ H1 Hs1 _ E1.sub (hst.same E1.vis) fun u H2 Hs2 E2 r2=>?_);have rdE:∀ {H1 H2:Hp} {a:Addr} {u:List (Key×V)},Same H1 H2->DAt X.K H1 a u->DAt X.K H2 a u:=fun e r=>r.elim (fun r=>.inl (r.elim (fun q=>.inl (e _ _ q)) fun⟨o,q⟩=>.inr ⟨o,e _ _ q⟩)) .inr;obtain⟨p,kvs,rfl,h1,rfl,h3⟩:=wA (Rep.same E2.vis _ v r1);obtain⟨w,h4,h5⟩:=pX h3 hd;exact⟨p,w,kvs,k',rfl,rdE E2.sub h1,qG hk r2,h4.symm,hq w H2 Hs2 (E1.trans E2) h5⟩
theorem obd{α β:Type}{x:Option α}{f:α->Option β}{b:β}(h:(x >>=f)=some b):∃ a,x=some a/\f a=some b:=Option.bind_eq_some_iff.mp h
def Pj(X:Cx):List (Option Expr)->List Expr->List (TE×TE)
 | some k::ks,v::vs=>(m9 X k,m9 X v)::Pj X ks vs
 | _,_=>[]
theorem jw{f:Expr->Option D}:∀ {ks:List (Option Expr)} {vs:List Expr} {l:List (Sum Int Str×D)} {pos:Pos},dB f ks vs=some l->PPs X pos ks vs (Pj X ks vs)/\ks.all (·.isSome)=true/\ks.length=vs.length/\l.length=ks.length
 | [],[],l,pos,h=>by simp only[dB,K2z] at h;subst h;exact⟨wH,rfl,rfl,rfl⟩
 | some k::ks,v::vs,l,pos,h=>by
  simp only[dB] at h;obtain⟨x,h1,h⟩:=obd h;obtain⟨d,h2,h⟩:=obd h;obtain⟨r,h3,h⟩:=obd h;cases h;obtain⟨a1,a2,a3,a4⟩:=jw (pos:=pos) h3;exact⟨rT aq aq a1,by simpa using a2,by simp[a3],by simp[a4]⟩
 | [],_::_,l,pos,h=>by simp[dB] at h
 | none::ks,vs,l,pos,h=>by cases vs<;>simp[dB] at h
 | some k::ks,[],l,pos,h=>by simp[dB] at h
def fP(K:Z2)(H:Hp)(l:List (Sum Int Str×D))(kvs:List (Key×V)):Prop:=kvs.map (·.1)=l.map (·.1)/\aM K H (l.map (·.2)) (kvs.map (·.2))
theorem fP.nil{K:Z2}{H:Hp}:fP K H [] []:=⟨rfl,.nil⟩
theorem fP.cons{K:Z2}{H:Hp}{l:List (Sum Int Str×D)}{kvs:List (Key×V)}{k:Key}{d:D}{v:V}(h:Rep K H d v)(r:fP K H l kvs):fP K H ((k,d)::l) ((k,v)::kvs):=⟨by simp[r.1],.cons h r.2⟩
theorem fP.inv{K:Z2}{H:Hp}{k:Key}{d:D}{l:List (Sum Int Str×D)}{kvs:List (Key×V)}(r:fP K H ((k,d)::l) kvs):∃ v kvs',kvs=(k,v)::kvs'/\Rep K H d v/\fP K H l kvs':=by
 obtain⟨r1,r2⟩:=r
 cases kvs with
 | nil=>simp at r1
 | cons q kvs =>
  obtain⟨k',v⟩:=q;simp only[O4z,List.cons.injEq] at r1;simp only[O4z,aM] at r2;obtain⟨v',rr,e,h2,h3⟩:=r2;cases e;exact⟨v,kvs,by rw[r1.1],h2,r1.2,h3⟩
theorem fP.nil_inv{K:Z2}{H:Hp}{kvs:List (Key×V)}(r:fP K H [] kvs):kvs=[]:=by
 have:=r.1;simpa using this
theorem fP.any{K:Z2}{H:Hp}(k:Key):∀ {l:List (Sum Int Str×D)} {kvs:List (Key×V)},fP K H l kvs->(l.any fun q=>decide (q.1=k))=kvs.any fun q=>decide (q.1=k)
 | [],kvs,r=>by rw[r.nil_inv];rfl
 | (k',d)::l,kvs,r=>by
  obtain⟨v,kvs',rfl,_,r'⟩:=r.inv;simp only[P4z,fP.any k r']
theorem fP.repl{K:Z2}{H:Hp}{k:Key}{d:D}{v:V}(hd:Rep K H d v):∀ {l:List (Sum Int Str×D)} {kvs:List (Key×V)},fP K H l kvs->fP K H (l.map fun q=>if q.1=k then(q.1,d) else q) (kvs.map fun q=>if q.1=k then(q.1,v) else q)
 | [],kvs,r=>by rw[r.nil_inv];exact .nil
 | (k',d')::l,kvs,r=>by
  obtain⟨v',kvs',rfl,h,r'⟩:=r.inv;simp only[O4z]
  by_cases q:k'=k
  ·rw[Y5z q,Y5z q];exact .cons hd (fP.repl hd r')
  ·rw[Z5z q,Z5z q];exact .cons h (fP.repl hd r')
theorem fP.snoc{K:Z2}{H:Hp}{k:Key}{d:D}{v:V}(hd:Rep K H d v):∀ {l:List (Sum Int Str×D)} {kvs:List (Key×V)},fP K H l kvs->fP K H (l++[(k,d)]) (kvs++[(k,v)])
 | [],kvs,r=>by rw[r.nil_inv];exact .cons hd .nil
 | (k',d')::l,kvs,r=>by
  obtain⟨v',kvs',rfl,h,r'⟩:=r.inv;exact .cons h (fP.snoc hd r')
theorem fP.put{K:Z2}{H:Hp}{k:Key}{d:D}{v:V}{l:List (Sum Int Str×D)}{kvs:List (Key×V)}(hd:Rep K H d v)(r:fP K H l kvs):fP K H (putD l k d) (putK kvs k v):=by
 unfold putD putK;rw[r.any k];split
 ·exact r.repl hd
 ·exact r.snoc hd
theorem fP.mrg{K:Z2}{H:Hp}:∀ {l:List (Sum Int Str×D)} {kvs:List (Key×V)} {a:List (Sum Int Str×D)} {b:List (Key×V)},fP K H l kvs->fP K H a b->fP K H (l.foldl (fun a q=>putD a q.1 q.2) a) (gB b kvs)
 | [],kvs,a,b,r,r2=>by rw[r.nil_inv];exact r2
 | (k',d')::l,kvs,a,b,r,r2=>by
  obtain⟨v',kvs',rfl,h,r'⟩:=r.inv;exact fP.mrg (l:=l) (kvs:=kvs') r' (r2.put h)
theorem jY{f:Expr->Option D}(hf:∀ e d,f e=some d->Ev X ρ e d):∀ {ks:List (Option Expr)} {vs:List Expr} {l:List (Sum Int Str×D)},dB f ks vs=some l->∀ σ H Hs (Q:List (V×V)->Hp->Prop),Same Hs H->cC X.K Hs ρ σ ->
  (∀ kvs H' Hs',Ext Hs H Hs' H'->fP X.K Hs' l kvs->Q (kvs.map fun q=>(kV q.1,q.2)) H')->nH (Pj X ks vs) σ H Q
 | [],[],l,h,σ,H,Hs,Q,hs,hst,hq=>by
  simp only[dB,K2z] at h;subst h
  exact hq [] H Hs (.refl hs) .nil
 | some k::ks,v::vs,l,h,σ,H,Hs,Q,hs,hst,hq=>by
  simp only[dB] at h;obtain⟨x,h1,h⟩:=obd h;obtain⟨d,h2,h⟩:=obd h;obtain⟨r,h3,h⟩:=obd h;cases h;obtain⟨kd,h4,h5⟩:=obd (show(f k >>=Ho)=some x from h1);refine hf _ _ h4 σ H Hs _ hs hst fun u H1 Hs1 E1 r1=>hf _ _ h2 σ H1 Hs1 _ E1.sub (hst.same E1.vis) fun w H2 Hs2 E2 r2=>?_;refine jY hf h3 σ H2 Hs2 _ E2.sub ((hst.same E1.vis).same E2.vis) fun kvs H3 Hs3 E3 r3=>?_;have:=hq ((x,w)::kvs) H3 Hs3 (E1.trans (E2.trans E3)) (.cons (Rep.same E3.vis _ _ r2) r3);rw[O4z,<- qG h5 r1] at this;exact this
 | [],_::_,l,h,_,_,_,_,_,_,_=>by simp[dB] at h
 | none::ks,vs,l,h,_,_,_,_,_,_,_=>by cases vs<;>simp[dB] at h
 | some k::ks,[],l,h,_,_,_,_,_,_,_=>by simp[dB] at h
theorem Ig{f:Expr->Option D}{ks:List (Option Expr)}{vs:List Expr}{l:List (Sum Int Str×D)}{pos:Pos}(hf:∀ e d,f e=some d->Ev X ρ e d)(h0:ks.isEmpty=false)(h15:ks.length<=15)(h:dB f ks vs=some l):Ev X ρ (.Dict ks vs pos) (IV (Ys l)):=by
  intro σ H Hs Q hs hst hq
  obtain⟨a1,a2,a3,a4⟩:=jw (X:=X) (pos:=pos) h
  refine PE.sem (Gw a1 a2 a3 (by intro e;rw[e] at h0;simp at h0) h15) fun p hp=>?_
  have Hn:Hs p=none:=by
    cases e:Hs p with
    | none=>rfl
    | some u=>rw[hs _ _ e] at hp;cases hp
  have hs1:Same Hs (upd H p (.dK [])):=fun b u e=>by rw[aJ (au e Hn)];exact hs b u e
  refine jY hf h σ _ Hs _ hs1 hst fun kvs H' Hs' E r=>?_
  have hH':H' p=some (.dK []):=E.all _ _ aP
  have Hn':Hs' p=none:=E.hid _ _ aP Hn
  have hz:kvs.length=l.length:=by have:=congrArg List.length r.1;simpa using this
  refine⟨hH',kvs,rfl,by omega,?_⟩
  have E2:Ext Hs H (upd Hs' p (.dK (gB [] kvs))) (upd H' p (.dK (gB [] kvs))) :=
    { vis := fun b u e => by rw [aJ (au e Hn)]; exact E.vis b u e
      all:=fun b u e=>by rw[aJ (au e hp)];exact E.all b u (by rw[aJ (au e hp)];exact e)
      sub:=fun b u e=>by
        by_cases hb:b=p
        · subst hb;rw[aP] at e ⊢;exact e
        · rw[aJ hb] at e ⊢;exact E.sub b u e
      hid:=fun b u e n=>by rw[aJ (au e hp)];exact E.hid b u (by rw[aJ (au e hp)];exact e) n }
  refine hq _ _ _ E2 ?_
  have r2:=fP.mrg (a:=[]) (b:=[]) r .nil
  simp only[IV,Rep]
  refine⟨p,gB [] kvs,rfl,.inl (.inl aP),r2.1,aM.same (fun b u e=>?_) _ _ r2.2⟩
  rw[aJ (au e Hn')];exact e
theorem CK{K:Z2}{H:Hp}{ks:List (List Int)}{ds:List D}{v:V}(h:Rep K H (.dt ks ds) v):∃ (a:Addr) (es:List En) (o:Obj),v=.ref a/\H a=some (DtO a es o)/\es.map (·.1)=ks/\Keyed K H es/\aM K H ds (es.map (·.2.2)):=by simpa[Rep] using h
theorem sO{K:Z2}{H:Hp}{k:List Int}{z:D}{w:V}(rz:Rep K H z w):∀ {es:List En} {ds:List D},aM K H ds (es.map (·.2.2))->Rep K H ((xr ((es.map (·.1)).zip ds) k).getD z) ((jz es k).getD w)
 | [],ds,r=>rz
 | e::es,ds,r=>by
  cases ds with
  | nil=>simp[aM] at r
  | cons d ds =>
   simp only[O4z,aM] at r;obtain⟨v,rr,q,h2,h3⟩:=r;cases q;unfold xr jz;simp only[O4z,W1z,List.find?_cons]
   by_cases q:e.1=k
   ·simp only[q,J5z,O3z,Option.getD_some]
    exact h2
   ·simp only[q,C5z]
    exact sO rz h3
theorem mC{K:Z2}{H:Hp}{y:D}{v:V}{k:List Int}(h:xM y=some k)(r:Rep K H y v):∃ b,v=.ref b/\SqT K H b (k.map V.int):=by
 cases y<;>simp only[xM] at h
 all_goals first | cases h | skip
 obtain⟨b,vs,rfl,h1,h2⟩:=bF r;rw[gR h h2] at h1;exact⟨b,rfl,h1⟩
theorem yx{o e e2:Expr}{x y z d:D}{ap pos:Pos}(hu:X.A.units+1<cLine)(ho:Ev X ρ o x)(hb:attributeBase o "get" X.env (eval o X.env)=eval o X.env)(hl:(ap.endLine==pos.line)=true)(h1:Ev X ρ e y)(p1:aG e=true)(h2:Ev X ρ e2 z)(p2:aG e2=true)(h:HB x y z=some d) :
  Ev X ρ (.Call (.Attribute o "get" ap) [e,e2] [] pos) d:=by
 cases x<;>simp only[HB] at h
 all_goals first | cases h | skip
 rename_i ks ds;obtain⟨k',hk,rfl⟩:=R0z.mp h;intro σ H Hs Q hs hst hq;have m:M2 X o "get" ap e e2 pos:=⟨hb,by simp only[starEach,ao p1,ao p2];rfl,hl,by simp only[starEach,ao p1,ao p2];rfl⟩;refine PE.sem (K1 hu aq aq aq m) (ho σ H Hs _ hs hst fun v H1 Hs1 E1 r1=>?_);obtain⟨a,es,ob,rfl,g1,rfl,g3,g4⟩:=CK r1;refine⟨a,es,ob,rfl,E1.sub _ _ g1,g3.same fun q=>E1.sub.tup q,h1 σ H1 Hs1 _ E1.sub (hst.same E1.vis) fun u H2 Hs2 E2 r2=>h2 σ H2 Hs2 _ E2.sub ((hst.same E1.vis).same E2.vis) fun w H3 Hs3 E3 r3=>?_⟩;have E23:=E2.trans E3;obtain⟨b,rfl,kb⟩:=mC hk r2;exact⟨E3.sub _ _ (E23.vis _ _ g1),(g3.same fun q=>E23.vis.tup q).same fun q=>E3.sub.tup q,b,k',rfl,E3.sub.tup (E3.vis.tup kb),hq _ H3 Hs3 (E1.trans E23) (sO r3 (aM.same E23.vis _ _ g4))⟩
theorem M5{f:Expr->Option D}{ks:List (Option Expr)}{vs:List Expr}{d:D}{pos:Pos}(hu:X.A.units+1<cLine)(hf:∀ e d,f e=some d->Ev X ρ e d)(h:dt1 f ks vs=some d):Ev X ρ (.Dict ks vs pos) d:=by
 unfold dt1 at h;split at h
 case h_2=>cases h
 rename_i ke ve;obtain⟨x,h1,h⟩:=obd h;obtain⟨d',h2,h⟩:=obd h;cases h;obtain⟨y,h3,h4⟩:=obd (show(f ke >>=xM)=some x from h1);intro σ H Hs Q hs hst hq;refine PE.sem (K3 hu aq aq) fun p o hp=>?_
 have Hn:Hs p=none:=by
  cases e:Hs p with
  | none=>rfl
  | some u=>rw[hs _ _ e] at hp;cases hp
 have hs1:Same Hs (upd H p (DtO p [] o)):=fun b u e=>by rw[aJ (au e Hn)];exact hs b u e
 refine hf _ _ h3 σ _ Hs _ hs1 hst fun u H1 Hs1 E1 r1=>hf _ _ h2 σ H1 Hs1 _ E1.sub (hst.same E1.vis) fun w H2 Hs2 E2 r2=>?_;have E:=E1.trans E2;obtain⟨b,rfl,kb⟩:=mC h4 r1;have hH':H2 p=some (DtO p [] o):=E.all _ _ aP;have Hn':Hs2 p=none:=E.hid _ _ aP Hn;refine⟨hH',b,x,w,rfl,E2.sub.tup (E2.vis.tup kb),fun o'=>?_⟩
 have E3:Ext Hs H (upd Hs2 p (DtO p [(x,b,w)] o')) (upd H2 p (DtO p [(x,b,w)] o')) :=
  ⟨fun c u q=>by rw[aJ (au q Hn)];exact E.vis c u q,fun c u q=>by rw[aJ (au q hp)];exact E.all c u (by rw[aJ (au q hp)];exact q),fun c u q=>by
   by_cases hc:c=p
   ·subst hc;rw[aP] at q ⊢;exact q
   ·rw[aJ hc] at q ⊢;exact E.sub c u q,fun c u q n=>by rw[aJ (au q hp)];exact E.hid c u (by rw[aJ (au q hp)];exact q) n⟩
 have sm:Same Hs2 (upd Hs2 p (DtO p [(x,b,w)] o')):=fun c u q=>by rw[aJ (au q Hn')];exact q
 refine hq _ _ _ E3 ?_;simp only[Rep];exact⟨p,[(x,b,w)],o',rfl,aP,rfl,fun e he=>by rw[List.mem_singleton.mp he];exact sm.tup (E2.vis.tup kb),.cons (Rep.same sm _ _ r2) .nil⟩
theorem Ib{o e e2:Expr}{x y z d:D}{ap pos:Pos}(kw:KnW X.K X.w)(ho:Ev X ρ o x)(hb:attributeBase o "get" X.env (eval o X.env)=eval o X.env)(hl:(ap.endLine==pos.line)=true)(h1:Ev X ρ e y)(p1:aG e=true)(h2:Ev X ρ e2 z)(p2:aG e2=true)(h:HD x y z=some d) :
  Ev X ρ (.Call (.Attribute o "get" ap) [e,e2] [] pos) d:=by
 cases x<;>simp only[HD] at h
 all_goals first | cases h | skip
 rename_i ks ds;obtain⟨k',hk,rfl⟩:=R0z.mp h;intro σ H Hs Q hs hst hq;have m:M2 X o "get" ap e e2 pos:=⟨hb,by simp only[starEach,ao p1,ao p2];rfl,hl,by simp only[starEach,ao p1,ao p2];rfl⟩;have rdE:∀ {H1 H2:Hp} {a:Addr} {u:List (Key×V)},Same H1 H2->DAt X.K H1 a u->DAt X.K H2 a u:=fun e r=>r.elim (fun r=>.inl (r.elim (fun q=>.inl (e _ _ q)) fun⟨o,q⟩=>.inr ⟨o,e _ _ q⟩)) .inr;refine PE.sem (Ag kw aq aq aq m) (ho σ H Hs _ hs hst fun v H1 Hs1 E1 r1=>?_);obtain⟨p,kvs,rfl,g1,rfl,g3⟩:=wA r1;refine⟨p,kvs,rfl,rdE E1.sub g1,h1 σ H1 Hs1 _ E1.sub (hst.same E1.vis) fun u H2 Hs2 E2 r2=>h2 σ H2 Hs2 _ E2.sub ((hst.same E1.vis).same E2.vis) fun w H3 Hs3 E3 r3=>?_⟩;have E23:=E2.trans E3;have g3':=aM.same E23.vis _ _ g3;refine⟨k',rdE E3.sub (rdE E23.vis g1),qG hk r2,hq _ H3 Hs3 (E1.trans E23) ?_⟩
 cases e:zB (kvs.map (·.1)) ds k' with
 | none=>rw[vp g3' e];exact r3
 | some d =>
  obtain⟨v,e1,e2⟩:=pX g3' e;rw[e1];exact e2
theorem tG{a b:Expr}{x d:D}{i:Int}{xs:List D}{pos:Pos}(ha:Ev X ρ a x)(hb:Ev X ρ b (.int i))(hp:aG b=true)(hx:items x=some xs)(hd:atD xs i=some d):Ev X ρ (.Subscript a b pos) d:=by
 cases x with
 | tup ys =>
  simp only[items,K2z] at hx;subst hx;refine d8 ha hb (Gv Mh aq aq (iU hp)) fun u v H Hs Q hs r1 r2 hq=>?_;obtain⟨p,vs,rfl,h1,h2⟩:=bF r1;obtain⟨w,h3,h4⟩:=yZ h2 hd;exact⟨p,vs,i,w,rfl,aO r2,hs.tup h1,h3,hq w H Hs (.refl hs) h4⟩
 | lst ys =>
  simp only[items,K2z] at hx;subst hx;refine d8 ha hb (Gv xU aq aq (iU hp)) fun u v H Hs Q hs r1 r2 hq=>?_;obtain⟨p,vs,rfl,h1,h2⟩:=bG r1;obtain⟨w,h3,h4⟩:=yZ h2 hd;exact⟨p,vs,i,w,rfl,aO r2,hs.seq h1,h3,hq w H Hs (.refl hs) h4⟩
 | _=>simp[items] at hx
theorem Ij{f:Str}{es:List Expr}{ds:List D}{d:D}{p pos:Pos}(G:Good cx k X sc)(hg:Gl X f)(hf:cx.fns.contains f=true)(hne:es≠[])(h:EvA X ρ es ds)(hp:∀ e∈es,aG e=true)(hc:cx.call f ds=some d) :
  Ev X ρ (.Call (.Name f p) es [] pos) d:=by
 obtain⟨hdb,a,fd,ps,har,_,hm,hk,hb,F⟩:=G.fns f hf
 cases es with
 | nil=>exact absurd rfl hne
 | cons e es =>
  intro σ H Hs Q hs hst hq;refine(Gy F G.room hg hm hk hb .nil Qe iB hdb (ao (hp e (by simp))) (eV fun e' he=>hp e' (Y0z _ he))).sem (h σ H Hs _ hs hst fun vs H1 Hs1 E1 r1=>?_);refine⟨?_,Hs1,ds,E1.sub,?_,.inl ⟨d,hc,fun v H' Hs' E2 r2=>hq v H' Hs' (E1.trans E2) r2⟩⟩
  ·rw[H3z,<- r1.length,har ds d hc]
  ·rw[H3z];exact r1
def N7(X:Cx)(f:Value):List V->Hp->VK->Prop:=fun vs H Q=>∀ z0 s σ us,Inv X z0 σ H s->Vals vs us->wpAny (model X.prog X.w) X.A (call f us) (EP X z0 σ Q) X.xe s
theorem tO{f:Value}:dj X f (N7 X f):=fun z0 s σ H xs us Q I r h=>h z0 s σ us I r
theorem dj.sem{f:Value}{r:List V->Hp->VK->Prop}{vs:List V}{H:Hp}{Q:VK}(h:dj X f r)(q:r vs H Q):N7 X f vs H Q:=fun z0 s σ us I rv=>h z0 s σ H vs us Q I rv q
def EvC(X:Cx)(f:Value)(ds:List D)(d:D):Prop:=∀ vs H Hs Q,Same Hs H->aM X.K Hs ds vs->(∀ v H' Hs',Ext Hs H Hs' H'->Rep X.K Hs' d v->Q v H')->N7 X f vs H Q
theorem lJ{K:Z2}{H:Hp}{d:D}{vs:List V}(h:aM K H [d] vs):∃ v,vs=[v]/\Rep K H d v:=by
 simp only[aM] at h;obtain⟨v,r,rfl,h1,h2⟩:=h;subst h2;exact⟨v,rfl,h1⟩
theorem Pr{K:Z2}{H:Hp}{d e:D}{vs:List V}(h:aM K H [d,e] vs):∃ v w,vs=[v,w]/\Rep K H d v/\Rep K H e w:=by
 simp only[aM] at h;obtain⟨v,r,rfl,h1,w,r2,rfl,h2,h3⟩:=h;subst h3;exact⟨v,w,rfl,h1,h2⟩
theorem jh{K:Z2}{H:Hp}{d:D}{l:List D}{v:V}(h:Rep K H d v)(e:items d=some l):∃ a vs,v=.ref a/\(SqL K H a vs\/SqT K H a vs)/\aM K H l vs:=by
 cases d with
 | tup xs=>simp only[items,K2z] at e;subst e;obtain⟨a,vs,e1,e2,e3⟩:=bF h;exact⟨a,vs,e1,.inr e2,e3⟩
 | lst xs=>simp only[items,K2z] at e;subst e;obtain⟨a,vs,e1,e2,e3⟩:=bG h;exact⟨a,vs,e1,.inl e2,e3⟩
 | _=>simp[items] at e
theorem iZ{K:Z2}{H:Hp}:∀ {ds:List D} {bs:List Bool} {vs:List V},pO ds=some bs->aM K H ds vs->vs=bs.map V.bl
 | [],ns,vs,h,r=>by
  simp only[pO,K2z] at h;subst h
  simpa[aM] using r
 | .bl i::ds,ns,vs,h,r=>by
  simp only[pO,R0z] at h;obtain⟨ms,h1,rfl⟩:=h;simp only[aM] at r;obtain⟨v,r',rfl,h2,h3⟩:=r;rw[cH h2,iZ h1 h3];rfl
 | .non::ds,ns,vs,h,r=>by simp[pO] at h
 | .int _::ds,ns,vs,h,r=>by simp[pO] at h
 | .str _::ds,ns,vs,h,r=>by simp[pO] at h
 | .tup _::ds,ns,vs,h,r=>by simp[pO] at h
 | .lst _::ds,ns,vs,h,r=>by simp[pO] at h
 | .exc _::ds,ns,vs,h,r=>by simp[pO] at h
 | .dic _ _::ds,ns,vs,h,r=>by simp[pO] at h
 | .dt _ _::ds,ns,vs,h,r=>by simp[pO] at h
theorem jO:∀ {bs:List Bool} {us:List Value},Vals (bs.map V.bl) us->LSm.BoolsAre us bs
 | [],us,r=>by rw[Y4z] at r;cases r;exact .nil
 | b::bs,us,r=>by
  rw[O4z] at r
  cases r with
  | cons r1 r2 =>
   cases (show _=Value.bool b from r1);exact .cons b (jO r2)
theorem yR(hc:X.calm=true):dj X (.builtin "all") (fun xs H Q=>∃ (p:Addr) (bs:List Bool),xs=[.ref p]/\SqL X.K H p (bs.map V.bl)/\Q (.bl (bs.all id)) H):=by
 intro z0 s σ H xs us Q I r h;obtain⟨p,bs,rfl,hq,q⟩:=h;obtain⟨u,rfl,rx⟩:=vals1 r;cases (show u=Value.ref p from rx);obtain⟨its,r',pl,hz⟩:=I.list hq;have hb:=jO r';have hl:=pl.isList
 have hlt:p<s.heap.objs.size:=by obtain⟨_,e,_⟩:=hl;exact T4z e
 refine call_all_walk (wpAny_pyIter_list hl ⟨s.heap.objs.size,[s.heap.objs.size,p],[s.heap.objs.size],its.toArray.size,_,_,fun i=>(bs[i]?).getD true,rfl,Walks.list (A:=X.A.in1) (I.ok.hd hc) _ p (U4z hlt) its.toArray,⟨⟨_,Heap.get?_push_size _ rfl,rfl,rfl⟩,hl.push _⟩,fun i v s' Q' E' hP hQ=>?_,fun h' tk hk=>?_⟩)
 ·obtain⟨b,e,rfl⟩:=hb.get i v (by simpa using hP)
  simp only[e,Option.getD_some] at hQ;exact Z1z hQ
 ·have e:((List.range its.toArray.size).all fun i=>(bs[i]?).getD true)=bs.all id:=by rw[C2z,hb.length];exact LSm.range_all bs
  rw[e];exact⟨.bl _,H,I.kept (LSm.kept_iter hk),rfl,q⟩
theorem HJ{d0:D}{l:List D}(hl:items d0=some l):EvC X (.type "tuple") [d0] (.tup l):=by
 intro vs H Hs Q hs hr hq;obtain⟨v,rfl,r1⟩:=lJ hr;refine dj.sem mZ ?_
 cases d0 with
 | tup xs =>
  simp only[items,K2z] at hl;subst hl
  obtain⟨a,us,rfl,h1,h2⟩:=bF r1;exact⟨a,us,rfl,.inr ⟨hs.tup h1,hq _ H Hs (.refl hs) r1⟩⟩
 | lst xs =>
  simp only[items,K2z] at hl;subst hl
  obtain⟨a,us,rfl,h1,h2⟩:=bG r1;exact⟨a,us,rfl,.inl ⟨hs.seq h1,fun p hp=>qm hs h2 hp hq⟩⟩
 | _=>simp[items] at hl
theorem Es:∀ {l:List Int},Js l=true->l.Pairwise (· <= ·)
 | [],_=>.nil
 | [x],_=>by simp
 | x::y::r,h=>by
  simp only[Js,X2z,J2z] at h;have ih:=Es h.2;refine .cons (fun z hz=>?_) ih;rcases List.mem_cons.mp hz with rfl | hz
  ·exact h.1
  ·exact Int.le_trans h.1 (List.rel_of_pairwise_cons ih hz)
theorem qN:dj X (.builtin "sorted") (fun xs H Q=>∃ (p:Addr) (ns:List Int),xs=[.ref p]/\SqL X.K H p (ns.map V.int)/\Js ns=true/\ns.length<64/\∀ l,H l=none->Q (.ref l) (upd H l (.lst (ns.map V.int)))):=by
 intro z0 s σ H xs us Q I r h;obtain⟨p,ns,rfl,hq,ha,hn,q⟩:=h;obtain⟨u,rfl,rx⟩:=vals1 r;cases (show u=Value.ref p from rx);obtain⟨its,r',pl,hz⟩:=I.list hq;have hi:=intsAre_of r';have hl:=r'.length;rw[J3z] at hl;refine sorted_ints pl.isList hi (by omega) fun out ns' h1 h2 h3=>?_;have e:=PySem.W.lks_uniq h2 h3 (Es ha);subst e;obtain⟨c,hc⟩:=sortedAll_at s.heap its out;exact⟨.ref (s.heap.objs.size+1),_,I.laid (t':=s.toks) (fun _ _=>sortedAll_old) (K5z _) (show cG X.prog X.w _ _ _ (.lst (ns'.map V.int)) from⟨hz,out.toList,c,jd h1,hc⟩),rfl,q _ (I.hok.fresh (K5z _))⟩
def Nr(K:Z2)(H:Hp)(vs:List V)(ks:List (List Int)):Prop:=vs.length=ks.length/\∀ (i:Nat) (v:V) (k:List Int),vs[i]?=some v->ks[i]?=some k->∃ a b w,v=.ref a/\SqT K H a [.ref b,w]/\SqT K H b (k.map V.int)
theorem pC(hu:X.A.units+64<cLine):dj X (.builtin "sorted") (fun xs H Q=>∃ (p:Addr) (vs:List V) (ks:List (List Int)),xs=[.ref p]/\SqL X.K H p vs/\Nr X.K H vs ks/\Gb ks=true/\ks.length<64/\∀ l,H l=none->Q (.ref l) (upd H l (.lst vs))):=by
 intro z0 s σ H xs us Q I r h;obtain⟨p,vs,ks,rfl,hq,⟨hp1,hp2⟩,ha,hn,q⟩:=h;obtain⟨u,rfl,rx⟩:=vals1 r;cases (show u=Value.ref p from rx);obtain⟨its,r',pl,hz⟩:=I.list hq;have hl:=r'.length;refine Kas.pB (ks:=ks) (by omega) pl.isList ⟨by omega,fun i v k h1 h2=>?_⟩ (by omega) (fun i j hi hj hij=>?_) ?_
 ·have hi:i<vs.length:=by have:=(List.getElem?_eq_some_iff.mp h2).1;omega
  obtain⟨a,b,w,e1,e2,e3⟩:=hp2 i vs[i] k (List.getElem?_eq_getElem hi) h2;obtain⟨u1,g1,g2⟩:=r'.get (i:=i) (List.getElem?_eq_getElem hi);rw[h1] at g1;cases g1;rw[e1] at g2;cases (show v=Value.ref a from g2);obtain⟨ia,va,⟨oa,a1,a2,na,a3⟩,_⟩:=I.tuple e2;obtain⟨ib,vb,⟨ob,b1,b2,nb,b3⟩,_⟩:=I.tuple e3
  cases va with
  | cons x1 x2 =>
   cases x2 with
   | cons x3 x4 =>
    cases x4;cases (show _=Value.ref b from x1);exact⟨a,oa,na,b,_,ob,ib.toArray,nb,rfl,a1,a2,a3,b1,b2,b3,by simpa using intsAre_of vb⟩
 ·have:=A3z.mp (A3z.mp ha i (List.mem_range.mpr (by omega))) j (List.mem_range.mpr (by omega))
  simp only[S3z,Q5z,X2z,I2z,K1z] at this;rcases this with e | e
  ·exact absurd e hij
  ·exact e
 ·obtain⟨c,hc⟩:=sortedAll_at s.heap its its.toArray
  exact⟨.ref (s.heap.objs.size+1),_,I.laid (t':=s.toks) (fun _ _=>sortedAll_old) (K5z _) (show cG X.prog X.w _ _ _ (.lst vs) from⟨hz,its,c,r',hc⟩),rfl,q _ (I.hok.fresh (K5z _))⟩
theorem tX{K:Z2}{H:Hp}:∀ {ds:List D} {ks:List (List Int)} {vs:List V},Et ds=some ks->aM K H ds vs->Nr K H vs ks
 | [],ks,vs,h,r=>by
  simp only[Et,K2z] at h;subst h;simp only[aM] at r;subst r;exact⟨rfl,fun i v k e=>by cases e⟩
 | d::ds,ks,vs,h,r=>by
  unfold Et at h;split at h
  ·rename_i e;cases e
  ·rename_i ts x r' e
   cases e;split at h
   ·rename_i k l e1 e2
    cases h;simp only[aM] at r;obtain⟨v,rr,rfl,r1,r2⟩:=r;obtain⟨p1,p2⟩:=tX e2 r2;obtain⟨a,ws,rfl,t1,t2⟩:=bF r1;simp only[aM] at t2;obtain⟨y1,_,rfl,z1,y2,_,rfl,z2,rfl⟩:=t2;obtain⟨b,us,rfl,s1,s2⟩:=bF z1;rw[gR e1 s2] at s1;refine⟨by simp[p1],fun i v k' g1 g2=>?_⟩
    cases i with
    | zero =>
     cases g1;cases g2;exact⟨a,b,y2,rfl,t1,s1⟩
    | succ i=>exact p2 i v k' (by simpa using g1) (by simpa using g2)
   ·cases h
  ·cases h
def YK:String->Value
 | "tuple"=>.type "tuple"
 | "list"=>.type "list"
 | "int"=>.type "int"
 | b=>.builtin b
theorem M7{b:String}{ds:List D}{d:D}(hc:X.calm=true)(hu:X.A.units+64<cLine)(h:DE.blt b ds=some d):EvC X (YK b) ds d:=by
 intro vs H Hs Q hs hr hq;unfold DE.blt at h;split at h
 ·simp only[bind,Option.bind] at h
  split at h
  ·cases h
  ·rename_i l hl
   cases h;obtain⟨v,rfl,r1⟩:=lJ hr;obtain⟨a,us,rfl,h1,h2⟩:=jh r1 hl;refine dj.sem pD ⟨a,us,rfl,h1.imp hs.seq hs.tup,?_⟩;rw[<- h2.length];exact hq _ H Hs (.refl hs) (by simp[Rep])
 ·simp only[bind,Option.bind] at h
  split at h
  ·cases h
  ·rename_i l hl
   cases h;obtain⟨v,rfl,r1⟩:=lJ hr;obtain⟨a,us,rfl,h1,h2⟩:=bG r1;have e:=iZ hl h2;subst e;exact dj.sem (yR hc) ⟨a,_,rfl,hs.seq h1,hq _ H Hs (.refl hs) (by simp[Rep])⟩
 ·simp only[bind,Option.bind] at h
  split at h
  ·cases h
  ·rename_i l hl
   cases h;exact HJ hl vs H Hs Q hs hr hq
 ·simp only[bind,Option.bind] at h
  split at h
  ·cases h
  ·rename_i l hl
   cases h;obtain⟨v,rfl,r1⟩:=lJ hr;obtain⟨a,us,rfl,h1,h2⟩:=jh r1 hl;exact dj.sem iG ⟨a,us,rfl,h1.imp hs.seq hs.tup,fun p hp=>eY hs h2 hp hq⟩
 ·split at h
  ·rename_i l hl
   split at h
   ·rename_i hh
    cases h;simp only[X2z,J2z] at hh;obtain⟨v,rfl,r1⟩:=lJ hr;obtain⟨a,us,rfl,h1,h2⟩:=bG r1;have e:=gR hl h2;subst e;exact dj.sem qN ⟨a,_,rfl,hs.seq h1,hh.1,hh.2,fun p hp=>eY hs h2 hp hq⟩
   ·cases h
  ·split at h
   ·rename_i l hl
    split at h
    ·rename_i hh
     cases h;simp only[X2z,J2z] at hh;obtain⟨v,rfl,r1⟩:=lJ hr;obtain⟨a,us,rfl,h1,h2⟩:=bG r1;obtain⟨p1,p2⟩:=tX hl h2;refine dj.sem (pC hu) ⟨a,us,l,rfl,hs.seq h1,⟨p1,fun i v k g1 g2=>?_⟩,hh.1,hh.2,fun p hp=>eY hs h2 hp hq⟩;obtain⟨a',b,w,e1,e2,e3⟩:=p2 i v k g1 g2;exact⟨a',b,w,e1,hs.tup e2,hs.tup e3⟩
    ·cases h
   ·cases h
 ·cases h
  obtain⟨v,rfl,r1⟩:=lJ hr;exact dj.sem Cg ⟨_,by rw[aO r1],hq _ H Hs (.refl hs) (by simp[Rep])⟩
 ·cases h
  obtain⟨v,rfl,r1⟩:=lJ hr;exact dj.sem pF (.inr ⟨_,by rw[cH r1],hq _ H Hs (.refl hs) (by simp[Rep,DE.b2i])⟩)
 ·cases h
  obtain⟨v,rfl,r1⟩:=lJ hr;exact dj.sem pF (.inl ⟨_,by rw[aO r1],hq _ H Hs (.refl hs) (by simp[Rep])⟩)
 ·cases h
end
section
variable {X:Cx} {ρ:Rho} {cx:Cxt} {k:Nat} {sc:Scope}
theorem bK{x:Str}{b:String}(G:Good cx k X sc)(h:bx cx sc x=some b):Gl X x/\X.mg x=none/\x=Str.ofString b:=by
 unfold bx mF at h;split at h
 ·rename_i hg
  have e:sc.names.lookup x=some .globalImplicit:=by simpa using hg
  refine⟨?_,G.blt x b h⟩;show X.env.scope.names.lookup x=_;rw[G.sce,e]
 ·cases h
theorem yU{b:String}{ds:List D}{d:D}(h:DE.blt b ds=some d):b="len"\/b="all"\/b="sum"\/b="tuple"\/b="list"\/b="min"\/b="max"\/b="abs"\/b="int"\/b="any"\/b="sorted":=by
 unfold DE.blt at h
 split at h<;>first | (simp;done) | cases h
theorem BL{x:Str}{b:String}{e:Expr}{es:List Expr}{ds:List D}{d:D}{p pos:Pos}(G:Good cx k X sc)(hx:bx cx sc x=some b)(h:EvA X ρ (e::es) ds)(hp:∀ a∈e::es,aG a=true)(hd:DE.blt b ds=some d) :
  Ev X ρ (.Call (.Name x p) (e::es) [] pos) d:=by
 obtain⟨hg,hm,rfl⟩:=bK G hx;have c:=M7 (X:=X) G.calm G.room.units hd;have s1:=ao (env:=X.env) (es:=es) (hp e (by simp));have s2:=eV (env:=X.env) (pos:=pos) fun a ha=>hp a (Y0z _ ha)
 have fin:∀ f:Value,YK b=f->PE X (.Call (.Name (Str.ofString b) p) (e::es) [] pos) (tCB (N7 X f) (vH X (e::es)))->Ev X ρ (.Call (.Name (Str.ofString b) p) (e::es) [] pos) d:=by
  intro f hf hpe σ H Hs Q hs hst hq;rw[hf] at c;refine hpe.sem (h σ H Hs _ hs hst fun vs H1 Hs1 E1 r1=>?_);exact c vs H1 Hs1 Q E1.sub r1 fun v H' Hs' E2 r2=>hq v H' Hs' (E1.trans E2) r2
 rcases yU hd with rfl | rfl | rfl | rfl | rfl | rfl | rfl | rfl | rfl | rfl | rfl
 all_goals first
  | exact fin (.builtin _) rfl (lR tO hg hm (by decide +kernel) iB (by decide) (by decide) s1 s2)
  | exact fin (.type _) rfl (ou tO hg hm (by decide +kernel) iB (by decide) (by decide) s1 s2)
def Zf(K:Z2)(T:String):List V->Hp->VK->Prop:=fun xs H Q=>∃ x d,xs=[x,.ty T]/\Rep K H d x/\isExc d=false/\Q (.bl (Dz T d)) H
theorem rA{T:String}(h:fQ T=true):T="int"\/T="bool"\/T="tuple"\/T="list"\/T="str":=by
 unfold fQ at h
 split at h<;>first | (simp;done) | cases h
theorem nG{x:V}{vs:List V}{us:List Value}(r:Vals (x::vs) us):∃ u w,us=u::w/\RelV x u/\Vals vs w:=by
 cases r with
 | cons r rr=>exact⟨_,_,rfl,r,rr⟩
theorem Ce{T:String}(hk:fQ T=true):dj X (.builtin "isinstance") (Zf X.K T):=by
 intro z0 s σ H xs us Q I r h;obtain⟨x,d,rfl,rd,hne,q⟩:=h;obtain⟨u,w1,rfl,rx,rr⟩:=nG r;obtain⟨c,w2,rfl,rc,rr2⟩:=nG rr;cases rr2;cases (show c=Value.type T from rc);have fin:∀ b,b=Dz T d->∀ tk,EP X z0 σ Q (.bool b) { s with toks:=tk }:=fun b hb tk=>⟨.bl _,H,I.tok _,by rw[hb];rfl,q⟩;have ks:=rA hk
 cases d with
 | exc c=>exact absurd hne (by simp[isExc])
 | dic _ _=>exact absurd hne (by simp[isExc])
 | dt _ _=>exact absurd hne (by simp[isExc])
 | non =>
  cases lE rd;cases (show u=Value.none from rx)
  rcases ks with rfl | rfl | rfl | rfl | rfl<;>exact T3z (b:=false) PySem.W.kitx_none I.kIn True.intro rfl (fun z=>nomatch z) (fin _ rfl)
 | bl y =>
  cases cH rd;cases (show u=Value.bool y from rx)
  rcases ks with rfl | rfl | rfl | rfl | rfl<;>exact T3z PySem.W.kitx_bool I.kIn True.intro rfl (fun z=>nomatch z) (fin _ rfl)
 | int y =>
  cases aO rd;obtain⟨t,e⟩:=(show ∃ t,u=Value.int y t from rx);cases e
  rcases ks with rfl | rfl | rfl | rfl | rfl<;>exact T3z PySem.W.kitx_int I.kIn True.intro rfl (fun z=>nomatch z) (fin _ rfl)
 | str y =>
  have ev:x=.str y:=by simpa[Rep] using rd
  subst ev;obtain⟨t,e⟩:=(show ∃ t,u=Value.str y t from rx);cases e
  rcases ks with rfl | rfl | rfl | rfl | rfl<;>exact T3z PySem.W.kitx_str I.kIn True.intro rfl (fun z=>nomatch z) (fin _ rfl)
 | tup ds =>
  obtain⟨a,vs,rfl,h1,h2⟩:=bF rd;cases (show u=Value.ref a from rx);obtain⟨its,_,o,g1,g2,_⟩:=isT I h1
  rcases ks with rfl | rfl | rfl | rfl | rfl<;>exact T3z PySem.W.kitx_tuple I.kIn ⟨o,g1,g2⟩ rfl (fun z=>nomatch z) (fin _ rfl)
 | lst ds =>
  obtain⟨a,vs,rfl,h1,h2⟩:=bG rd;cases (show u=Value.ref a from rx);obtain⟨its,_,o,g1,g2,_⟩:=isL I h1
  rcases ks with rfl | rfl | rfl | rfl | rfl<;>exact T3z PySem.W.kitx_list I.kIn ⟨o,g1,g2⟩ rfl (fun z=>nomatch z) (fin _ rfl)
theorem MP{x t:Str}{T:String}{a:Expr}{d:D}{p pt pos:Pos}(G:Good cx k X sc)(hx:bx cx sc x=some "isinstance")(ht:bx cx sc t=some T)(hk:fQ T=true)(ha:Ev X ρ a d)(hp:aG a=true)(hne:isExc d=false) :
  Ev X ρ (.Call (.Name x p) [a,.Name t pt] [] pos) (.bl (Dz T d)):=by
 obtain⟨hg,hm,rfl⟩:=bK G hx;obtain⟨hg2,hm2,rfl⟩:=bK G ht
 have htv:PE X (.Name (Str.ofString T) pt) (tC (.ty T)):=by
  rcases rA hk with rfl | rfl | rfl | rfl | rfl<;>exact wN hg2 hm2 (by decide +kernel) rfl
 intro σ H Hs Q hs hst hq;refine(lR (Ce (X:=X) hk) hg hm (by decide +kernel) (bB aq (bB htv cY (ao rfl)) (ao hp)) (by decide) (by decide) (ao hp) rfl).sem ?_;exact ha σ H Hs _ hs hst fun v H1 Hs1 E1 r1=>⟨v,d,rfl,Rep.same E1.sub d v r1,hne,hq _ H1 Hs1 E1 (by simp[Rep])⟩
def PB(K:Z2)(cv:V)(C:Addr)(b:Bool):List V->Hp->VK->Prop:=fun xs H Q=>∃ a,xs=[.ref a,cv]/\H a=some (.ext (isX a (.ref C)))/\Q (.bl b) H
theorem yQ{cv:V}{c:Value}{C:Addr}{b:Bool}(hA:kI X.K C=true)(hc:∀ u,RelV cv u->u=c)(e:PySem.W.kitOne X.K (.ref C) c=some b):dj X (.builtin "isinstance") (PB X.K cv C b):=by
 intro z0 s σ H xs us Q I r h;obtain⟨a,rfl,ha,q⟩:=h;obtain⟨u,w1,rfl,rx,rr⟩:=nG r;obtain⟨u2,w2,rfl,rc,rr2⟩:=nG rr;cases rr2;cases (show u=Value.ref a from rx);cases hc u2 rc;exact T3z (Bc hA) I.kIn (I.hok _ _ ha).1 e (fun z=>nomatch z) fun tk=>⟨.bl _,H,I.tok _,rfl,q⟩
theorem qJ{x c:Str}{t a:Expr}{tv:TE}{cv:V}{cw:Value}{b:Bool}{p pos:Pos}(G:Good cx k X sc)(hx:bx cx sc x=some "isinstance")(hc:cx.exs.contains c=true)(ht:PE X t (tC cv))(hpt:aG t=true)(hcv:∀ u,RelV cv u->u=cw)
  (hk:∀ C,PySem.W.nsIn X.K mainGlobals c=some (some (.ref C))->PySem.W.kitOne X.K (.ref C) cw=some b) (ha:Ev X ρ a (.exc c)) (hp:aG a=true):Ev X ρ (.Call (.Name x p) [a,t] [] pos) (.bl b):=by
 obtain⟨hg,hm,rfl⟩:=bK G hx;obtain⟨C,M,e1,_,_,e2,_⟩:=G.exs.cls c hc;intro σ H Hs Q hs hst hq;refine(lR (yQ (X:=X) (cv:=cv) e2 hcv (hk C e1)) hg hm (by decide +kernel) (bB aq (bB ht cY (ao hpt)) (ao hp)) (by decide) (by decide) (ao hp) (by rw[ao hpt];rfl)).sem ?_;refine ha σ H Hs _ hs hst fun v H1 Hs1 E1 r1=>?_;have r2:=Rep.same E1.sub _ v r1;simp only[Rep] at r2;obtain⟨a0,C0,rfl,f1,f2⟩:=r2;rw[e1] at f1;cases f1;exact⟨a0,rfl,f2,hq _ H1 Hs1 E1 (by simp[Rep])⟩
theorem Ia{x t c:Str}{a:Expr}{p pt pos:Pos}(G:Good cx k X sc)(hx:bx cx sc x=some "isinstance")(ht:bx cx sc t=some "ValueError")(hc:cx.exs.contains c=true)(ha:Ev X ρ a (.exc c))(hp:aG a=true):Ev X ρ (.Call (.Name x p) [a,.Name t pt] [] pos) (.bl true):=by
 obtain⟨hg2,hm2,rfl⟩:=bK G ht;refine qJ (tv:=tC (.ty "ValueError")) (cv:=.ty "ValueError") (cw:=.type "ValueError") G hx hc (wN hg2 hm2 (by decide +kernel) rfl) rfl (fun u r=>r) (fun C e=>?_) ha hp;obtain⟨C',M,e1,_,_,_,_,_,e2⟩:=G.exs.cls c hc;rw[e] at e1;cases e1;exact e2
theorem Jv{t:Expr}{c':Str}(h:xOf cx sc t=some c'):∃ pt,t=.Name c' pt/\mF cx sc c'=true/\(cx.exs.contains c'=true\/c'=cx.top)/\(c'==("__debug__":Str))=false:=by
 unfold xOf at h;split at h
 ·rename_i y pt
  split at h
  ·rename_i q
   cases h;rw[X2z,X2z,S3z] at q;have q2:=q.2;unfold aF at q2;rw[X2z,R5z] at q2;exact⟨pt,rfl,q.1.1,q.1.2.imp id (fun z=>by simpa using z),by simpa using q2.1⟩
  ·cases h
 ·cases h
theorem HY{x c c':Str}{t a:Expr}{p pos:Pos}(G:Good cx k X sc)(hx:bx cx sc x=some "isinstance")(ht:xOf cx sc t=some c')(hc:cx.exs.contains c=true)(ha:Ev X ρ a (.exc c))(hp:aG a=true):Ev X ρ (.Call (.Name x p) [a,t] [] pos) (.bl (Jj cx.top c c')):=by
 obtain⟨pt,rfl,hgl,hin,hd⟩:=Jv ht
 have hg:Gl X c':=by
  have e:sc.names.lookup c'=some .globalImplicit:=by unfold mF at hgl;simpa using hgl
  show X.env.scope.names.lookup c'=_;rw[G.sce,e]
 by_cases htop:c'=cx.top
 ·subst htop
  obtain⟨C,M,e1,e2,_,_,_,e3,_⟩:=G.exs.cls c hc
  have:Jj cx.top c cx.top=true:=by unfold Jj;simp
  rw[this];refine qJ (tv:=tC (.ref M)) (cv:=.ref M) (cw:=.ref M) G hx hc (qj hg (G.exs.glob _ _ e2) rfl hd) rfl (fun u r=>r) (fun C' e=>?_) ha hp;rw[e] at e1;cases e1;exact e3
 ·have hin':cx.exs.contains c'=true:=hin.resolve_right htop
  obtain⟨C,C',e1,e2,e3⟩:=G.exs.sub c c' hc hin'
  have:Jj cx.top c c'=(c==c'):=by
   unfold Jj
   have:(c'==cx.top)=false:=by simpa using htop
   rw[this,Bool.or_false]
  rw[this];refine qJ (tv:=tC (.ref C')) (cv:=.ref C') (cw:=.ref C') G hx hc (qj hg (G.exs.glob _ _ e2) rfl hd) rfl (fun u r=>r) (fun C'' e=>?_) ha hp;rw[e] at e1;cases e1;exact e3
end
section
variable {X:Cx} {ρ:Rho} {cx:Cxt} {k:Nat} {sc:Scope}
theorem vo:∀ {vs:List V} {us:List Value},vs.length=us.length->(∀ (i:Nat) (v:V) (u:Value),vs[i]?=some v->us[i]?=some u->RelV v u)->Vals vs us
 | [],[],_,_=>.nil
 | [],u::us,h,_=>by simp at h
 | v::vs,[],h,_=>by simp at h
 | v::vs,u::us,h,hr=>.cons (hr 0 v u rfl rfl) (vo (by simpa using h) fun i a b e1 e2=>hr (i+1) a b (by simpa using e1) (by simpa using e2))
def ji(lo hi:Int):List V:=(List.range (hi-lo).toNat).map fun(k:Nat)=>V.int (lo+(k:Int))
theorem lH{α:Type}{K:Z2}{H:Hp}{f:α->D}{g:α->V}(h:∀ x,Rep K H (f x) (g x)):∀ l:List α,aM K H (l.map f) (l.map g)
 | []=>.nil
 | x::r=>.cons (h x) (lH h r)
theorem n6{K:Z2}{H:Hp}{lo hi:Int}:aM K H (cI lo hi) (ji lo hi):=lH (fun x=>by simp[Rep]) _
theorem gk{i:Int}(h:dU i=true):-(2^62)<=i/\i<2^62:=by
 unfold dU at h;rw[X2z,J2z,J2z] at h;exact h
theorem gD{z0:List (Addr×Obj)}{σ:St}{H:Hp}{s:Shared}{Q:VK}{E:Value->Shared->Prop}{lo hi:Int}{t u v:Tok}{tk:Nat}(hc:X.calm=true)(I:Inv X z0 σ H s)(h1:-(2^62)<=lo/\lo<2^62)(h3:-(2^62)<=hi/\hi<2^62)
  (hz:szl (hi-lo).toNat=true) (q:∀ p,H p=none->Q (.ref p) (upd H p (.lst (ji lo hi)))) :
  wpAny (model X.prog X.w) X.A (call (.type "list") [.ref s.heap.objs.size]) (EP X z0 σ Q) E { s with heap:=s.heap.push { cls:=.type "range",data:=.fields #[.int lo t,.int hi u,.int 1 v] },toks:=tk }:=by
 have hz':(hi-lo).toNat<=100000:=by unfold szl at hz;simpa using hz
 refine call_list_range (n:=(hi-lo).toNat) (I.ok.hd hc) (IsRange.new ..) (small_one h1.1 h1.2 h3.1 h3.2) (by rw[rangeSize_one];split<;>omega) (by omega) fun h' tk' acc' c' kp e its=>?_
 have I1:Inv X z0 σ H { s with heap:=s.heap.push { cls:=.type "range",data:=.fields #[.int lo t,.int hi u,.int 1 v] },toks:=tk }:=I.kept fun b o e=>Heap.get?_push_of_some _ e
 have hl:(ji lo hi).length=(hi-lo).toNat:=by simp[ji]
 have hv:Vals (ji lo hi) acc'.toList:=by
  refine vo (by rw[hl,H1z,its.1]) fun i v u e1 e2=>?_;obtain⟨t,rfl⟩:=its.2 i u (by simpa using e2);unfold ji at e1;rw[List.getElem?_map] at e1;obtain⟨j,e3,rfl⟩:=R0z.mp e1;rw[List.getElem?_eq_some_iff] at e3;obtain⟨_,e3⟩:=e3;rw[List.getElem_range] at e3;subst e3;exact⟨t,by rw[Int.mul_one]⟩
 refine⟨.ref _,_,I1.laid (t':=tk') kp (F5z _) (show cG X.prog X.w _ h' _ (.lst (ji lo hi)) from⟨by rw[hl];exact eU hz,acc'.toList,c',hv,e⟩),rfl,q _ (I1.hok.fresh (F5z _))⟩
theorem uJ{x y:Str}{a:Expr}{j:Int}{p q q' pos:Pos}(G:Good cx k X sc)(hx:bx cx sc x=some "list")(hy:bx cx sc y=some "range")(ha:Ev X ρ a (.int j))(hp:aG a=true)(hj:dU j=true)(hz:szl j.toNat=true) :
  Ev X ρ (.Call (.Name x p) [.Call (.Name y q) [a] [] q'] [] pos) (.lst (cI 0 j)):=by
 obtain⟨hg,hm,rfl⟩:=bK G hx;obtain⟨hg2,hm2,rfl⟩:=bK G hy;intro σ H Hs Q hs hst hq z0 s I;refine Call_ (eZ I hg hm (show bootBuiltins "list"=some (.type "list") by decide +kernel) (C0z ?_ rfl rfl));show wpAny _ _ (spliced [(false,eval (.Call (.Name _ q) [a] [] q') X.env)]) _ _ _;refine R1z ?_;refine Call_ (eZ I hg2 hm2 boot_range (C0z ?_ (ao hp) rfl));refine thn ((bB aq cY (ao hp)) q' z0 s σ H (fun vs H1=>∃ Hs1,vs=[.int j]/\Ext Hs H Hs1 H1) I (ha σ H Hs _ hs hst fun v H1 Hs1 E1 r1=>⟨Hs1,by rw[aO r1],E1⟩)) fun us s1 ⟨vs,H1,I1,r1,Hs1,e1,E1⟩=>?_;subst e1;obtain⟨u,w1,rfl,rx,rr⟩:=nG r1;cases rr;obtain⟨t,rfl⟩:=(show ∃ t,u=Value.int j t from rx);refine call_range_1 (B2z ?_);exact gD G.calm I1 (by decide) (gk hj) (by simpa using hz) fun p hp=>eY E1.sub n6 hp fun w H' Hs' E2 r2=>hq w H' Hs' (E1.trans E2) r2
theorem uI{x y:Str}{a b:Expr}{i j:Int}{p q q' pos:Pos}(G:Good cx k X sc)(hx:bx cx sc x=some "list")(hy:bx cx sc y=some "range")(ha:Ev X ρ a (.int i))(hp:aG a=true)(hb:Ev X ρ b (.int j))(hpb:aG b=true)(hi:dU i=true)(hj:dU j=true)(hz:szl (j-i).toNat=true) :
  Ev X ρ (.Call (.Name x p) [.Call (.Name y q) [a,b] [] q'] [] pos) (.lst (cI i j)):=by
 obtain⟨hg,hm,rfl⟩:=bK G hx;obtain⟨hg2,hm2,rfl⟩:=bK G hy;intro σ H Hs Q hs hst hq z0 s I;refine Call_ (eZ I hg hm (show bootBuiltins "list"=some (.type "list") by decide +kernel) (C0z ?_ rfl rfl));show wpAny _ _ (spliced [(false,eval (.Call (.Name _ q) [a,b] [] q') X.env)]) _ _ _;refine R1z ?_;refine Call_ (eZ I hg2 hm2 boot_range (C0z ?_ (ao hp) (eV fun e he=>by rw[List.mem_singleton.mp he];exact hpb)));refine thn ((bB aq (bB aq cY (ao hpb)) (ao hp)) q' z0 s σ H (fun vs H1=>∃ Hs1,vs=[.int i,.int j]/\Ext Hs H Hs1 H1) I (ha σ H Hs _ hs hst fun v H1 Hs1 E1 r1=>hb σ H1 Hs1 _ E1.sub (hst.same E1.vis) fun v' H2 Hs2 E2 r2=>⟨Hs2,by rw[aO r1,aO r2],E1.trans E2⟩)) fun us s1 ⟨vs,H1,I1,r1,Hs1,e1,E1⟩=>?_;subst e1;obtain⟨u,w1,rfl,rx,rr⟩:=nG r1;obtain⟨u2,w2,rfl,rx2,rr2⟩:=nG rr;cases rr2;obtain⟨t,rfl⟩:=(show ∃ t,u=Value.int i t from rx);obtain⟨t2,rfl⟩:=(show ∃ t,u2=Value.int j t from rx2);refine call_range_2 (B2z ?_);exact gD G.calm I1 (gk hi) (gk hj) hz fun p hp=>eY E1.sub n6 hp fun w H' Hs' E2 r2=>hq w H' Hs' (E1.trans E2) r2
variable {tg iter a b:Expr}
theorem Io{d:D}{l:List D}(h:Ev X ρ iter d)(hl:items d=some l):EvI X ρ tg iter l:=by
 intro σ H Hs R hs hst hq
 cases d with
 | lst xs =>
  simp only[items,K2z] at hl;subst hl
  refine(Gn (tg:=tg) aq).sem (h σ H Hs _ hs hst fun v H1 Hs1 E1 r1=>?_);obtain⟨p,vs,rfl,h1,h2⟩:=bG r1;refine⟨p,rfl,⟨vs,E1.sub.seq h1⟩,hq _ H1 Hs1 E1 fun Hs' H' e1 e2=>⟨⟨vs,e2.seq (e1.seq h1),by rw[h2.length];exact F5z _⟩,fun i d hd=>?_⟩⟩;obtain⟨v,g1,g2⟩:=h2.get hd;refine⟨⟨vs,v,e2.seq (e1.seq h1),g1⟩,fun x H2 y=>?_⟩;obtain⟨rfl,y⟩:=y;have:=y vs (e2.seq (e1.seq h1));rw[g1] at this;cases this;exact⟨Hs',.refl e2,Rep.same e1 d v g2⟩
 | tup xs =>
  simp only[items,K2z] at hl;subst hl
  refine(KD (tg:=tg) aq).sem (h σ H Hs _ hs hst fun v H1 Hs1 E1 r1=>?_);obtain⟨p,vs,rfl,h1,h2⟩:=bF r1;refine⟨p,rfl,⟨vs,E1.sub.tup h1⟩,hq _ H1 Hs1 E1 fun Hs' H' e1 e2=>⟨⟨vs,e2.tup (e1.tup h1),by rw[h2.length];exact F5z _⟩,fun i d hd=>?_⟩⟩;obtain⟨v,g1,g2⟩:=h2.get hd;refine⟨⟨vs,v,e2.tup (e1.tup h1),g1⟩,fun x H2 y=>?_⟩;obtain⟨rfl,y⟩:=y;have:=y vs (e2.tup (e1.tup h1));rw[g1] at this;cases this;exact⟨Hs',.refl e2,Rep.same e1 d v g2⟩
 | _=>simp[items] at hl
theorem jB{K:Z2}{Hs0:Hp}{lo hi:Int}{n:Nat}(hn:n=(hi-lo).toNat):Nv K (Itr lo n) Hs0 (cI lo hi):=by
 have hl:(cI lo hi).length=n:=by rw[hn];simp[cI]
 intro Hs H e1 e2;refine⟨by show n<=_;rw[hl];exact F5z _,fun i d hd=>?_⟩
 have hi:i<n:=by have:=(List.getElem?_eq_some_iff.mp hd).1;rw[hl] at this;exact this
 refine⟨hi,fun x H' y=>?_⟩;obtain⟨rfl,rfl⟩:=y;refine⟨Hs,.refl e2,?_⟩;unfold cI at hd;rw[List.getElem?_map] at hd;obtain⟨j,e3,rfl⟩:=R0z.mp hd;rw[List.getElem?_eq_some_iff] at e3;obtain⟨_,e3⟩:=e3;rw[List.getElem_range] at e3;subst e3;simp[Rep]
theorem uL{x:Str}{j:Int}{p pos:Pos}(G:Good cx k X sc)(hx:bx cx sc x=some "range")(ha:Ev X ρ a (.int j))(hp:aG a=true)(hj:dU j=true):EvI X ρ tg (.Call (.Name x p) [a] [] pos) (cI 0 j):=by
 obtain⟨hg,hm,rfl⟩:=bK G hx;intro σ H Hs R hs hst hq;have q:=wL (tg:=tg) (p:=p) (pos:=pos) hg hm (bB (aq (X:=X) (e:=a)) cY (ao hp)) (ao hp);refine PI.sem q (ha σ H Hs _ hs hst fun v H1 Hs1 E1 r1=>?_);exact⟨j,by rw[aO r1],(gk hj).1,(gk hj).2,hq _ H1 Hs1 E1 (jB (by simp))⟩
theorem uK{x:Str}{i j:Int}{p pos:Pos}(G:Good cx k X sc)(hx:bx cx sc x=some "range")(ha:Ev X ρ a (.int i))(hp:aG a=true)(hb:Ev X ρ b (.int j))(hpb:aG b=true)(hi:dU i=true)(hj:dU j=true):EvI X ρ tg (.Call (.Name x p) [a,b] [] pos) (cI i j):=by
 obtain⟨hg,hm,rfl⟩:=bK G hx;intro σ H Hs R hs hst hq;have q:=wK (tg:=tg) (p:=p) (pos:=pos) hg hm (bB (aq (X:=X) (e:=a)) (bB (aq (X:=X) (e:=b)) cY (ao hpb)) (ao hp)) (by rw[ao hp,ao hpb];rfl) (ao hpb);refine PI.sem q (ha σ H Hs _ hs hst fun v H1 Hs1 E1 r1=>hb σ H1 Hs1 _ E1.sub (hst.same E1.vis) fun v' H2 Hs2 E2 r2=>?_);exact⟨i,j,by rw[aO r1,aO r2],⟨(gk hi).1,(gk hi).2,(gk hj).1,(gk hj).2⟩,hq _ H2 Hs2 (E1.trans E2) (jB rfl)⟩
theorem Im{x:Str}{xs ys:List D}{p pos pt:Pos}{es:List Expr}{kt:Nat}(G:Good cx k X sc)(hx:bx cx sc x=some "zip")(ha:Ev X ρ a (.tup xs))(hp:aG a=true)(hb:Ev X ρ b (.tup ys))(hpb:aG b=true) :
  EvI X ρ (.Tuple es kt pt) (.Call (.Name x p) [a,b] [] pos) ((xs.zip ys).map fun q=>.tup [q.1,q.2]):=by
 obtain⟨hg,hm,rfl⟩:=bK G hx;intro σ H Hs R hs hst hq;have q:=KC (es:=es) (kt:=kt) (pt:=pt) (p:=p) (pos:=pos) hg hm (bB (aq (X:=X) (e:=a)) (bB (aq (X:=X) (e:=b)) cY (ao hpb)) (ao hp)) (by rw[ao hp,ao hpb];rfl) (ao hpb);refine PI.sem q (ha σ H Hs _ hs hst fun v H1 Hs1 E1 r1=>hb σ H1 Hs1 _ E1.sub (hst.same E1.vis) fun v' H2 Hs2 E2 r2=>?_);obtain⟨c,vs,rfl,h1,h2⟩:=bF (Rep.same E2.vis _ _ r1);obtain⟨d,us,rfl,h3,h4⟩:=bF r2;have l1:=h2.length;have l2:=h4.length;refine⟨c,d,rfl,⟨vs,E2.sub.tup h1⟩,⟨us,E2.sub.tup h3⟩,hq _ H2 Hs2 (E1.trans E2) fun Hs' H' e1 e2=>⟨⟨vs,us,e2.tup (e1.tup h1),e2.tup (e1.tup h3),?_⟩,fun i z hz=>?_⟩⟩
 ·rw[J3z,U3z]
  omega
 ·rw[List.getElem?_map] at hz
  obtain⟨⟨x1,y1⟩,e3,rfl⟩:=R0z.mp hz;rw[List.getElem?_zip_eq_some] at e3;obtain⟨v1,g1,g2⟩:=h2.get e3.1;obtain⟨v2,g3,g4⟩:=h4.get e3.2;refine⟨⟨vs,us,v1,v2,e2.tup (e1.tup h1),e2.tup (e1.tup h3),g1,g3⟩,fun w H3 y=>?_⟩;obtain⟨p,hp',rfl,y⟩:=y;rw[y vs us v1 v2 (e2.tup (e1.tup h1)) (e2.tup (e1.tup h3)) g1 g3];refine⟨_,Ext.new e2 (.tup [v1,v2]) hp',?_⟩;have sm:=(Ext.new e2 (.tup [v1,v2]) hp').vis;simp only[Rep];exact⟨p,[v1,v2],rfl,.of aP,.cons (Rep.same sm _ _ (Rep.same e1 _ _ g2)) (.cons (Rep.same sm _ _ (Rep.same e1 _ _ g4)) .nil)⟩
theorem Ip{xs:List D}:(enD xs).length=xs.length:=by simp[enD]
theorem Ir{xs:List D}{i:Nat}{d:D}(h:(enD xs)[i]?=some d):∃ x,xs[i]?=some x/\d=.tup [.int i,x]:=by
 unfold enD at h;rw[List.getElem?_map] at h;obtain⟨⟨x,j⟩,e1,e2⟩:=R0z.mp h;rw[List.getElem?_zipIdx] at e1;obtain⟨y,e3,e4⟩:=R0z.mp e1;simp at e4;obtain⟨rfl,rfl⟩:=e4;exact⟨y,e3,e2.symm⟩
theorem BP{x:Str}{xs:List D}{p pos pt:Pos}{es:List Expr}{kt:Nat}(G:Good cx k X sc)(hx:bx cx sc x=some "enumerate")(ha:Ev X ρ a (.tup xs))(hp:aG a=true) :
  EvI X ρ (.Tuple es kt pt) (.Call (.Name x p) [a] [] pos) (enD xs):=by
 obtain⟨hg,hm,rfl⟩:=bK G hx;intro σ H Hs R hs hst hq;have q:=Gp (es:=es) (kt:=kt) (pt:=pt) (p:=p) (pos:=pos) hg hm (bB (aq (X:=X) (e:=a)) cY (ao hp)) (ao hp);refine PI.sem q (ha σ H Hs _ hs hst fun v H1 Hs1 E1 r1=>?_);obtain⟨c,vs,rfl,h1,h2⟩:=bF r1;refine⟨c,rfl,⟨vs,E1.sub.tup h1⟩,hq _ H1 Hs1 E1 fun Hs' H' e1 e2=>⟨⟨vs,e2.tup (e1.tup h1),by rw[Ip,h2.length]⟩,fun i d hd=>?_⟩⟩;obtain⟨y,e3,rfl⟩:=Ir hd;obtain⟨w,g1,g2⟩:=h2.get e3;refine⟨⟨vs,w,e2.tup (e1.tup h1),g1⟩,fun u H2 yl=>?_⟩;obtain⟨p,hp',rfl,yl⟩:=yl;rw[yl vs w (e2.tup (e1.tup h1)) g1];refine⟨_,Ext.new e2 (.tup [.int i,w]) hp',?_⟩;have sm:=(Ext.new e2 (.tup [.int i,w]) hp').vis;simp only[Rep];exact⟨p,[.int i,w],rfl,.of aP,.cons (by simp[Rep]) (.cons (Rep.same sm _ _ (Rep.same e1 _ _ g2)) .nil)⟩
theorem rP{K:Z2}{H:Hp}:∀ ns:List Int,aM K H (ns.map D.int) (ns.map V.int)
 | []=>.nil
 | n::ns=>.cons (by simp[Rep]) (rP ns)
theorem yE{y:Str}{py:Pos}{x:D}{l:List D}{ap pos pt:Pos}{ts:List Expr}{kt:Nat}(hb:attributeBase (.Name y py) "items" X.env (eval (.Name y py) X.env)=eval (.Name y py) X.env)(hl:(ap.endLine==pos.line)=true)(ha:Ev X ρ (.Name y py) x)(h:Jr x=some l) :
  EvI X ρ (.Tuple ts kt pt) (.Call (.Attribute (.Name y py) "items" ap) [] [] pos) l:=by
 cases x<;>simp only[Jr] at h
 all_goals cases h
 rename_i ks ds;intro σ H Hs R hs hst hq;refine PI.sem (Ae (ts:=ts) (kt:=kt) (pt:=pt) (aq (X:=X) (e:=.Name y py)) hb hl) (ha σ H Hs _ hs hst fun v H1 Hs1 E1 r1=>?_);obtain⟨a,es,o,rfl,g1,rfl,g3,g4⟩:=CK r1;have lz:(es.map (·.1)).length=es.length:=J3z ..
 have ld:ds.length=es.length:=by rw[g4.length,J3z]
 refine⟨a,es,o,rfl,E1.sub _ _ g1,hq _ H1 Hs1 E1 fun Hs' H' e1 e2=>⟨⟨e2 _ _ (e1 _ _ g1),by rw[J3z,U3z,lz,ld,Nat.min_self]⟩,fun i d hd=>?_⟩⟩;rw[List.getElem?_map] at hd;obtain⟨q,hq',rfl⟩:=R0z.mp hd;obtain⟨q1,q2⟩:=List.getElem?_zip_eq_some.mp hq';rw[List.getElem?_map] at q1;obtain⟨e,q3,q4⟩:=R0z.mp q1;obtain⟨w,w1,w2⟩:=g4.get q2;rw[List.getElem?_map,q3] at w1;cases w1;refine⟨⟨e2 _ _ (e1 _ _ g1),(List.getElem?_eq_some_iff.mp q3).1⟩,fun u H2 yl=>?_⟩;obtain⟨p,e',hp,rfl,q5,rfl⟩:=yl;rw[q3] at q5;cases q5;refine⟨_,Ext.new e2 (.tup [.ref e.2.1,e.2.2]) hp,?_⟩;have sm:=(Ext.new e2 (.tup [.ref e.2.1,e.2.2]) hp).vis;simp only[Rep];refine⟨p,[.ref e.2.1,e.2.2],rfl,.of aP,.cons ?_ (.cons (Rep.same sm _ _ (Rep.same e1 _ _ w2)) .nil)⟩;simp only[Rep];have kb:=sm.tup (e1.tup (g3 e (List.mem_of_getElem? q3)));rw[q4] at kb;exact⟨e.2.1,q.1.map V.int,rfl,kb,rP q.1⟩
end
theorem aR{α β:Type}{x:Option α}{f:α->Option β}{y:β}(h:(x >>=f)=some y):∃ a,x=some a/\f a=some y:=by
 cases x with
 | none=>cases h
 | some a=>exact⟨a,rfl,h⟩
def Bm(X:Cx)(tg:Expr):TG:=fun v σ H Q=>∀ z0 s u,Inv X z0 σ H s->RelV v u->wpAny (model X.prog X.w) X.A (assign tg X.env u) (fun _ s'=>∃ σ' H',Inv X z0 σ' H' s'/\Q σ' H') X.xe s
def Hy(X:Cx)(es:List Expr):TGs:=fun vs σ H Q=>∀ z0 s us,Inv X z0 σ H s->Vals vs us->wpAny (model X.prog X.w) X.A (assignInOrder ((assignEach es X.env).map (·.2)) us) (fun _ s'=>∃ σ' H',Inv X z0 σ' H' s'/\Q σ' H') X.xe s
section
variable {X:Cx} {tg:Expr} {es:List Expr}
theorem gw:PG X tg (Bm X tg):=fun z0 s σ H v u Q I r h=>h z0 s u I r
theorem PG.sem{t:TG}{v:V}{σ:St}{H:Hp}{Q:St->Hp->Prop}(h:PG X tg t)(q:t v σ H Q):Bm X tg v σ H Q:=fun z0 s u I r=>h z0 s σ H v u Q I r q
theorem lN:PGs X es (Hy X es):=fun z0 s σ H v u Q I r h=>h z0 s u I r
theorem PGs.sem{t:TGs}{v:List V}{σ:St}{H:Hp}{Q:St->Hp->Prop}(h:PGs X es t)(q:t v σ H Q):Hy X es v σ H Q:=fun z0 s u I r=>h z0 s σ H v u Q I r q
end
theorem aK:∀ (ρ:Rho) (x:Str) (v:Sl),(cB ρ x v).map (·.1)=ρ.map (·.1)
 | [],_,_=>rfl
 | (y,s)::r,x,v=>by
  unfold cB;split
  ·rfl
  ·simp[aK r x v]
theorem aB:∀ {ρ:Rho} {x:Str} {v:Sl} {i:Nat},(ρ.map (·.1)).Nodup->(ρ.map (·.1))[i]?=some x->∀ j:Nat,(cB ρ x v)[j]?=if j=i then some (x,v) else ρ[j]?
 | [],x,v,i,_,h,_=>by simp at h
 | (y,s)::r,x,v,0,hn,h,j=>by
  simp at h;subst h
  cases j with
  | zero=>simp[cB]
  | succ j=>simp[cB]
 | (y,s)::r,x,v,i+1,hn,h,j=>by
  rw[O4z,N3z] at hn
  have h':(r.map (·.1))[i]?=some x:=by simpa using h
  have hne:(x==y)=false:=by
   rw[K1z];intro e;subst e;exact hn.1 (List.mem_of_getElem? h')
  simp only[cB,hne,U1z,V5z]
  cases j with
  | zero=>simp
  | succ j =>
   have:=aB (v:=v) hn.2 h' j;simp only[List.getElem?_cons_succ,this,Nat.add_right_cancel_iff]
theorem bI{l:List Str}{x:Str}(h:l.contains x=true):∃ i:Nat,l[i]?=some x:=by
 have:=List.mem_of_elem_eq_true h;exact List.mem_iff_getElem?.mp this
structure Owns (X:Cx) (scope:Scope):Prop where
 own:∀ x,ownIn scope x=true->Loc X.env.scope x/\(X.fn x=true\/X.env.scope.names.lookup x=some .local)
def kE(K:Z2)(Hs:Hp)(scope:Scope)(P:Rho->St->Prop):Prop:=∀ ρ σ (i:Nat) x d v,(ρ.map (·.1)).Nodup->(ρ.map (·.1))[i]?=some x->ownIn scope x=true->P ρ σ->Rep K Hs d v->P (cB ρ x (.sh d)) (σ.set i (some v))
section
variable {X:Cx} {scope:Scope} {Hs H:Hp} {P:Rho->St->Prop} {Q:St->Hp->Prop}
theorem pH{x:Str}{pos:Pos}{ρ ρ':Rho}{σ:St}{d:D}{v:V}(hO:Owns X scope)(hnd:X.N.Nodup)(hN:X.N=ρ.map (·.1))(KE:kE X.K Hs scope P)(hb:(if ownIn scope x&&(ρ.map (·.1)).contains x then some (cB ρ x (.sh d)) else none)=some ρ')(hp:P ρ σ)(rd:Rep X.K Hs d v)
  (hq:∀ σ',X.N=ρ'.map (·.1)->P ρ' σ'->Q σ' H):Bm X (.Name x pos) v σ H Q:=by
 split at hb
 ·rename_i hc
  cases hb;rw[X2z] at hc;obtain⟨i,hi⟩:=bI hc.2;obtain⟨h1,h2⟩:=hO.own x hc.1;exact PG.sem (Gs (i:=i) hnd (by rw[hN];exact hi) h1 h2) (hq _ (by rw[aK];exact hN) (KE ρ σ i x d v (by rw[<- hN];exact hnd) hi hc.1 hp rd))
 ·cases hb
theorem fJ{env:Env}:∀ {es:List Expr} {ds:List D} {ρ ρ':Rho},bindNames scope es ds ρ=some ρ'->(assignEach es env).length=es.length/\(assignEach es env).findIdx? (·.1)=none/\es.length=ds.length
 | [],[],_,_,_=>⟨rfl,rfl,rfl⟩
 | [],d::ds,ρ,ρ',h=>by simp[bindNames] at h
 | e::es,[],ρ,ρ',h=>by cases e<;>simp[bindNames] at h
 | e::es,d::ds,ρ,ρ',h=>by
  cases e<;>try (simp[bindNames] at h;done)
  rename_i x pos;simp only[bindNames] at h;split at h
  ·obtain⟨h1,h2,h3⟩:=fJ (env:=env) h
   refine⟨by show(assignEach es env).length+1=_;rw[h1];rfl,?_,by simp[h3]⟩
   show((false,assign (.Name x pos) env)::assignEach es env).findIdx? (·.1)=none;rw[List.findIdx?_cons];simp only[U1z,V5z,h2];rfl
  ·cases h
theorem fL(hO:Owns X scope)(hnd:X.N.Nodup)(KE:kE X.K Hs scope P):∀ {es:List Expr} {ds:List D} {vs:List V} {ρ ρ':Rho} {σ:St},X.N=ρ.map (·.1)->bindNames scope es ds ρ=some ρ'->P ρ σ->aM X.K Hs ds vs->(∀ σ',X.N=ρ'.map (·.1)->P ρ' σ'->Q σ' H)->Hy X es vs σ H Q
 | [],[],vs,ρ,ρ',σ,hN,h,hp,rd,hq=>by
  simp only[bindNames,K2z] at h;subst h;simp only[aM] at rd;exact PGs.sem Gq ⟨rd,hq _ hN hp⟩
 | [],d::ds,vs,ρ,ρ',σ,hN,h,hp,rd,hq=>by simp[bindNames] at h
 | e::es,[],vs,ρ,ρ',σ,hN,h,hp,rd,hq=>by cases e<;>simp[bindNames] at h
 | e::es,d::ds,vs,ρ,ρ',σ,hN,h,hp,rd,hq=>by
  cases e<;>try (simp[bindNames] at h;done)
  rename_i x pos;simp only[bindNames] at h;split at h
  ·rename_i hc
   simp only[aM] at rd;obtain⟨v,r,rfl,r1,r2⟩:=rd;refine PGs.sem (Af gw lN) ⟨v,r,rfl,?_⟩;exact pH hO hnd hN KE (ρ':=cB ρ x (.sh d)) (by rw[Y5z hc]) hp r1 fun σ' hN' hp'=>fL hO hnd KE hN' h hp' r2 hq
  ·cases h
theorem qQ{tg:Expr}{ρ ρ':Rho}{σ:St}{d:D}{v:V}(hc:X.calm=true)(hO:Owns X scope)(hnd:X.N.Nodup)(hs:Same Hs H)(hN:X.N=ρ.map (·.1))(KE:kE X.K Hs scope P)(hb:fO scope tg d ρ=some ρ')(hp:P ρ σ)(rd:Rep X.K Hs d v)
  (hq:∀ σ',X.N=ρ'.map (·.1)->P ρ' σ'->Q σ' H):Bm X tg v σ H Q:=by
 unfold fO at hb;split at hb
 ·exact pH hO hnd hN KE hb hp rd hq
 ·rename_i es k pos ds
  obtain⟨a,vs,rfl,h1,h2⟩:=bF rd;obtain⟨e1,e2,e3⟩:=fJ (env:=X.env) hb;exact PG.sem (Dc hc lN e1 e2) ⟨a,vs,rfl,hs.tup h1,by rw[<- h2.length,e3],fL hO hnd KE hN hb hp h2 hq⟩
 ·cases hb
end
section
variable {X Xc:Cx} {scope sc:Scope} {cx:Cxt} {k:Nat} {ρ:Rho}
theorem jy:∀ {l:List Str},oH l=true->l.Nodup
 | [],_=>.nil
 | x::r,h=>by
  unfold oH at h;rw[X2z] at h;refine N3z.mpr ⟨fun hm=>?_,jy h.2⟩
  have:r.contains x=true:=by simpa using hm
  rw[this] at h;exact absurd h.1 (by decide)
theorem cT(G:Good cx k X sc)(h:gP sc scope=true):scope.kind=.function/\(scope.names.map (·.1)).Nodup/\∀ x,(x,NameKind.free)∈scope.names->X.env.kindOf x=some .cell\/X.env.kindOf x=some .free:=by
 unfold gP at h;rw[X2z,X2z] at h;refine⟨by simpa using h.1.1,jy h.1.2,fun x hx=>?_⟩;have:=A3z.mp h.2 _ hx;show X.env.scope.names.lookup x=_\/X.env.scope.names.lookup x=_;rw[G.sce];simpa using this
theorem Kg(G:Good cx k X sc):relabel scope X.env=jP scope sc:=by
 unfold relabel jP Env.kindOf;rw[G.sce]
theorem Good.comp(G:Good cx k X sc)(C:CompOf X scope Xc)(h:gP sc scope=true):Good cx k Xc (jP scope sc) where
 calm:=C.calm
 room:=by rw[C.A];exact G.room
 sce:=by rw[C.sc,Kg G]
 kind:=(cT G h).1
 nd:=by rw[C.N];exact(cT G h).2.1
 cst:=by rw[C.mg,C.K];exact G.cst
 blt:=by rw[C.mg];exact G.blt
 exs:=by rw[C.mg,C.K];exact G.exs
 fns:=by rw[C.mg,C.prog,C.w,C.K,C.base];exact G.fns
 kw:=by rw[C.K,C.w];exact G.kw
theorem Owns.comp(G:Good cx k X sc)(C:CompOf X scope Xc):Owns Xc scope where
 own:=fun x hx=>by
  unfold ownIn at hx;rw[S3z] at hx
  have look:∀ kd,scope.names.lookup x=some kd->kd≠.free->Xc.env.scope.names.lookup x=some kd:=fun kd e hne=>by
   rw[C.sc];show(scope.names.map _).lookup x=_;rw[dW,e];simp[hne]
  rcases hx with hx | hx
  ·have e:scope.names.lookup x=some .local:=by simpa using hx
   have e2:=look _ e (by decide);exact⟨.inl e2,.inr e2⟩
  ·have e:scope.names.lookup x=some .cell:=by simpa using hx
   have e2:=look _ e (by decide);refine⟨.inr e2,.inl ?_⟩;rw[C.fn];show(scope.names.lookup x==some .cell)=true;rw[e];rfl
theorem dh:(bC scope ρ).map (·.1)=scope.names.map (·.1):=by
 unfold bC;rw[D5z];rfl
theorem jK{K:Z2}{Hs:Hp}{σ:St}{N:List Str}(hN:N=ρ.map (·.1))(h:cC K Hs ρ σ):cC K Hs (bC scope ρ) (qu N scope.names σ):=by
 intro i x d e;unfold bC at e;rw[List.getElem?_map] at e;obtain⟨p,e1,e2⟩:=R0z.mp e
 cases hk:p.2==NameKind.free with
 | false=>rw[hk] at e2;simp at e2
 | true =>
  rw[hk] at e2;simp only[X5z,Prod.mk.injEq] at e2;obtain⟨rfl,e2⟩:=e2
  have e3:ρ.lookup p.1=some (.sh d):=by
   cases q:ρ.lookup p.1 with
   | none=>rw[q] at e2;simp[Pb] at e2
   | some sl =>
    rw[q] at e2
    cases sl<;>simp[Pb] at e2
    rw[e2]
  obtain⟨j,g1,g2⟩:=cR e3;obtain⟨v,g3,g4⟩:=h j _ d g1;refine⟨v,?_,g4⟩;unfold qu;rw[List.getElem?_map,e1];simp only[O3z,hk,X5z];unfold rK;rw[hN,g2];simp[g3]
def CSt(K:Z2)(Hs:Hp)(n:Nat)(ρ0:Rho):Rho->St->Prop:=fun ρ σ=>σ.length=n/\cC K Hs ρ σ/\cC K Hs ρ0 σ
theorem nZ{K:Z2}{Hs:Hp}{ρ:Rho}{σ:St}{i:Nat}{x:Str}{d:D}{v:V}(hn:(ρ.map (·.1)).Nodup)(hi:(ρ.map (·.1))[i]?=some x)(hl:i<σ.length)(h:cC K Hs ρ σ)(r:Rep K Hs d v):cC K Hs (cB ρ x (.sh d)) (σ.set i (some v)):=by
 intro j y d' e;rw[aB hn hi j] at e;split at e
 ·rename_i hj
  subst hj;cases e;exact⟨v,by rw[List.getElem?_set_self hl],r⟩
 ·rename_i hj
  obtain⟨w,h1,h2⟩:=h j y d' e;exact⟨w,by rw[List.getElem?_set_ne (fun z=>hj z.symm)];exact h1,h2⟩
theorem j6{K:Z2}{Hs:Hp}{n:Nat}(hnd:(scope.names.map (·.1)).Nodup)(hn:n=scope.names.length):kE K Hs scope (fun ρ1 σ=>ρ1.map (·.1)=scope.names.map (·.1)/\CSt K Hs n (bC scope ρ) ρ1 σ):=by
 intro ρ1 σ i x d v h1 h2 h3 ⟨h4,h5,h6,h7⟩ r;refine⟨by rw[aK];exact h4,by rw[K3z];exact h5,?_,?_⟩
 ·have hi:i<σ.length:=by
   rw[h5,hn];have:=(List.getElem?_eq_some_iff.mp h2).1;rw[h4] at this;simpa using this
  exact nZ h1 h2 hi h6 r
 ·intro j y d' e
  obtain⟨w,g1,g2⟩:=h7 j y d' e;refine⟨w,?_,g2⟩
  have hj:i≠j:=by
   intro z;subst z;rw[h4] at h2;unfold bC at e;rw[List.getElem?_map] at e;rw[List.getElem?_map] at h2;obtain⟨p,e1,e2⟩:=R0z.mp e;rw[e1] at h2
   have ex:p.1=x:=by simpa using h2
   cases hk:p.2==NameKind.free with
   | false=>rw[hk] at e2;simp at e2
   | true =>
    have ek:p.2=.free:=by simpa using hk
    have hm:=List.mem_of_getElem? e1;have:=bM (c:=p.2) hnd (by rw[show p=(x,p.2) from by rw[<- ex]] at hm;exact hm);unfold ownIn at h3;rw[this,ek] at h3;exact absurd h3 (by decide)
  rw[List.getElem?_set_ne hj];exact g1
def qI(X:Cx)(ifs:List Expr):TT:=fun σ H Q=>∀ z0 s,Inv X z0 σ H s->wpAny (model X.prog X.w) X.A (forIn ifs true fun c r=>if r=true then do let ok <- isTrue c X.env (eval c X.env);pure (ForInStep.yield ok) else pure (ForInStep.yield r)) (TP X z0 σ Q) X.xe s
theorem fH{ifs:List Expr}:zE X ifs (qI X ifs):=fun z0 s σ H Q I h=>h z0 s I
theorem zE.sem{ifs:List Expr}{t:TT}{σ:St}{H:Hp}{Q:Bool->Hp->Prop}(h:zE X ifs t)(q:t σ H Q):qI X ifs σ H Q:=fun z0 s I=>h z0 s σ H Q I q
theorem Ef{f:Expr->Option D}{ifs:List Expr}{b:Bool}(hf:∀ e d,f e=some d->Ev X ρ e d/\∀ b,d=.bl b->EvT X ρ e b)(h:mH f ifs=some b){σ:St}{H Hs:Hp}{Q:Bool->Hp->Prop}(hs:Same Hs H)(hst:cC X.K Hs ρ σ)(hq:∀ H' Hs',Ext Hs H Hs' H'->Q b H'):qI X ifs σ H Q:=by
 unfold mH at h;split at h
 ·cases h
  exact zE.sem Ad (hq H Hs (.refl hs))
 ·rename_i c
  cases hc:f c with
  | none=>rw[hc] at h;cases h
  | some d =>
   rw[hc] at h
   cases d<;>simp[asB] at h
   subst h;exact zE.sem (Ac dI) ((hf c _ hc).2 _ rfl σ H Hs Q hs hst hq)
 ·cases h
theorem Ext.acc{Hs H Hs' H':Hp}{acc:Addr}{o:HO}(E:Ext Hs H Hs' H')(h:H acc=none)(h':Hs' acc=none):Ext Hs H Hs' (upd H' acc o) where
 vis:=E.vis
 all:=fun b u e=>by rw[aJ (au e h)];exact E.all b u e
 sub:=fun b u e=>by rw[aJ (au e h')];exact E.sub b u e
 hid:=E.hid
theorem jM{f:D->Option (Option D)}{d:D}{r out:List D}(h:bD f (d::r)=some out):(∃ v o',f d=some (some v)/\bD f r=some o'/\out=v::o')\/(f d=some none/\bD f r=some out):=by
 simp only[bD,bind,Option.bind] at h
 cases hf:f d with
 | none=>rw[hf] at h;cases h
 | some o =>
  rw[hf] at h
  cases o with
  | none=>exact .inr ⟨rfl,h⟩
  | some v =>
   simp only[R0z] at h;obtain⟨o',h1,rfl⟩:=h;exact .inl ⟨v,o',rfl,h1,rfl⟩
def pA(cx:Cxt)(n:Nat)(sc scope:Scope)(ρ:Rho)(tg elt:Expr)(ifs:List Expr):D->Option (Option D):=fun d=>do
 let ρ1 <- fO scope tg d (bC scope ρ)
 let b <- mH (ev cx n (jP scope sc) ρ1) ifs
 if b then(ev cx n (jP scope sc) ρ1 elt).map some else some none
theorem jH{tg iter elt:Expr}{ifs:List Expr}{l out:List D}{n:Nat}(G:Good cx k X sc)(hN:X.N=ρ.map (·.1))(hok:gP sc scope=true)(hI:EvI X ρ tg iter l)(hz:szl l.length=true)(hgo:bD (pA cx n sc scope ρ tg elt ifs) l=some out)
  (hE:∀ Xc,CompOf X scope Xc->∀ ρ1:Rho,Xc.N=ρ1.map (·.1)->∀ e d,ev cx n (jP scope sc) ρ1 e=some d->Ev Xc ρ1 e d/\∀ b,d=.bl b->EvT Xc ρ1 e b)
  {σ:St} {H Hs:Hp} {Q:VK} (hs:Same Hs H) (hst:cC X.K Hs ρ σ) (hq:∀ acc vs Hs' H',Ext Hs H Hs' H'->H acc=none->Hs' acc=none->H' acc=some (.lst vs)->aM X.K Hs' out vs->Q (.ref acc) H') :
  qe X scope (qd X tg iter) (qu X.N scope.names) (fun Xc=>Bm Xc tg) (fun Xc=>qI Xc ifs) (fun Xc=>m9 Xc elt) σ H Q:=by
 obtain⟨ok1,ok2,ok3⟩:=cT G hok;refine hI σ H Hs _ hs hst fun J H1 Hs1 E1 hJ acc hacc Xc C=>?_;have GC:=G.comp C hok;have OC:=Owns.comp (scope:=scope) G C
 have hNc:∀ ρ1:Rho,ρ1.map (·.1)=scope.names.map (·.1)->Xc.N=ρ1.map (·.1):=fun ρ1 h=>by rw[C.N,h]
 have a1:Hs1 acc=none:=E1.sub.free hacc;have a0:H acc=none:=E1.all.free hacc
 let W:Nat->Nat->St->Hp->Prop:=fun i m σc H=>m=l.length-i/\i<=l.length/\∃ Hs3 ys pre rest,Ext Hs1 H1 Hs3 H/\Hs3 acc=none/\H acc=some (.lst ys)/\aM X.K Hs3 pre ys/\bD (pA cx n sc scope ρ tg elt ifs) (l.drop i)=some rest/\pre++rest=out/\pre.length<=i/\σc.length=scope.names.length/\cC X.K Hs3 (bC scope ρ) σc
 refine⟨W,⟨l.length,rfl,H5z _,Hs1,[],[],out,Ext.acc (.refl E1.sub) hacc a1,a1,aP,.nil,by simpa using hgo,rfl,F5z _,by simp[qu],jK hN (hst.same E1.vis)⟩,?_⟩;rintro i m σc H3 ⟨rfl,hi,Hs3,ys,pre,rest,E3,b3,c3,r3,g3,p3,q3,l3,s3⟩;obtain⟨st3,go3⟩:=hJ Hs3 H3 E3.vis E3.sub
 by_cases hlt:i<l.length
 ·have hd:l[i]?=some l[i]:=List.getElem?_eq_getElem hlt
  obtain⟨gi,yi⟩:=go3 i l[i] hd;refine .inr ⟨gi,fun σ' H'=>W (i+1) (l.length-(i+1)) σ' H',fun σ' H' w=>⟨_,by omega,w⟩,fun x H4 y4=>?_⟩;obtain⟨Hs4,E4,rx⟩:=yi x H4 y4;have b4:Hs4 acc=none:=E4.hid acc _ c3 b3;have c4:H4 acc=some (.lst ys):=E4.all _ _ c3;rw[F0z hlt] at g3
  have key:∃ ρ1,fO scope tg l[i] (bC scope ρ)=some ρ1/\∃ b,mH (ev cx n (jP scope sc) ρ1) ifs=some b/\((b=true/\∃ v o',ev cx n (jP scope sc) ρ1 elt=some v/\bD (pA cx n sc scope ρ tg elt ifs) (l.drop (i+1))=some o'/\rest=v::o')\/(b=false/\bD (pA cx n sc scope ρ tg elt ifs) (l.drop (i+1))=some rest)):=by
   have inv:∀ o,pA cx n sc scope ρ tg elt ifs l[i]=some o->∃ ρ1,fO scope tg l[i] (bC scope ρ)=some ρ1/\∃ b,mH (ev cx n (jP scope sc) ρ1) ifs=some b/\(if b then(ev cx n (jP scope sc) ρ1 elt).map some else some none)=some o:=by
    intro o h;obtain⟨ρ1,h1,h⟩:=aR h;obtain⟨b,h2,h⟩:=aR h;exact⟨ρ1,h1,b,h2,h⟩
   rcases jM g3 with⟨v,o',f1,f2,f3⟩ | ⟨f1,f2⟩
   ·obtain⟨ρ1,h1,b,h2,h3⟩:=inv _ f1
    refine⟨ρ1,h1,b,h2,?_⟩
    cases b with
    | false=>simp at h3
    | true =>
     simp only[X5z,R0z] at h3;obtain⟨w,h3,h4⟩:=h3;have h5:w=v:=E3z h4;subst h5;exact .inl ⟨rfl,w,o',h3,f2,f3⟩
   ·obtain⟨ρ1,h1,b,h2,h3⟩:=inv _ f1
    refine⟨ρ1,h1,b,h2,?_⟩
    cases b with
    | true=>simp at h3
    | false=>exact .inr ⟨rfl,f2⟩
  obtain⟨ρ1,k1,b,k2,k3⟩:=key;have s4:cC X.K Hs4 (bC scope ρ) σc:=s3.same E4.vis;have KE:=j6 (K:=Xc.K) (Hs:=Hs4) (ρ:=ρ) (n:=scope.names.length) ok2 rfl;refine qQ (X:=Xc) (scope:=scope) (Hs:=Hs4) GC.calm OC GC.nd E4.sub (hNc _ dh) KE k1 ⟨dh,l3,by rw[C.K];exact s4,by rw[C.K];exact s4⟩ (by rw[C.K];exact rx) fun σ5 hN5 p5=>?_;obtain⟨_,l5,s5,s5'⟩:=p5;have hev:=hE Xc C ρ1 hN5;refine Ef hev k2 E4.sub s5 fun H6 Hs6 E6=>?_;have b6:Hs6 acc=none:=E6.hid acc _ c4 b4;have c6:H6 acc=some (.lst ys):=E6.all _ _ c4
  have s6:cC X.K Hs6 (bC scope ρ) σ5:=by rw[<- C.K];exact s5'.same E6.vis
  rcases k3 with⟨rfl,v,o',k3,k4,k5⟩ | ⟨rfl,k3⟩
  ·refine uX ((hev elt v k3).1 σ5 H6 Hs6 _ E6.sub (s5.same E6.vis) fun w H7 Hs7 E7 r7=>?_)
   have b7:Hs7 acc=none:=E7.hid acc _ c6 b6;have c7:H7 acc=some (.lst ys):=E7.all _ _ c6;refine⟨ys,c7,?_,rfl,hlt,Hs7,ys++[w],pre++[v],o',Ext.acc (E3.trans (E4.trans (E6.trans E7))) hacc b7,b7,aP,?_,k4,?_,by simp;omega,l5,s6.same E7.vis⟩
   ·have:=r3.length
    have:=vJ hz;omega
   ·rw[<- C.K]
    refine aM.append ?_ (.cons r7 .nil);rw[C.K];exact aM.same (E4.trans (E6.trans E7)).vis pre ys r3
   ·rw[<- p3,k5];simp
  ·refine xX ?_
   exact⟨rfl,hlt,Hs6,ys,pre,rest,E3.trans (E4.trans E6),b6,c6,aM.same (E4.trans E6).vis pre ys r3,k3,p3,by omega,l5,s6⟩
 ·have hi':i=l.length:=by omega
  subst hi';refine .inl ⟨st3,?_⟩;rw[List.drop_length] at g3;simp only[bD,K2z] at g3;subst g3;rw[H3z] at p3;subst p3;exact hq acc ys Hs3 H3 (E1.trans E3) a0 b3 c3 r3
end
def bIs(b:Bool):Value->Bool
 | .bool y=>y==b
 | _=>false
theorem pW:∀ {bs:List Bool} {its:List Value},Vals (bs.map V.bl) its->its=bs.map Value.bool
 | [],its,r=>by cases r;rfl
 | b::bs,its,r=>by
  obtain⟨u,w,rfl,r1,r2⟩:=nG r;cases (show u=Value.bool b from r1);rw[pW r2];rfl
theorem Ek(b:Bool):∀ bs:List Bool,(bs.map Value.bool).countP (bIs b)=cntB b bs
 | []=>rfl
 | c::bs=>by
  rw[O4z,List.countP_cons,Ek b bs];unfold cntB;rw[Z2z];show _+(if(c==b)=true then 1 else 0)=_
  cases c==b<;>simp
theorem Yq{b:Bool}:∀ (bs:List Bool) (m:Nat) (h:m<bs.length),m<bs.idxOf b->(bs[m]==b)=false
 | [],m,h,_=>absurd h (by simp)
 | c::bs,m,h,hl=>by
  rw[List.idxOf_cons] at hl
  cases hc:c==b with
  | true=>rw[hc] at hl;simp at hl
  | false =>
   cases m with
   | zero=>simpa using hc
   | succ m =>
    rw[hc] at hl;simp only[cond_false] at hl;simpa using Yq bs m (by simpa using h) (by omega)
section
variable {X:Cx} {ρ:Rho} {cx:Cxt} {k:Nat} {sc scope:Scope}
def Km(K:Z2):V->List V->Hp->VK->Prop:=fun x vs H Q=>∃ (l:Addr) (bs:List Bool) (b:Bool),x=.ref l/\vs=[.bl b]/\SqL K H l (bs.map V.bl)/\Q (.int (cntB b bs:Nat)) H
theorem Aw:MtM X "list.count" (Km X.K):=by
 intro z0 s σ H x vs v us Q I rx rv h;obtain⟨l,bs,b,rfl,rfl,hB,q⟩:=h;cases (show v=Value.ref l from rx);obtain⟨u,rfl,ru⟩:=rv.one;cases (show u=Value.bool b from ru);obtain⟨its2,r2,pl,hz2⟩:=I.list hB;have ei:=pW r2;subst ei;obtain⟨⟨c2,dd2,data2,sl2⟩,n2,e2,hc2,hd2,hs2⟩:=pl;simp only at hc2 hs2;obtain⟨h3,h4⟩:=(show dd2=none/\data2=.seq (bs.map Value.bool).toArray n2 from⟨hd2,hs2⟩);subst hc2 h4;refine P5z F.slot_list_count ⟨_,e2,rfl⟩ F.entry_list_count (F.args_list_count_2 _ _) (list_countAt l (bs.map Value.bool).toArray n2 dd2 sl2 (.bool b) (bIs b)) ⟨e2,fun y hy=>?_,?_⟩
 ·have hy':y∈bs.map Value.bool:=by simpa using hy
  obtain⟨c,_,rfl⟩:=List.mem_map.mp hy';exact EqAt.bool_bool c b
 ·rw[show(bs.map Value.bool).toArray.toList=bs.map Value.bool from rfl,Ek]
  exact⟨.int _,H,I.tok _,⟨_,rfl⟩,q⟩
def Kl(K:Z2):V->List V->Hp->VK->Prop:=fun x vs H Q=>∃ (l:Addr) (bs:List Bool) (b:Bool),x=.ref l/\vs=[.bl b]/\SqL K H l (bs.map V.bl)/\bs.contains b=true/\Q (.int (bs.idxOf b:Nat)) H
theorem Av:MtM X "list.index" (Kl X.K):=by
 intro z0 s σ H x vs v us Q I rx rv h;obtain⟨l,bs,b,rfl,rfl,hB,hin,q⟩:=h;cases (show v=Value.ref l from rx);obtain⟨u,rfl,ru⟩:=rv.one;cases (show u=Value.bool b from ru);obtain⟨its2,r2,pl,hz2⟩:=I.list hB;have ei:=pW r2;subst ei;obtain⟨⟨c2,dd2,data2,sl2⟩,n2,e2,hc2,hd2,hs2⟩:=pl;simp only at hc2 hs2;obtain⟨h3,h4⟩:=(show dd2=none/\data2=.seq (bs.map Value.bool).toArray n2 from⟨hd2,hs2⟩);subst hc2 h4;have hj:bs.idxOf b<bs.length:=List.idxOf_lt_length_iff.mpr (by simpa using hin);have hn:=oK
 have hz3:bs.length<=sizeLine:=by simpa using hz2
 refine P5z F.slot_list_index ⟨_,e2,rfl⟩ F.entry_list_index (F.args_list_index_2 _ _) (list_indexAt l (bs.map Value.bool).toArray n2 dd2 sl2 (.bool b) (bIs b) (bs.idxOf b) (by simpa using hj) (by omega) ?_ ?_) ⟨e2,fun y hy=>?_,?_⟩
 ·simp only[List.getElem_toArray,U2z,bIs]
  simpa using List.getElem_idxOf hj
 ·intro m hm hlt
  simp only[List.getElem_toArray,U2z,bIs];exact Yq bs m (by simpa using hm) hlt
 ·have hy':y∈bs.map Value.bool:=by simpa using hy
  obtain⟨c,_,rfl⟩:=List.mem_map.mp hy';exact EqAt.bool_bool c b
 ·exact⟨.int _,H,I.tok _,⟨_,rfl⟩,q⟩
theorem tE{o:Expr}{m:Str}{e:Expr}{x z d:D}{ap cp:Pos}(hB0:attributeBase o m X.env (eval o X.env)=eval o X.env)(ha:Ev X ρ o x)(he:Ev X ρ e z)(hp:aG e=true)(hline:(ap.endLine==cp.line)=true)(h:lZ m x z=some d):Ev X ρ (.Call (.Attribute o m ap) [e] [] cp) d:=by
 unfold lZ at h;split at h
 ·rename_i xs b
  obtain⟨bs,hb,h2⟩:=aR h;clear h;intro σ H Hs Q hs hst hq;split at h2
  ·rename_i hm
   have em:m="count":=by simpa using hm
   subst em;cases h2;refine(wM L0z PySem.F.slot_list_count PySem.F.type_list_count Aw aq (bB aq cY (ao hp)) hB0 (by rw[ao hp];rfl) hline (ao hp) rfl).sem ?_;refine ha σ H Hs _ hs hst fun v H1 Hs1 E1 r1=>?_;obtain⟨l,vs,rfl,g1,g2⟩:=bG r1;have ev:=iZ hb g2;subst ev;refine⟨.inl ⟨rfl,_,E1.sub.seq g1⟩,?_⟩;refine he σ H1 Hs1 _ E1.sub (hst.same E1.vis) fun v2 H2 Hs2 E2 r2=>?_;rw[cH r2];exact⟨l,bs,b,rfl,rfl,E2.sub.seq (E2.vis.seq g1),hq _ H2 Hs2 (E1.trans E2) (by simp[Rep])⟩
  ·split at h2
   ·rename_i hm
    rw[X2z] at hm
    have em:m="index":=by simpa using hm.1
    subst em;cases h2;refine(wM L0z PySem.F.slot_list_index PySem.F.type_list_index Av aq (bB aq cY (ao hp)) hB0 (by rw[ao hp];rfl) hline (ao hp) rfl).sem ?_;refine ha σ H Hs _ hs hst fun v H1 Hs1 E1 r1=>?_;obtain⟨l,vs,rfl,g1,g2⟩:=bG r1;have ev:=iZ hb g2;subst ev;refine⟨.inl ⟨rfl,_,E1.sub.seq g1⟩,?_⟩;refine he σ H1 Hs1 _ E1.sub (hst.same E1.vis) fun v2 H2 Hs2 E2 r2=>?_;rw[cH r2];exact⟨l,bs,b,rfl,rfl,E2.sub.seq (E2.vis.seq g1),hm.2,hq _ H2 Hs2 (E1.trans E2) (by simp[Rep])⟩
   ·cases h2
 ·cases h
end
theorem Ext.shown{Hs H Hs' H':Hp}{acc:Addr}{o:HO}(E:Ext Hs H Hs' H')(h:H acc=none)(h1:Hs' acc=none)(h2:H' acc=some o):Ext Hs H (upd Hs' acc o) H' where
 vis:=fun b u e=>by rw[aJ (au (E.vis b u e) h1)];exact E.vis b u e
 all:=E.all
 sub:=fun b u e=>by
  by_cases hb:b=acc
  ·subst hb;rw[aP] at e;rw[h2];exact e
  ·rw[aJ hb] at e;exact E.sub b u e
 hid:=fun b u e n=>by rw[aJ (au e h)];exact E.hid b u e n
section
variable {X:Cx} {ρ:Rho} {cx:Cxt} {k:Nat} {sc scope:Scope}
theorem Ih{tg iter elt:Expr}{ifs:List Expr}{l out:List D}{n:Nat}{pos:Pos}(G:Good cx k X sc)(hN:X.N=ρ.map (·.1))(hok:gP sc scope=true)(hI:EvI X ρ tg iter l)(hp:aG iter=true)(hz:szl l.length=true)(hgo:bD (pA cx n sc scope ρ tg elt ifs) l=some out)
  (hE:∀ Xc,CompOf X scope Xc->∀ ρ1:Rho,Xc.N=ρ1.map (·.1)->∀ e d,ev cx n (jP scope sc) ρ1 e=some d->Ev Xc ρ1 e d/\∀ b,d=.bl b->EvT Xc ρ1 e b) :
  Ev X ρ (.ListComp elt [⟨tg,iter,ifs,0⟩] scope pos) (.lst out):=by
 obtain⟨ok1,ok2,ok3⟩:=cT G hok;intro σ H Hs Q hs hst hq;refine PE.sem (lQ G.calm ok1 ok2 ok3 jt (fun Xc C=>⟨gw,fH,aq⟩) (dz hp)) (jH G hN hok hI hz hgo hE hs hst fun acc vs Hs' H' E1 h1 h2 h3 r=>?_);have E2:=E1.shown h1 h2 h3;refine hq _ H' _ E2 ?_;simp only[Rep];refine⟨acc,vs,rfl,.of aP,aM.same (fun b u e=>?_) out vs r⟩;rw[aJ (au e h2)];exact e
def WkP (cx : Cxt) (sc : Scope) (e : Expr) : Wk -> Prop
    | .r1 a=>∃ x p pos,e=.Call (.Name x p) [a] [] pos/\bx cx sc x=some "range"
    | .r2 a b=>∃ x p pos,e=.Call (.Name x p) [a,b] [] pos/\bx cx sc x=some "range"
    | .r3 a b c=>∃ x p pos,e=.Call (.Name x p) [a,b,c] [] pos/\bx cx sc x=some "range"
    | .zp a b=>∃ x p pos,e=.Call (.Name x p) [a,b] [] pos/\bx cx sc x=some "zip"
    | .rv a=>∃ x p pos,e=.Call (.Name x p) [a] [] pos/\bx cx sc x=some "reversed"
    | .en a=>∃ x p pos,e=.Call (.Name x p) [a] [] pos/\bx cx sc x=some "enumerate"
    | .it a=>∃ y py ap pos,a=.Name y py/\e=.Call (.Attribute (.Name y py) "items" ap) [] [] pos/\(ap.endLine==pos.line)=true
    | .sq=>True
theorem yW(g:Expr)(a:Expr)(as:List Expr)(ks:List Keyword)(p:Pos){m:Str}{env:Env}{w:Sem Value}:attributeBase (.Call g (a::as) ks p) m env w=w:=by
 cases g<;>rfl
theorem JD{e:Expr}:WkP cx sc e (qY cx sc e):=by
 unfold qY;split
 ·rename_i x p args pos
  split
  ·rename_i h
   split
   ·exact⟨x,p,pos,rfl,h⟩
   ·exact⟨x,p,pos,rfl,h⟩
   ·exact⟨x,p,pos,rfl,h⟩
   ·trivial
  ·rename_i h
   split
   ·exact⟨x,p,pos,rfl,h⟩
   ·trivial
  ·rename_i h
   split
   ·exact⟨x,p,pos,rfl,h⟩
   ·trivial
  ·rename_i h
   split
   ·exact⟨x,p,pos,rfl,h⟩
   ·trivial
  ·trivial
 ·split
  ·rename_i h
   rw[X2z] at h;have e:=eq_of_beq h.2;subst e;exact⟨_,_,_,_,rfl,rfl,h.1⟩
  ·trivial
 ·trivial
theorem dO{x:Option D}{i:Int}(h:x.bind asI=some i):x=some (.int i):=by
 obtain⟨d,h1,h2⟩:=aR (show(x >>=asI)=some i from h)
 cases d<;>simp[asI] at h2
 subst h2;exact h1
theorem eF{x:Option D}{i:Bool}(h:x.bind asB=some i):x=some (.bl i):=by
 obtain⟨d,h1,h2⟩:=aR (show(x >>=asB)=some i from h)
 cases d<;>simp[asB] at h2
 subst h2;exact h1
theorem yD{f:Expr->Option D}{tg e:Expr}{l:List D}(G:Good cx k X sc)(hf:∀ e d,f e=some d->Ev X ρ e d/\aG e=true)(h:evI cx (d7 tg) f sc e=some l):EvI X ρ tg e l/\aG e=true:=by
 unfold evI at h;have w:=JD (cx:=cx) (sc:=sc) (e:=e);split at h
 ·rename_i a hw
  rw[hw] at w;obtain⟨x,p,pos,rfl,hx⟩:=w;obtain⟨j,h1,h⟩:=aR h;split at h
  ·rename_i hj
   cases h;obtain⟨ha,hp⟩:=hf _ _ (dO h1);exact⟨uL G hx ha hp hj,rfl⟩
  ·cases h
 ·rename_i a b hw
  rw[hw] at w;obtain⟨x,p,pos,rfl,hx⟩:=w;obtain⟨i,h1,h⟩:=aR h;obtain⟨j,h2,h⟩:=aR h;split at h
  ·rename_i hj
   cases h;rw[X2z] at hj;obtain⟨ha,hp⟩:=hf _ _ (dO h1);obtain⟨hb,hpb⟩:=hf _ _ (dO h2);exact⟨uK G hx ha hp hb hpb hj.1 hj.2,rfl⟩
  ·cases h
 ·rename_i a b c hw
  rw[hw] at w;obtain⟨x,p,pos,rfl,hx⟩:=w;simp at h
 ·rename_i a b hw
  rw[hw] at w;obtain⟨x,p,pos,rfl,hx⟩:=w;obtain⟨d1,h1,h⟩:=aR h;obtain⟨d2,h2,h⟩:=aR (show(f b >>=fun y=>if d7 tg=true then Ny d1 y else none)=some l from h);have h':(if d7 tg=true then Ny d1 d2 else none)=some l:=h;clear h;split at h'
  ·rename_i ht
   obtain⟨ha,hp⟩:=hf _ _ h1;obtain⟨hb,hpb⟩:=hf _ _ h2
   cases tg<;>simp[d7] at ht
   unfold Ny at h';split at h'
   ·cases h';exact⟨Im G hx ha hp hb hpb,rfl⟩
   ·simp at h'
   ·simp at h'
   ·simp at h'
   ·cases h'
  ·cases h'
 ·rename_i a hw
  rw[hw] at w;obtain⟨x,p,pos,rfl,hx⟩:=w;simp at h
 ·rename_i a hw
  rw[hw] at w;obtain⟨x,p,pos,rfl,hx⟩:=w;obtain⟨d1,h1,h⟩:=aR h;split at h
  ·rename_i ht
   obtain⟨us,hu,rfl⟩:=R0z.mp h;obtain⟨ha,hp⟩:=hf _ _ h1
   cases tg<;>simp[d7] at ht
   cases d1<;>simp[tupI] at hu
   subst hu;exact⟨BP G hx ha hp,rfl⟩
  ·cases h
 ·rename_i a hw
  rw[hw] at w;obtain⟨y,py,ap,pos,rfl,rfl,hl⟩:=w;obtain⟨d1,h1,h⟩:=aR h;have h':(if d7 tg=true then Jr d1 else none)=some l:=h;clear h;split at h'
  ·rename_i ht
   obtain⟨ha,hp⟩:=hf _ _ h1
   cases tg<;>simp[d7] at ht
   exact⟨yE rfl hl ha h',rfl⟩
  ·cases h'
 ·obtain⟨d,h1,h2⟩:=aR (show(f e >>=items)=some l from h)
  obtain⟨ha,hp⟩:=hf _ _ h1;exact⟨Io ha h2,hp⟩
theorem Fp{t:Expr}{T:String}(h:tyOf cx sc t=some T):∃ x p,t=.Name x p/\bx cx sc x=some T:=by
 unfold tyOf at h;split at h
 ·exact⟨_,_,rfl,h⟩
 ·cases h
def WcP (cx : Cxt) (sc : Scope) (b : String) (args : List Expr) : Wc -> Prop
    | .lr1 a=>∃ x p pos,args=[.Call (.Name x p) [a] [] pos]/\bx cx sc x=some "range"/\b="list"
    | .lr2 a a'=>∃ x p pos,args=[.Call (.Name x p) [a,a'] [] pos]/\bx cx sc x=some "range"/\b="list"
    | .tv a=>∃ x p pos,args=[.Call (.Name x p) [a] [] pos]/\bx cx sc x=some "reversed"/\b="tuple"
    | .tr1 a=>∃ x p pos,args=[.Call (.Name x p) [a] [] pos]/\bx cx sc x=some "range"/\b="tuple"
    | .ls a=>∃ x p pos,args=[.Call (.Name x p) [a] [] pos]/\bx cx sc x=some "set"/\b="len"
    | .al=>True
theorem Ov{b:String}{args:List Expr}:WcP cx sc b args (Cm cx sc b args):=by
 unfold Cm;split
 ·rename_i e
  have w:=JD (cx:=cx) (sc:=sc) (e:=e);split
  ·rename_i hw
   rw[hw] at w;obtain⟨x,p,pos,rfl,hx⟩:=w;exact⟨x,p,pos,rfl,hx,rfl⟩
  ·rename_i hw
   rw[hw] at w;obtain⟨x,p,pos,rfl,hx⟩:=w;exact⟨x,p,pos,rfl,hx,rfl⟩
  ·rename_i hw
   rw[hw] at w;obtain⟨x,p,pos,rfl,hx⟩:=w;exact⟨x,p,pos,rfl,hx,rfl⟩
  ·rename_i hw
   rw[hw] at w;obtain⟨x,p,pos,rfl,hx⟩:=w;exact⟨x,p,pos,rfl,hx,rfl⟩
  ·split
   ·rename_i a ha
    unfold Wn at ha;split at ha
    ·rename_i y q a' q' _
     split at ha
     ·rename_i hb
      cases ha;exact⟨y,q,q',rfl,by simpa using hb,rfl⟩
     ·cases ha
    ·cases ha
   ·trivial
  ·trivial
 ·trivial
end
theorem cX(cx:Cxt):∀ (n:Nat) {k:Nat} {X:Cx} {sc:Scope} {ρ:Rho} {e:Expr} {d:D},Good cx k X sc->X.N=ρ.map (·.1)->ev cx n sc ρ e=some d->Ev X ρ e d/\∀ b,d=.bl b->EvT X ρ e b
 | 0,k,X,sc,ρ,e,d,_,_,h=>by exact nomatch (show(Option.none:Option D)=some d from h)
 | n+1,k,X,sc,ρ,e,d,G,hN,h=>by
  have ih:∀ e d,ev cx n sc ρ e=some d->Ev X ρ e d/\∀ b,d=.bl b->EvT X ρ e b:=fun e d h=>cX cx n G hN h;have ihp:∀ e d,ev cx n sc ρ e=some d->Ev X ρ e d/\aG e=true:=fun e d h=>⟨(ih e d h).1,aY h⟩;have val:∀ {e d},(∀ whole,isTrue e X.env whole=(do let v <- whole;standAt e.pos;holding [v] (truthy v)))->Ev X ρ e d->Ev X ρ e d/\∀ b,d=.bl b->EvT X ρ e b:=fun he h1=>⟨h1,fun b hb=>by subst hb;exact Ik h1 he⟩
  cases e with
  | Name x pos =>
   simp only[ev] at h;split at h
   ·rename_i hp
    refine val (fun _=>rfl) ?_
    have fin:∀ kd,sc.names.lookup x=some kd->(kd=.local\/kd=.cell\/kd=.free)->(match ρ.lookup x with | some (.sh d)=>some d | _=>none)=some d->Ev X ρ (.Name x pos) d:=by
     intro kd hk hkd hm;split at hm
     ·rename_i d' hl
      cases hm;refine HW hN ?_ hp hl;unfold Vis;rw[G.sce,hk];rcases hkd with rfl | rfl | rfl
      ·exact .inl rfl
      ·exact .inr (.inl rfl)
      ·exact .inr (.inr rfl)
     ·cases hm
    split at h
    ·rename_i hk;exact fin _ hk (.inl rfl) h
    ·rename_i hk;exact fin _ hk (.inr (.inl rfl)) h
    ·rename_i hk;exact fin _ hk (.inr (.inr rfl)) h
    ·rename_i hk
     obtain⟨v,u,h0,h1,h2⟩:=G.cst x d h;exact M6 (show X.env.scope.names.lookup x=_ by rw[G.sce];exact hk) h0 h1 h2 hp
    ·cases h
   ·cases h
  | Constant c j pos =>
   simp only[ev] at h;exact val (fun _=>rfl) (Bx h)
  | BinOp a op b pos =>
   simp only[ev] at h;obtain⟨x,h1,h⟩:=aR h;obtain⟨y,h2,h⟩:=aR h;exact val (fun _=>rfl) (BK (ih _ _ h1).1 (ih _ _ h2).1 h)
  | UnaryOp op a pos =>
   simp only[ev] at h;obtain⟨x,h1,h⟩:=aR h
   cases op<;>simp only[R0z] at h<;>try (cases h;done)
   ·obtain⟨b,h2,rfl⟩:=h
    cases x<;>simp[asB] at h2
    subst h2;refine⟨MK (ih _ _ h1).1,fun c hc=>?_⟩;cases hc;exact Il ((ih _ _ h1).2 _ rfl)
   ·obtain⟨i,h2,rfl⟩:=h
    cases x<;>simp[asI] at h2
    subst h2;exact val (fun _=>rfl) (MN (ih _ _ h1).1)
  | BoolOp op es pos =>
   simp only[ev] at h;obtain⟨h1,h2⟩:=oX (pos:=pos) (fun e _ d hd=>ih e d hd) h;exact⟨h1,fun b hb=>(h2 b hb).t⟩
  | Compare a ops bs pos =>
   simp only[ev] at h;split at h
   ·obtain⟨x,h1,h⟩:=aR h
    obtain⟨y,h2,h⟩:=aR h;exact Ii G.room (ih _ _ h1).1 (ih _ _ h2).1 (aY h2) h
   ·split at h
    ·cases h
    rename_i e3 hpl
    have hpl':aG e3=true:=by simpa using hpl
    obtain⟨x,h1,h⟩:=aR h;obtain⟨y,h2,h⟩:=aR h;obtain⟨c,h3,h⟩:=aR h;have h3':=eF h3
    cases c with
    | false =>
     simp only[U1z,V5z,K2z] at h;subst h;exact yC G.room (ih _ _ h1).1 (ih _ _ h2).1 hpl' h3' ⟨fun q=>(nomatch q),fun _=>rfl⟩
    | true =>
     simp only[X5z] at h;obtain⟨z,h4,h⟩:=aR h;exact yC G.room (ih _ _ h1).1 (ih _ _ h2).1 (aY h4) h3' ⟨fun _=>⟨z,(ih _ _ h4).1,h⟩,fun q=>nomatch q⟩
   ·cases h
  | IfExp c a b pos =>
   simp only[ev] at h;obtain⟨t,h1,h⟩:=aR h;have h1':=(ih _ _ (eF h1)).2 _ rfl
   cases t with
   | true =>
    simp only[X5z] at h;refine⟨M4 h1' (fun _=>(ih _ _ h).1) (fun q=>nomatch q),fun r hr=>Eh h1' (fun _=>(ih _ _ h).2 r hr) (fun q=>nomatch q)⟩
   | false =>
    simp only[U1z,V5z] at h;refine⟨M4 h1' (fun q=>nomatch q) (fun _=>(ih _ _ h).1),fun r hr=>Eh h1' (fun q=>nomatch q) (fun _=>(ih _ _ h).2 r hr)⟩
  | Tuple es j pos =>
   simp only[ev] at h;obtain⟨ds,h1,h⟩:=aR h;split at h
   ·rename_i hz
    cases h;exact val (fun _=>rfl) (Bv (fC (fun e _ d hd=>ihp e d hd) h1).1 hz)
   ·cases h
  | List es pos =>
   simp only[ev] at h;obtain⟨ds,h1,h⟩:=aR h;split at h
   ·rename_i hz
    cases h;exact val (fun _=>rfl) (HX (fC (fun e _ d hd=>ihp e d hd) h1).1 hz)
   ·cases h
  | Subscript a b pos =>
   simp only[ev] at h;obtain⟨x,h1,h⟩:=aR h;split at h
   ·simp at h
   ·obtain⟨y,h2,h⟩:=aR h
    have hp2:=aY h2;have hr:=G.room;unfold N5 at h;split at h
    ·exact val (fun _=>rfl) (tG (ih _ _ h1).1 (ih _ _ h2).1 hp2 rfl h)
    ·exact val (fun _=>rfl) (tG (ih _ _ h1).1 (ih _ _ h2).1 hp2 rfl h)
    ·obtain⟨k',h3,h4⟩:=Option.bind_eq_some_iff.mp h
     exact val (fun _=>rfl) (Ie G.kw (ih _ _ h1).1 (ih _ _ h2).1 hp2 h3 h4)
    ·cases h
  | Dict ks vs pos =>
   simp only[ev] at h
   have hu:X.A.units+1<cLine:=by have:=G.room.units;omega
   split at h
   ·rename_i d0 hd0
    cases h;exact val (fun _=>rfl) (M5 hu (fun e d hd=>(ih e d hd).1) hd0)
   split at h
   ·cases h
   ·rename_i hz
    obtain⟨l,h1,rfl⟩:=R0z.mp h;simp only[S3z,J2z,not_or,Bool.not_eq_true] at hz;exact val (fun _=>rfl) (Ig (fun e d hd=>(ih e d hd).1) hz.1 (by omega) h1)
  | Call f args kws pos =>
   refine val (fun _=>rfl) ?_;simp only[ev] at h;split at h
   ·rename_i x p
    split at h
    ·rename_i hg
     have hb:∀ {b},cx.blt.lookup x=some b->bx cx sc x=some b:=fun q=>by unfold bx;rw[Y5z hg];exact q
     split at h
     ·rename_i hx
      split at h
      ·obtain⟨d',h1,h⟩:=aR h
       split at h
       ·rename_i c' hxo
        split at h
        ·rename_i c
         split at h
         ·rename_i hin
          cases h;exact HY G (hb hx) hxo hin (ih _ _ h1).1 (aY h1)
         ·cases h
        ·cases h
       ·obtain⟨T,h2,h5⟩:=aR h
        clear h;obtain⟨t,pt,rfl,ht⟩:=Fp h2;split at h5
        ·rename_i c
         split at h5
         ·rename_i hc
          rw[X2z] at hc
          have eT:T="ValueError":=by simpa using hc.2
          subst eT;cases h5;exact Ia G (hb hx) ht hc.1 (ih _ _ h1).1 (aY h1)
         ·cases h5
        ·cases h5
        ·cases h5
        ·rename_i hne hne2 hne3
         split at h5
         ·rename_i hk
          cases h5;refine MP G (hb hx) ht hk (ih _ _ h1).1 (aY h1) ?_
          cases d'<;>first | rfl | exact absurd rfl (hne _) | exact absurd rfl (hne2 _ _) | exact absurd rfl (hne3 _ _)
         ·cases h5
      ·cases h
     ·rename_i b _ hx
      have wc:=Ov (cx:=cx) (sc:=sc) (b:=b) (args:=args);split at h
      ·rename_i a hw
       rw[hw] at wc;obtain⟨y,q,q',rfl,hy,rfl⟩:=wc;obtain⟨j,h1,h⟩:=aR h;split at h
       ·rename_i hz
        rw[X2z] at hz;cases h;have h1':=dO h1;exact uJ G (hb hx) hy (ih _ _ h1').1 (aY h1') hz.1 hz.2
       ·cases h
      ·rename_i a a' hw
       rw[hw] at wc;obtain⟨y,q,q',rfl,hy,rfl⟩:=wc;obtain⟨i,h1,h⟩:=aR h;obtain⟨j,h2,h⟩:=aR h;split at h
       ·rename_i hz
        rw[X2z,X2z] at hz;cases h;have h1':=dO h1;have h2':=dO h2;exact uI G (hb hx) hy (ih _ _ h1').1 (aY h1') (ih _ _ h2').1 (aY h2') hz.1.1 hz.1.2 hz.2
       ·cases h
      ·rename_i a hw
       rw[hw] at wc;obtain⟨y,q,q',rfl,hy,rfl⟩:=wc;simp at h
      ·rename_i a hw
       rw[hw] at wc;obtain⟨y,q,q',rfl,hy,rfl⟩:=wc;simp at h
      ·rename_i a hw
       rw[hw] at wc;obtain⟨y,q,q',rfl,hy,rfl⟩:=wc;simp at h
      ·split at h
       ·cases h
       ·rename_i hne
        obtain⟨ds,h1,h2⟩:=aR h;obtain⟨ha,hp⟩:=fC (fun e _ d hd=>ihp e d hd) h1
        cases args with
        | nil=>exact absurd rfl hne
        | cons e es=>exact BL G (hb hx) ha hp h2
     ·split at h
      ·rename_i hf
       rw[X2z] at hf;obtain⟨ds,h1,h⟩:=aR h;obtain⟨ha,hp⟩:=fC (fun e _ d hd=>ihp e d hd) h1
       have hgl:Gl X x:=by
        have e:sc.names.lookup x=some .globalImplicit:=by unfold mF at hg;simpa using hg
        show X.env.scope.names.lookup x=_;rw[G.sce,e]
       refine Ij G hgl hf.1 (fun q=>?_) ha hp h;rw[q] at hf;exact absurd hf.2 (by decide)
      ·cases h
    ·cases h
   ·split at h
    ·split at h
     ·cases h
     ·cases h
    ·cases h
   ·split at h
    ·split at h
     ·rename_i hl
      obtain⟨x,h1,h⟩:=aR h;obtain⟨z,h2,h⟩:=aR h;exact tE rfl (ih _ _ h1).1 (ih _ _ h2).1 (aY h2) hl h
     ·cases h
    ·split at h
     ·rename_i hl
      obtain⟨x,h1,h⟩:=aR h;obtain⟨y,h2,h⟩:=aR h;obtain⟨z,h3,h⟩:=aR h;simp only[X2z] at hl;obtain⟨⟨⟨l1,l2⟩,l3⟩,l4⟩:=hl;have l2':=eq_of_beq l2;subst l2';exact yx (by have:=G.room.units;omega) (ih _ _ h1).1 rfl l1 (ih _ _ h2).1 l3 (ih _ _ h3).1 l4 h
     ·cases h
    ·cases h
   ·split at h
    ·split at h
     ·rename_i hl
      obtain⟨x,h1,h⟩:=aR h;obtain⟨y,h2,h⟩:=aR h;obtain⟨z,h3,h⟩:=aR h;simp only[X2z] at hl;obtain⟨⟨⟨l1,l2⟩,l3⟩,l4⟩:=hl;have l2':=eq_of_beq l2;subst l2';exact yx (by have:=G.room.units;omega) (ih _ _ h1).1 (yW _ _ _ _ _) l1 (ih _ _ h2).1 l3 (ih _ _ h3).1 l4 h
     ·cases h
    ·cases h
   ·split at h
    ·split at h
     ·rename_i hl
      obtain⟨x,h1,h⟩:=aR h;obtain⟨z,h2,h⟩:=aR h;exact tE rfl (ih _ _ h1).1 (ih _ _ h2).1 (aY h2) hl h
     ·cases h
    ·cases h
   ·split at h
    ·split at h
     ·rename_i hl
      obtain⟨x,h1,h⟩:=aR h;obtain⟨y,h2,h⟩:=aR h;obtain⟨z,h3,h⟩:=aR h;simp only[X2z] at hl;obtain⟨⟨⟨l1,l2⟩,l3⟩,l4⟩:=hl;have l2':=eq_of_beq l2;subst l2';exact Ib G.kw (ih _ _ h1).1 rfl l1 (ih _ _ h2).1 l3 (ih _ _ h3).1 l4 h
     ·cases h
    ·cases h
   ·simp at h
   ·cases h
  | ListComp elt gens scope pos =>
   refine val (fun _=>rfl) ?_;simp only[ev] at h;split at h
   ·rename_i tg iter ifs a
    split at h
    ·rename_i hok
     rw[X2z] at hok
     have ea:a=0:=by simpa using hok.1
     subst ea;obtain⟨l,h1,h⟩:=aR h;split at h
     ·rename_i hz
      obtain⟨out,h2,h⟩:=aR h;cases h;obtain⟨hI,hp⟩:=yD (tg:=tg) G ihp h1;exact Ih G hN hok.2 hI hp hz h2 fun Xc C ρ1 hN1 e d he=>cX cx n (G.comp C hok.2) hN1 he
     ·cases h
    ·cases h
   ·cases h
  | _=>exact nomatch (show(Option.none:Option D)=some d from h)
section
variable {prog:Program} {w:World} {A:Around} {E:Value->Shared->Prop}
theorem j8{it t:Addr}{xs:List Value}(apart:t≠it):∀ (more i:Nat) (s:Shared) (Q:List Value->Shared->Prop),s.heap.IsListIter it t i->s.heap.IsList t xs.toArray->i+more<=xs.length ->
  (∀ h',h'.IsListIter it t (i+more)->Heap.SameBut it s.heap h'->Q ((xs.drop i).take more) { s with heap:=h' })->wpAny (model prog w) A (draw (.ref it) more) Q E s
 | 0,i,s,Q,it0,_,_,q=>by
  show wpAny _ _ (pure []) _ _ _;exact O5z (by simpa using q s.heap it0 (Heap.SameBut.refl ..))
 | more+1,i,s,Q,it0,hl,hle,q=>by
  have lt:i<xs.length:=by omega
  show wpAny _ _ (pyNext (.ref it) >>=_) _ _ _;refine N5z (wpAny_pyNext_list_item it0 hl (x:=xs[i]) (by simp[lt]) fun h1 st1 sb1=>?_)
  have hl1:h1.IsList t xs.toArray:=by
   obtain⟨o,e,r⟩:=hl;exact⟨o,(sb1.2 t apart).trans e,r⟩
  refine N5z (M4z (j8 apart more (i+1) _ _ st1 hl1 (by omega) fun h2 st2 sb2=>O5z ?_));have z:=q h2 (by rw[show i+(more+1)=i+1+more by omega];exact st2) (sb1.trans sb2);rw[F0z lt,List.take_succ_cons] at z;exact z
theorem kW{s:Shared}{t:Addr}{xs:List Value}{Q:List Value->Shared->Prop}(hh:A.handled=none)(hl:s.heap.IsList t xs.toArray)(q:∀ h',(∀ b o,s.heap.get? b=some o->h'.get? b=some o)->Q xs { s with heap:=h' }) :
  wpAny (model prog w) A (unpackItems (.ref t) xs.length none) Q E s:=by
 have apart:t≠s.heap.objs.size:=by obtain⟨o,e,_⟩:=hl;exact U4z (T4z e)
 have keep:∀ {h':Heap},(∀ b o,b≠s.heap.objs.size->s.heap.get? b=some o->h'.get? b=some o)->∀ b o,s.heap.get? b=some o->h'.get? b=some o:=fun k b o e=>k b o (U4z (T4z e)) e
 have pushed:∀ (n:Obj),(s.heap.push n).IsList t xs.toArray:=fun n=>by
  obtain⟨o,e,r⟩:=hl;exact⟨o,Heap.get?_push_of_some _ e,r⟩
 simp only[unpackItems,notIterableAtAll];refine N5z (N5z (wpAny_specialOf hl.typeIs PySem.slot_list_iter.lookup (O5z ?_)));simp only[U1z,V5z,Option.isNone_some,Bool.not_true,D4z];refine N5z (M4z (wpAny_pyIter_list hl ?_));refine N5z (M4z (j8 apart xs.length 0 _ _ ⟨_,Heap.get?_push_size _ rfl,rfl,rfl⟩ (pushed _) (by omega) fun h1 st1 sb1=>?_))
 have all:List.take xs.length (List.drop 0 xs)=xs:=by simp
 rw[all,Z5z (by simp)]
 have hl1:h1.IsList t xs.toArray:=by
  obtain⟨o,e,r⟩:=pushed { cls:=.type "list_iterator",data:=.fields #[.ref t,.int 0 0] };exact⟨o,(sb1.2 t apart).trans e,r⟩
 refine N5z (M4z (wpAny_pyNext_list_end hh st1 hl1 (by simp) fun h2 eb=>?_));simp only[Option.isSome_none,U1z,V5z];exact O5z (q h2 (keep fun b o hb e=>eb b o hb ((sb1.2 b hb).trans (Heap.get?_push_of_some _ e))))
end
section
variable {X:Cx} {es:List Expr} {k:Nat} {t:TGs} {n:Nat} {pos:Pos}
def ZQ(K:Z2)(n:Nat)(t:TGs):TG:=fun v σ H Q=>∃ a xs,v=.ref a/\SqL K H a xs/\xs.length=n/\t xs σ H Q
theorem KH(hc:X.calm=true)(h:PGs X es t)(hn:(assignEach es X.env).length=n)(hst:(assignEach es X.env).findIdx? (·.1)=none):PG X (.Tuple es k pos) (ZQ X.K n t):=by
 intro z0 s σ H v u Q I r hw;obtain⟨a,xs,rfl,hq,hl,hw⟩:=hw;cases (show u=Value.ref a from r);obtain⟨its,rv,pl,hz⟩:=I.list hq
 have e:(assignEach es X.env).length=its.length:=by rw[hn,<- hl,rv.length]
 rw[assign_Tuple];refine N5z (N4z ?_);unfold unpack;rw[hst,e];refine N5z (M4z (kW (I.ok.hd hc) pl.isList fun h' kp=>?_));exact h z0 _ σ H xs _ Q (I.kept (t':=s.toks) kp) rv hw
end
def OO(K:Z2)(H0 Hs H:Hp)(a:Addr)(bs:List Addr)(dss:List (List D)):Prop :=
  H a = some (.lst (bs.map V.ref)) /\ Hs a = none /\ H0 a = none /\ bs.Nodup /\ a ∉ bs /\ bs.length = dss.length /\
    ∀ (j:Nat) b,bs[j]?=some b->Hs b=none/\H0 b=none/\∃ ds us,dss[j]?=some ds/\H b=some (.lst us)/\aM K Hs ds us
def OD(K:Z2)(H0 Hs H:Hp)(a:Addr)(l:List (List Int×D)):Prop :=
 ∃ es o,H a=some (DtO a es o)/\Hs a=none/\H0 a=none/\es.map (·.1)=l.map (·.1)/\Keyed K Hs es/\aM K Hs (l.map (·.2)) (es.map (·.2.2))
structure Hd (K:Z2) (Hs0 H0 Hs H:Hp) (ρ:Rho) (σ:St):Prop where
 ext:Ext Hs0 H0 Hs H
 len:σ.length=ρ.length
 sh:cC K Hs ρ σ
 ow:∀ (i:Nat) (x:Str) (ds:List D),ρ[i]?=some (x,.ow ds)->∃ a vs,σ[i]?=some (some (.ref a))/\H a=some (.lst vs)/\aM K Hs ds vs/\Hs a=none/\H0 a=none
 dis:∀ (i j:Nat) (x y:Str) (ds es:List D) (a:Addr),i≠j->ρ[i]?=some (x,.ow ds)->ρ[j]?=some (y,.ow es)->σ[i]?=some (some (.ref a))->σ[j]?=some (some (.ref a))->False
 oo:∀ (i:Nat) (x:Str) (dss:List (List D)),ρ[i]?=some (x,.oo dss)->(∃ a bs,σ[i]?=some (some (.ref a))/\OO K H0 Hs H a bs dss)/\∀ (j:Nat) y s,j≠i->ρ[j]?=some (y,s)->calmS s=true
 od:∀ (i:Nat) (x:Str) (l:List (List Int×D)),ρ[i]?=some (x,.od l)->(∃ a,σ[i]?=some (some (.ref a))/\OD K H0 Hs H a l)/\∀ (j:Nat) y s,j≠i->ρ[j]?=some (y,s)->calmS s=true
section
variable {K:Z2} {Hs0 H0 Hs H Hs' H':Hp} {ρ:Rho} {σ:St}
theorem OO.step{a:Addr}{bs:List Addr}{dss:List (List D)}(h:OO K H0 Hs H a bs dss)(E:Ext Hs H Hs' H'):OO K H0 Hs' H' a bs dss:=by
 obtain⟨h1,h2,h3,h4,h5,h6,h7⟩:=h;refine⟨E.all _ _ h1,E.hid a _ h1 h2,h3,h4,h5,h6,fun j b e=>?_⟩;obtain⟨k1,k2,ds,us,k3,k4,k5⟩:=h7 j b e;exact⟨E.hid b _ k4 k1,k2,ds,us,k3,E.all _ _ k4,aM.same E.vis ds us k5⟩
theorem OD.step{a:Addr}{l:List (List Int×D)}(h:OD K H0 Hs H a l)(E:Ext Hs H Hs' H'):OD K H0 Hs' H' a l:=by
 obtain⟨es,o,h1,h2,h3,h4,h5,h6⟩:=h;exact⟨es,o,E.all _ _ h1,E.hid a _ h1 h2,h3,h4,h5.same fun q=>E.vis.tup q,aM.same E.vis _ _ h6⟩
theorem Hd.step(h:Hd K Hs0 H0 Hs H ρ σ)(E:Ext Hs H Hs' H'):Hd K Hs0 H0 Hs' H' ρ σ where
 ext:=h.ext.trans E
 len:=h.len
 sh:=h.sh.same E.vis
 ow:=fun i x ds e=>by
  obtain⟨a,vs,h1,h2,h3,h4,h5⟩:=h.ow i x ds e;exact⟨a,vs,h1,E.all _ _ h2,aM.same E.vis ds vs h3,E.hid a _ h2 h4,h5⟩
 dis:=h.dis
 oo:=fun i x dss e=>by
  obtain⟨⟨a,bs,h1,h2⟩,h3⟩:=h.oo i x dss e;exact⟨⟨a,bs,h1,h2.step E⟩,h3⟩
 od:=fun i x l e=>by
  obtain⟨⟨a,h1,h2⟩,h3⟩:=h.od i x l e;exact⟨⟨a,h1,h2.step E⟩,h3⟩
theorem fu{n:Nat}{e:Expr}{i:Nat}{x:Str}{s:Sl}(h:(frz n e ρ)[i]?=some (x,s)):(ρ[i]?=some (x,s)/\(calmS s=false->dG n x e=false))\/(∃ ds,s=.sh (.lst ds)/\ρ[i]?=some (x,.ow ds)/\dG n x e=true)\/(∃ dss,s=.sh (.lst (dss.map .lst))/\ρ[i]?=some (x,.oo dss)/\dG n x e=true)\/∃ l,s=.sh (gU l)/\ρ[i]?=some (x,.od l)/\dG n x e=true:=by
 unfold frz at h;rw[List.getElem?_map] at h;obtain⟨⟨y,t⟩,h1,h2⟩:=R0z.mp h
 cases t with
 | no=>simp at h2;obtain⟨rfl,rfl⟩:=h2;exact .inl ⟨h1,fun z=>nomatch z⟩
 | sh d=>simp at h2;obtain⟨rfl,rfl⟩:=h2;exact .inl ⟨h1,fun z=>nomatch z⟩
 | ow ds =>
  simp only at h2
  cases hm:dG n y e with
  | true =>
   rw[hm,Y5z rfl] at h2;cases h2;exact .inr (.inl ⟨ds,rfl,h1,hm⟩)
  | false =>
   rw[hm] at h2;simp at h2;obtain⟨rfl,rfl⟩:=h2;exact .inl ⟨h1,fun _=>hm⟩
 | oo dss =>
  simp only at h2
  cases hm:dG n y e with
  | true =>
   rw[hm,Y5z rfl] at h2;cases h2;exact .inr (.inr (.inl ⟨dss,rfl,h1,hm⟩))
  | false =>
   rw[hm] at h2;simp at h2;obtain⟨rfl,rfl⟩:=h2;exact .inl ⟨h1,fun _=>hm⟩
 | od l =>
  simp only at h2
  cases hm:dG n y e with
  | true =>
   rw[hm,Y5z rfl] at h2;cases h2;exact .inr (.inr (.inr ⟨l,rfl,h1,hm⟩))
  | false =>
   rw[hm] at h2;simp at h2;obtain⟨rfl,rfl⟩:=h2;exact .inl ⟨h1,fun _=>hm⟩
theorem aW(n:Nat)(e:Expr):(frz n e ρ).map (·.1)=ρ.map (·.1):=by
 unfold frz;rw[D5z];apply M1z;intro p _;obtain⟨x,s⟩:=p
 cases s<;>simp<;>(split<;>rfl)
theorem aM.get_of{K:Z2}{H:Hp}:∀ {ds:List D} {vs:List V},ds.length=vs.length->(∀ (j:Nat) d v,ds[j]?=some d->vs[j]?=some v->Rep K H d v)->aM K H ds vs
 | [],[],_,_=>.nil
 | [],_::_,h,_=>by simp at h
 | _::_,[],h,_=>by simp at h
 | d::ds,v::vs,h,q=>.cons (q 0 d v rfl rfl) (aM.get_of (by simpa using h) fun j d' v' e1 e2=>q (j+1) d' v' (by simpa using e1) (by simpa using e2))
theorem OO.mem{a b:Addr}{bs:List Addr}{dss:List (List D)}(h:OO K H0 Hs H a bs dss)(hb:b∈bs):Hs b=none/\H0 b=none:=by
 obtain⟨j,e⟩:=List.mem_iff_getElem?.mp hb;obtain⟨k1,k2,_⟩:=h.2.2.2.2.2.2 j b e;exact⟨k1,k2⟩
def Lx:HO->Prop
 | .lst _=>True
 | .ext _=>True
 | _=>False
open Classical in
theorem Hd.frozen2(n:Nat)(e:Expr)(h:Hd K Hs0 H0 Hs H ρ σ):∃ Hs1,Same Hs Hs1/\(∀ b o,Hs1 b=some o->Hs b=some o\/Lx o)/\Hd K Hs0 H0 Hs1 H (frz n e ρ) σ:=by
 let Fo:Addr->Prop:=fun b=>∃ (i:Nat) (x:Str) (ds:List D),ρ[i]?=some (x,Sl.ow ds)/\dG n x e=true/\σ[i]?=some (some (V.ref b))
 let Fb:Addr->Prop:=fun b=>(∃ (i:Nat) (x:Str) (dss:List (List D)) (a:Addr) (bs:List Addr),ρ[i]?=some (x,Sl.oo dss)/\dG n x e=true/\σ[i]?=some (some (V.ref a))/\OO K H0 Hs H a bs dss/\(b=a\/b∈bs))\/∃ (i:Nat) (x:Str) (l:List (List Int×D)),ρ[i]?=some (x,Sl.od l)/\dG n x e=true/\σ[i]?=some (some (V.ref b))
 let Hs1:Hp:=fun b=>if Fo b\/Fb b then H b else Hs b
 have vis:Same Hs Hs1:=fun b o q=>by
  show(if Fo b\/Fb b then H b else Hs b)=some o;split
  ·exact h.ext.sub b o q
  ·exact q
 have sub:Same Hs1 H:=fun b o q=>by
  have q':(if Fo b\/Fb b then H b else Hs b)=some o:=q;split at q'
  ·exact q'
  ·exact h.ext.sub b o q'
 have fz0:∀ b,Fo b\/Fb b->H0 b=none/\Hs b=none:=fun b hb=>by
  rcases hb with⟨i,x,ds,g1,_,g3⟩ | ⟨i,x,dss,a,bs,g1,_,g3,g4,g5⟩ | ⟨i,x,l,g1,_,g3⟩
  ·obtain⟨a,vs,k1,k2,k3,k4,k5⟩:=h.ow i x ds g1
   rw[k1] at g3;cases g3;exact⟨k5,k4⟩
  ·rcases g5 with rfl | g5
   ·exact⟨g4.2.2.1,g4.2.1⟩
   ·exact⟨(g4.mem g5).2,(g4.mem g5).1⟩
  ·obtain⟨⟨a,k1,es,o,k2,k4,k5,_⟩,_⟩:=h.od i x l g1
   rw[k1] at g3;cases g3;exact⟨k5,k4⟩
 have shp:∀ b o,Hs1 b=some o->Hs b=some o\/Lx o:=fun b o q=>by
  have q':(if Fo b\/Fb b then H b else Hs b)=some o:=q;split at q'
  ·rename_i f
   rcases f with⟨i,x,ds,g1,_,g3⟩ | ⟨i,x,dss,a,bs,g1,_,g3,g4,g5⟩ | ⟨i,x,l,g1,_,g3⟩
   ·obtain⟨a,vs,k1,k2,k3,k4,k5⟩:=h.ow i x ds g1
    rw[k1] at g3;cases g3;rw[k2] at q';cases q';exact .inr trivial
   ·rcases g5 with rfl | g5
    ·rw[g4.1] at q'
     cases q';exact .inr trivial
    ·obtain⟨j,ej⟩:=List.mem_iff_getElem?.mp g5
     obtain⟨_,_,_,us,_,m4,_⟩:=g4.2.2.2.2.2.2 j b ej;rw[m4] at q';cases q';exact .inr trivial
   ·obtain⟨⟨a,k1,es,ob,k2,_⟩,_⟩:=h.od i x l g1
    rw[k1] at g3;cases g3;rw[k2] at q';cases q';exact .inr trivial
  ·exact .inl q'
 refine⟨Hs1,vis,shp,⟨h.ext.vis.trans vis,h.ext.all,sub,fun b o q z=>?_⟩,by rw[h.len];simp[frz],fun i x d q=>?_,fun i x ds q=>?_,fun i j x y ds es a hij q1 q2=>?_,fun i x dss q=>?_,fun i x l q=>?_⟩
 ·show(if Fo b\/Fb b then H b else Hs b)=none
  rw[Z5z fun f=>by rw[(fz0 b f).1] at q;cases q]
  exact h.ext.hid b o q z
 ·rcases fu q with⟨q,_⟩ | ⟨ds,e1,q2,hm⟩ | ⟨dss,e1,q2,hm⟩ | ⟨l,e1,q2,hm⟩
  ·obtain⟨v,k1,k2⟩:=h.sh i x d q
   exact⟨v,k1,Rep.same vis d v k2⟩
  ·cases e1
   obtain⟨a,vs,k1,k2,k3,k4,k5⟩:=h.ow i x ds q2;refine⟨_,k1,?_⟩;simp only[Rep];refine⟨a,vs,rfl,.of ?_,aM.same vis ds vs k3⟩;show(if Fo a\/Fb a then H a else Hs a)=_;rw[Y5z (.inl ⟨i,x,ds,q2,hm,k1⟩)];exact k2
  ·cases e1
   obtain⟨⟨a,bs,k1,k2⟩,_⟩:=h.oo i x dss q2;refine⟨_,k1,?_⟩;simp only[Rep];refine⟨a,bs.map V.ref,rfl,.of ?_,?_⟩
   ·show(if Fo a\/Fb a then H a else Hs a)=_
    rw[Y5z (.inr (.inl ⟨i,x,dss,a,bs,q2,hm,k1,k2,.inl rfl⟩))];exact k2.1
   ·refine aM.get_of (by rw[J3z,J3z,k2.2.2.2.2.2.1]) fun j d v g1 g2=>?_
    rw[List.getElem?_map] at g1 g2;obtain⟨es,g3,rfl⟩:=R0z.mp g1;obtain⟨b,g4,rfl⟩:=R0z.mp g2;obtain⟨_,_,ds,us,m3,m4,m5⟩:=k2.2.2.2.2.2.2 j b g4;rw[g3] at m3;cases m3;simp only[Rep];refine⟨b,us,rfl,.of ?_,aM.same vis es us m5⟩;show(if Fo b\/Fb b then H b else Hs b)=_;rw[Y5z (.inr (.inl ⟨i,x,dss,a,bs,q2,hm,k1,k2,.inr (List.mem_of_getElem? g4)⟩))];exact m4
  ·cases e1
   obtain⟨⟨a,k1,es,o,k2,k3,k4,k5,k6,k7⟩,_⟩:=h.od i x l q2;refine⟨_,k1,?_⟩;simp only[gU,Rep];refine⟨a,es,o,rfl,?_,k5,k6.same fun q=>vis.tup q,aM.same vis _ _ k7⟩;show(if Fo a\/Fb a then H a else Hs a)=_;rw[Y5z (.inr (.inr ⟨i,x,l,q2,hm,k1⟩))];exact k2
 ·rcases fu q with⟨q,hm⟩ | ⟨ds',e1,q,hm⟩ | ⟨ds',e1,q,hm⟩ | ⟨ds',e1,q,hm⟩
  ·obtain⟨a,vs,k1,k2,k3,k4,k5⟩:=h.ow i x ds q
   refine⟨a,vs,k1,k2,aM.same vis ds vs k3,?_,k5⟩;show(if Fo a\/Fb a then H a else Hs a)=none;rw[Z5z]
   ·exact k4
   ·rintro(⟨j,y,es,g1,g2,g3⟩ | ⟨j,y,dss,_,_,g1,_⟩ | ⟨j,y,l,g1,_⟩)
    ·by_cases hij:i=j
     ·subst hij
      rw[q] at g1;cases g1;rw[hm rfl] at g2;cases g2
     ·exact h.dis i j x y ds es a hij q g1 k1 g3
    ·by_cases hij:i=j
     ·subst hij
      rw[q] at g1;cases g1
     ·exact nomatch (h.oo j y dss g1).2 i x _ hij q
    ·by_cases hij:i=j
     ·subst hij
      rw[q] at g1;cases g1
     ·exact nomatch (h.od j y l g1).2 i x _ hij q
  ·cases e1
  ·cases e1
  ·cases e1
 ·rcases fu q1 with⟨q1,_⟩ | ⟨ds',e1,_⟩ | ⟨ds',e1,_⟩ | ⟨ds',e1,_⟩
  ·rcases fu q2 with⟨q2,_⟩ | ⟨ds',e1,_⟩ | ⟨ds',e1,_⟩ | ⟨ds',e1,_⟩
   ·exact h.dis i j x y ds es a hij q1 q2
   ·cases e1
   ·cases e1
   ·cases e1
  ·cases e1
  ·cases e1
  ·cases e1
 ·rcases fu q with⟨q,hm⟩ | ⟨ds',e1,_⟩ | ⟨ds',e1,_⟩ | ⟨ds',e1,_⟩
  ·obtain⟨⟨a,bs,k1,k2⟩,k3⟩:=h.oo i x dss q
   have nf:∀ b,¬ (Fo b\/Fb b):=by
    rintro b (⟨j,y,es,g1,_⟩ | ⟨j,y,dss',_,_,g1,g2,_⟩ | ⟨j,y,l,g1,_⟩)
    ·by_cases hij:j=i
     ·subst hij
      rw[q] at g1;cases g1
     ·exact nomatch k3 j y _ hij g1
    ·by_cases hij:j=i
     ·subst hij
      rw[q] at g1;cases g1;rw[hm rfl] at g2;cases g2
     ·exact nomatch k3 j y _ hij g1
    ·by_cases hij:j=i
     ·subst hij
      rw[q] at g1;cases g1
     ·exact nomatch k3 j y _ hij g1
   have sm:∀ b,Hs1 b=Hs b:=fun b=>by
    show(if Fo b\/Fb b then H b else Hs b)=_;rw[Z5z (nf b)]
   refine⟨⟨a,bs,k1,k2.1,by rw[sm];exact k2.2.1,k2.2.2.1,k2.2.2.2.1,k2.2.2.2.2.1,k2.2.2.2.2.2.1,fun j b g=>?_⟩,fun j y s hj g=>?_⟩
   ·obtain⟨m1,m2,ds,us,m3,m4,m5⟩:=k2.2.2.2.2.2.2 j b g
    exact⟨by rw[sm];exact m1,m2,ds,us,m3,m4,aM.same vis ds us m5⟩
   ·rcases fu g with⟨g,_⟩ | ⟨_,e1,_⟩ | ⟨_,e1,_⟩ | ⟨_,e1,_⟩
    ·exact k3 j y s hj g
    ·rw[e1];rfl
    ·rw[e1];rfl
    ·rw[e1];rfl
  ·cases e1
  ·cases e1
  ·cases e1
 ·rcases fu q with⟨q,hm⟩ | ⟨ds',e1,_⟩ | ⟨ds',e1,_⟩ | ⟨ds',e1,_⟩
  ·obtain⟨⟨a,k1,es,o,k2,m1,m2,m3,m4,m5⟩,k3⟩:=h.od i x l q
   have nf:¬ (Fo a\/Fb a):=by
    rintro(⟨j,y,es,g1,_⟩ | ⟨j,y,dss',_,_,g1,g2,_⟩ | ⟨j,y,l',g1,g2,_⟩)
    ·by_cases hij:j=i
     ·subst hij
      rw[q] at g1;cases g1
     ·exact nomatch k3 j y _ hij g1
    ·by_cases hij:j=i
     ·subst hij
      rw[q] at g1;cases g1
     ·exact nomatch k3 j y _ hij g1
    ·by_cases hij:j=i
     ·subst hij
      rw[q] at g1;cases g1;rw[hm rfl] at g2;cases g2
     ·exact nomatch k3 j y _ hij g1
   refine⟨⟨a,k1,es,o,k2,?_,m2,m3,m4.same fun q=>vis.tup q,aM.same vis _ _ m5⟩,fun j y s hj g=>?_⟩
   ·show(if Fo a\/Fb a then H a else Hs a)=none
    rw[Z5z nf];exact m1
   ·rcases fu g with⟨g,_⟩ | ⟨_,e1,_⟩ | ⟨_,e1,_⟩ | ⟨_,e1,_⟩
    ·exact k3 j y s hj g
    ·rw[e1];rfl
    ·rw[e1];rfl
    ·rw[e1];rfl
  ·cases e1
  ·cases e1
  ·cases e1
theorem Hd.frozen(n:Nat)(e:Expr)(h:Hd K Hs0 H0 Hs H ρ σ):∃ Hs1,Same Hs Hs1/\Hd K Hs0 H0 Hs1 H (frz n e ρ) σ :=
 let ⟨Hs1,a,_,b⟩:=h.frozen2 n e
 ⟨Hs1,a,b⟩
def flH(Hs H Hs':Hp):Hp:=fun b=>match Hs b with
 | some o=>some o
 | none=>match H b with
  | some _=>none
  | none=>match Hs' b with
   | some (.tup vs)=>some (.tup vs)
   | some (.frz o (.tup vs))=>some (.frz o (.tup vs))
   | _=>none
mutual
theorem tu{Hs H Hs1 Hs' H':Hp}(vis:Same Hs Hs1)(shp:∀ b o,Hs1 b=some o->Hs b=some o\/Lx o)(E:Ext Hs1 H Hs' H'):∀ (d:D) (v:V),fB d=true->Rep K Hs' d v->Rep K (flH Hs H Hs') d v
 | .non,v,_,r=>by simpa[Rep] using r
 | .bl b,v,_,r=>by simpa[Rep] using r
 | .int i,v,_,r=>by simpa[Rep] using r
 | .str x,v,_,r=>by simpa[Rep] using r
 | .lst _,v,h,_=>by simp[fB] at h
 | .exc _,v,h,_=>by simp[fB] at h
 | .dic _ _,v,h,_=>by simp[fB] at h
 | .dt _ _,v,h,_=>by simp[fB] at h
 | .tup ds,v,h,r=>by
  simp only[fB] at h;simp only[Rep] at r ⊢;obtain⟨p,ws,rfl,h1,h2⟩:=r;refine⟨p,ws,rfl,?_,jE vis shp E ds ws h h2⟩
  have fin:∀ u:HO,Hs' p=some u->¬ Lx u->Hs p=some u\/(Hs p=none/\H p=none):=fun u hu hnl=>by
   cases hp:Hs p with
   | some u' =>
    have:=E.vis _ _ (vis _ _ hp);rw[hu] at this;exact .inl this.symm
   | none =>
    have h1n:Hs1 p=none:=by
     cases q:Hs1 p with
     | none=>rfl
     | some o =>
      rcases shp p o q with z | z
      ·rw[hp] at z;cases z
      ·have:=E.vis _ _ q
       rw[hu] at this;cases this;exact absurd z hnl
    refine .inr ⟨rfl,?_⟩
    cases q:H p with
    | none=>rfl
    | some o=>have:=E.hid p o q h1n;rw[hu] at this;cases this
  rcases h1 with(h1 | ⟨o,h1⟩) | h1
  ·refine .inl (.inl ?_)
   rcases fin _ h1 (fun z=>z) with z | ⟨z1,z2⟩
   ·simp only[flH,z]
   ·simp only[flH,z1,z2,h1]
  ·refine .inl (.inr ⟨o,?_⟩)
   rcases fin _ h1 (fun z=>z) with z | ⟨z1,z2⟩
   ·simp only[flH,z]
   ·simp only[flH,z1,z2,h1]
  ·exact .inr h1
theorem jE{Hs H Hs1 Hs' H':Hp}(vis:Same Hs Hs1)(shp:∀ b o,Hs1 b=some o->Hs b=some o\/Lx o)(E:Ext Hs1 H Hs' H'):∀ (ds:List D) (vs:List V),gK ds=true->aM K Hs' ds vs->aM K (flH Hs H Hs') ds vs
 | [],vs,_,r=>by simpa[aM] using r
 | d::ds,vs,h,r=>by
  simp only[gK,X2z] at h;simp only[aM] at r ⊢;obtain⟨w,r',rfl,h1,h2⟩:=r;exact⟨w,r',rfl,tu vis shp E d w h.1 h1,jE vis shp E ds r' h.2 h2⟩
end
theorem oW{Hs1 Hs' H':Hp}{d:D}{v:V}(hs:Same Hs H)(vis:Same Hs Hs1)(shp:∀ b o,Hs1 b=some o->Hs b=some o\/Lx o)(E:Ext Hs1 H Hs' H')(hd:fB d=true)(r:Rep K Hs' d v):∃ Hs3,Ext Hs H Hs3 H'/\Rep K Hs3 d v:=by
 refine⟨flH Hs H Hs',⟨fun b o q=>by simp only[flH,q],E.all,fun b o q=>?_,fun b o q z=>by simp only[flH,z,q]⟩,tu vis shp E d v hd r⟩;unfold flH at q;split at q
 ·rename_i o' e;cases q;exact E.all _ _ (hs _ _ e)
 ·split at q
  ·cases q
  ·split at q
   ·rename_i e;cases q;exact E.sub _ _ e
   ·rename_i e;cases q;exact E.sub _ _ e
   ·cases q
theorem uG{Hs1 Hs' H':Hp}{d:List D}{v:List V}(hs:Same Hs H)(vis:Same Hs Hs1)(shp:∀ b o,Hs1 b=some o->Hs b=some o\/Lx o)(E:Ext Hs1 H Hs' H')(hd:gK d=true)(r:aM K Hs' d v):∃ Hs3,Ext Hs H Hs3 H'/\aM K Hs3 d v:=by
 refine⟨flH Hs H Hs',⟨fun b o q=>by simp only[flH,q],E.all,fun b o q=>?_,fun b o q z=>by simp only[flH,z,q]⟩,jE vis shp E d v hd r⟩;unfold flH at q;split at q
 ·rename_i o' e;cases q;exact E.all _ _ (hs _ _ e)
 ·split at q
  ·cases q
  ·split at q
   ·rename_i e;cases q;exact E.sub _ _ e
   ·rename_i e;cases q;exact E.sub _ _ e
   ·cases q
theorem Hd.set{x:Str}{i:Nat}{d:D}{v:V}(h:Hd K Hs0 H0 Hs H ρ σ)(hn:(ρ.map (·.1)).Nodup)(hi:(ρ.map (·.1))[i]?=some x)(r:Rep K Hs d v):Hd K Hs0 H0 Hs H (cB ρ x (.sh d)) (σ.set i (some v)):=by
 have hl:i<σ.length:=by have:=(List.getElem?_eq_some_iff.mp hi).1;rw[h.len];simpa using this
 refine⟨h.ext,by rw[K3z,h.len];have:=congrArg List.length (aK ρ x (.sh d));simpa using this.symm,nZ hn hi hl h.sh r,fun j y ds e=>?_,fun j j' y y' ds es a hjj e1 e2 e3 e4=>?_,fun j y dss e=>?_,fun j y lq e=>?_⟩
 ·rw[aB hn hi j] at e
  split at e
  ·cases e
  ·rename_i hj
   obtain⟨a,vs,k1,k⟩:=h.ow j y ds e;exact⟨a,vs,by rw[List.getElem?_set_ne (fun z=>hj z.symm)];exact k1,k⟩
 ·rw[aB hn hi] at e1 e2
  split at e1
  ·cases e1
  ·rename_i hj
   split at e2
   ·cases e2
   ·rename_i hj'
    rw[List.getElem?_set_ne (fun z=>hj z.symm)] at e3;rw[List.getElem?_set_ne (fun z=>hj' z.symm)] at e4;exact h.dis j j' y y' ds es a hjj e1 e2 e3 e4
 ·rw[aB hn hi j] at e
  split at e
  ·cases e
  ·rename_i hj
   obtain⟨⟨a,bs,k1,k2⟩,k3⟩:=h.oo j y dss e;refine⟨⟨a,bs,by rw[List.getElem?_set_ne (fun z=>hj z.symm)];exact k1,k2⟩,fun l z s hl' g=>?_⟩;rw[aB hn hi l] at g;split at g
   ·cases g;rfl
   ·exact k3 l z s hl' g
 ·rw[aB hn hi j] at e
  split at e
  ·cases e
  ·rename_i hj
   obtain⟨⟨a,k1,k2⟩,k3⟩:=h.od j y lq e;refine⟨⟨a,by rw[List.getElem?_set_ne (fun z=>hj z.symm)];exact k1,k2⟩,fun l z s hl' g=>?_⟩;rw[aB hn hi l] at g;split at g
   ·cases g;rfl
   ·exact k3 l z s hl' g
theorem Hd.own{x:Str}{i:Nat}{ds:List D}{vs:List V}{acc:Addr}(h:Hd K Hs0 H0 Hs H ρ σ)(hn:(ρ.map (·.1)).Nodup)(hi:(ρ.map (·.1))[i]?=some x)(h1:H acc=some (.lst vs))(r:aM K Hs ds vs)(h2:Hs acc=none)(h3:H0 acc=none)
  (no:∀ (j:Nat) y s,j≠i->ρ[j]?=some (y,s)->Od s=true->False) (ap:∀ (j:Nat) y es,j≠i->ρ[j]?=some (y,.ow es)->σ[j]?=some (some (.ref acc))->False):Hd K Hs0 H0 Hs H (cB ρ x (.ow ds)) (σ.set i (some (.ref acc))):=by
 have hl:i<σ.length:=by have:=(List.getElem?_eq_some_iff.mp hi).1;rw[h.len];simpa using this
 refine⟨h.ext,by rw[K3z,h.len];have:=congrArg List.length (aK ρ x (.ow ds));simpa using this.symm,fun j y d e=>?_,fun j y es e=>?_,fun j j' y y' ds' es a hjj e1 e2 e3 e4=>?_,fun j y dss e=>?_,fun j y lq e=>?_⟩
 ·rw[aB hn hi j] at e
  split at e
  ·cases e
  ·rename_i hj
   obtain⟨v,k1,k2⟩:=h.sh j y d e;exact⟨v,by rw[List.getElem?_set_ne (fun z=>hj z.symm)];exact k1,k2⟩
 ·rw[aB hn hi j] at e
  split at e
  ·rename_i hj
   subst hj;cases e;exact⟨acc,vs,by rw[List.getElem?_set_self hl],h1,r,h2,h3⟩
  ·rename_i hj
   obtain⟨a,vs',k1,k⟩:=h.ow j y es e;exact⟨a,vs',by rw[List.getElem?_set_ne (fun z=>hj z.symm)];exact k1,k⟩
 ·rw[aB hn hi] at e1 e2
  split at e1
  ·rename_i hj
   split at e2
   ·rename_i hj'
    exact hjj (hj.trans hj'.symm)
   ·rename_i hj'
    subst hj;rw[List.getElem?_set_self hl] at e3;cases e3;rw[List.getElem?_set_ne (fun z=>hj' z.symm)] at e4;exact ap j' y' es hj' e2 e4
  ·rename_i hj
   split at e2
   ·rename_i hj'
    subst hj';rw[List.getElem?_set_self hl] at e4;cases e4;rw[List.getElem?_set_ne (fun z=>hj z.symm)] at e3;exact ap j y ds' hj e1 e3
   ·rename_i hj'
    rw[List.getElem?_set_ne (fun z=>hj z.symm)] at e3;rw[List.getElem?_set_ne (fun z=>hj' z.symm)] at e4;exact h.dis j j' y y' ds' es a hjj e1 e2 e3 e4
 ·rw[aB hn hi j] at e
  split at e
  ·cases e
  ·rename_i hj
   exact(no j y _ hj e rfl).elim
 ·rw[aB hn hi j] at e
  split at e
  ·cases e
  ·rename_i hj
   exact(no j y _ hj e rfl).elim
theorem Hd.app{x:Str}{i:Nat}{ds es:List D}{vs:List V}{a:Addr}(h:Hd K Hs0 H0 Hs H ρ σ)(hn:(ρ.map (·.1)).Nodup)(hi:ρ[i]?=some (x,.ow ds))(hσ:σ[i]?=some (some (.ref a)))(r:aM K Hs es vs):Hd K Hs0 H0 Hs (upd H a (.lst vs)) (cB ρ x (.ow es)) σ:=by
 obtain⟨a',vs',k1,k2,k3,k4,k5⟩:=h.ow i x ds hi;rw[hσ] at k1;cases k1
 have hi':(ρ.map (·.1))[i]?=some x:=by rw[List.getElem?_map,hi];rfl
 refine⟨Ext.acc h.ext k5 k4,by rw[h.len];have:=congrArg List.length (aK ρ x (.ow es));simpa using this.symm,fun j y d e=>?_,fun j y es' e=>?_,fun j j' y y' ds' es' b hjj e1 e2 e3 e4=>?_,fun j y dss e=>?_,fun j y lq e=>?_⟩
 ·rw[aB hn hi' j] at e
  split at e
  ·cases e
  ·exact h.sh j y d e
 ·rw[aB hn hi' j] at e
  split at e
  ·rename_i hj
   subst hj;cases e;exact⟨a,vs,hσ,aP,r,k4,k5⟩
  ·rename_i hj
   obtain⟨b,us,g1,g2,g⟩:=h.ow j y es' e;refine⟨b,us,g1,?_,g⟩;rw[aJ]
   ·exact g2
   ·rintro rfl
    exact h.dis j i y x es' ds b hj e hi g1 hσ
 ·rw[aB hn hi'] at e1 e2
  split at e1
  ·rename_i hj
   split at e2
   ·rename_i hj'
    exact hjj (hj.trans hj'.symm)
   ·subst hj
    exact h.dis j j' x y' ds es' b hjj hi e2 e3 e4
  ·split at e2
   ·rename_i hj'
    subst hj';exact h.dis j j' y x ds' ds b hjj e1 hi e3 e4
   ·exact h.dis j j' y y' ds' es' b hjj e1 e2 e3 e4
 ·rw[aB hn hi' j] at e
  split at e
  ·cases e
  ·rename_i hj
   exact nomatch (h.oo j y dss e).2 i x _ (fun w=>hj w.symm) hi
 ·rw[aB hn hi' j] at e
  split at e
  ·cases e
  ·rename_i hj
   exact nomatch (h.od j y lq e).2 i x _ (fun w=>hj w.symm) hi
theorem rY{x:Str}{i:Nat}(hn:(ρ.map (·.1)).Nodup)(hi:(ρ.map (·.1))[i]?=some x)(h:lU ρ x=true):∀ (j:Nat) y s,j≠i->ρ[j]?=some (y,s)->calmS s=true:=fun j y s hj e=>by
 have:=A3z.mp h _ (List.mem_of_getElem? e);rw[S3z] at this;rcases this with q | q
 ·exfalso
  have ey:y=x:=by simpa using q
  have e':(ρ.map (·.1))[j]?=some x:=by rw[List.getElem?_map,e,<- ey];rfl
  exact hj ((List.getElem?_inj (List.getElem?_eq_some_iff.mp e').1 hn).mp (e'.trans hi.symm))
 ·exact q
theorem G7{x:Str}{i:Nat}(hn:(ρ.map (·.1)).Nodup)(hi:(ρ.map (·.1))[i]?=some x)(h:Ao ρ x=true):∀ (j:Nat) y s,j≠i->ρ[j]?=some (y,s)->Od s=true->False:=fun j y s hj e ho=>by
 have:=A3z.mp h _ (List.mem_of_getElem? e);rw[S3z] at this;rcases this with q | q
 ·have ey:y=x:=by simpa using q
  have e':(ρ.map (·.1))[j]?=some x:=by rw[List.getElem?_map,e,<- ey];rfl
  exact hj ((List.getElem?_inj (List.getElem?_eq_some_iff.mp e').1 hn).mp (e'.trans hi.symm))
 ·rw[ho] at q;exact nomatch q
theorem Hd.own2{x:Str}{i:Nat}{dss:List (List D)}{a:Addr}{bs:List Addr}(h:Hd K Hs0 H0 Hs H ρ σ)(hn:(ρ.map (·.1)).Nodup)(hi:(ρ.map (·.1))[i]?=some x)(o:OO K H0 Hs H a bs dss)(no:∀ (j:Nat) y s,j≠i->ρ[j]?=some (y,s)->calmS s=true):Hd K Hs0 H0 Hs H (cB ρ x (.oo dss)) (σ.set i (some (.ref a))):=by
 have hl:i<σ.length:=by have:=(List.getElem?_eq_some_iff.mp hi).1;rw[h.len];simpa using this
 refine⟨h.ext,by rw[K3z,h.len];have:=congrArg List.length (aK ρ x (.oo dss));simpa using this.symm,fun j y d e=>?_,fun j y es e=>?_,fun j j' y y' ds' es a hjj e1 e2 e3 e4=>?_,fun j y dss' e=>?_,fun j y lq e=>?_⟩
 ·rw[aB hn hi j] at e
  split at e
  ·cases e
  ·rename_i hj
   obtain⟨v,k1,k2⟩:=h.sh j y d e;exact⟨v,by rw[List.getElem?_set_ne (fun z=>hj z.symm)];exact k1,k2⟩
 ·rw[aB hn hi j] at e
  split at e
  ·cases e
  ·rename_i hj
   exact nomatch no j y _ hj e
 ·rw[aB hn hi] at e1
  split at e1
  ·cases e1
  ·rename_i hj
   exact nomatch no j y _ hj e1
 ·rw[aB hn hi j] at e
  split at e
  ·rename_i hj
   subst hj;cases e;refine⟨⟨a,bs,by rw[List.getElem?_set_self hl],o⟩,fun l z s hl' g=>?_⟩;rw[aB hn hi l,Z5z hl'] at g;exact no l z s hl' g
  ·rename_i hj
   exact nomatch no j y _ hj e
 ·rw[aB hn hi j] at e
  split at e
  ·cases e
  ·rename_i hj
   exact nomatch no j y _ hj e
theorem Hd.app2{x:Str}{i:Nat}{dss dss':List (List D)}{a c:Addr}{bs':List Addr}{vs:List V}(h:Hd K Hs0 H0 Hs H ρ σ)(hn:(ρ.map (·.1)).Nodup)(hi:ρ[i]?=some (x,.oo dss))(hσ:σ[i]?=some (some (.ref a)))(c1:Hs c=none)(c2:H0 c=none)(o:OO K H0 Hs (upd H c (.lst vs)) a bs' dss'):Hd K Hs0 H0 Hs (upd H c (.lst vs)) (cB ρ x (.oo dss')) σ:=by
 have hi':(ρ.map (·.1))[i]?=some x:=by rw[List.getElem?_map,hi];rfl
 obtain⟨_,no⟩:=h.oo i x dss hi;refine⟨Ext.acc h.ext c2 c1,by rw[h.len];have:=congrArg List.length (aK ρ x (.oo dss'));simpa using this.symm,fun j y d e=>?_,fun j y es e=>?_,fun j j' y y' ds' es a hjj e1 e2 e3 e4=>?_,fun j y dss'' e=>?_,fun j y lq e=>?_⟩
 ·rw[aB hn hi' j] at e
  split at e
  ·cases e
  ·exact h.sh j y d e
 ·rw[aB hn hi' j] at e
  split at e
  ·cases e
  ·rename_i hj
   exact nomatch no j y _ hj e
 ·rw[aB hn hi'] at e1
  split at e1
  ·cases e1
  ·rename_i hj
   exact nomatch no j y _ hj e1
 ·rw[aB hn hi' j] at e
  split at e
  ·rename_i hj
   subst hj;cases e;refine⟨⟨a,bs',hσ,o⟩,fun l z s hl' g=>?_⟩;rw[aB hn hi' l,Z5z hl'] at g;exact no l z s hl' g
  ·rename_i hj
   exact nomatch no j y _ hj e
 ·rw[aB hn hi' j] at e
  split at e
  ·cases e
  ·rename_i hj
   exact nomatch no j y _ hj e
theorem Hd.ownD{x:Str}{i:Nat}{l:List (List Int×D)}{a:Addr}(h:Hd K Hs0 H0 Hs H ρ σ)(hn:(ρ.map (·.1)).Nodup)(hi:(ρ.map (·.1))[i]?=some x)(o:OD K H0 Hs H a l)(no:∀ (j:Nat) y s,j≠i->ρ[j]?=some (y,s)->calmS s=true):Hd K Hs0 H0 Hs H (cB ρ x (.od l)) (σ.set i (some (.ref a))):=by
 have hl:i<σ.length:=by have:=(List.getElem?_eq_some_iff.mp hi).1;rw[h.len];simpa using this
 refine⟨h.ext,by rw[K3z,h.len];have:=congrArg List.length (aK ρ x (.od l));simpa using this.symm,fun j y d e=>?_,fun j y es e=>?_,fun j j' y y' ds' es a hjj e1 e2 e3 e4=>?_,fun j y dss' e=>?_,fun j y lq e=>?_⟩
 ·rw[aB hn hi j] at e
  split at e
  ·cases e
  ·rename_i hj
   obtain⟨v,k1,k2⟩:=h.sh j y d e;exact⟨v,by rw[List.getElem?_set_ne (fun z=>hj z.symm)];exact k1,k2⟩
 ·rw[aB hn hi j] at e
  split at e
  ·cases e
  ·rename_i hj
   exact nomatch no j y _ hj e
 ·rw[aB hn hi] at e1
  split at e1
  ·cases e1
  ·rename_i hj
   exact nomatch no j y _ hj e1
 ·rw[aB hn hi j] at e
  split at e
  ·cases e
  ·rename_i hj
   exact nomatch no j y _ hj e
 ·rw[aB hn hi j] at e
  split at e
  ·rename_i hj
   subst hj;cases e;refine⟨⟨a,by rw[List.getElem?_set_self hl],o⟩,fun m z s hl' g=>?_⟩;rw[aB hn hi m,Z5z hl'] at g;exact no m z s hl' g
  ·rename_i hj
   exact nomatch no j y _ hj e
theorem Hd.appD{x:Str}{i:Nat}{l l':List (List Int×D)}{a:Addr}{u:HO}(h:Hd K Hs0 H0 Hs H ρ σ)(hn:(ρ.map (·.1)).Nodup)(hi:ρ[i]?=some (x,.od l))(hσ:σ[i]?=some (some (.ref a)))(c1:Hs a=none)(c2:H0 a=none)(o:OD K H0 Hs (upd H a u) a l'):Hd K Hs0 H0 Hs (upd H a u) (cB ρ x (.od l')) σ:=by
 have hi':(ρ.map (·.1))[i]?=some x:=by rw[List.getElem?_map,hi];rfl
 obtain⟨_,no⟩:=h.od i x l hi;refine⟨⟨h.ext.vis,fun b w q=>by rw[aJ (au q c2)];exact h.ext.all b w q,fun b w q=>by rw[aJ (au q c1)];exact h.ext.sub b w q,h.ext.hid⟩,by rw[h.len];have:=congrArg List.length (aK ρ x (.od l'));simpa using this.symm,fun j y d e=>?_,fun j y es e=>?_,fun j j' y y' ds' es a hjj e1 e2 e3 e4=>?_,fun j y dss'' e=>?_,fun j y lq e=>?_⟩
 ·rw[aB hn hi' j] at e
  split at e
  ·cases e
  ·exact h.sh j y d e
 ·rw[aB hn hi' j] at e
  split at e
  ·cases e
  ·rename_i hj
   exact nomatch no j y _ hj e
 ·rw[aB hn hi'] at e1
  split at e1
  ·cases e1
  ·rename_i hj
   exact nomatch no j y _ hj e1
 ·rw[aB hn hi' j] at e
  split at e
  ·cases e
  ·rename_i hj
   exact nomatch no j y _ hj e
 ·rw[aB hn hi' j] at e
  split at e
  ·rename_i hj
   subst hj;cases e;refine⟨⟨a,hσ,o⟩,fun m z s hl' g=>?_⟩;rw[aB hn hi' m,Z5z hl'] at g;exact no m z s hl' g
  ·rename_i hj
   exact nomatch no j y _ hj e
theorem sS{scope:Scope}:kE K Hs scope (fun ρ σ=>Hd K Hs0 H0 Hs H ρ σ):=fun ρ σ i x d v hn hi _ h r=>h.set hn hi r
end
end L2
namespace L2
open PySem PySem.Spec PyProof.Rows PySem.SeqAt
open DE hiding st
def iT(X:Cx)(s:Stmt):TS:=fun D σ H=>∀ z0 s0,Inv X z0 σ H s0->wpAny (model X.prog X.w) X.A (exec s X.env) (SP X z0 D) X.xe s0
def gY(X:Cx)(s:List Stmt):TS:=fun D σ H=>∀ z0 s0,Inv X z0 σ H s0->wpAny (model X.prog X.w) X.A (execs s X.env) (SP X z0 D) X.xe s0
section
variable {X:Cx} {s:Stmt} {ss:List Stmt} {t:TS} {D:Ends} {σ:St} {H:Hp}
theorem CZ:PS X s (iT X s):=fun z0 s σ H D I h=>h z0 s I
theorem PS.sem(h:PS X s t)(q:t D σ H):iT X s D σ H:=fun z0 s I=>h z0 s σ H D I q
theorem dw:PSs X ss (gY X ss):=fun z0 s σ H D I h=>h z0 s I
theorem PSs.sem(h:PSs X ss t)(q:t D σ H):gY X ss D σ H:=fun z0 s I=>h z0 s σ H D I q
end
def Runs(X:Cx)(Hs0 H0:Hp)(ρ:Rho)(fl:Fl)(t:TS):Prop:=∀ σ H Hs D,Hd X.K Hs0 H0 Hs H ρ σ->X.N=ρ.map (·.1)->(∀ ρ' σ' Hs' H',fl=.nxt ρ'->Same Hs Hs'->X.N=ρ'.map (·.1)->Hd X.K Hs0 H0 Hs' H' ρ' σ'->D.nx σ' H') ->
 (∀ d v Hs' H',fl=.ret d->Ext Hs0 H0 Hs' H'->Rep X.K Hs' d v->D.rt v H')->t D σ H
structure GoodS (cx:Cxt) (k:Nat) (X:Cx) (sc:Scope):Prop where
 good:Good cx k X sc
 own:Owns X sc
 pass:PassesOwn (model X.prog X.w) X.A X.env X.xe
 stk:X.stack=X.env::X.outer/\X.env.frame=some X.env.locals
section
variable {X:Cx} {ρ:Rho} {cx:Cxt} {k F:Nat} {sc scope:Scope} {Hs0 H0:Hp} {e:Expr} {d:D}
theorem Bw(G:GoodS cx k X sc)(hN:X.N=ρ.map (·.1))(he:ev cx F sc (frz F e ρ) e=some d){σ:St}{H Hs:Hp}{Q:VK}(h:Hd X.K Hs0 H0 Hs H ρ σ)(q:∀ v Hs' H',Same Hs Hs'->Hd X.K Hs0 H0 Hs' H' (frz F e ρ) σ->Rep X.K Hs' d v->Q v H'):m9 X e σ H Q:=by
 obtain⟨Hs1,sm1,h1⟩:=h.frozen F e;exact(cX cx F G.good (by rw[aW];exact hN) he).1 σ H Hs1 Q h1.ext.sub h1.sh fun v H' Hs' E r=>q v Hs' H' (sm1.trans E.vis) (h1.step E) r
theorem MJ(G:GoodS cx k X sc)(hN:X.N=ρ.map (·.1)){b:Bool}(he:ev cx F sc (frz F e ρ) e=some (.bl b)){σ:St}{H Hs:Hp}{Q:Bool->Hp->Prop}(h:Hd X.K Hs0 H0 Hs H ρ σ)(q:∀ Hs' H',Same Hs Hs'->Hd X.K Hs0 H0 Hs' H' (frz F e ρ) σ->Q b H'):vG X e σ H Q:=by
 obtain⟨Hs1,sm1,h1⟩:=h.frozen F e;exact(cX cx F G.good (by rw[aW];exact hN) he).2 b rfl σ H Hs1 Q h1.ext.sub h1.sh fun H' Hs' E=>q Hs' H' (sm1.trans E.vis) (h1.step E)
theorem HN(G:GoodS cx k X sc)(hN:X.N=ρ.map (·.1)){b:Bool}(he:ev cx F sc (frz F e ρ) e=some (.bl b)){σ:St}{H Hs:Hp}{Q:Bool->Hp->Prop}(h:Hd X.K Hs0 H0 Hs H ρ σ)(q:∀ Hs' H',Same Hs Hs'->Hd X.K Hs0 H0 Hs' H' ρ σ->Q b H'):vG X e σ H Q:=by
 obtain⟨Hs1,sm1,shp,h1⟩:=h.frozen2 F e;refine(cX cx F G.good (by rw[aW];exact hN) he).2 b rfl σ H Hs1 Q h1.ext.sub h1.sh fun H' Hs' E=>?_;obtain⟨Hs3,E3,_⟩:=oW (K:=X.K) (d:=.bl b) (v:=.bl b) h.ext.sub sm1 shp E rfl (by simp[Rep]);exact q Hs3 H' E3.vis (h.step E3)
theorem fY{t:Option Expr}{l:Nat}{env:Env}(he:ev cx F sc ρ e=some d)(hc:∀ a b c p,e≠.ListComp a b c p):swapsWith e t l env=pure false:=by
 cases F with
 | zero=>simp[ev] at he
 | succ F =>
  cases e<;>first | rfl | (exact nomatch (show(Option.none:Option D)=some d from he)) | (exact absurd rfl (hc _ _ _ _))
theorem zQ(h:aZ e=false):lB e d=.sh d:=by
 unfold lB;split
 ·rw[h];rfl
 ·rfl
def Oi(X:Cx)(ρ:Rho)(e:Expr)(ds:List D):Prop:=∀ σ H Hs Q,Same Hs H->cC X.K Hs ρ σ->(∀ acc vs Hs' H',Ext Hs H Hs' H'->H acc=none->Hs' acc=none->H' acc=some (.lst vs)->aM X.K Hs' ds vs->Q (.ref acc) H')->m9 X e σ H Q
theorem Ai{es:List Expr}{ds:List D}{pos:Pos}(h:EvA X ρ es ds)(hz:szl ds.length=true):Oi X ρ (.List es pos) ds:=fun σ H Hs Q hs hst hq =>
 (Dg iB).sem (h σ H Hs _ hs hst fun vs H1 Hs1 E1 r1=>⟨by rw[<- r1.length];exact eU hz,fun p hp =>
  hq p vs Hs1 _ (Ext.acc E1 (E1.all.free hp) (E1.sub.free hp)) (E1.all.free hp) (E1.sub.free hp) aP r1⟩)
theorem jJ{elt:Expr}{gens:List Comprehension}{pos:Pos}{n:Nat}(G:Good cx k X sc)(hN:X.N=ρ.map (·.1))(he:ev cx (n+1) sc ρ (.ListComp elt gens scope pos)=some d) :
    ∃ tg iter ifs l out, gens = [⟨tg, iter, ifs, 0⟩] /\ gP sc scope = true /\ EvI X ρ tg iter l /\ aG iter = true /\ szl l.length = true /\ bD (pA cx n sc scope ρ tg elt ifs) l = some out /\ d = .lst out /\
      (∀ Xc,CompOf X scope Xc->∀ ρ1:Rho,Xc.N=ρ1.map (·.1)->∀ e d,ev cx n (jP scope sc) ρ1 e=some d->Ev Xc ρ1 e d/\∀ b,d=.bl b->EvT Xc ρ1 e b):=by
  simp only[ev] at he
  split at he
  · rename_i tg iter ifs a
    split at he
    · rename_i hok
      rw[X2z] at hok
      have ea:a=0:=by simpa using hok.1
      subst ea
      obtain⟨l,h1,he⟩:=aR he
      split at he
      · rename_i hz
        obtain⟨out,h2,he⟩:=aR he
        cases he
        obtain⟨hI,hp⟩:=yD (tg:=tg) G (fun e d h=>⟨(cX cx n G hN h).1,aY h⟩) h1
        exact⟨tg,iter,ifs,l,out,rfl,hok.2,hI,hp,hz,h2,rfl,fun Xc C ρ1 hN1 e d he=>cX cx n (G.comp C hok.2) hN1 he⟩
      · cases he
    · cases he
  · cases he
theorem Gz{a b:Expr}{ds:List D}{j:Int}{pos:Pos}(ha:Ev X ρ a (.lst ds))(hb:Ev X ρ b (.int j))(h1:j<=1000)(h2:-1000<=j)(hz:szl (ds.length*j.toNat)=true):Oi X ρ (.BinOp a .Mult b pos) (List.replicate j.toNat ds).flatten:=fun σ H Hs Q hs hst hq=>by
 refine(iK wQ aq aq).sem (ha σ H Hs _ hs hst fun u H1 Hs1 E1 r1=>hb σ H1 Hs1 _ E1.sub (hst.same E1.vis) fun v H2 Hs2 E2 r2=>?_);obtain⟨p,us,rfl,g1,g2⟩:=bG (Rep.same E2.vis _ _ r1);have l1:=g2.length;have E:=E1.trans E2;exact⟨p,_,us,rfl,aO r2,E2.sub.seq g1,by omega,by omega,by have:=eU hz;rw[<- l1];exact this,fun q hq'=>hq q _ Hs2 _ (Ext.acc E (E.all.free hq') (E.sub.free hq')) (E.all.free hq') (E.sub.free hq') aP (g2.rep _)⟩
theorem vV{x:Str}{ds:List D}{px pos:Pos}(G:GoodS cx k X sc)(hN:X.N=ρ.map (·.1))(hx:ownIn sc x=true)(hc:(ρ.map (·.1)).contains x=true)(hno:Ao (frz F e ρ) x=true)
  (hrun:∀ (i:Nat),X.N[i]?=some x->∀ σ H Hs D,Same Hs H->cC X.K Hs (frz F e ρ) σ->(∀ acc vs Hs' H',Ext Hs H Hs' H'->H acc=none->Hs' acc=none->H' acc=some (.lst vs)->aM X.K Hs' ds vs->D.nx (σ.set i (some (.ref acc))) H')->iT X (.Assign [.Name x px] e pos) D σ H) :
  Runs X Hs0 H0 ρ (.nxt (cB (frz F e ρ) x (.ow ds))) (iT X (.Assign [.Name x px] e pos)):=by
 intro σ H Hs D h _ hn hr;obtain⟨i,hi⟩:=bI hc;obtain⟨Hs1,sm1,h1⟩:=h.frozen F e
 have hnd:((frz F e ρ).map (·.1)).Nodup:=by rw[aW,<- hN];exact G.good.nd
 refine hrun i (by rw[hN];exact hi) σ H Hs1 D h1.ext.sub h1.sh fun acc vs Hs' H' E a1 a2 a3 r=>?_
 refine hn _ _ Hs' H' rfl (sm1.trans E.vis) (by rw[aK,aW];exact hN) ((h1.step E).own hnd (by rw[aW];exact hi) a3 r a2 (h1.ext.all.free a1) (G7 hnd (by rw[aW];exact hi) hno) fun j y es hj q1 q2=>?_)
 obtain⟨b,us,k1,k2,_⟩:=h1.ow j y es q1;rw[k1] at q2;cases q2;rw[a1] at k2;cases k2
theorem FJ{x:Str}{px pos:Pos}(G:GoodS cx k X sc)(hN:X.N=ρ.map (·.1))(hx:ownIn sc x=true)(hc:(ρ.map (·.1)).contains x=true)(hno:aZ e=true->Ao (frz F e ρ) x=true)(he:ev cx F sc (frz F e ρ) e=some d) :
  Runs X Hs0 H0 ρ (.nxt (cB (frz F e ρ) x (lB e d))) (iT X (.Assign [.Name x px] e pos)):=by
 obtain⟨ox,of⟩:=G.own.own x hx
 have hN':X.N=(frz F e ρ).map (·.1):=by rw[aW];exact hN
 by_cases hfr:aZ e=true
 ·cases F with
  | zero=>simp[ev] at he
  | succ F =>
   cases e with
   | List es p2 =>
    simp only[ev] at he;obtain⟨ds,h1,he⟩:=aR he;split at he
    ·rename_i hz
     cases he;have hA:=(fC (fun e _ d hd=>⟨(cX cx F G.good hN' hd).1,aY hd⟩) h1).1;refine vV G hN hx hc (hno rfl) fun i hi σ H Hs D hs hst hq=>?_;refine PS.sem (jo G.good.nd hi ox aq rfl of) (Ai hA hz σ H Hs _ hs hst fun acc vs Hs' H' E a1 a2 a3 r=>hq acc vs Hs' H' E a1 a2 a3 r)
    ·cases he
   | ListComp elt gens scope p2 =>
    obtain⟨tg,iter,ifs,l,out,rfl,hok,hI,hp,hz,hgo,rfl,hE⟩:=jJ G.good hN' he;obtain⟨ok1,ok2,ok3⟩:=cT G.good hok;refine vV G hN hx hc (hno rfl) fun i hi σ H Hs D hs hst hq=>?_
    have rd:qe X scope (qd X tg iter) (qu X.N scope.names) (fun Xc=>Bm Xc tg) (fun Xc=>qI Xc ifs) (fun Xc=>m9 Xc elt) σ H (fun v H1=>D.nx (σ.set i (some v)) H1) :=
     jH G.good hN' hok hI hz hgo hE hs hst fun acc vs Hs' H' E a1 a2 a3 r=>hq acc vs Hs' H' E a1 a2 a3 r
    cases hsw:(X.env.blockKind==.function&&X.env.kindOf x==some .local&&px.line==p2.line && !(scope.names.any fun(n,k)=>n==x&&(k==.local||k==.cell))) with
    | true =>
     have e1:swapsWith (.ListComp elt [⟨tg,iter,ifs,0⟩] scope p2) (some (.Name x px)) pos.line X.env=pure true:=by rw[<- hsw];rfl
     rw[X2z,X2z,X2z] at hsw
     have hl:X.env.scope.names.lookup x=some .local:=by simpa[Env.kindOf] using hsw.1.1.2
     exact PS.sem (wF G.good.nd hi hl G.good.calm ok1 ok2 ok3 jt (fun Xc C=>⟨gw,fH,aq⟩) (dz hp) e1) rd
    | false =>
     have e1:swapsWith (.ListComp elt [⟨tg,iter,ifs,0⟩] scope p2) (some (.Name x px)) pos.line X.env=pure false:=by rw[<- hsw];rfl
     exact PS.sem (jo G.good.nd hi ox (lQ G.good.calm ok1 ok2 ok3 jt (fun Xc C=>⟨gw,fH,aq⟩) (dz hp)) e1 of) rd
   | BinOp a op b p2 =>
    have hno':=hno hfr;simp only[aZ,X2z] at hfr;obtain⟨q1,q2⟩:=hfr
    cases op<;>simp[Yv] at q2
    cases a with
    | List es p3 =>
     simp only[ev] at he;obtain⟨dx,h1,he⟩:=aR he;obtain⟨dy,h2,he⟩:=aR he
     have hl:∃ ds0,dx=.lst ds0:=by
      cases F with
      | zero=>simp[ev] at h1
      | succ F =>
       simp only[ev] at h1;obtain⟨ds0,_,h1⟩:=aR h1;split at h1
       ·cases h1;exact⟨_,rfl⟩
       ·cases h1
     obtain⟨ds0,rfl⟩:=hl
     cases dy with
     | int j =>
      simp only[binop] at he;split at he
      ·rename_i hz
       cases he;rw[X2z,X2z,J2z,J2z] at hz;have e1:=(cX cx F G.good hN' h1).1;have e2:=(cX cx F G.good hN' h2).1;refine vV G hN hx hc hno' fun i hi σ H Hs D hs hst hq=>?_;refine PS.sem (jo G.good.nd hi ox aq rfl of) (Gz e1 e2 hz.1.1 hz.1.2 hz.2 σ H Hs _ hs hst fun acc vs Hs' H' E a1 a2 a3 r=>hq acc vs Hs' H' E a1 a2 a3 r)
      ·cases he
     | _=>simp[binop] at he
    | _=>exact absurd (show false=true from q1) P1z
   | _=>simp[aZ] at hfr
 ·have hfr':aZ e=false:=by simpa using hfr
  rw[zQ hfr'];intro σ H Hs D h _ hn hr;obtain⟨i,hi⟩:=bI hc
  have hsw:=fY (t:=some (.Name x px)) (l:=pos.line) (env:=X.env) he fun a b c p q=>by rw[q] at hfr';cases hfr'
  refine PS.sem (jo (i:=i) G.good.nd (by rw[hN];exact hi) ox aq hsw of) (Bw G hN he h fun v Hs' H' sm h' r=>?_)
  exact hn _ _ Hs' H' rfl sm (by rw[aK];exact hN') (h'.set (by rw[<- hN'];exact G.good.nd) (by rw[aW];exact hi) r)
theorem uP{es:List Expr}{l:List D}{ρ':Rho}{σ:St}{v:V}{Hs H:Hp}{P:Rho->St->Prop}{Q:St->Hp->Prop}{kt:Nat}{pos:Pos}(G:GoodS cx k X sc)(hs:Same Hs H)(hN:X.N=ρ.map (·.1))(KE:kE X.K Hs sc P)(hl:items d=some l)(hb:bindNames sc es l ρ=some ρ')(hp:P ρ σ)(rd:Rep X.K Hs d v)
  (hq:∀ σ',X.N=ρ'.map (·.1)->P ρ' σ'->Q σ' H):Bm X (.Tuple es kt pos) v σ H Q:=by
 obtain⟨e1,e2,e3⟩:=fJ (env:=X.env) hb
 cases d with
 | tup xs =>
  simp only[items,K2z] at hl;subst hl
  obtain⟨a,vs,rfl,h1,h2⟩:=bF rd;exact PG.sem (Dc G.good.calm lN e1 e2) ⟨a,vs,rfl,hs.tup h1,by rw[<- h2.length,e3],fL G.own G.good.nd KE hN hb hp h2 hq⟩
 | lst xs =>
  simp only[items,K2z] at hl;subst hl
  obtain⟨a,vs,rfl,h1,h2⟩:=bG rd;exact PG.sem (KH G.good.calm lN e1 e2) ⟨a,vs,rfl,hs.seq h1,by rw[<- h2.length,e3],fL G.own G.good.nd KE hN hb hp h2 hq⟩
 | _=>simp[items] at hl
theorem sE{n:Nat}(h:nc0 e=true):foldedForSure n e=false/\constantsAlone n e=false:=by
 cases e<;>simp[nc0] at h<;>(constructor<;>simp[foldedForSure,constantsAlone,h])
theorem Lh{n:Nat}(h:nc1 e=true):constantsAlone (n+1) e=false:=by
 unfold nc1 at h;split at h
 ·simp[constantsAlone,(sE (n:=n) h).2]
 ·exact(sE h).2
theorem Ar(h:nc e=true):foldedForSure 8 e=false/\constantsAlone 8 e=false:=by
 unfold nc at h;split at h
 ·rw[S3z] at h
  refine⟨by simp[foldedForSure],?_⟩
  rcases h with h | h<;>simp[constantsAlone,(sE (n:=7) h).2]
 ·rw[S3z] at h
  refine⟨by simp[foldedForSure],?_⟩
  rcases h with h | h<;>simp[constantsAlone,(Lh (n:=6) h)]
 ·exact sE h
theorem m6(G:Good cx k X sc):X.env.blockKind=.function:=by
 unfold Env.blockKind;rw[G.sce,G.kind];rfl
theorem J3{es:List Expr}{kt:Nat}{pt:Pos}(G:Good cx k X sc)(h:swp sc es e=some false):swappedStores [.Tuple es kt pt] e X.env=pure none:=by
 cases e with
 | Tuple vs k2 p2 =>
  simp only[swp] at h;split at h
  ·rename_i x px y py a b
   split at h
   ·split at h
    ·cases h
    ·split at h
     ·rename_i hcs
      rw[X2z] at hcs
      have f1:foldedForSure 8 a=true:=by cases a<;>first | rfl | (simp[Bf] at hcs)
      have f2:foldedForSure 8 b=true:=by cases b<;>first | rfl | (simp[Bf] at hcs)
      have al1:[a,b].all (foldedForSure 8)=true:=by simp[f1,f2]
      unfold swappedStores;simp only[al1,X5z]
      repeat' split
      all_goals rfl
     ·cases h
   ·rename_i hl
    have hl':¬ ((X.env.kindOf x==some .local)=true/\(X.env.kindOf y==some .local)=true):=by
     intro q;apply hl;rw[X2z];unfold Env.kindOf at q;rw[G.sce] at q;exact q
    unfold swappedStores
    cases h1:X.env.kindOf x==some .local<;>cases h2:X.env.kindOf y==some .local
    all_goals simp only[h1,h2] at hl'
    all_goals simp[h1,h2,m6 G]
    ·intro _ _ hlen
     exfalso
     have n1:¬ X.env.kindOf x=some .local:=by simpa using h1
     have n2:¬ X.env.kindOf y=some .local:=by simpa using h2
     simp[G1z,n1,n2] at hlen
    ·intro _ _ hlen
     exfalso
     have n1:¬ X.env.kindOf x=some .local:=by simpa using h1
     simp only[G1z,List.filterMap_nil,n1,false_and,V5z] at hlen
     split at hlen<;>simp at hlen
    ·intro _ _ hlen
     exfalso
     have n1:¬ X.env.kindOf y=some .local:=by simpa using h2
     simp only[G1z,List.filterMap_nil,n1,false_and,V5z] at hlen
     split at hlen<;>simp at hlen
    ·exact absurd ⟨trivial,trivial⟩ hl'
  ·rename_i x px y py z pz a b c
   split at h
   ·rename_i hl
    simp only[X2z] at hl;obtain⟨⟨l1,l2⟩,l3⟩:=hl
    have kd:∀ {v:Str},(sc.names.lookup v==some NameKind.cell)=true->¬ X.env.kindOf v=some .local:=fun {v} hv q=>by
     unfold Env.kindOf at q;rw[G.sce,eq_of_beq hv] at q;cases q
    have n1:=kd l1;have n2:=kd l2;have n3:=kd l3;unfold swappedStores
    have b1:(X.env.kindOf x==some NameKind.local)=false:=by simpa using n1
    have b2:(X.env.kindOf y==some NameKind.local)=false:=by simpa using n2
    have b3:(X.env.kindOf z==some NameKind.local)=false:=by simpa using n3
    simp[m6 G,G1z,b1,b2,b3,n1,n2,n3]
   ·cases h
  ·cases h
 | _=>rfl
theorem Fv{es:List Expr}{kt:Nat}{pt:Pos}(G:Good cx k X sc)(h:swp sc es e=some true):∃ x px y py a b k2 p2,es=[.Name x px,.Name y py]/\e=.Tuple [a,b] k2 p2/\X.env.scope.names.lookup x=some .local/\X.env.scope.names.lookup y=some .local/\x≠y/\aG a=true/\aG b=true /\
    swappedStores [.Tuple es kt pt] e X.env=pure (some [x,y]):=by
  cases e with
  | Tuple vs k2 p2 =>
    simp only[swp] at h
    split at h
    · rename_i x px y py a b
      split at h
      · rename_i hl
        split at h
        · rename_i hq
          rw[X2z] at hl
          rw[X2z,X2z,X2z,X2z,S3z] at hq
          obtain⟨⟨⟨⟨q1,q2⟩,q3⟩,q4⟩,q5⟩:=hq
          have l1:X.env.kindOf x=some .local:=by unfold Env.kindOf;rw[G.sce];simpa using hl.1
          have l2:X.env.kindOf y=some .local:=by unfold Env.kindOf;rw[G.sce];simpa using hl.2
          have hxy:x≠y:=by simpa using q2
          have hpl : py.line = px.line := by have : px.line = py.line := by simpa using q1
                                             exact this.symm
          have f1:(foldedForSure 8 a&&foldedForSure 8 b)=false:=by
            rcases q3 with q | q
            · rw[(Ar q).1];rfl
            · rw[(Ar q).1,J4z]
          have f2:(constantsAlone 8 a&&constantsAlone 8 b)=false:=by
            rcases q3 with q | q
            · rw[(Ar q).2];rfl
            · rw[(Ar q).2,J4z]
          refine⟨x,px,y,py,a,b,k2,p2,rfl,rfl,l1,l2,hxy,q4,q5,?_⟩
          unfold swappedStores
          have ed:([x,y]:List Str).eraseDups.length=2:=by
            have:(y==x)=false:=by simpa using hxy.symm
            simp[List.eraseDups_cons,this]
          have al1:[a,b].all (foldedForSure 8)=false:=by simpa using f1
          have al2:[a,b].all (constantsAlone 8)=false:=by simpa using f2
          simp only[al1,al2,m6 G]
          generalize hst:[a,b].any _=sb
          have hsb:sb=false:=by
            rw[<- hst,P4z,P4z,List.any_nil,Bool.or_false,Bool.or_eq_false_iff]
            clear hst f1 f2 al1 al2 q3
            refine⟨?_,?_⟩
            · cases a<;>first | rfl | (simp[aG] at q4)
            · cases b<;>first | rfl | (simp[aG] at q5)
          generalize hf:List.filterMap _ [Expr.Name x px,Expr.Name y py]=nm
          have hnm:nm=[x,y]:=by
            rw[<- hf]
            simp[G1z,l1,l2,hpl,Expr.pos]
          rw[hsb,hnm]
          simp only[ed]
          rfl
        · split at h<;>cases h
      · cases h
    · split at h<;>cases h
    · cases h
  | _=>simp[swp] at h
end
def XOk(X:Cx)(σ:St)(E:XK):Prop:=∀ z0 H s e s',Inv X z0 σ H s->CX1 X.prog X.w X.stack H s E e s'->X.xe e s'
def zy(X:Cx)(σ:St)(E:XK):Prop:=∀ z0 H s (C e:Addr) h' args,Inv X z0 σ H s->Heap.MadeExcOf s.heap h' e (.ref C) args->E (.ref C) none H->X.xe (.ref e) { s with heap:=h' }
def EX(X:Cx)(c:Str)(Hs H:Hp)(E:XK):Prop:=∀ C H' Hs',PySem.W.nsIn X.K mainGlobals c=some (some (.ref C))->Ext Hs H Hs' H'->E (.ref C) none H'
theorem EX.step{X:Cx}{c:Str}{Hs H Hs1 H1:Hp}{E:XK}(h:EX X c Hs H E)(e:Ext Hs H Hs1 H1):EX X c Hs1 H1 E:=fun C H' Hs' hn e'=>h C H' Hs' hn (e.trans e')
def EvX(X:Cx)(ρ:Rho)(e:Expr)(c:Str):Prop:=∀ σ H Hs E,Same Hs H->cC X.K Hs ρ σ->EX X c Hs H E->XOk X σ E->∀ Q,m9 X e σ H Q
def Z0(X:Cx)(ρ:Rho)(es:List Expr)(c:Str):Prop:=∀ σ H Hs E,Same Hs H->cC X.K Hs ρ σ->EX X c Hs H E->XOk X σ E->∀ Q,vH X es σ H Q
section
variable {X:Cx} {ρ:Rho} {cx:Cxt} {k:Nat} {sc scope:Scope}
theorem FZ{f:Addr}{fd:FuncData}{ps:List Str}{sp:Sp}{E:XK}{z0:List (Addr×Obj)}{σ:St}{H:Hp}{s:Shared}{Q:VK}{us:List Value}{vs:List V}(F:FnOk X.prog X.w X.K X.mg X.base (CX1 X.prog X.w) k f fd ps sp)(hr:Room k X.A)(hb:Binds X.K fd ps [])(hx:XOk X σ E)
  (I:Inv X z0 σ H s) (r:Vals vs us) (h:sp vs H Q E):wpAny (model X.prog X.w) X.A (call (.ref f) us) (EP X z0 σ Q) X.xe s:=by
 have hl:(us++([]:List Value)).length=ps.length:=by rw[H3z,<- r.length];exact F.len _ _ _ _ h
 have hb':=hb s us I.kIn hl;rw[H3z] at hb';refine wpAny_call (X4z (F.run X.A X.stack s H ⟨us,[]⟩ us vs Q E hr I.env0 hb' r h) fun r s' hq=>?_)
 cases r with
 | error e=>exact hx z0 H s e s' I hq
 | ok fl =>
  cases fl with
  | ret u=>exact I.after hq
  | next=>exact False.elim hq
  | brk=>exact False.elim hq
  | cont=>exact False.elim hq
theorem BJ{f:Str}{es:List Expr}{c:Str}{p pos:Pos}(G:Good cx k X sc)(hg:Gl X f)(hf:cx.fns.contains f=true)(hne:es≠[])(hp:∀ e∈es,aG e=true)(h:Z0 X ρ es c\/∃ ds,EvA X ρ es ds/\cx.callx f ds=some c) :
  EvX X ρ (.Call (.Name f p) es [] pos) c:=by
 obtain⟨hdb,a,fd,ps,_,har,hm,hk,hb,F⟩:=G.fns f hf
 cases es with
 | nil=>exact absurd rfl hne
 | cons e es =>
  intro σ H Hs E hs hst hE hx Q z0 s I;refine S1z (jA I hg hm ?_ hdb);refine PySem.W.callWith_K (h₀:=X.base) I.ok.mod.kin hk ?_ (ao (hp e (by simp))) (eV fun e' he=>hp e' (Y0z _ he));rcases h with h | ⟨ds,hA,hc⟩
  ·exact thn (h σ H Hs E hs hst hE hx (fun _ _=>False) pos z0 s I) fun us s1 ⟨vs,H1,I1,r,q⟩=>q.elim
  ·refine thn (hA σ H Hs (fun vs H1=>∃ Hs1,Ext Hs H Hs1 H1/\aM X.K Hs1 ds vs) hs hst (fun vs H1 Hs1 E1 r1=>⟨Hs1,E1,r1⟩) pos z0 s I) fun us s1 ⟨vs,H1,I1,r,Hs1,E1,r1⟩=>⟨I1.kIn,?_⟩
   exact FZ F G.room hb hx I1 r ⟨by rw[<- r1.length,har ds c hc],Hs1,ds,E1.sub,r1,.inr ⟨c,hc,hE.step E1⟩⟩
theorem tD(cx:Cxt):∀ (n:Nat) {k:Nat} {X:Cx} {sc:Scope} {ρ:Rho} {e:Expr} {c:Str},Good cx k X sc->X.N=ρ.map (·.1)->evx cx n sc ρ e=some c->EvX X ρ e c
 | 0,k,X,sc,ρ,e,c,_,_,h=>by exact nomatch (show(Option.none:Option Str)=some c from h)
 | n+1,k,X,sc,ρ,e,c,G,hN,h=>by
  have ih:∀ e d,ev cx n sc ρ e=some d->Ev X ρ e d/\∀ b,d=.bl b->EvT X ρ e b:=fun e d h=>cX cx n G hN h;simp only[evx] at h;split at h
  ·rename_i x p args pos
   split at h
   ·rename_i hc
    simp only[X2z] at hc;obtain⟨⟨⟨hgl,hne⟩,hpl⟩,hfn⟩:=hc
    have hg:Gl X x:=by
     have e:sc.names.lookup x=some .globalImplicit:=by unfold mF at hgl;simpa using hgl
     show X.env.scope.names.lookup x=_;rw[G.sce,e]
    have hp:∀ e∈args,aG e=true:=fun e he=>A3z.mp hpl e he;refine BJ G hg hfn (fun q=>by rw[q] at hne;exact absurd hne (by decide)) hp ?_;split at h
    ·rename_i ds hds
     exact .inr ⟨ds,(fC (fun e _ d hd=>⟨(ih e d hd).1,aY hd⟩) hds).1,h⟩
    ·cases h
   ·cases h
  ·rename_i cc a b pos
   split at h
   ·rename_i hc
    have hc':=(ih _ _ (eF hc)).2 _ rfl;have ha:=tD cx n G hN h;intro σ H Hs E hs hst hE hx Q;exact(lO dI aq aq).sem (hc' σ H Hs _ hs hst fun H1 Hs1 E1=>uX (ha σ H1 Hs1 E E1.sub (hst.same E1.vis) (hE.step E1) hx Q))
   ·rename_i hc
    have hc':=(ih _ _ (eF hc)).2 _ rfl;have ha:=tD cx n G hN h;intro σ H Hs E hs hst hE hx Q;exact(lO dI aq aq).sem (hc' σ H Hs _ hs hst fun H1 Hs1 E1=>xX (ha σ H1 Hs1 E E1.sub (hst.same E1.vis) (hE.step E1) hx Q))
   ·cases h
  ·cases h
end
section
variable {X:Cx} {ρ:Rho} {cx:Cxt} {k F:Nat} {sc scope:Scope} {Hs0 H0:Hp} {e:Expr} {d:D}
theorem Hl{y:Expr}(h:Oc cx sc y=true):Cm cx sc "list" [y]=.al/\aG y=true:=by
 unfold Oc at h;split at h
 ·exact⟨rfl,rfl⟩
 ·rename_i f p1 as p2
  rw[X2z] at h
  have hb:bx cx sc f=none:=by
   unfold bx;rw[Y5z h.1]
   cases q:cx.blt.lookup f with
   | none=>rfl
   | some z=>rw[q] at h;exact absurd h.2 (by simp)
  refine⟨?_,rfl⟩;simp only[Cm,qY,hb];rfl
 ·cases h
theorem xu{n:Nat}{lnm:Str}{y:Expr}{p1 p3:Pos}{v:D}(h:ev cx n sc ρ (.Call (.Name lnm p1) [y] [] p3)=some v)(hb:bx cx sc lnm=some "list")(hw:Cm cx sc "list" [y]=.al):∃ m d es,ev cx m sc ρ y=some d/\items d=some es/\v=.lst es:=by
 cases n with
 | zero=>exact nomatch (show(Option.none:Option D)=some v from h)
 | succ n =>
  unfold bx at hb;split at hb
  ·rename_i hg
   have h':(match Cm cx sc "list" [y] with
    | .lr1 a=>do let j <- (ev cx n sc ρ a).bind asI;if dU j&&szl j.toNat then some (.lst (cI 0 j)) else none
    | .lr2 a a'=>do let i <- (ev cx n sc ρ a).bind asI;let j <- (ev cx n sc ρ a').bind asI;if dU i&&dU j&&szl (j-i).toNat then some (.lst (cI i j)) else none
    | .tr1 a=>if true then none else none
    | .tv a=>if true then none else none
    | .ls a=>if true then none else none
    | .al=>do let ds <- jQ (ev cx n sc ρ) [y];DE.blt "list" ds)=some v:=by
    rw[<- h];simp only[ev,hg,X5z,hb];rfl
   rw[hw] at h';obtain⟨ds,h1,h2⟩:=aR h';simp only[jQ] at h1;obtain⟨d',g1,g2⟩:=aR h1;obtain⟨_,g3,g4⟩:=aR g2;cases g3;cases g4;obtain⟨es,g5,g6⟩:=aR (show(items d' >>=fun l=>some (D.lst l))=some v from h2);cases g6;exact⟨n,d',es,g1,g5,rfl⟩
  ·cases hb
theorem K6{n:Nat}{es:List D}(G:Good cx k X sc)(hN:X.N=ρ.map (·.1))(ho:Qf cx sc e=true)(he:ev cx n sc ρ e=some (.lst es)):Oi X ρ e es:=by
 unfold Qf at ho;split at ho
 ·rename_i lnm p1 y p3
  simp only[X2z] at ho;obtain⟨q2,q3⟩:=ho
  have hb:bx cx sc lnm=some "list":=by simpa using q2
  obtain⟨hw,hpl⟩:=Hl q3;obtain⟨m,d',es',g1,g2,g3⟩:=xu he hb hw;cases g3;obtain⟨hg,hm,rfl⟩:=bK G hb;intro σ H Hs Q hs hst hq;refine(ou (iG (X:=X)) hg hm (by decide +kernel) (bB aq cY (ao hpl)) (by decide) (by decide) (ao hpl) rfl).sem ?_;refine(cX cx m G hN g1).1 σ H Hs _ hs hst fun v H7 Hs7 E7 r7=>?_;obtain⟨q,us,rfl,k1,k2⟩:=jh r7 g2;exact⟨q,us,rfl,k1.imp E7.sub.seq E7.sub.tup,fun b hb7=>hq b us Hs7 _ (Ext.acc E7 (E7.all.free hb7) (E7.sub.free hb7)) (E7.all.free hb7) (E7.sub.free hb7) aP k2⟩
 ·cases n with
  | zero=>exact nomatch (show(Option.none:Option D)=some _ from he)
  | succ n =>
   obtain⟨tg,iter,ifs,l,out,rfl,hok,hI,hp,hz,hgo,e1,hE⟩:=jJ G hN he;cases e1;obtain⟨ok1,ok2,ok3⟩:=cT G hok;intro σ H Hs Q hs hst hq;exact(lQ G.calm ok1 ok2 ok3 jt (fun Xc C=>⟨gw,fH,aq⟩) (dz hp)).sem (jH G hN hok hI hz hgo hE hs hst hq)
 ·rename_i a op b p0
  cases n with
  | zero=>exact nomatch (show(Option.none:Option D)=some _ from he)
  | succ n =>
   simp only[X2z] at ho
   cases op<;>first | (simp[Yw] at ho;done) | skip
   obtain⟨x,h1,he⟩:=aR (show(ev cx n sc ρ a >>=fun x=>ev cx n sc ρ b >>=fun y=>binop .Add x y)=some (D.lst es) from he);obtain⟨y,h2,he⟩:=aR he
   have key:∀ x y:D,binop .Add x y=some (D.lst es)->∃ xs ys,x=.lst xs/\y=.lst ys/\szl (xs.length+ys.length)=true/\xs++ys=es:=fun x y h=>by
    cases x<;>cases y<;>simp[binop] at h
    exact⟨_,_,rfl,rfl,h.1,h.2⟩
   obtain⟨xs,ys,rfl,rfl,hz,rfl⟩:=key x y he;intro σ H Hs Q hs hst hq;refine(iK wR aq aq).sem ((cX cx n G hN h1).1 σ H Hs _ hs hst fun u H1 Hs1 E1 r1=>(cX cx n G hN h2).1 σ H1 Hs1 _ E1.sub (hst.same E1.vis) fun v H2 Hs2 E2 r2=>?_);obtain⟨p,us,rfl,g1,g2⟩:=bG (Rep.same E2.vis _ u r1);obtain⟨q,ws,rfl,g3,g4⟩:=bG r2;have E:=E1.trans E2;have l1:=g2.length;have l2:=g4.length;exact⟨p,q,us,ws,rfl,rfl,E2.sub.seq g1,E2.sub.seq g3,by have:=eU hz;omega,fun l hl=>hq l (us++ws) Hs2 _ (Ext.acc E (E.all.free hl) (E.sub.free hl)) (E.all.free hl) (E.sub.free hl) aP (g2.append g4)⟩
 ·cases ho
theorem Jc{tg iter elt:Expr}{l:List D}{dss:List (List D)}(G:Good cx k X sc)(hN:X.N=ρ.map (·.1))(hok:gP sc scope=true)(hI:EvI X ρ tg iter l)(hz:szl l.length=true)(hlen:dss.length=l.length)
  (hs1:∀ Xc,CompOf X scope Xc->∀ (i:Nat) d,l[i]?=some d->∃ ρ1 es,fO scope tg d (bC scope ρ)=some ρ1/\dss[i]?=some es/\(Xc.N=ρ1.map (·.1)->Oi Xc ρ1 elt es))
  {σ:St} {H Hs:Hp} {Q:VK} (hs:Same Hs H) (hst:cC X.K Hs ρ σ) (hq:∀ a bs Hs' H',Ext Hs H Hs' H'->OO X.K H Hs' H' a bs dss->Q (.ref a) H') :
  qe X scope (qd X tg iter) (qu X.N scope.names) (fun Xc=>Bm Xc tg) (fun Xc=>qI Xc []) (fun Xc=>m9 Xc elt) σ H Q:=by
 obtain⟨ok1,ok2,ok3⟩:=cT G hok;refine hI σ H Hs _ hs hst fun J H1 Hs1 E1 hJ acc hacc Xc C=>?_;have GC:=G.comp C hok;have OC:=Owns.comp (scope:=scope) G C
 have hNc:∀ ρ1:Rho,ρ1.map (·.1)=scope.names.map (·.1)->Xc.N=ρ1.map (·.1):=fun ρ1 h=>by rw[C.N,h]
 have a1:Hs1 acc=none:=E1.sub.free hacc;have a0:H acc=none:=E1.all.free hacc
 let W:Nat->Nat->St->Hp->Prop:=fun i m σc H3=>m=l.length-i/\i<=l.length/\∃ Hs3 bs,Ext Hs1 H1 Hs3 H3/\OO X.K H Hs3 H3 acc bs (dss.take i)/\σc.length=scope.names.length/\cC X.K Hs3 (bC scope ρ) σc
 refine⟨W,⟨l.length,rfl,H5z _,Hs1,[],Ext.acc (.refl E1.sub) hacc a1,⟨aP,a1,a0,.nil,by simp,by simp,fun j b e=>by simp at e⟩,by simp[qu],jK hN (hst.same E1.vis)⟩,?_⟩;rintro i m σc H3 ⟨rfl,hi,Hs3,bs,E3,o3,l3,s3⟩;obtain⟨st3,go3⟩:=hJ Hs3 H3 E3.vis E3.sub
 by_cases hlt:i<l.length
 ·have hd:l[i]?=some l[i]:=List.getElem?_eq_getElem hlt
  obtain⟨gi,yi⟩:=go3 i l[i] hd;refine .inr ⟨gi,fun σ' H'=>W (i+1) (l.length-(i+1)) σ' H',fun σ' H' w=>⟨_,by omega,w⟩,fun x H4 y4=>?_⟩;obtain⟨Hs4,E4,rx⟩:=yi x H4 y4;obtain⟨ρ1,es,k1,k4,kO⟩:=hs1 Xc C i l[i] hd;have s4:cC X.K Hs4 (bC scope ρ) σc:=s3.same E4.vis;have KE:=j6 (K:=Xc.K) (Hs:=Hs4) (ρ:=ρ) (n:=scope.names.length) ok2 rfl;refine qQ (X:=Xc) (scope:=scope) (Hs:=Hs4) GC.calm OC GC.nd E4.sub (hNc _ dh) KE k1 ⟨dh,l3,by rw[C.K];exact s4,by rw[C.K];exact s4⟩ (by rw[C.K];exact rx) fun σ5 hN5 p5=>?_;obtain⟨_,l5,s5,s5'⟩:=p5;refine Ef (f:=fun _=>none) (ifs:=[]) (b:=true) (fun _ _ h=>nomatch h) rfl E4.sub s5 fun H6 Hs6 E6=>uX ?_;have E46:=E4.trans E6;have o6:=o3.step E46;have E16:Ext Hs1 H1 Hs6 H6:=E3.trans E46;refine kO hN5 σ5 H6 Hs6 _ E6.sub (s5.same E6.vis) fun b us Hs7 H7 E7 hb6 hbs hb7 g2=>?_;have o7:=o6.step E7;have E17:Ext Hs1 H1 Hs7 H7:=E16.trans E7
  have ne:acc≠b:=fun w=>by have:=o6.1;rw[w,hb6] at this;cases this
  refine⟨bs.map V.ref,o7.1,?_,rfl,hlt,Hs7,bs++[b],?_,?_,l5,?_⟩
  ·have:=vJ hz
   have:=o7.2.2.2.2.2.1;rw[J3z,this,M2z];omega
  ·exact Ext.acc E17 hacc o7.2.1
  ·have b0:H b=none:=E1.all.free (E16.all.free hb6)
   have ln:=o7.2.2.2.2.2.1
   have old:∀ (j:Nat) b',bs[j]?=some b'->b'≠b/\b'≠acc:=fun j b' e=>by
    obtain⟨_,_,_,_,_,m4,_⟩:=o6.2.2.2.2.2.2 j b' e;refine⟨fun w=>?_,fun w=>o6.2.2.2.2.1 (by rw[<- w];exact List.mem_of_getElem? e)⟩;rw[w,hb6] at m4;cases m4
   refine⟨by rw[aP,V3z];rfl,o7.2.1,o7.2.2.1,?_,?_,?_,fun j b' e=>?_⟩
   ·rw[List.nodup_append]
    refine⟨o7.2.2.2.1,by simp,fun x' hx' y' hy'=>?_⟩;obtain⟨j,e⟩:=List.mem_iff_getElem?.mp hx';rw[List.mem_singleton.mp hy'];exact(old j x' e).1
   ·rw[List.mem_append,not_or]
    exact⟨o7.2.2.2.2.1,by simpa using ne⟩
   ·rw[T1z,ln,M2z,M2z,U0z]
    omega
   ·by_cases hj:j<bs.length
    ·rw[List.getElem?_append_left hj] at e
     obtain⟨m1,m2,ds,ws,m3,m4,m5⟩:=o7.2.2.2.2.2.2 j b' e;obtain⟨n1,n2⟩:=old j b' e;refine⟨m1,m2,ds,ws,?_,by rw[aJ n2];exact m4,m5⟩;rw[ln,M2z] at hj;rw[List.getElem?_take] at m3 ⊢;rw[Y5z (by omega)] at m3 ⊢;exact m3
    ·rw[List.getElem?_append_right (by omega)] at e
     have ej:j-bs.length=0:=by
      rcases Nat.eq_zero_or_pos (j-bs.length) with z | z
      ·exact z
      ·rw[List.getElem?_eq_none (by simp;omega)] at e;cases e
     rw[ej] at e
     have eb:b=b':=by simpa using e
     subst eb
     have jl:j=i:=by
      rw[ln,M2z] at hj ej;omega
     subst jl;refine⟨hbs,b0,es,us,?_,by rw[aJ (W5z ne)];exact hb7,by rw[<- C.K];exact g2⟩;rw[List.getElem?_take,Y5z (by omega)];exact k4
  ·rw[<- C.K]
   exact s5'.same (E6.trans E7).vis
 ·have hi':i=l.length:=by omega
  subst hi';refine .inl ⟨st3,hq acc bs Hs3 H3 (E1.trans E3) ?_⟩;rw[<- hlen,List.take_length] at o3;exact o3
theorem OO.low{K:Z2}{H0 H1 Hs H:Hp}{a:Addr}{bs:List Addr}{dss:List (List D)}(h:OO K H1 Hs H a bs dss)(q:∀ b,H1 b=none->H0 b=none):OO K H0 Hs H a bs dss:=by
 obtain⟨h1,h2,h3,h4,h5,h6,h7⟩:=h;refine⟨h1,h2,q _ h3,h4,h5,h6,fun j b e=>?_⟩;obtain⟨k1,k2,k3⟩:=h7 j b e;exact⟨k1,q _ k2,k3⟩
theorem sJ:∀ {ds:List D} {dss:List (List D)},Jp ds=some dss->dss.length=ds.length/\∀ (i:Nat) d,ds[i]?=some d->∃ es,d=.lst es/\dss[i]?=some es
 | [],dss,h=>by cases h;exact⟨rfl,fun i d e=>by simp at e⟩
 | d::ds,dss,h=>by
  cases d with
  | lst es =>
   simp only[Jp,R0z] at h;obtain⟨r,h1,rfl⟩:=h;obtain⟨g1,g2⟩:=sJ h1;refine⟨by simp[g1],fun i d e=>?_⟩
   cases i with
   | zero=>simp at e;subst e;exact⟨es,rfl,rfl⟩
   | succ i=>exact g2 i d (by simpa using e)
  | _=>simp[Jp] at h
theorem j9{f:D->Option (Option D)}:∀ {l out:List D},(∀ d∈l,f d≠some none)->bD f l=some out->out.length=l.length/\∀ (i:Nat) d,l[i]?=some d->∃ v,f d=some (some v)/\out[i]?=some v
 | [],out,_,h=>by cases h;exact⟨rfl,fun i d e=>by simp at e⟩
 | d::l,out,hn,h=>by
  rcases jM h with⟨v,o',f1,f2,rfl⟩ | ⟨f1,_⟩
  ·obtain⟨g1,g2⟩:=j9 (fun d hd=>hn d (Y0z _ hd)) f2
   refine⟨by simp[g1],fun i d e=>?_⟩
   cases i with
   | zero=>simp at e;subst e;exact⟨v,f1,rfl⟩
   | succ i=>exact g2 i d (by simpa using e)
  ·exact absurd f1 (hn d O1z)
theorem O7{x:Str}{px pos:Pos}{dss:List (List D)}(G:GoodS cx k X sc)(hN:X.N=ρ.map (·.1))(hx:ownIn sc x=true)(hc:(ρ.map (·.1)).contains x=true)(hoo:ooE cx sc e=true)(hon:lU (frz F e ρ) x=true)(he:ev cx F sc (frz F e ρ) e=some d)(hd:Ln d=some dss) :
  Runs X Hs0 H0 ρ (.nxt (cB (frz F e ρ) x (.oo dss))) (iT X (.Assign [.Name x px] e pos)):=by
 obtain⟨ox,of⟩:=G.own.own x hx
 have hN':X.N=(frz F e ρ).map (·.1):=by rw[aW];exact hN
 unfold ooE at hoo;split at hoo
 ·rename_i elt y' pt iter a0 scope p4
  cases F with
  | zero=>exact nomatch (show(Option.none:Option D)=some d from he)
  | succ F =>
   obtain⟨tg,iter',ifs,l,out,hg,hok,hI,hp,hz,hgo,rfl,hE⟩:=jJ G.good hN' he;cases hg;obtain⟨ok1,ok2,ok3⟩:=cT G.good hok;intro σ H Hs D h _ hn hr;obtain⟨i,hi⟩:=bI hc;obtain⟨Hs1,sm1,h1⟩:=h.frozen (F+1) (.ListComp elt [⟨.Name y' pt,iter,[],0⟩] scope p4);generalize hρ:frz (F+1) (.ListComp elt [⟨.Name y' pt,iter,[],0⟩] scope p4) ρ=ρ' at *
   have nm:ρ'.map (·.1)=ρ.map (·.1):=by rw[<- hρ,aW]
   have hf:∀ d o,pA cx F sc scope ρ' (.Name y' pt) elt [] d=some o->∃ ρ1 v,fO scope (.Name y' pt) d (bC scope ρ')=some ρ1/\ev cx F (jP scope sc) ρ1 elt=some v/\o=some v:=fun d o h=>by
    obtain⟨ρ1,h1,h⟩:=aR h;obtain⟨b,h2,h⟩:=aR h;cases h2;simp only[X5z,R0z] at h;obtain⟨v,h3,h4⟩:=h;exact⟨ρ1,v,h1,h3,h4.symm⟩
   obtain⟨n1,n2⟩:=j9 (fun d _ h=>by obtain⟨_,_,_,_,h⟩:=hf d _ h;cases h) hgo
   obtain⟨m1,m2⟩:=sJ (show Jp out=some dss from hd)
   have hnd:(ρ'.map (·.1)).Nodup:=by rw[nm,<- hN];exact G.good.nd
   have hi':X.N[i]?=some x:=by rw[hN];exact hi
   have rd:qe X scope (qd X (.Name y' pt) iter) (qu X.N scope.names) (fun Xc=>Bm Xc (.Name y' pt)) (fun Xc=>qI Xc []) (fun Xc=>m9 Xc elt) σ H (fun v H1=>D.nx (σ.set i (some v)) H1):=by
    refine Jc (dss:=dss) G.good hN' hok hI hz (by rw[m1,n1]) (fun Xc C j dd hj=>?_) h1.ext.sub h1.sh fun a bs Hs' H' E o=>?_
    ·obtain⟨v,f1,f2⟩:=n2 j dd hj
     obtain⟨ρ1,v',b1,b2,b3⟩:=hf dd _ f1;cases b3;obtain⟨es',g3,g4⟩:=m2 j v f2;subst g3;exact⟨ρ1,es',b1,g4,fun hN1=>K6 (G.good.comp C hok) hN1 hoo b2⟩
    ·exact hn _ _ Hs' H' rfl (sm1.trans E.vis) (by rw[aK,nm];exact hN) ((h1.step E).own2 hnd (by rw[nm];exact hi) (o.low fun b q=>h1.ext.all.free q) (rY hnd (by rw[nm];exact hi) hon))
   cases hsw:(X.env.blockKind==.function&&X.env.kindOf x==some .local&&px.line==p4.line && !(scope.names.any fun(n,k)=>n==x&&(k==.local||k==.cell))) with
   | true =>
    have e1:swapsWith (.ListComp elt [⟨.Name y' pt,iter,[],0⟩] scope p4) (some (.Name x px)) pos.line X.env=pure true:=by rw[<- hsw];rfl
    rw[X2z,X2z,X2z] at hsw
    have hl:X.env.scope.names.lookup x=some .local:=by simpa[Env.kindOf] using hsw.1.1.2
    exact PS.sem (wF G.good.nd hi' hl G.good.calm ok1 ok2 ok3 jt (fun Xc C=>⟨gw,fH,aq⟩) (dz hp) e1) rd
   | false =>
    have e1:swapsWith (.ListComp elt [⟨.Name y' pt,iter,[],0⟩] scope p4) (some (.Name x px)) pos.line X.env=pure false:=by rw[<- hsw];rfl
    exact PS.sem (jo G.good.nd hi' ox (lQ G.good.calm ok1 ok2 ok3 jt (fun Xc C=>⟨gw,fH,aq⟩) (dz hp)) e1 of) rd
 ·cases hoo
theorem n8{o i:Expr}{pos:Pos}{env:Env}(h:aG i=true):∀ v,assign (.Subscript o i pos) env v=(do
   let ov <- holding [v] (eval o env)
   let iv <- holding [v,ov] (eval i env)
   standAt pos
   holding [v,ov,iv] (setItem ov iv v)
   release [v,ov,iv] []):=by
 intro v
 cases i<;>first | rfl | (exact absurd h (by simp[aG]))
theorem aM.set{K:Z2}{H:Hp}{d:D}{v:V}(hv:Rep K H d v):∀ {ds:List D} {vs:List V} (n:Nat),aM K H ds vs->aM K H (ds.set n d) (vs.set n v)
 | [],vs,n,h=>by
  have:vs=[]:=by simpa[aM] using h
  subst this;simpa[aM] using h
 | e::ds,vs,n,h=>by
  simp only[aM] at h;obtain⟨w,r,rfl,h1,h2⟩:=h
  cases n with
  | zero=>exact .cons hv h2
  | succ n=>exact .cons h1 (aM.set hv n h2)
theorem v7{tg:Expr}{l:Nat}{env:Env}(he:ev cx F sc ρ e=some d)(hc:aZ e=false):swapsWithSole [tg] e l env=pure false:=by
 show swapsWith e (some tg) l env=pure false
 exact fY he fun a b c p q=>by rw[q] at hc;cases hc
theorem nQ{o i:Expr}{pos:Pos}{env:Env}:swappedStores [.Subscript o i pos] e env=pure none:=by
 cases e<;>rfl
theorem Fy{x:Str}{i1 i2:Expr}{dss:List (List D)}{ds:List D}{j1 j2:Int}{n1 n2:Nat}{px tp tp2 pos:Pos}(G:GoodS cx k X sc)(hN:X.N=ρ.map (·.1))(hx:ρ.lookup x=some (.oo dss))(ho:ownIn sc x=true)(hp:aF x=true)(hfr:aZ e=false)
  (q1:ev cx F sc (frz F e ρ) e=some d) (q2:ev cx F sc (frz F i1 ρ) i1=some (.int j1)) (q3:ixD dss.length j1=some n1) (q4:dss[n1]?=some ds) (q5:ev cx F sc (frz F i2 ρ) i2=some (.int j2)) (q6:ixD ds.length j2=some n2) (q7:fB d=true) :
  Runs X Hs0 H0 ρ (.nxt (cB ρ x (.oo (dss.set n1 (ds.set n2 d))))) (iT X (.Assign [.Subscript (.Subscript (.Name x px) i1 tp) i2 tp2] e pos)):=by
 have hNf:∀ e,X.N=(frz F e ρ).map (·.1):=fun e=>by rw[aW];exact hN
 obtain⟨i,hi,_⟩:=cR hx
 have nd:(ρ.map (·.1)).Nodup:=by rw[<- hN];exact G.good.nd
 intro σ H Hs D h _ hn hr;obtain⟨⟨ad,bs,k1,k2⟩,_⟩:=h.oo i x dss hi;unfold aF at hp;rw[X2z,R5z,R5z] at hp;have vis:Vis X.env.scope x:=(G.own.own x ho).1.elim .inl fun q=>.inr (.inl q)
 have hNi:X.N[i]?=some x:=by rw[hN,List.getElem?_map,hi];rfl
 have pv:∀ {pp:Pos},PE X (.Name x pp) (NT i):=fun {pp}=>ju hNi vis (by simpa using hp.1) (by simpa using hp.2);have ll:=k2.2.2.2.2.2.1
 have nlt:n1<bs.length:=by
  rw[ll];exact(List.getElem?_eq_some_iff.mp q4).1
 obtain⟨b,hb⟩:∃ b,bs[n1]?=some b:=⟨_,List.getElem?_eq_getElem nlt⟩;refine PS.sem (wG aq (Dd (Gv xU pv aq (iU (aY q2))) aq set_list (n8 (aY q5))) (v7 q1 hfr) nQ rfl) ?_;obtain⟨Hs1,sm1,shp,h1⟩:=h.frozen2 F e;refine(cX cx F G.good (hNf e) q1).1 σ H Hs1 _ h1.ext.sub h1.sh fun v1 H1 Hs4 E1 r1=>?_;obtain⟨Hs7,B1,r1'⟩:=oW h.ext.sub sm1 shp E1 q7 r1;have hB1:=h.step B1;obtain⟨Hs2,sm2,h2⟩:=hB1.frozen F i1;refine⟨.ref ad,k1,(cX cx F G.good (hNf i1) q2).1 σ H1 Hs2 _ h2.ext.sub h2.sh fun v2 H2 Hs5 E2 r2=>?_⟩;have B2:Ext Hs7 H1 Hs7 H2:=⟨.refl _,E2.all,hB1.ext.sub.trans E2.all,fun _ _ _ h=>h⟩;have hB2:=hB1.step B2;have o2:=(k2.step B1).step B2;refine⟨ad,bs.map V.ref,j1,.ref b,rfl,aO r2,.of o2.1,?_,?_⟩
 ·unfold atI
  rw[J3z,ll,<- xW,q3];show(bs.map V.ref)[n1]?=_;rw[List.getElem?_map,hb];rfl
 obtain⟨Hs3,sm3,h3⟩:=hB2.frozen F i2;refine(cX cx F G.good (hNf i2) q5).1 σ H2 Hs3 _ h3.ext.sub h3.sh fun v3 H3 Hs6 E3 r3=>?_;have B3:Ext Hs7 H2 Hs7 H3:=⟨.refl _,E3.all,hB2.ext.sub.trans E3.all,fun _ _ _ h=>h⟩;have o3:=o2.step B3;obtain⟨m1,m2,ds',us,m3,m4,m5⟩:=o3.2.2.2.2.2.2 n1 b hb;rw[q4] at m3;cases m3;have nab:ad≠b:=fun w=>o3.2.2.2.2.1 (by rw[w];exact List.mem_of_getElem? hb);refine⟨b,us,j2,n2,rfl,aO r3,m4,by rw[<- m5.length,<- xW];exact q6,?_⟩;refine hn _ _ Hs7 _ rfl B1.vis (by rw[aK];exact hN) ((hB2.step B3).app2 nd hi k1 m1 m2 (bs':=bs) ⟨by rw[aJ nab];exact o3.1,o3.2.1,o3.2.2.1,o3.2.2.2.1,o3.2.2.2.2.1,by rw[K3z];exact o3.2.2.2.2.2.1,fun jj b' e=>?_⟩)
 by_cases hjj:n1=jj
 ·subst hjj
  rw[hb] at e;cases e;refine⟨m1,m2,ds.set n2 d,us.set n2 v1,?_,aP,aM.set r1' n2 m5⟩;rw[List.getElem?_set,Y5z rfl,Y5z (by rw[<- ll];exact nlt)]
 ·obtain⟨m1',m2',ds',us',m3',m4',m5'⟩:=o3.2.2.2.2.2.2 jj b' e
  refine⟨m1',m2',ds',us',?_,?_,m5'⟩
  ·rw[List.getElem?_set,Z5z hjj];exact m3'
  ·rw[aJ]
   ·exact m4'
   ·intro w
    rw[w] at e;exact hjj ((List.getElem?_inj nlt o3.2.2.2.1).mp (hb.trans e.symm))
end
section
variable {X:Cx} {pos:Pos}
end
section
variable {X:Cx} {ρ:Rho} {cx:Cxt} {k F:Nat} {sc scope:Scope} {Hs0 H0:Hp} {e:Expr} {d:D}
theorem J7{es:List Expr}{l:List D}{ρ':Rho}{kt:Nat}{pt pos:Pos}(G:GoodS cx k X sc)(hN:X.N=ρ.map (·.1))(hs:(swp sc es e).isSome=true)(he:ev cx F sc (frz F e ρ) e=some d)(hl:items d=some l)(hb:bindNames sc es l (frz F e ρ)=some ρ') :
  Runs X Hs0 H0 ρ (.nxt ρ') (iT X (.Assign [.Tuple es kt pt] e pos)):=by
 have hN':X.N=(frz F e ρ).map (·.1):=by rw[aW];exact hN
 obtain⟨b,hb'⟩:=Option.isSome_iff_exists.mp hs
 cases b with
 | false =>
  have hw:=J3 (kt:=kt) (pt:=pt) G.good hb'
  have hso:swapsWithSole [.Tuple es kt pt] e pos.line X.env=pure false:=by
   show swapsWith e (some (.Tuple es kt pt)) pos.line X.env=pure false
   by_cases hc:∃ a b c p,e=.ListComp a b c p
   ·obtain⟨a,b,c,p,rfl⟩:=hc
    rfl
   ·exact fY he fun a b c p q=>hc ⟨a,b,c,p,q⟩
  intro σ H Hs D h _ hn hr;exact PS.sem (wG aq gw hso hw rfl) (Bw G hN he h fun v Hs' H' sm h' r=>uP G h'.ext.sub hN' sS hl hb h' r fun σ' hN2 p=>hn ρ' σ' Hs' H' rfl sm hN2 p)
 | true =>
  obtain⟨x,px,y,py,a,b,k2,p2,rfl,rfl,lx,ly,hxy,pa,pb,hw⟩:=Fv (kt:=kt) (pt:=pt) G.good hb'
  cases F with
  | zero=>simp[ev] at he
  | succ F =>
   simp only[ev] at he;obtain⟨ds,h1,he⟩:=aR he;split at he
   ·cases he
    simp only[items,K2z] at hl;subst hl;have hA:=(fC (fun e _ d hd=>⟨(cX cx F G.good hN' hd).1,aY hd⟩) h1).1
    have hlen:ds.length=2:=by have:=(fJ (env:=X.env) hb).2.2;simpa using this.symm
    obtain⟨d1,d2,rfl⟩:∃ d1 d2,ds=[d1,d2]:=by
     match ds,hlen with
     | [d1,d2],_=>exact⟨d1,d2,rfl⟩
    simp only[bindNames] at hb;split at hb
    ·rename_i c1
     split at hb
     ·rename_i c2
      cases hb;rw[X2z] at c1 c2;rw[aK] at c2;obtain⟨i,hi⟩:=bI c1.2;obtain⟨j,hj⟩:=bI c2.2
      have hij:i≠j:=fun z=>by rw[z,hj] at hi;cases hi;exact hxy rfl
      intro σ H Hs D h _ hn hr;obtain⟨Hs1,sm1,h1'⟩:=h.frozen (F+1) (.Tuple [a,b] k2 p2);refine PS.sem (Ku G.good.calm G.good.nd (by rw[hN'];exact hi) (by rw[hN'];exact hj) hij lx ly iB hw rfl) (hA σ H Hs1 _ h1'.ext.sub h1'.sh fun vs H' Hs' E r=>?_);obtain⟨v,w,rfl,r1,r2⟩:=Pr r
      have nd:((frz (F+1) (.Tuple [a,b] k2 p2) ρ).map (·.1)).Nodup:=by rw[<- hN'];exact G.good.nd
      have g1:=(h1'.step E).set nd hi r1;have g2:=g1.set (by rw[aK];exact nd) (by rw[aK];exact hj) r2;exact⟨v,w,rfl,hn _ _ Hs' H' rfl (sm1.trans E.vis) (by rw[aK,aK];exact hN') g2⟩
     ·cases hb
    ·cases hb
   ·cases he
theorem vX{x:Str}{ds:List D}{px ap cp pos:Pos}(G:GoodS cx k X sc)(hN:X.N=ρ.map (·.1))(hx:(frz F e ρ).lookup x=some (.ow ds))(ho:ownIn sc x=true)(hp:aF x=true)(hline:(ap.endLine==cp.line)=true)(hz:szl (ds.length+1)=true)(he:ev cx F sc (frz F e ρ) e=some d) :
  Runs X Hs0 H0 ρ (.nxt (cB (frz F e ρ) x (.ow (ds++[d])))) (iT X (.Expr (.Call (.Attribute (.Name x px) "append" ap) [e] [] cp) pos)):=by
 have hN':X.N=(frz F e ρ).map (·.1):=by rw[aW];exact hN
 obtain⟨i,hi,_⟩:=cR hx
 have nd:((frz F e ρ).map (·.1)).Nodup:=by rw[<- hN'];exact G.good.nd
 have hpl:=aY he;intro σ H Hs D h _ hn hr;obtain⟨Hs1,sm1,h1⟩:=h.frozen F e;obtain⟨a,vs,k1,k2,k3,k4,k5⟩:=h1.ow i x ds hi;unfold aF at hp;rw[X2z,R5z,R5z] at hp;have vis:Vis X.env.scope x:=(G.own.own x ho).1.elim .inl fun q=>.inr (.inl q);refine PS.sem (jq (wM L0z PySem.F.slot_list_append PySem.F.type_list_append oJ (ju (i:=i) (by rw[hN',List.getElem?_map,hi];rfl) vis (by simpa using hp.1) (by simpa using hp.2)) (bB aq cY (ao hpl)) rfl (by rw[ao hpl];rfl) hline (ao hpl) rfl) rfl) ?_;refine⟨_,k1,.inl ⟨rfl,vs,.of k2⟩,?_⟩;refine(cX cx F G.good hN' he).1 σ H Hs1 _ h1.ext.sub h1.sh fun v H' Hs' E r=>?_;have h2:=h1.step E;refine⟨a,vs,v,rfl,rfl,E.all _ _ k2,by have:=k3.length;have:=vJ hz;omega,?_⟩;exact hn _ _ Hs' _ rfl (sm1.trans E.vis) (by rw[aK];exact hN') (h2.app nd hi k1 (aM.append (aM.same E.vis ds vs k3) (.cons r .nil)))
theorem Hu{e:Expr}(h:Oe e=true):∃ dp,e=.Dict [] [] dp:=by
 unfold Oe at h;split at h
 ·exact⟨_,rfl⟩
 ·cases h
theorem O8{x:Str}{px dp pos:Pos}(G:GoodS cx k X sc)(hN:X.N=ρ.map (·.1))(hx:ownIn sc x=true)(hc:(ρ.map (·.1)).contains x=true)(ho:lU ρ x=true) :
  Runs X Hs0 H0 ρ (.nxt (cB ρ x (.od []))) (iT X (.Assign [.Name x px] (.Dict [] [] dp) pos)):=by
 obtain⟨ox,of⟩:=G.own.own x hx;obtain⟨i,hi⟩:=bI hc
 have nd:(ρ.map (·.1)).Nodup:=by rw[<- hN];exact G.good.nd
 intro σ H Hs D h _ hn hr;refine PS.sem (jo (i:=i) G.good.nd (by rw[hN];exact hi) ox K4 rfl of) fun p o hp=>?_
 have Hn:Hs p=none:=by
  cases e:Hs p with
  | none=>rfl
  | some u=>rw[h.ext.sub _ _ e] at hp;cases hp
 have E:Ext Hs H Hs (upd H p (DtO p [] o)):=⟨.refl _,fun b u e=>by rw[aJ (au e hp)];exact e,fun b u e=>by rw[aJ (au e Hn)];exact h.ext.sub b u e,fun b u _ e=>e⟩
 exact hn _ _ Hs _ rfl (.refl _) (by rw[aK];exact hN) ((h.step E).ownD nd hi ⟨[],o,aP,Hn,h.ext.all.free hp,rfl,fun _ q=>(nomatch q),.nil⟩ (rY nd hi ho))
theorem zY{K:Z2}{H:Hp}{k:List Int}{b:Addr}{d:D}{v:V}(r:Rep K H d v):∀ {l:List (List Int×D)} {es:List En},es.map (·.1)=l.map (·.1)->aM K H (l.map (·.2)) (es.map (·.2.2))->(wC es k b v).map (·.1)=(CQ l k d).map (·.1)/\aM K H ((CQ l k d).map (·.2)) ((wC es k b v).map (·.2.2)):=by
 intro l es h1 h2
 have any:(jz es k).isSome=l.any fun q=>decide (q.1=k):=by
  have e1:∀ es:List En,(jz es k).isSome=(es.map (·.1)).any fun q=>decide (q=k):=by
   intro es;unfold jz;rw[Option.isSome_map]
   induction es with
   | nil=>rfl
   | cons e es ih =>
    rw[List.find?_cons,O4z,P4z,<- ih]
    cases decide (e.1=k)<;>rfl
  rw[e1,h1,List.any_map];rfl
 unfold wC CQ;rw[any];split
 ·clear any
  have go:∀ (l:List (List Int×D)) (es:List En),es.map (·.1)=l.map (·.1)->aM K H (l.map (·.2)) (es.map (·.2.2))->(es.map fun e=>if e.1=k then(e.1,e.2.1,v) else e).map (·.1)=(l.map fun q=>if q.1=k then(q.1,d) else q).map (·.1)/\aM K H ((l.map fun q=>if q.1=k then(q.1,d) else q).map (·.2)) ((es.map fun e=>if e.1=k then(e.1,e.2.1,v) else e).map (·.2.2)):=by
   intro l
   induction l with
   | nil =>
    intro es q1 q2
    cases es with
    | nil=>exact⟨rfl,.nil⟩
    | cons _ _=>simp at q1
   | cons q l ih =>
    intro es q1 q2
    cases es with
    | nil=>simp at q1
    | cons e es =>
     simp only[O4z,List.cons.injEq] at q1;simp only[O4z,aM] at q2;obtain⟨w,rr,z,z2,z3⟩:=q2;cases z;obtain⟨i1,i2⟩:=ih es q1.2 z3;simp only[O4z]
     by_cases c:q.1=k
     ·rw[Y5z c,Y5z (q1.1.trans c)]
      exact⟨by rw[i1];simp[q1.1],.cons r i2⟩
     ·rw[Z5z c,Z5z fun z=>c (q1.1.symm.trans z)]
      exact⟨by rw[i1,q1.1],.cons z2 i2⟩
  exact go l es h1 h2
 ·refine⟨by simp[h1],?_⟩
  rw[V3z,V3z];exact h2.append (.cons r .nil)
theorem oR:∀ {ts:List D} {k:List Int},iH ts=some k->gK ts=true
 | [],_,_=>rfl
 | a::ts,k,h=>by
  cases a<;>simp only[iH] at h
  all_goals first | cases h | skip
  obtain⟨r,q,_⟩:=R0z.mp h;simp only[gK,fB,oR q,Q4z]
theorem Bd{y:D}{k:List Int}(h:xM y=some k):fB y=true:=by
 cases y<;>simp only[xM] at h
 all_goals first | cases h | skip
 exact oR h
theorem Fz{x:Str}{ie:Expr}{l:List (List Int×D)}{y:D}{kk:List Int}{px tp pos:Pos}(G:GoodS cx k X sc)(hN:X.N=ρ.map (·.1))(hx:ρ.lookup x=some (.od l))(ho:ownIn sc x=true)(hp:aF x=true)(hfr:aZ e=false)
  (q1:ev cx F sc (frz F e ρ) e=some d) (q4:ev cx F sc (frz F e ρ) ie=some y) (q5:xM y=some kk) (hfl:fB d=true) (hz:l.length<=1000) :
  Runs X Hs0 H0 ρ (.nxt (cB ρ x (.od (CQ l kk d)))) (iT X (.Assign [.Subscript (.Name x px) ie tp] e pos)):=by
 have hN':X.N=(frz F e ρ).map (·.1):=by rw[aW];exact hN
 obtain⟨i,hi,_⟩:=cR hx
 have nd:(ρ.map (·.1)).Nodup:=by rw[<- hN];exact G.good.nd
 intro σ H Hs D h _ hn hr;obtain⟨Hs1,sm1,shp,h1⟩:=h.frozen2 F e;obtain⟨⟨ad,k1,es,ob,k2,k3,k4,k5,k6,k7⟩,no⟩:=h.od i x l hi;unfold aF at hp;rw[X2z,R5z,R5z] at hp;have vis:Vis X.env.scope x:=(G.own.own x ho).1.elim .inl fun q=>.inr (.inl q)
 have hNi:X.N[i]?=some x:=by rw[hN,List.getElem?_map,hi];rfl
 have pv:∀ {pp:Pos},PE X (.Name x pp) (NT i):=fun {pp}=>ju hNi vis (by simpa using hp.1) (by simpa using hp.2)
 have hu:X.A.units+1<cLine:=by have:=G.good.room.units;omega
 refine PS.sem (wG aq (Dd pv aq (Kd hu) (n8 (aY q4))) (v7 q1 hfr) nQ rfl) ?_;refine(cX cx F G.good hN' q1).1 σ H Hs1 _ h1.ext.sub h1.sh fun v1 H1 Hs4 E1 r1=>?_;refine⟨.ref ad,k1,(cX cx F G.good hN' q4).1 σ H1 Hs4 _ E1.sub (h1.sh.same E1.vis) fun v3 H3 Hs6 E3 r3=>?_⟩;have E:=E1.trans E3
 have hfy:gK [d,y]=true:=by
  have:fB y=true:=Bd q5;simp only[gK,hfl,this,Q4z]
 obtain⟨Hs7,E7,r7⟩:=uG h.ext.sub sm1 shp E hfy (.cons (Rep.same E3.vis _ _ r1) (.cons r3 .nil));simp only[aM] at r7;obtain⟨_,_,z1,ra,_,_,z2,rb,_⟩:=r7;cases z1;cases z2;obtain⟨b,rfl,kb⟩:=mC q5 rb
 have hl:es.length<sizeLine:=by
  have:=congrArg List.length k5;rw[J3z,J3z] at this;rw[G5z];omega
 have hd7:=h.step E7;obtain⟨⟨ad',g1,es',ob',g2,g3,g4,g5,g6,g7⟩,_⟩:=hd7.od i x l hi;rw[k1] at g1;cases g1;refine⟨ad,es',ob',b,kk,rfl,rfl,g2,g6.same fun q=>E7.sub.tup q,E7.sub.tup kb,?_,fun o'=>?_⟩
 ·have:=congrArg List.length g5
  rw[J3z,J3z] at this;rw[G5z];omega
 obtain⟨p1,p2⟩:=zY (k:=kk) (b:=b) ra g5 g7;refine hn _ _ Hs7 _ rfl E7.vis (by rw[aK];exact hN) (hd7.appD nd hi k1 g3 g4 ⟨wC es' kk b v1,o',aP,g3,g4,p1,fun e he=>?_,p2⟩);rcases z7 he with⟨e',he',z1,z2⟩ | ⟨z1,z2⟩
 ·rw[z1,z2];exact g6 e' he'
 ·rw[z1,z2];exact kb
theorem yw(l:Addr)(xs:Array Value)(n:Nat)(b:Addr)(ys:Array Value)(m:Nat)(dd:Option Addr)(sl:Array (Option Value))(c0:¬(!xs.isEmpty&&Builtin.List.listTooLong (xs.size+ys.size))=true)(c1:xs.size<=sizeLine)(c2:xs.size+ys.size<=sizeLine+1) :
  Meets (Builtin.«list.extend» ⟨[.ref l,.ref b],[]⟩) (fun _ R s=>s.heap.get? l=some { cls:=.type "list",data:=.seq xs n }/\s.heap.get? b=some { cls:=.type "list",dict:=dd,data:=.seq ys m,slots:=sl } /\
   R (.ok (.ret Value.none)) { s with heap:=s.heap.update l (Obj.mapSeq fun x=>x++ys),toks:=s.toks }) :=
 .of_wp fun prog w A R s h=>by
  obtain⟨hp,g,d,tk,os⟩:=s;obtain⟨hl,hb,h⟩:=h;have f1:=sub_list_list;have f2:=AutoSeq1.sub_tuple_list;have f3:=AutoSeq1.sub_list_tuple
  have z:(xs++ys).size<=sizeLine+1:=by rw[Array.size_append];exact c2
  wp_walk using(wpAny_updateSeq hl rfl (hz:=c1) (_hz':=z)),I0z hl,I0z hb;exact⟨_,rfl,h⟩
def PK(K:Z2):V->List V->Hp->VK->Prop:=fun x vs H Q=>∃ l b xs zs,x=.ref l/\vs=[.ref b]/\H l=some (.lst xs)/\SqL K H b zs/\xs.length+zs.length<=sizeLine/\Q .non (upd H l (.lst (xs++zs)))
theorem G9:MtM X "list.extend" (PK X.K):=by
 intro z0 s σ H x vs v us Q I rx rv h;obtain⟨l,b,xs,zs,rfl,rfl,hH,hB,hz,q⟩:=h;cases (show v=Value.ref l from rx);obtain⟨u,rfl,ru⟩:=rv.one;cases (show u=Value.ref b from ru);obtain⟨z,its,n,r,hl,e⟩:=I.lstM hH;obtain⟨its2,r2,pl,hz2⟩:=I.list hB;have hl2:=r2.length;obtain⟨⟨c2,dd2,data2,sl2⟩,n2,e2,hc2,hd2,hs2⟩:=pl;simp only at hc2 hs2
 have hsz:its.toArray.size+its2.toArray.size<=sizeLine:=by rw[C2z,C2z];omega
 have lng:¬ (!its.toArray.isEmpty&&Builtin.List.listTooLong (its.toArray.size+its2.toArray.size))=true:=fun w=>by
  rw[lX hsz,J4z] at w;cases w
 obtain⟨h3,h4⟩:=(show dd2=none/\data2=.seq its2.toArray n2 from⟨hd2,hs2⟩);subst hc2 h4;refine P5z F.slot_list_extend ⟨_,e,rfl⟩ F.entry_list_extend (F.args_list_extend_2 _ _) (yw l its.toArray n b its2.toArray n2 dd2 sl2 lng (by rw[C2z];omega) (by omega)) ⟨e,e2,?_⟩;exact⟨.non,_,I.lset (its':=its++its2) hH e (by simp) (r.append r2) (by rw[T1z];omega),rfl,q⟩
theorem uH(l:Addr)(xs:Array Value)(n:Nat)(b:Addr)(ys:Array Value)(m:Nat)(dd:Option Addr)(sl:Array (Option Value))(c0:¬(!xs.isEmpty&&Builtin.List.listTooLong (xs.size+ys.size))=true)(c1:xs.size<=sizeLine)(c2:xs.size+ys.size<=sizeLine+1) :
  Meets (Builtin.«list.extend» ⟨[.ref l,.ref b],[]⟩) (fun _ R s=>s.heap.get? l=some { cls:=.type "list",data:=.seq xs n }/\s.heap.get? b=some { cls:=.type "tuple",dict:=dd,data:=.seq ys m,slots:=sl } /\
   R (.ok (.ret Value.none)) { s with heap:=s.heap.update l (Obj.mapSeq fun x=>x++ys),toks:=s.toks }) :=
 .of_wp fun prog w A R s h=>by
  obtain⟨hp,g,d,tk,os⟩:=s;obtain⟨hl,hb,h⟩:=h;have f1:=sub_list_list;have f2:=AutoSeq1.sub_tuple_list;have f3:=AutoSeq1.sub_list_tuple;have f4:=isSubtype_tuple_tuple
  have z:(xs++ys).size<=sizeLine+1:=by rw[Array.size_append];exact c2
  wp_walk using(wpAny_updateSeq hl rfl (hz:=c1) (_hz':=z)),I0z hl,I0z hb;exact⟨_,rfl,h⟩
def PJ(K:Z2):V->List V->Hp->VK->Prop:=fun x vs H Q=>∃ l b xs zs,x=.ref l/\vs=[.ref b]/\H l=some (.lst xs)/\SqT K H b zs/\xs.length+zs.length<=sizeLine/\Q .non (upd H l (.lst (xs++zs)))
theorem G8:MtM X "list.extend" (PJ X.K):=by
 intro z0 s σ H x vs v us Q I rx rv h;obtain⟨l,b,xs,zs,rfl,rfl,hH,hB,hz,q⟩:=h;cases (show v=Value.ref l from rx);obtain⟨u,rfl,ru⟩:=rv.one;cases (show u=Value.ref b from ru);obtain⟨z,its,n,r,hl,e⟩:=I.lstM hH;obtain⟨its2,r2,pl,hz2⟩:=I.tuple hB;have hl2:=r2.length;obtain⟨⟨c2,dd2,data2,sl2⟩,e2,hc2,n2,hs2⟩:=pl;simp only at hc2 hs2
 have hsz:its.toArray.size+its2.toArray.size<=sizeLine:=by rw[C2z,C2z];omega
 have lng:¬ (!its.toArray.isEmpty&&Builtin.List.listTooLong (its.toArray.size+its2.toArray.size))=true:=fun w=>by
  rw[lX hsz,J4z] at w;cases w
 subst hc2 hs2;refine P5z F.slot_list_extend ⟨_,e,rfl⟩ F.entry_list_extend (F.args_list_extend_2 _ _) (uH l its.toArray n b its2.toArray n2 dd2 sl2 lng (by rw[C2z];omega) (by omega)) ⟨e,e2,?_⟩;exact⟨.non,_,I.lset (its':=its++its2) hH e (by simp) (r.append r2) (by rw[T1z];omega),rfl,q⟩
theorem vW{x:Str}{ds zs:List D}{px ap cp pos:Pos}(G:GoodS cx k X sc)(hN:X.N=ρ.map (·.1))(hx:(frz F e ρ).lookup x=some (.ow ds))(ho:ownIn sc x=true)(hp:aF x=true)(hline:(ap.endLine==cp.line)=true)(hz:szl (ds.length+zs.length)=true)(he:ev cx F sc (frz F e ρ) e=some (.lst zs)) :
  Runs X Hs0 H0 ρ (.nxt (cB (frz F e ρ) x (.ow (ds++zs)))) (iT X (.Expr (.Call (.Attribute (.Name x px) "extend" ap) [e] [] cp) pos)):=by
 have hN':X.N=(frz F e ρ).map (·.1):=by rw[aW];exact hN
 obtain⟨i,hi,_⟩:=cR hx
 have nd:((frz F e ρ).map (·.1)).Nodup:=by rw[<- hN'];exact G.good.nd
 have hpl:=aY he;intro σ H Hs D h _ hn hr;obtain⟨Hs1,sm1,h1⟩:=h.frozen F e;obtain⟨a,vs,k1,k2,k3,k4,k5⟩:=h1.ow i x ds hi;unfold aF at hp;rw[X2z,R5z,R5z] at hp;have vis:Vis X.env.scope x:=(G.own.own x ho).1.elim .inl fun q=>.inr (.inl q);refine PS.sem (jq (wM L0z PySem.F.slot_list_extend PySem.F.type_list_extend G9 (ju (i:=i) (by rw[hN',List.getElem?_map,hi];rfl) vis (by simpa using hp.1) (by simpa using hp.2)) (bB aq cY (ao hpl)) rfl (by rw[ao hpl];rfl) hline (ao hpl) rfl) rfl) ?_;refine⟨_,k1,.inl ⟨rfl,vs,.of k2⟩,?_⟩;refine(cX cx F G.good hN' he).1 σ H Hs1 _ h1.ext.sub h1.sh fun v H' Hs' E r=>?_;have h2:=h1.step E;obtain⟨b,us,rfl,g1,g2⟩:=bG r;refine⟨a,b,vs,us,rfl,rfl,E.all _ _ k2,E.sub.seq g1,by have:=k3.length;have:=g2.length;have:=eU hz;omega,?_⟩;exact hn _ _ Hs' _ rfl (sm1.trans E.vis) (by rw[aK];exact hN') (h2.app nd hi k1 (aM.append (aM.same E.vis ds vs k3) g2))
theorem uq{x:Str}{ds zs:List D}{px ap cp pos:Pos}(G:GoodS cx k X sc)(hN:X.N=ρ.map (·.1))(hx:(frz F e ρ).lookup x=some (.ow ds))(ho:ownIn sc x=true)(hp:aF x=true)(hline:(ap.endLine==cp.line)=true)(hz:szl (ds.length+zs.length)=true)(he:ev cx F sc (frz F e ρ) e=some (.tup zs)) :
  Runs X Hs0 H0 ρ (.nxt (cB (frz F e ρ) x (.ow (ds++zs)))) (iT X (.Expr (.Call (.Attribute (.Name x px) "extend" ap) [e] [] cp) pos)):=by
 have hN':X.N=(frz F e ρ).map (·.1):=by rw[aW];exact hN
 obtain⟨i,hi,_⟩:=cR hx
 have nd:((frz F e ρ).map (·.1)).Nodup:=by rw[<- hN'];exact G.good.nd
 have hpl:=aY he;intro σ H Hs D h _ hn hr;obtain⟨Hs1,sm1,h1⟩:=h.frozen F e;obtain⟨a,vs,k1,k2,k3,k4,k5⟩:=h1.ow i x ds hi;unfold aF at hp;rw[X2z,R5z,R5z] at hp;have vis:Vis X.env.scope x:=(G.own.own x ho).1.elim .inl fun q=>.inr (.inl q);refine PS.sem (jq (wM L0z PySem.F.slot_list_extend PySem.F.type_list_extend G8 (ju (i:=i) (by rw[hN',List.getElem?_map,hi];rfl) vis (by simpa using hp.1) (by simpa using hp.2)) (bB aq cY (ao hpl)) rfl (by rw[ao hpl];rfl) hline (ao hpl) rfl) rfl) ?_;refine⟨_,k1,.inl ⟨rfl,vs,.of k2⟩,?_⟩;refine(cX cx F G.good hN' he).1 σ H Hs1 _ h1.ext.sub h1.sh fun v H' Hs' E r=>?_;have h2:=h1.step E;obtain⟨b,us,rfl,g1,g2⟩:=bF r;refine⟨a,b,vs,us,rfl,rfl,E.all _ _ k2,E.sub.tup g1,by have:=k3.length;have:=g2.length;have:=eU hz;omega,?_⟩;exact hn _ _ Hs' _ rfl (sm1.trans E.vis) (by rw[aK];exact hN') (h2.app nd hi k1 (aM.append (aM.same E.vis ds vs k3) g2))
theorem FN{pos:Pos}(G:GoodS cx k X sc)(hN:X.N=ρ.map (·.1))(he:ev cx F sc (frz F e ρ) e=some d)(hc:∀ a b c p,e≠.ListComp a b c p):Runs X Hs0 H0 ρ (.nxt (frz F e ρ)) (iT X (.Expr e pos)):=by
 intro σ H Hs D h _ hn hr;exact PS.sem (jq aq (fY he hc)) (Bw G hN he h fun v Hs' H' sm h' r=>hn _ _ Hs' H' rfl sm (by rw[aW];exact hN) h')
theorem Bj{f:Rho->Stmt->Option Fl}(hf:∀ ρ s fl,X.N=ρ.map (·.1)->f ρ s=some fl->Runs X Hs0 H0 ρ fl (iT X s)):∀ (l:List Stmt) (ρ:Rho) (fl:Fl),X.N=ρ.map (·.1)->iI f l ρ=some fl->Runs X Hs0 H0 ρ fl (gY X l)
 | [],ρ,fl,hN,h=>by
  simp only[iI,K2z] at h;subst h;intro σ H Hs D h _ hn hr;exact PSs.sem wD (hn _ _ Hs H rfl (.refl _) hN h)
 | s::r,ρ,fl,hN,h=>by
  simp only[iI] at h;obtain⟨fl1,h1,h2⟩:=aR h;intro σ H Hs D hd _ hn hr;refine PSs.sem (lM CZ dw) (hf ρ s fl1 hN h1 σ H Hs _ hd hN (fun ρ' σ' Hs' H' q sm hN' hd'=>?_) fun d v Hs' H' q E rr=>?_)
  ·subst q
   exact Bj hf r ρ' fl hN' h2 σ' H' Hs' D hd' hN' (fun ρ2 σ2 Hs2 H2 q2 sm2=>hn ρ2 σ2 Hs2 H2 q2 (sm.trans sm2)) hr
  ·subst q
   cases h2;exact hr d v Hs' H' rfl E rr
theorem J9{tg iter:Expr}{body:List Stmt}{l:List D}{fl:Fl}{pos:Pos}{f:D->Rho->Option Fl}(G:GoodS cx k X sc)(hN:X.N=ρ.map (·.1))(hI:evI cx (d7 tg) (ev cx F sc (frz F iter ρ)) sc iter=some l)
  (hf:∀ d ρ1 fl,f d ρ1=some fl->X.N=ρ1.map (·.1)->∃ ρ2,fO sc tg d ρ1=some ρ2/\(X.N=ρ2.map (·.1)->Runs X Hs0 H0 ρ2 fl (gY X body))) (h:bO f l (frz F iter ρ)=some fl):Runs X Hs0 H0 ρ fl (iT X (.For tg iter body [] pos)):=by
 have hN':X.N=(frz F iter ρ).map (·.1):=by rw[aW];exact hN
 obtain⟨hI',hp⟩:=yD (tg:=tg) (ρ:=frz F iter ρ) G.good (fun e d h=>⟨(cX cx F G.good hN' h).1,aY h⟩) hI;intro σ H Hs D hd _ hn hr;obtain⟨Hs1,sm1,h1⟩:=hd.frozen F iter;refine PS.sem (Kv G.pass G.good.calm jt gw dw (dz hp)) (hI' σ H Hs1 _ h1.ext.sub h1.sh fun J H2 Hs2 E2 hJ=>?_)
 let W:Nat->Nat->St->Hp->Prop:=fun i m σ H=>m=l.length-i/\i<=l.length/\∃ ρi Hsi,Same Hs2 Hsi/\Hd X.K Hs0 H0 Hsi H ρi σ/\X.N=ρi.map (·.1)/\bO f (l.drop i) ρi=some fl
 refine⟨W,⟨l.length,rfl,H5z _,_,Hs2,.refl _,h1.step E2,hN',by simpa using h⟩,?_⟩;rintro i m σi Hi ⟨rfl,hi,ρi,Hsi,sm,hdi,hNi,gi⟩;obtain⟨stp,go⟩:=hJ Hsi Hi sm hdi.ext.sub
 by_cases hlt:i<l.length
 ·obtain⟨g1,g2⟩:=go i l[i] (List.getElem?_eq_getElem hlt)
  refine .inr ⟨g1,fun σ' H'=>W (i+1) (l.length-(i+1)) σ' H',fun σ' H' w=>⟨_,by omega,w⟩,fun x H' y=>?_⟩;obtain⟨Hs3,E3,rx⟩:=g2 x H' y;rw[F0z hlt] at gi;simp only[bO] at gi;obtain⟨fl1,b1,b2⟩:=aR gi;obtain⟨ρ2,c1,c2⟩:=hf _ _ _ b1 hNi;have hd3:=hdi.step E3;refine qQ G.good.calm G.own G.good.nd hd3.ext.sub hNi (sS (Hs0:=Hs0) (H0:=H0) (H:=H')) c1 hd3 rx fun σ' hN2 p=>?_;refine c2 hN2 σ' H' Hs3 _ p hN2 (fun ρ' σ'' Hs' H'' q sm4 hN3 hd4=>?_) fun d v Hs' H'' q E rr=>?_
  ·subst q
   exact⟨rfl,hlt,ρ',Hs',sm.trans (E3.vis.trans sm4),hd4,hN3,b2⟩
  ·subst q
   cases b2;exact hr d v Hs' H'' rfl E rr
 ·have hi':i=l.length:=by omega
  subst hi';refine .inl ⟨stp,?_⟩;rw[List.drop_length] at gi;simp only[bO,K2z] at gi;exact hn ρi σi Hsi Hi gi.symm (sm1.trans (E2.vis.trans sm)) hNi hdi
theorem zP{c:Expr}{body:List Stmt}{fl:Fl}{pos:Pos}{f:Rho->Option Fl}{m:Nat}(G:GoodS cx k X sc)(hN:X.N=ρ.map (·.1))(hf:∀ ρ fl,X.N=ρ.map (·.1)->f ρ=some fl->Runs X Hs0 H0 ρ fl (gY X body))
  (h:rm (fun ρ=>((ev cx F sc (frz F c ρ) c).bind asB).map fun b=>(frz F c ρ,b)) f m ρ=some fl):Runs X Hs0 H0 ρ fl (iT X (.While c body [] pos)):=by
 intro σ H Hs D hd _ hn hr
 let W:Nat->St->Hp->Prop:=fun m σ H=>∃ ρi Hsi,Same Hs Hsi/\Hd X.K Hs0 H0 Hsi H ρi σ/\X.N=ρi.map (·.1)/\rm (fun ρ=>((ev cx F sc (frz F c ρ) c).bind asB).map fun b=>(frz F c ρ,b)) f m ρi=some fl
 refine PS.sem (Ab G.pass dI dw) ⟨W,⟨m,ρ,Hs,.refl _,hd,hN,h⟩,?_⟩;rintro m σi Hi ⟨ρi,Hsi,sm,hdi,hNi,gi⟩
 cases m with
 | zero=>simp[rm] at gi
 | succ m =>
  simp only[rm] at gi;split at gi
  ·cases gi
  ·rename_i ρ1 b hb
   obtain⟨b',h1,h2⟩:=R0z.mp hb;cases h2;have he:=eF h1
   have hN':X.N=(frz F c ρi).map (·.1):=by rw[aW];exact hNi
   refine MJ G hNi he hdi fun Hs' H' sm' h'=>?_
   cases b with
   | true =>
    rw[Y5z rfl] at gi ⊢;split at gi
    ·cases gi
    ·rename_i d hfd
     cases gi;refine⟨fun σ' H'=>W m σ' H',fun σ' H' w=>⟨m,O2z _,w⟩,?_⟩
     exact hf _ _ hN' hfd σi H' Hs' _ h' hN' (fun ρ2 σ2 Hs2 H2 q2=>by cases q2) fun d2 v Hs2 H2 q2 E rr=>by cases q2;exact hr d v Hs2 H2 rfl E rr
    ·rename_i ρ' hfd
     refine⟨fun σ' H'=>W m σ' H',fun σ' H' w=>⟨m,O2z _,w⟩,?_⟩
     refine hf _ _ hN' hfd σi H' Hs' _ h' hN' (fun ρ2 σ2 Hs2 H2 q2 sm2 hN2 hd2=>?_) fun d2 v Hs2 H2 q2=>by cases q2
     cases q2;exact⟨_,Hs2,sm.trans (sm'.trans sm2),hd2,hN2,gi⟩
   | false =>
    rw[Z5z P1z] at gi ⊢;cases gi;exact hn _ _ Hs' H' rfl (sm.trans sm') hN' h'
end
section
variable {X:Cx} {ρ:Rho} {cx:Cxt} {k F:Nat} {sc scope:Scope} {Hs0 H0:Hp} {e:Expr} {d:D}
theorem Ow{s:Stmt}{D:Ends}{σ:St}{H:Hp}(h:iT X.nox s D σ H):iT X s D σ H:=fun z0 s0 I=>M5z (h z0 s0 (I.wish _)) (fun _ _ q=>q.unwish) fun _ _ z=>False.elim z
abbrev Cx.pinned(X:Cx)(pn:List (Addr×Obj))(xe:Value->Shared->Prop):Cx:={ X with pn:=pn,xe:=xe }
theorem Inv.repin{pn pn' z0 pins':List (Addr×Obj)}{xe xe':Value->Shared->Prop}{σ:St}{H:Hp}{s:Shared}(I:Inv (X.pinned pn xe) z0 σ H s)(h:∀ p∈pn'++pins',p∈pn++z0):Inv (X.pinned pn' xe') pins' σ H s :=
 ⟨⟨I.ok.mod,I.ok.kind,I.ok.glob,I.ok.blt,I.ok.above,I.ok.inj,I.ok.has,I.ok.cab,I.ok.hd,I.ok.frames,I.ok.stk,I.ok.exf,I.ok.bs,I.ok.bsz,I.ok.noex,I.ok.exfs,I.ok.funs,I.ok.frf⟩,I.os,I.bare,I.base,I.loc,I.cell,I.free,I.freeC,fun p hp=>I.pin p (h p hp),I.hok,I.len⟩
theorem Good.wish(G:Good cx k X sc)(E:Value->Shared->Prop):Good cx k (X.wish E) sc:=⟨G.calm,G.room,G.sce,G.kind,G.nd,G.cst,G.blt,G.exs,G.fns,G.kw⟩
theorem GoodS.nox(G:GoodS cx k X sc):GoodS cx k X.nox sc:=⟨G.good.wish _,⟨G.own.own⟩,PassesOwn.never,G.stk⟩
theorem GoodS.pin_nox(G:GoodS cx k X sc)(pn:List (Addr×Obj))(E:Value->Shared->Prop):GoodS cx k (X.pinned pn E).nox sc:=⟨⟨G.good.calm,G.good.room,G.good.sce,G.good.kind,G.good.nd,G.good.cst,G.good.blt,G.good.exs,G.good.fns,G.good.kw⟩,⟨G.own.own⟩,PassesOwn.never,G.stk⟩
theorem GoodS.calm'(G:GoodS cx k X sc)(b:Bool):GoodS { cx with rs:=b } k X sc:=⟨⟨G.good.calm,G.good.room,G.good.sce,G.good.kind,G.good.nd,G.good.cst,G.good.blt,G.good.exs,G.good.fns,G.good.kw⟩,G.own,G.pass,G.stk⟩
def zu(rs:Bool)(X:Cx)(Hs0 H0:Hp)(ρ:Rho)(c:Str)(ρ':Rho)(t:TS):Prop:=∀ σ H Hs D,Hd X.K Hs0 H0 Hs H ρ σ->X.N=ρ.map (·.1) ->
 (∀ σ' Hs' H',Same Hs Hs'->X.N=ρ'.map (·.1)->Hd X.K Hs0 H0 Hs' H' ρ' σ'->∃ E,EX X c Hs' H' E/\XOk X σ' E/\(rs=true->zy X σ' E))->t D σ H
theorem sV{rs:Bool}{f:Rho->Stmt->Option Fl}{g:Rho->Stmt->Option (Str×Rho)}{c:Str}{ρ':Rho}(hf:∀ ρ s fl,X.N=ρ.map (·.1)->f ρ s=some fl->Runs X.nox Hs0 H0 ρ fl (iT X.nox s))(hg:∀ ρ s c ρ',X.N=ρ.map (·.1)->g ρ s=some (c,ρ')->zu rs X Hs0 H0 ρ c ρ' (iT X s)) :
  ∀ (l:List Stmt) (ρ:Rho),X.N=ρ.map (·.1)->fZ f g l ρ=some (c,ρ')->zu rs X Hs0 H0 ρ c ρ' (gY X l)
 | [],ρ,hN,h=>by simp[fZ] at h
 | s::r,ρ,hN,h=>by
  simp only[fZ] at h;intro σ H Hs D hd _ hx;refine PSs.sem (lM CZ dw) ?_;split at h
  ·rename_i ρ1 h1
   refine Ow (hf ρ s _ hN h1 σ H Hs _ hd hN (fun ρ2 σ2 Hs2 H2 q sm hN2 hd2=>?_) fun d v Hs2 H2 q _ _=>nomatch q);cases q;exact sV hf hg r ρ1 hN2 h σ2 H2 Hs2 D hd2 hN2 fun σ3 Hs3 H3 sm3=>hx σ3 Hs3 H3 (sm.trans sm3)
  ·cases h
  ·exact hg ρ s c ρ' hN h σ H Hs _ hd hN hx
theorem Ec{c:Str}(G:Good cx k X sc)(hN:X.N=ρ.map (·.1))(he:evx cx F sc (frz F e ρ) e=some c){σ:St}{H Hs:Hp}{rs:Bool}{Q:VK}(h:Hd X.K Hs0 H0 Hs H ρ σ)
  (hx:∀ σ' Hs' H',Same Hs Hs'->X.N=(frz F e ρ).map (·.1)->Hd X.K Hs0 H0 Hs' H' (frz F e ρ) σ'->∃ E,EX X c Hs' H' E/\XOk X σ' E/\(rs=true->zy X σ' E)):m9 X e σ H Q:=by
 obtain⟨Hs1,sm1,h1⟩:=h.frozen F e
 have hN':X.N=(frz F e ρ).map (·.1):=by rw[aW];exact hN
 obtain⟨E,e1,e2,_⟩:=hx σ Hs1 H sm1 hN' h1;exact tD cx F G hN' he σ H Hs1 E h1.ext.sub h1.sh e1 e2 Q
theorem Cu{t:Option Expr}{l:Nat}{env:Env}{c:Str}(he:evx cx F sc ρ e=some c)(hc:aZ e=false):swapsWith e t l env=pure false:=by
 cases F with
 | zero=>exact nomatch (show(Option.none:Option Str)=some c from he)
 | succ F =>
  cases e<;>first | rfl | (exact nomatch (show(Option.none:Option Str)=some c from he)) | (exact absurd hc (by simp[aZ]))
theorem Hd.drop{K:Z2}{Hs0 H0 Hs H:Hp}{ρ:Rho}{σ:St}{x:Str}{i:Nat}(h:Hd K Hs0 H0 Hs H ρ σ)(hn:(ρ.map (·.1)).Nodup)(hi:(ρ.map (·.1))[i]?=some x):Hd K Hs0 H0 Hs H (cB ρ x .no) (σ.set i none):=by
 have hl:i<σ.length:=by have:=(List.getElem?_eq_some_iff.mp hi).1;rw[h.len];simpa using this
 refine⟨h.ext,by rw[K3z,h.len];have:=congrArg List.length (aK ρ x .no);simpa using this.symm,fun j y d e=>?_,fun j y ds e=>?_,fun j j' y y' ds es a hjj e1 e2 e3 e4=>?_,fun j y dss e=>?_,fun j y lq e=>?_⟩
 ·rw[aB hn hi j] at e
  split at e
  ·cases e
  ·rename_i hj
   obtain⟨v,q1,q2⟩:=h.sh j y d e;exact⟨v,by rw[List.getElem?_set_ne (fun z=>hj z.symm)];exact q1,q2⟩
 ·rw[aB hn hi j] at e
  split at e
  ·cases e
  ·rename_i hj
   obtain⟨a,vs,q1,q2⟩:=h.ow j y ds e;exact⟨a,vs,by rw[List.getElem?_set_ne (fun z=>hj z.symm)];exact q1,q2⟩
 ·rw[aB hn hi j] at e1
  rw[aB hn hi j'] at e2;split at e1
  ·cases e1
  ·rename_i hj
   split at e2
   ·cases e2
   ·rename_i hj'
    rw[List.getElem?_set_ne (fun z=>hj z.symm)] at e3;rw[List.getElem?_set_ne (fun z=>hj' z.symm)] at e4;exact h.dis j j' y y' ds es a hjj e1 e2 e3 e4
 ·rw[aB hn hi j] at e
  split at e
  ·cases e
  ·rename_i hj
   obtain⟨⟨a,bs,k1,k2⟩,k3⟩:=h.oo j y dss e;refine⟨⟨a,bs,by rw[List.getElem?_set_ne (fun z=>hj z.symm)];exact k1,k2⟩,fun l z s hl' g=>?_⟩;rw[aB hn hi l] at g;split at g
   ·cases g;rfl
   ·exact k3 l z s hl' g
 ·rw[aB hn hi j] at e
  split at e
  ·cases e
  ·rename_i hj
   obtain⟨⟨a,k1,k2⟩,k3⟩:=h.od j y lq e;refine⟨⟨a,by rw[List.getElem?_set_ne (fun z=>hj z.symm)];exact k1,k2⟩,fun l z s hl' g=>?_⟩;rw[aB hn hi l] at g;split at g
   ·cases g;rfl
   ·exact k3 l z s hl' g
theorem zM{hs:List ExceptHandler}{o f:List Stmt}{c n kn:Str}(h:um hs o f=some (c,n,kn)):∃ np p1 p2 p3 hp,hs=[.ExceptHandler (some (.Name c np)) (some n) [.Assign [.Name kn p1] (.Name n p2) p3] hp]/\o=[]/\f=[]:=by
 unfold um at h;split at h
 ·split at h
  ·rename_i hq
   cases h;have e:=Q5z.mp hq;subst e;exact⟨_,_,_,_,_,rfl,rfl,rfl⟩
  ·cases h
 ·cases h
theorem J8{body:List Stmt}{c c' n kn:Str}{ρ':Rho}{np p1 p2 p3 hp pos:Pos}(G:GoodS cx k X sc)(hN:X.N=ρ.map (·.1))
  (hb:∀ pn xe,zu false (X.pinned pn xe) Hs0 H0 ρ c' ρ' (gY (X.pinned pn xe) body)) (hgl:mF cx sc c=true) (ht:c=cx.top) (hin:cx.exs.contains c'=true) (hne:n≠kn) (hpn:aF n=true) (ln:sc.names.lookup n=some .local) (lk:sc.names.lookup kn=some .local) (cn:(ρ.map (·.1)).contains n=true) (ck:(ρ.map (·.1)).contains kn=true) (hpc:aF c=true) :
  Runs X Hs0 H0 ρ (.nxt (cB (cB ρ' kn (.sh (.exc c'))) n .no)) (iT X (.Try body [.ExceptHandler (some (.Name c np)) (some n) [.Assign [.Name kn p1] (.Name n p2) p3] hp] [] [] pos)):=by
 intro σ H Hs D hd _ hn hr z0 s I;obtain⟨C,M,e1,e2,_,_,e3,_⟩:=G.good.exs.cls c' hin
 have hg:Gl X c:=by
  have e:sc.names.lookup c=some .globalImplicit:=by unfold mF at hgl;simpa using hgl
  show X.env.scope.names.lookup c=_;rw[G.good.sce,e]
 have hm:X.mg c=some (.ref M):=by rw[ht];exact G.good.exs.glob _ _ e2
 unfold aF at hpn hpc;rw[X2z,R5z,R5z] at hpn hpc;obtain⟨i,hi⟩:=bI cn;obtain⟨j,hj⟩:=bI ck
 have hij:i≠j:=fun z=>by subst z;rw[hi] at hj;cases hj;exact hne rfl
 rw[arm_exec_Try];refine N5z (N4z (wpAny_tryStmt_except ?_))
 let xe:Value->Shared->Prop:=fun e s₁=>wpAny (model X.prog X.w) X.A (noteFrame e X.env) (fun _ s₂=>wpAny (model X.prog X.w) X.A (setFlight e none) (fun _ s₃=>wpAny (model X.prog X.w) X.A (handleBy e X.env [.ExceptHandler (some (.Name c np)) (some n) [.Assign [.Name kn p1] (.Name n p2) p3] hp]) (SP X z0 D) X.xe s₃) X.xe s₂) X.xe s₁
 have run:=hb (X.pn++z0) xe σ H Hs { nx:=fun _ _=>False,rt:=fun _ _=>False } hd hN ?_ [] s (Inv.repin (X:=X) (pn:=X.pn) (z0:=z0) I fun p hp=>by simpa using hp)
 ·refine M5z run (fun f s1 q=>?_) fun e s1 q=>q
  cases f with
  | next=>obtain⟨_,_,_,z⟩:=q;exact z.elim
  | brk=>obtain⟨_,_,_,z⟩:=q;exact z.elim
  | cont=>obtain⟨_,_,_,z⟩:=q;exact z.elim
  | ret u=>obtain⟨_,_,_,_,_,z⟩:=q;exact z.elim
 ·intro σ1 Hs1 H1 sm1 hN1 hd1
  refine⟨fun cls _ H2=>cls=.ref C/\∃ Hs2,Ext Hs1 H1 Hs2 H2,fun C2 H2 Hs2 q E=>⟨?_,Hs2,E⟩,?_,fun z=>nomatch z⟩
  ·have q':PySem.W.nsIn X.K mainGlobals c'=some (some (.ref C2)):=q
   rw[e1] at q';cases q';rfl
  ·intro pins2 H2 s2 e s3 I2 hcx
   obtain⟨ea,cls,H3,rfl,Fl,hn3,rfl,Hs3,E3⟩:=hcx;have I2':Inv (X.pinned (X.pn++z0) X.xe) pins2 σ1 H2 s2:=Inv.repin (X:=X) I2 fun p hp=>hp
   have nd1:(ρ'.map (·.1)).Nodup:=by rw[<- hN1];exact G.good.nd
   have hi1:(ρ'.map (·.1))[i]?=some n:=by rw[<- hN1];show X.N[i]?=_;rw[hN];exact hi
   have hj1:(ρ'.map (·.1))[j]?=some kn:=by rw[<- hN1];show X.N[j]?=_;rw[hN];exact hj
   refine caught (X:=X.pinned (X.pn++z0) X.xe) (Mc:=M) I2' Fl hn3 G.stk hg hm (by simpa using hpc.1) e3 G.good.nd (i:=i) (j:=j) (by show X.N[i]?=_;rw[hN];exact hi) (by show X.N[j]?=_;rw[hN];exact hj) hij
    (by show X.env.scope.names.lookup n=_;rw[G.good.sce];exact ln) (by show X.env.scope.names.lookup kn=_;rw[G.good.sce];exact lk) (by simpa using hpn.1) (by simpa using hpn.2) fun s4 I4=>?_
   have I5:Inv X z0 ((σ1.set j (some (.ref ea))).set i none) (upd H3 ea (.ext (isX ea (.ref C)))) s4:=Inv.repin (X:=X) (pn':=X.pn) I4 fun p hp=>Z0z _ hp;have E4:Ext Hs3 H3 (upd Hs3 ea (.ext (isX ea (.ref C)))) (upd H3 ea (.ext (isX ea (.ref C)))):=Ext.new E3.sub _ hn3
   have hd4:Hd X.K Hs0 H0 (upd Hs3 ea (.ext (isX ea (.ref C)))) (upd H3 ea (.ext (isX ea (.ref C)))) (cB ρ' kn (.sh (.exc c'))) (σ1.set j (some (.ref ea))):=((Hd.step hd1 E3).step E4).set nd1 hj1 (by
    simp only[Rep]
    exact⟨ea,C,rfl,e1,aP⟩)
   have hd5:=hd4.drop (by rw[aK];exact nd1) (i:=i) (x:=n) (by rw[aK];exact hi1)
   exact⟨_,_,I5,hn _ _ _ _ rfl (sm1.trans (E3.vis.trans E4.vis)) (by rw[aK,aK];exact hN1) hd5⟩
end
mutual
theorem uo(cx:Cxt)(F:Nat):∀ (n:Nat) {k:Nat} {X:Cx} {sc:Scope} {ρ:Rho} {s:Stmt} {fl:Fl} {Hs0 H0:Hp},GoodS cx k X sc->X.N=ρ.map (·.1)->DE.st cx F n sc ρ s=some fl->Runs X Hs0 H0 ρ fl (iT X s)
 | 0,k,X,sc,ρ,s,fl,Hs0,H0,_,_,h=>by simp[DE.st] at h
 | n+1,k,X,sc,ρ,s,fl,Hs0,H0,G,hN,h=>by
  have block:∀ (l:List Stmt) (ρ:Rho) (fl:Fl),X.N=ρ.map (·.1)->iI (fun ρ s=>DE.st cx F n sc ρ s) l ρ=some fl->Runs X Hs0 H0 ρ fl (gY X l):=Bj fun ρ s fl hN h=>uo cx F n G hN h
  cases s with
  | Pass pos =>
   simp only[DE.st,K2z] at h;subst h;intro σ H Hs D hd _ hn hr;exact PS.sem Gj (hn _ _ Hs H rfl (.refl _) hN hd)
  | Return v pos =>
   simp only[DE.st] at h
   cases v with
   | none =>
    simp only[K2z] at h;subst h;intro σ H Hs D hd _ hn hr;exact PS.sem Gi (hr .non .non Hs H rfl hd.ext (by simp[Rep]))
   | some e =>
    simp only[R0z] at h;obtain⟨d,he,rfl⟩:=h;intro σ H Hs D hd _ hn hr;exact PS.sem (Ks aq) (Bw G hN he hd fun v Hs' H' sm h' r=>hr d v Hs' H' rfl h'.ext r)
  | Assign tgs e pos =>
   simp only[DE.st] at h;split at h
   ·split at h
    ·rename_i hc
     rw[X2z] at hc;split at h
     ·rename_i hoo
      rw[X2z] at hoo;obtain⟨d,he,h⟩:=Option.bind_eq_some_iff.mp h;obtain⟨dss,hd,rfl⟩:=R0z.mp h;exact O7 G hN hc.1 hc.2 hoo.1 hoo.2 he hd
     ·split at h
      ·cases h
      ·split at h
       ·cases h
       ·rename_i hno
        split at h
        ·cases h
        ·split at h
         ·rename_i d he
          cases h;refine FJ G hN hc.1 hc.2 (fun hf=>?_) he;rw[hf,R4z] at hno;simpa using hno
         ·split at h
          ·rename_i hd0
           cases h;rw[X2z] at hd0;obtain⟨dp,rfl⟩:=Hu hd0.1;exact O8 G hN hc.1 hc.2 hd0.2
          ·cases h
    ·cases h
   ·split at h
    ·rename_i hs
     obtain⟨d,he,h⟩:=aR h;obtain⟨l,hl,h⟩:=aR h;simp only[R0z] at h;obtain⟨ρ',hb,rfl⟩:=h;rcases S3z _ _ |>.mp hs with hs | hs
     ·exact J7 G hN hs he hl hb
     ·cases hs
    ·cases h
   ·split at h
    ·rename_i x px
     split at h
     ·simp at h
     ·split at h
      ·split at h
       ·rename_i l hx'
        split at h
        ·rename_i hc
         simp only[X2z,I2z] at hc;obtain⟨d,h1,h⟩:=aR h;obtain⟨y,h4,h⟩:=aR h;obtain⟨kk,h5,h⟩:=aR h;split at h
         ·rename_i hfl
          cases h;simp only[X2z,J2z] at hfl;exact Fz G hN hx' hc.1.1 hc.1.2 hc.2 h1 h4 h5 hfl.1 hfl.2
         ·cases h
        ·cases h
       ·cases h
      ·cases h
    ·split at h
     ·rename_i dss hx
      split at h
      ·rename_i hc
       rw[X2z,X2z] at hc;obtain⟨d,h1,h⟩:=aR h;obtain⟨j1,h2,h⟩:=aR h;obtain⟨n1,h3,h⟩:=aR h;obtain⟨ds,h4,h⟩:=aR h;obtain⟨j2,h5,h⟩:=aR h;obtain⟨n2,h6,h⟩:=aR h;split at h
       ·rename_i h7
        cases h;exact Fy G hN hx hc.1.1 hc.1.2 (by simpa using hc.2) h1 (dO h2) h3 h4 (dO h5) h6 h7
       ·cases h
      ·cases h
     ·cases h
    ·cases h
   ·cases h
  | Expr v pos =>
   simp only[DE.st] at h;split at h
   ·rename_i x px m ap e cp
    split at h
    ·rename_i ds hx
     split at h
     ·rename_i hc
      rw[X2z,X2z] at hc;obtain⟨⟨c1,c2⟩,c4⟩:=hc;split at h
      ·rename_i hc2
       rw[X2z] at hc2;simp only[R0z] at h;obtain⟨d,he,rfl⟩:=h
       have em:m="append":=by simpa using hc2.1
       subst em;exact vX G hN hx c1 c2 c4 hc2.2 he
      ·split at h
       ·rename_i hc3
        obtain⟨d,he,h⟩:=aR h
        have em:m="extend":=by simpa using hc3
        subst em;split at h
        ·split at h
         ·rename_i hz
          cases h;exact vW G hN hx c1 c2 c4 hz he
         ·cases h
        ·split at h
         ·rename_i hz
          cases h;exact uq G hN hx c1 c2 c4 hz he
         ·cases h
        ·cases h
       ·cases h
     ·cases h
    ·cases h
   ·cases h
   ·cases h
   ·rename_i h1 h3 h4
    simp only[R0z] at h;obtain⟨d,he,rfl⟩:=h;exact FN G hN he fun a b c p q=>h3 a b c p q
  | If c a b pos =>
   simp only[DE.st] at h;obtain⟨t,h1,h⟩:=aR h;have he:=eF h1;intro σ H Hs D hd _ hn hr;refine PS.sem (Gk dI dw dw) (HN G hN he hd fun Hs' H' sm h'=>?_)
   cases t with
   | true =>
    simp only[X5z] at h;exact uX (block a _ fl hN h σ H' Hs' D h' hN (fun ρ2 σ2 Hs2 H2 q2 sm2=>hn ρ2 σ2 Hs2 H2 q2 (sm.trans sm2)) hr)
   | false =>
    simp only[U1z,V5z] at h;exact xX (block b _ fl hN h σ H' Hs' D h' hN (fun ρ2 σ2 Hs2 H2 q2 sm2=>hn ρ2 σ2 Hs2 H2 q2 (sm.trans sm2)) hr)
  | For tg iter body orelse pos =>
   simp only[DE.st] at h;split at h
   ·obtain⟨l,hI,h⟩:=aR h
    refine J9 G hN hI (fun d ρ1 fl hf hN1=>?_) h;obtain⟨ρ2,g1,g2⟩:=aR hf;exact⟨ρ2,g1,fun hN2=>block body ρ2 fl hN2 g2⟩
   ·cases h
  | While c body orelse pos =>
   simp only[DE.st] at h;split at h
   ·exact zP G hN (fun ρ fl hN h=>block body ρ fl hN h) h
   ·cases h
  | Try body handlers orelse final pos =>
   simp only[DE.st] at h;split at h
   ·rename_i c n' kn hto
    obtain⟨np,p1,p2,p3,hp,rfl,rfl,rfl⟩:=zM hto;split at h
    ·rename_i fl' hfl
     cases h;have hb:Runs X.nox Hs0 H0 ρ fl (gY X.nox body):=Bj (fun ρ s fl hN h=>uo cx F n G.nox hN h) body ρ fl hN hfl;intro σ H Hs D hd _ hn hr z0 s I;rw[arm_exec_Try];refine N5z (N4z (wpAny_tryStmt_except ?_));refine M5z (hb σ H Hs D hd hN hn hr z0 s (I.wish _)) (fun f s1 q=>?_) fun _ _ z=>z.elim;have q':=q.unwish
     cases f with
     | next=>exact F3z q'
     | brk=>exact q'
     | cont=>exact q'
     | ret u=>exact q'
    ·split at h
     ·rename_i c' ρ1 hx
      split at h
      ·rename_i hc
       cases h;simp only[X2z] at hc;obtain⟨⟨⟨⟨⟨⟨⟨⟨⟨h1,h2⟩,h3⟩,h4⟩,h5⟩,h6⟩,h7⟩,h8⟩,h9⟩,h10⟩:=hc;refine J8 G hN (fun pn xe=>?_) h1 (by simpa using h2) h3 (by simpa using h4) h5 (by simpa using h6) (by simpa using h7) h8 h9 h10;exact sV (X:=X.pinned pn xe) (fun ρ s fl hN h=>uo cx F n (G.pin_nox pn xe) hN h) (fun ρ s c ρ' hN h=>vQ { cx with rs:=false } F n ((G.pin_nox pn xe).calm' false) hN h) body ρ hN hx
      ·cases h
     ·cases h
   ·cases h
  | _=>exact nomatch (show(Option.none:Option Fl)=some fl from h)
theorem vQ(cx:Cxt)(F:Nat):∀ (n:Nat) {k:Nat} {X:Cx} {sc:Scope} {ρ:Rho} {s:Stmt} {c:Str} {ρ':Rho} {Hs0 H0:Hp},GoodS cx k X.nox sc->X.N=ρ.map (·.1)->DE.stx cx F n sc ρ s=some (c,ρ')->zu cx.rs X Hs0 H0 ρ c ρ' (iT X s)
 | 0,k,X,sc,ρ,s,c,ρ',Hs0,H0,_,_,h=>by simp[DE.stx] at h
 | n+1,k,X,sc,ρ,s,c,ρ',Hs0,H0,G,hN,h=>by
  have GX:Good cx k X sc:=⟨G.good.calm,G.good.room,G.good.sce,G.good.kind,G.good.nd,G.good.cst,G.good.blt,G.good.exs,G.good.fns,G.good.kw⟩
  have block:∀ (l:List Stmt) (ρ:Rho) (c:Str) (ρ':Rho),X.N=ρ.map (·.1)->fZ (fun ρ s=>DE.st cx F n sc ρ s) (fun ρ s=>DE.stx cx F n sc ρ s) l ρ=some (c,ρ')->zu cx.rs X Hs0 H0 ρ c ρ' (gY X l):=fun l ρ c ρ' hN h =>
   sV (fun ρ s fl hN h=>uo cx F n G hN h) (fun ρ s c ρ' hN h=>vQ cx F n G hN h) l ρ hN h
  simp only[DE.stx] at h;split at h
  ·rename_i cc np txt j p1 cpos pos
   split at h
   ·rename_i hc
    cases h;simp only[X2z] at hc;obtain⟨⟨⟨h1,h2⟩,h3⟩,h4⟩:=hc;obtain⟨C,M,e1,_,e2,_⟩:=GX.exs.cls c h3
    have hg:Gl X c:=by
     have e:sc.names.lookup c=some .globalImplicit:=by unfold mF at h2;simpa using h2
     show X.env.scope.names.lookup c=_;rw[GX.sce,e]
    unfold aF at h4;rw[X2z,R5z] at h4;intro σ H Hs D hd _ hx z0 s I;obtain⟨E,x1,x2,x3⟩:=hx σ Hs H (.refl _) hN hd;exact zW I GX.room.hd hg (GX.exs.glob _ _ e1) (by simpa using h4.1) e2 fun s2 h' e args I2 hm=>x3 h1 z0 H s2 C e h' args I2 hm (x1 C H Hs e1 (.refl hd.ext.sub))
   ·cases h
  ·rename_i e pos
   split at h
   ·cases h
   ·rename_i hfr
    obtain⟨c1,h1,h2⟩:=R0z.mp h;cases h2;intro σ H Hs D hd _ hx;exact PS.sem (jq aq (Cu h1 (by simpa using hfr))) (Ec GX hN h1 hd hx)
  ·rename_i x px e pos
   split at h
   ·cases h
   ·rename_i hfr
    obtain⟨c1,h1,h2⟩:=R0z.mp h;cases h2;intro σ H Hs D hd _ hx z0 s I;exact wpAny_Assign_Name (thn (Ec (Q:=fun _ _=>False) GX hN h1 hd hx z0 s I) fun v s1 ⟨_,_,_,_,q⟩=>q.elim) (Cu h1 (by simpa using hfr))
  ·rename_i cc a b pos
   split at h
   ·rename_i kk hk
    have he:=eF hk
    have hN':X.N=(frz F cc ρ).map (·.1):=by rw[aW];exact hN
    intro σ H Hs D hd _ hx;obtain⟨Hs1,sm1,h1⟩:=hd.frozen F cc;refine PS.sem (Gk dI dw dw) ((cX cx F GX hN' he).2 kk rfl σ H Hs1 _ h1.ext.sub h1.sh fun H' Hs' E=>?_);have h2:=h1.step E
    cases kk with
    | true=>exact uX (block a _ c ρ' hN' h σ H' Hs' D h2 hN' fun σ3 Hs3 H3 sm3=>hx σ3 Hs3 H3 ((sm1.trans E.vis).trans sm3))
    | false=>exact xX (block b _ c ρ' hN' h σ H' Hs' D h2 hN' fun σ3 Hs3 H3 sm3=>hx σ3 Hs3 H3 ((sm1.trans E.vis).trans sm3))
   ·rename_i hk
    split at h
    ·rename_i e hn
     obtain⟨c1,h1,h2⟩:=R0z.mp h;cases h2;unfold wY at hn;split at hn
     ·rename_i f as ks p1 p2
      cases hn
      have hN':X.N=(frz F (.UnaryOp .Not (.Call f as ks p1) p2) ρ).map (·.1):=by rw[aW];exact hN
      intro σ H Hs D hd _ hx;obtain⟨Hs1,sm1,hd1⟩:=hd.frozen F (.UnaryOp .Not (.Call f as ks p1) p2);obtain⟨E,e1,e2,_⟩:=hx σ Hs1 H sm1 hN' hd1;exact PS.sem (Gk (CW (CV aq)) dw dw) (tD cx F GX hN' h1 σ H Hs1 E hd1.ext.sub hd1.sh e1 e2 _)
     ·cases hn
    ·cases h
  ·cases h
end
structure FunAt (K:Z2) (mg:Str->Option Value) (f:Str) (fd:Fd):Prop where
 ex:∃ (nm:Str) (t:Stmt) (a:Addr) (g:FuncData),mg f=some (.ref a)/\Fun K nm nm t a g/\Binds K g fd.ps []/\fd.body=bQ t/\fd.sc=bf t
 fs:FnScope fd.N fd.ps fd.sc
 nd:(f==("__debug__":Str))=false
structure Text (w:World) (K:Z2) (mg:Str->Option Value) (P:Pg):Prop where
 cst:∀ x d,P.cst.lookup x=some d->∃ v u,(∀ H,Rep K H d v)/\mg x=some u/\RelV v u
 blt:∀ x b,P.blt.lookup x=some b->mg x=none/\x=Str.ofString b
 fns:∀ f fd,P.defs.lookup f=some fd->FunAt K mg f fd
 exs:XText K mg P.exs P.top
 kw:KnW K w
def YG(ps:List (Str×Str)):D:=.dic (ps.map fun p=>.inr p.1) (ps.map fun p=>.str p.2)
def dEs(o:Obj):Array DictEntry:=match o.data with | .dict es _=>es | _ => #[]
def dN(o:Obj):Nat:=match o.data with | .dict _ n=>n | _=>0
def isS(x:Str):Value->Bool
 | .str y _=>x==y
 | _=>false
theorem DG{x:Str}{v:Value}(h:isS x v=true):∃ t,v=.str x t:=by
 unfold isS at h;split at h
 ·rename_i y t
  have e:x=y:=by simpa using h
  subst e;exact⟨t,rfl⟩
 ·cases h
def chk:List (Str×Str)->List DictEntry->Bool
 | [],[]=>true
 | p::r,e::es=>isS p.1 e.key&&isS p.2 e.val&&chk r es
 | _,_=>false
theorem Em{K:Z2}{H:Hp}:∀ {ps:List (Str×Str)} {es:List DictEntry},chk ps es=true->∃ kvs:List (Key×V),kvs.map (·.1)=ps.map (fun p=>Sum.inr p.1)/\aM K H (ps.map fun p=>D.str p.2) (kvs.map (·.2))/\Paired (fun(p:Key×V) (e:DictEntry)=>(∃ x t,p.1=.inr x/\e.key=.str x t)/\RelV p.2 e.val) kvs es
 | [],[],_=>⟨[],rfl,.nil,.nil⟩
 | p::r,e::es,h=>by
  simp only[chk,X2z] at h;obtain⟨⟨h1,h2⟩,h3⟩:=h;obtain⟨kvs,g1,g2,g3⟩:=Em (K:=K) (H:=H) h3;obtain⟨t,e1⟩:=DG h1;obtain⟨t',e2⟩:=DG h2;exact⟨(.inr p.1,.str p.2)::kvs,by simp[g1],.cons (by simp[Rep]) g2,.cons ⟨⟨p.1,t,rfl,e1⟩,⟨t',e2⟩⟩ g3⟩
 | [],_::_,h=>by simp[chk] at h
 | _::_,[],h=>by simp[chk] at h
theorem Nj{K:Z2}{H H':Hp}{ps:List (Str×Str)}{kvs:List (Key×V)}(h:aM K H (ps.map fun p=>D.str p.2) (kvs.map (·.2))):aM K H' (ps.map fun p=>D.str p.2) (kvs.map (·.2)):=by
 generalize kvs.map (·.2)=vs at h ⊢
 induction ps generalizing vs with
 | nil=>simpa[aM] using h
 | cons p r ih =>
  simp only[O4z,aM] at h ⊢;obtain⟨v,q,h1,h2,h3⟩:=h;exact⟨v,q,h1,by simpa[Rep] using h2,ih _ h3⟩
theorem cD{K:Z2}{h:Heap}{mg:Str->Option Value}{x:Str}{ps:List (Str×Str)}(X:K.In h)(G:h.Ns mainGlobals mg)(a:Addr)(o:Obj)(e:PySem.W.nsIn K mainGlobals x=some (some (.ref a)))(l:K.lookup a=some o)(ex:o.ExactDict)(hd:o.data=.dict (dEs o) (dN o))(hc:(chk ps (dEs o).toList&&oH (ps.map (·.1)))=true)(hs:(a==sysModules)=false) :
  ∃ v u,(∀ H,Rep K H (YG ps) v)/\mg x=some u/\RelV v u:=by
 rw[X2z] at hc;obtain⟨kvs,g1,g2,g3⟩:=Em (K:=K) (H:=fun _=>none) hc.1
 have nd:(kvs.map (·.1)).Nodup:=by
  rw[g1];have n:=jy hc.2
  have q:(ps.map fun p=>(Sum.inr p.1:Key))=(ps.map (·.1)).map Sum.inr:=by simp
  rw[q];exact List.Pairwise.map _ (fun a b hab z=>hab (Sum.inr.inj z)) n
 refine⟨.ref a,_,fun H=>?_,S4z X G e,rfl⟩;unfold YG;simp only[Rep];exact⟨a,kvs,rfl,.inr ⟨o,dEs o,dN o,l,ex,hd,hs,nd,g3⟩,g1,Nj g2⟩
theorem j5{α:Type}:∀ {l:List (Str×α)} {x:Str},(l.map (·.1)).contains x=true->∃ a,l.lookup x=some a
 | [],x,h=>by simp at h
 | (y,a)::r,x,h=>by
  rw[N2z]
  cases hb:x==y with
  | true=>exact⟨a,rfl⟩
  | false =>
   refine j5 ?_;rw[O4z,List.contains_cons,hb,Bool.false_or] at h;exact h
theorem vU{K:Z2}{H:Hp}{fd:Fd}{ds:List D}{vs:List V}(S:FnScope fd.N fd.ps fd.sc)(hl:ds.length=fd.ps.length)(r:aM K H ds vs) :
  fd.N=(bY fd ds).map (·.1)/\(start fd.N vs).length=(bY fd ds).length/\∀ (i:Nat) (x:Str) (s:Sl),(bY fd ds)[i]?=some (x,s)->(s=.no\/∃ d v,s=.sh d/\(start fd.N vs)[i]?=some (some v)/\Rep K H d v):=by
 have lv:=r.length
 have lz:(fd.ps.zip (ds.map Sl.sh)).length=fd.ps.length:=by rw[U3z,J3z];omega
 have hpl:fd.ps.length<=fd.N.length:=by have:=congrArg List.length S.pre;rw[M2z] at this;omega
 refine⟨?_,?_,fun i x s e=>?_⟩
 ·unfold bY
  rw[V3z,D5z,List.map_fst_zip (by rw[J3z];omega)]
  have:(fd.N.drop fd.ps.length).map ((fun p:Str×Sl=>p.1)∘fun x=>(x,Sl.no))=fd.N.drop fd.ps.length:=by
   rw[show((fun p:Str×Sl=>p.1)∘fun x=>(x,Sl.no))=id from rfl,List.map_id]
  rw[this]
  conv=>lhs;rw[<- List.take_append_drop fd.ps.length fd.N,S.pre]
 ·unfold start bY
  rw[T1z,T1z,lz];simp;omega
 ·unfold bY at e
  by_cases hi:i<fd.ps.length
  ·rw[List.getElem?_append_left (by rw[lz];exact hi),List.getElem?_zip_eq_some] at e
   obtain⟨_,e2⟩:=e;rw[List.getElem?_map] at e2;obtain⟨d,e3,rfl⟩:=R0z.mp e2;obtain⟨v,g1,g2⟩:=r.get e3;refine .inr ⟨d,v,rfl,?_,g2⟩;unfold start;rw[List.getElem?_append_left (by rw[J3z];omega),List.getElem?_map,g1];rfl
  ·rw[List.getElem?_append_right (by rw[lz];omega),List.getElem?_map] at e
   obtain⟨y,_,e3⟩:=R0z.mp e;cases e3;exact .inl rfl
section
variable {P:Program} {w:World} {K:Z2} {mg:Str->Option Value} {base:Heap} {T:Pg} {F:Nat}
abbrev vR(c:Str->List D->Option Rs):Str->List D->Option D:=fun f ds=>Rs.val? (c f ds)
abbrev xR(c:Str->List D->Option Rs):Str->List D->Option Str:=fun f ds=>Rs.exc? (c f ds)
theorem iM{o:Option Rs}{d:D}(h:Rs.val? o=some d):o=some (.val d):=by
 unfold Rs.val? at h;split at h
 ·cases h;rfl
 ·cases h
theorem iW{o:Option Rs}{c:Str}(h:Rs.exc? o=some c):o=some (.exc c):=by
 unfold Rs.exc? at h;split at h
 ·cases h;rfl
 ·cases h
theorem iY{k:Nat}{f:Str}{fd:Fd}(hf:T.defs.lookup f=some fd):∀ ds r,eN T F k f ds=some r->ds.length=fd.ps.length:=by
 intro ds d h
 cases k with
 | zero=>simp[qO] at h
 | succ k =>
  simp only[jN,hf] at h;split at h
  ·rename_i hl;simpa using hl
  ·cases h
theorem Fun.okX{x qual:Str}{st:Stmt}{f:Addr}{fd:FuncData}{N ps:List Str}{k:Nat}{sp:Sp}(F:Fun K x qual st f fd)(S:FnScope N ps (bf st))(len:∀ vs H Q E,sp vs H Q E->vs.length=ps.length)
  (hbody : ∀ (cdv : Value) (A : Around) (outer : List Env) (s : Shared) (H : Hp) (vs : List V) (Q : VK) (E : XK), Room k (A.deeper (envOfC qual (bf st) s.heap.objs.size f cdv)) -> sp vs H Q E ->
   ∃ t,PSs (iu (CX1 P w) P w K mg base N qual (bf st) f cdv A outer s H E) (bQ st) t/\t { nx:=fun _ H'=>Q .non H',rt:=Q } (start N vs) H):FnOk P w K mg base (CX1 P w) (k+1) f fd ps sp:=by
 obtain⟨oc,od,kV,doc,pm,an,cdv,ct,osl,rfl,lk,hcd⟩:=F.ex;exact V0 lk hcd S len fun A outer s H vs Q E hr hsp=>hbody cdv A outer s H vs Q E hr hsp
theorem Eu(X:Text w K mg T):∀ (k:Nat) (nm f:Str) (fd:Fd) (t:Stmt) (a:Addr) (g:FuncData),T.defs.lookup f=some fd->Fun K nm nm t a g->fd.body=bQ t->fd.sc=bf t->FnScope fd.N fd.ps fd.sc->FnOk P w K mg base (CX1 P w) k a g fd.ps (spX K (vR (eN T F k)) (xR (eN T F k)) f fd.ps)
  | 0,nm,f,fd,t,a,g,hf,Fn,hb,hs,S=>by
    refine⟨fun vs H Q E h=>h.1,fun A outer s H args us vs Q E _ _ _ _ h=>?_⟩
    obtain⟨_,Hs,ds,_,_,⟨d,hc,_⟩ | ⟨c,hc,_⟩⟩:=h
    · have:=iM hc;simp[qO] at this
    · have:=iW hc;simp[qO] at this
  | k+1,nm,f,fd,t,a,g,hf,Fn,hb,hs,S=>by
    refine Fun.okX (N:=fd.N) Fn (by rw[<- hs];exact S) (fun vs H Q E h=>h.1) fun cdv A outer s H vs Q E hr h=>?_
    obtain⟨hlv,Hs,ds,hsm,rl,hcase⟩:=h
    have hld:ds.length=fd.ps.length:=by
      rcases hcase with⟨d,hc,_⟩ | ⟨c,hc,_⟩
      · exact iY hf ds _ (iM hc)
      · exact iY hf ds _ (iW hc)
    have unf:eN T F (k+1) f ds=pG (T.cx (eN T F k)) F fd.sc fd.body (bY fd ds):=by
      simp only[jN,hf]
      rw[Y5z (by simpa using hld)]
    obtain⟨s1,s2,s3⟩:=vU S hld rl
    refine⟨gY _ (bQ t),dw,?_⟩
    have G:GoodS (T.cx (eN T F k)) k (iu (CX1 P w) P w K mg base fd.N nm (bf t) a cdv A outer s H E).nox fd.sc :=
      { good := { calm := rfl, room := hr, sce := hs.symm, kind := S.kind, nd := S.nd, cst := X.cst, blt := X.blt, exs := X.exs, kw := X.kw
                  fns:=fun f' hf'=>by
                    obtain⟨fd',hl'⟩:=j5 (l:=T.defs) hf'
                    have FA:=X.fns f' fd' hl'
                    obtain⟨nm',t',a',g',m1,m2,m3,m4,m5⟩:=FA.ex
                    exact⟨FA.nd,a',g',fd'.ps,fun ds d h=>iY hl' ds _ (iM h),fun ds c h=>iY hl' ds _ (iW h),m1,m2.kp,m3,Eu X k nm' f' fd' t' a' g' hl' m2 m4 m5 FA.fs⟩ }
        own:=⟨fun x hx=>⟨by
          unfold ownIn at hx
          rw[S3z] at hx
          show(bf t).names.lookup x=_\/(bf t).names.lookup x=_
          rw[<- hs]
          exact hx.imp (fun q=>by simpa using q) (fun q=>by simpa using q),.inl rfl⟩⟩
        pass:=PassesOwn.never
        stk:=⟨rfl,rfl⟩ }
    have noow:∀ (i:Nat) (x:Str) (ds':List D),(bY fd ds)[i]?=some (x,.ow ds')->False:=fun i x ds' e=>by
      rcases s3 i x _ e with q | ⟨d',v,q,q1,q2⟩
      · cases q
      · cases q
    have nooo:∀ (i:Nat) (x:Str) (dss:List (List D)),(bY fd ds)[i]?=some (x,.oo dss)->False:=fun i x ds' e=>by
      rcases s3 i x _ e with q | ⟨d',v,q,q1,q2⟩
      · cases q
      · cases q
    have nood:∀ (i:Nat) (x:Str) (l:List (List Int×D)),(bY fd ds)[i]?=some (x,.od l)->False:=fun i x ds' e=>by
      rcases s3 i x _ e with q | ⟨d',v,q,q1,q2⟩
      · cases q
      · cases q
    have hd:Hd K Hs H Hs H (bY fd ds) (start fd.N vs):=by
      refine⟨.refl hsm,s2,fun i x d e=>?_,fun i x ds' e=>(noow i x ds' e).elim,fun i j x y ds' es a' _ e=>(noow i x ds' e).elim,fun i x dss e=>(nooo i x dss e).elim,fun i x l e=>(nood i x l e).elim⟩
      rcases s3 i x _ e with q | ⟨d',v,q,q1,q2⟩
      · cases q
      · cases q
        exact⟨v,q1,q2⟩
    rcases hcase with⟨d,hc,hq⟩ | ⟨c,hc,hq⟩
    · have hc':=iM hc
      rw[unf] at hc'
      unfold pG at hc'
      intro z0 s0 I
      have fin:∀ fl,iI (fun ρ s=>DE.st (T.cx (eN T F k)) F F fd.sc ρ s) fd.body (bY fd ds)=some fl->(match fl with | .ret d'=>d'=d | .nxt _=>d=.non)->gY (iu (CX1 P w) P w K mg base fd.N nm (bf t) a cdv A outer s H E).nox (bQ t) { nx:=fun _ H'=>Q .non H',rt:=Q } (start fd.N vs) H:=by
        intro fl hg hfl
        rw[hb] at hg
        refine Bj (fun ρ s fl hN h=>uo _ F F G hN h) (bQ t) (bY fd ds) fl s1 hg (start fd.N vs) H Hs _ hd s1 (fun ρ' σ' Hs' H' q _ _ hd'=>?_) fun d' v Hs' H' q E' r=>?_
        · subst q
          have e:d=.non:=hfl
          subst e
          exact hq .non H' Hs' hd'.ext (by simp[Rep])
        · subst q
          have e:d'=d:=hfl
          subst e
          exact hq v H' Hs' E' r
      have key:gY (iu (CX1 P w) P w K mg base fd.N nm (bf t) a cdv A outer s H E).nox (bQ t) { nx:=fun _ H'=>Q .non H',rt:=Q } (start fd.N vs) H:=by
        split at hc'
        · rename_i d' hg;cases hc';exact fin _ hg rfl
        · rename_i ρ' hg;cases hc';exact fin _ hg rfl
        · split at hc'<;>cases hc'
      exact M5z (key z0 s0 (I.wish _)) (fun _ _ q=>q.unwish) fun _ _ z=>False.elim z
    · have hc':=iW hc
      rw[unf] at hc'
      unfold pG at hc'
      split at hc'
      · cases hc'
      · cases hc'
      · split at hc'
        · rename_i c' ρ' hg
          cases hc'
          rw[hb] at hg
          refine sV (rs:=true) (X:=iu (CX1 P w) P w K mg base fd.N nm (bf t) a cdv A outer s H E) (fun ρ s fl hN h=>uo _ F F G hN h) (fun ρ s c ρ' hN h=>vQ _ F F G hN h) (bQ t) (bY fd ds) s1 hg (start fd.N vs) H Hs _ hd s1 fun σ1 Hs1 H1 _ _ hd1=>?_
          refine⟨E,fun C H2 Hs2 q E2=>hq C H2 Hs2 q (hd1.ext.trans E2),fun z0 H2 s2 e s3 I2 hcx=>wO z0 σ1 H2 s2 e s3 I2 hcx,fun _ z0 H2 s2 C e h' args I2 hm hE=>uw I2 hm hE⟩
        · cases hc'
theorem FnOk.calm{k:Nat}{f:Addr}{fd:FuncData}{ps:List Str}{sp:Sp}(F:FnOk P w K mg base (CX1 P w) k f fd ps sp)(h:∀ vs H Q E,sp vs H Q E->sp vs H Q E0):FnOk P w K mg base CX0 k f fd ps sp :=
 ⟨F.len,fun A outer s H args us vs Q E hr he hb hv hs=>X4z (F.run A outer s H args us vs Q E0 hr he hb hv (h _ _ _ _ hs)) fun r s' q=>by
  cases r with
  | error e=>obtain⟨_,_,_,_,_,_,z⟩:=(show CX1 P w outer H s E0 e s' from q);exact z.elim
  | ok fl=>cases fl<;>exact q⟩
def rE(K:Z2):Sp:=fun vs H Q _=>∃ (a:Addr) (ns:List Int),vs=[.ref a]/\SqL K H a (ns.map V.int)/\ns.length<=63/\∀ H',Q (.bl true) H'
theorem LC{k:Nat}{f:Str}{fd:Fd}{t:Stmt}{a:Addr}{g:FuncData}(X:Text w K mg T)(hf:T.defs.lookup f=some fd)(Fn:Fun K f f t a g)(hb:fd.body=bQ t)(hs:fd.sc=bf t)(S:FnScope fd.N fd.ps fd.sc)(h1:fd.ps.length=1)
  (hlaw:∀ ns:List Int,ns.length<=63->aD T F k f [.lst (ns.map D.int)]=some (.bl true)):FnOk P w K mg base CX0 k a g fd.ps (rE K):=by
 refine FnOk.calm ((Eu (F:=F) X k f f fd t a g hf Fn hb hs S).imp fun vs H Q E h=>?_) fun _ _ _ _ h=>h;obtain⟨p,ns,rfl,hS,hl,q⟩:=h;refine⟨by rw[h1];rfl,H,[.lst (ns.map D.int)],.refl _,.cons ?_ .nil,.inl ⟨.bl true,by have:=hlaw ns hl;rw[gQ] at this;exact this,fun v H' Hs' _ r=>by rw[cH r];exact q H'⟩⟩;simp only[Rep];exact⟨p,ns.map V.int,rfl,hS,lH (fun x=>by simp[Rep]) ns⟩
end
end L2
namespace DE
open PySem
def Ls{α:Type}(m:Nat)(h:Nat->α):List α:=(List.range m).map h
theorem dR{α:Type}{m:Nat}{h:Nat->α}:(Ls m h).length=m:=by simp[Ls]
theorem kj{α:Type}{m i:Nat}{h:Nat->α}(hi:i<m):(Ls m h)[i]?=some (h i):=by simp[Ls,hi]
theorem Nu{α β:Type}{m:Nat}{h:Nat->α}{f:α->β}:(Ls m h).map f=Ls m fun i=>f (h i):=by
 unfold Ls;rw[D5z];rfl
theorem Nt{α β:Type}{m:Nat}{h:Nat->α}{g:Nat->β}:(Ls m h).zip (Ls m g)=Ls m fun i=>(h i,g i):=by
 apply List.ext_getElem?;intro i
 by_cases hi:i<m
 ·rw[kj hi,List.getElem?_zip_eq_some]
  exact⟨kj hi,kj hi⟩
 ·rw[List.getElem?_eq_none (by rw[U3z,dR,dR];omega),List.getElem?_eq_none (by rw[dR];omega)]
theorem Ji{α:Type}{m:Nat}{h:Nat->α}:Ls (m+1) h=Ls m h++[h m]:=by
 unfold Ls;rw[W3z,V3z];rfl
theorem zc{m:Nat}{h:Nat->D}{j:Nat}(hj:j<m):atD (Ls m h) (j:Int)=some (h j):=by
 unfold atD ixD;rw[dR,Y5z (by omega),Y5z (by omega)];simp[kj hj]
theorem qU{l:List D}{j:Nat}{d:D}(h:l[j]?=some d):atD l (j:Int)=some d:=by
 have hj:=(List.getElem?_eq_some_iff.mp h).1;unfold atD ixD;rw[Y5z (by omega),Y5z (by omega)];simpa using h
theorem wB{n:Nat}:cI 0 (n:Int)=Ls n fun k=>.int k:=by
 unfold cI Ls;simp
def Zv(cx:Cxt)(sc:Scope)(ρ:Rho)(x:Str):Option D:=if aF x then(match sc.names.lookup x with
    | some .local=>(match ρ.lookup x with | some (.sh d)=>some d | _=>none)
    | some .cell=>(match ρ.lookup x with | some (.sh d)=>some d | _=>none)
    | some .free=>(match ρ.lookup x with | some (.sh d)=>some d | _=>none)
    | some .globalImplicit=>cx.cst.lookup x
    | _=>none) else none
def ZS(c:Const):Option D:=(match c with
    | .none=>some .non
    | .bool b=>some (.bl b)
    | .int i=>some (.int i)
    | .str x=>some (.str x)
    | _=>none)
section
variable {cx:Cxt} {n:Nat} {sc scope:Scope} {ρ:Rho} {a b c e:Expr} {es:List Expr} {p q:Pos} {x y z d:D} {ds:List D} {nm:Str} {op op':CmpOp}
theorem xName(h:Zv cx sc ρ nm=some d):ev cx (n+1) sc ρ (.Name nm p)=some d:=h
theorem ak{k:Const}{j:Nat}(h:ZS k=some d):ev cx (n+1) sc ρ (.Constant k j p)=some d:=h
theorem cg{o:Operator}(h1:ev cx n sc ρ a=some x)(h2:ev cx n sc ρ b=some y)(h:binop o x y=some d):ev cx (n+1) sc ρ (.BinOp a o b p)=some d:=by
 simp only[ev,h1,h2];exact h
theorem NK{t:Bool}(h1:ev cx n sc ρ a=some (.bl t)):ev cx (n+1) sc ρ (.UnaryOp .Not a p)=some (.bl (!t)):=by
 simp only[ev,h1];rfl
theorem cW(h1:ev cx n sc ρ a=some (.bl true)):ev cx (n+1) sc ρ (.UnaryOp .Not a p)=some (.bl false):=NK h1
theorem pU(h1:ev cx n sc ρ a=some (.bl false)):ev cx (n+1) sc ρ (.UnaryOp .Not a p)=some (.bl true):=NK h1
theorem Ez{i:Int}(h1:ev cx n sc ρ a=some (.int i)):ev cx (n+1) sc ρ (.UnaryOp .USub a p)=some (.int (-i)):=by
 simp only[ev,h1];rfl
theorem kJ(h1:ev cx n sc ρ a=some (.bl true))(h2:bR .And (ev cx n sc ρ) (b::es)=some d):bR .And (ev cx n sc ρ) (a::b::es)=some d:=by
 simp only[bR,h1];exact h2
theorem zG(h1:ev cx n sc ρ a=some (.bl false)):bR .And (ev cx n sc ρ) (a::b::es)=some (.bl false):=by
 simp only[bR,h1];rfl
theorem nD(h1:ev cx n sc ρ a=some (.bl false))(h2:bR .Or (ev cx n sc ρ) (b::es)=some d):bR .Or (ev cx n sc ρ) (a::b::es)=some d:=by
 simp only[bR,h1];exact h2
theorem Nz(h1:ev cx n sc ρ a=some (.bl true)):bR .Or (ev cx n sc ρ) (a::b::es)=some (.bl true):=by
 simp only[bR,h1];rfl
theorem jc{o:BoolOp}(h1:ev cx n sc ρ a=some d):bR o (ev cx n sc ρ) [a]=some d:=h1
theorem cj{o:BoolOp}(h:bR o (ev cx n sc ρ) es=some d):ev cx (n+1) sc ρ (.BoolOp o es p)=some d:=h
theorem bV(h1:ev cx n sc ρ a=some x)(h2:ev cx n sc ρ b=some y)(h:cmpop op x y=some d):ev cx (n+1) sc ρ (.Compare a [op] [b] p)=some d:=by
 simp only[ev,h1,h2];exact h
theorem Jz(h1:ev cx n sc ρ a=some x)(h2:ev cx n sc ρ b=some y)(h:cmpop op x y=some (.bl true))(h3:ev cx n sc ρ c=some z)(h4:cmpop op' y z=some d)(hp:aG c=true:=by rfl):ev cx (n+1) sc ρ (.Compare a [op,op'] [b,c] p)=some d:=by
 simp only[ev,h1,h2,h3,hp];show((cmpop op x y).bind asB).bind _=_;rw[h];exact h4
theorem Jx(h1:ev cx n sc ρ c=some (.bl true))(h2:ev cx n sc ρ a=some d):ev cx (n+1) sc ρ (.IfExp c a b p)=some d:=by
 simp only[ev,h1];exact h2
theorem Jy(h1:ev cx n sc ρ c=some (.bl false))(h2:ev cx n sc ρ b=some d):ev cx (n+1) sc ρ (.IfExp c a b p)=some d:=by
 simp only[ev,h1];exact h2
theorem aL{f:Expr->Option D}:jQ f []=some []:=rfl
theorem aj{f:Expr->Option D}(h1:f a=some x)(h2:jQ f es=some ds):jQ f (a::es)=some (x::ds):=by
 simp only[jQ,h1,h2];rfl
theorem cV{j:Nat}(h1:jQ (ev cx n sc ρ) es=some ds)(hz:szl ds.length=true):ev cx (n+1) sc ρ (.Tuple es j p)=some (.tup ds):=by
 simp only[ev,h1];show(if szl ds.length=true then _ else _)=_;rw[Y5z hz]
theorem nF(h1:jQ (ev cx n sc ρ) es=some ds)(hz:szl ds.length=true):ev cx (n+1) sc ρ (.List es p)=some (.lst ds):=by
 simp only[ev,h1];show(if szl ds.length=true then _ else _)=_;rw[Y5z hz]
theorem Fx{x:D}{i:Int}{xs:List D}(h:items x=some xs):N5 x (.int i)=atD xs i:=by cases x<;>simp[items] at h<;>subst h<;>rfl
theorem xIx{i:Int}{xs:List D}(h1:ev cx n sc ρ a=some x)(h2:ev cx n sc ρ b=some (.int i))(h3:items x=some xs)(h4:atD xs i=some d)(hs:aG b=true:=by rfl):ev cx (n+1) sc ρ (.Subscript a b p)=some d:=by
 simp only[ev,h1];show Option.bind _ _=_
 cases b<;>first | (simp[aG] at hs;done) | (simp only[h2];show N5 x (.int i)=some d;rw[Fx h3];exact h4)
theorem uc{t:Expr}{T:String}(hg:bx cx sc nm=some "isinstance")(ht:tyOf cx sc t=some T)(hk:fQ T=true)(h1:ev cx n sc ρ a=some x)(h:Dz T x=c')(hxo:xOf cx sc t=none:=by rfl)(hne:isExc x=false:=by rfl):ev cx (n+1) sc ρ (.Call (.Name nm q) [a,t] [] p)=some (.bl c'):=by
 unfold bx at hg;split at hg
 ·rename_i hgl
  subst h;simp only[ev,hgl,hg,h1,ht,X5z,hxo,bind,Y2z]
  cases x<;>first | (show(if fQ T=true then _ else _)=_;rw[Y5z hk]) | exact absurd hne (by simp[isExc])
 ·cases hg
theorem dY{B:String}(hg:bx cx sc nm=some B)(hw:Cm cx sc B es=.al)(hn:(B=="isinstance"||es.isEmpty)=false)(h1:jQ (ev cx n sc ρ) es=some ds)(h:blt B ds=some d):ev cx (n+1) sc ρ (.Call (.Name nm q) es [] p)=some d:=by
 rw[Bool.or_eq_false_iff] at hn;unfold bx at hg;split at hg
 ·rename_i hgl
  simp only[ev,hgl,hg,X5z];split
  ·rename_i he;cases he;simp at hn
  ·rename_i he;cases he
   simp only[hw,hn.2,h1,U1z,V5z];exact h
  ·rename_i he;cases he
 ·cases hg
def isFn(cx:Cxt)(sc:Scope)(nm:Str)(es:List Expr):Bool:=mF cx sc nm&&(cx.blt.lookup nm).isNone&&cx.fns.contains nm && !es.isEmpty
theorem aH(hf:isFn cx sc nm es=true)(h1:jQ (ev cx n sc ρ) es=some ds)(h:cx.call nm ds=some d):ev cx (n+1) sc ρ (.Call (.Name nm q) es [] p)=some d:=by
 unfold isFn at hf;rw[X2z,X2z,X2z] at hf;obtain⟨⟨⟨h2,h3⟩,h4⟩,h5⟩:=hf
 have h3':cx.blt.lookup nm=none:=by simpa using h3
 simp only[ev,h2,h3',h4,h5,Q4z,X5z,h1];exact h
theorem wR1{tup:Bool}{j:Int}(hw:qY cx sc e=.r1 a)(h1:ev cx n sc ρ a=some (.int j))(hz:dU j=true):evI cx tup (ev cx n sc ρ) sc e=some (cI 0 j):=by
 unfold evI;rw[hw];simp only[h1,Y2z,asI];show(if dU j=true then _ else _)=_;rw[Y5z hz]
theorem wZp{xs ys:List D}(hw:qY cx sc e=.zp a b)(h1:ev cx n sc ρ a=some (.tup xs))(h2:ev cx n sc ρ b=some (.tup ys)):evI cx true (ev cx n sc ρ) sc e=some ((xs.zip ys).map fun q=>.tup [q.1,q.2]):=by
 unfold evI;rw[hw];simp only[h1,h2,bind,Y2z];rfl
theorem wEn{xs:List D}(hw:qY cx sc e=.en a)(h1:ev cx n sc ρ a=some (.tup xs)):evI cx true (ev cx n sc ρ) sc e=some (enD xs):=by
 unfold evI;rw[hw];simp only[h1,bind,Y2z];rfl
theorem wSq{tup:Bool}{xs:List D}(hw:qY cx sc e=.sq)(h1:ev cx n sc ρ e=some x)(h2:items x=some xs):evI cx tup (ev cx n sc ρ) sc e=some xs:=by
 unfold evI;rw[hw];simp only[h1,Y2z];exact h2
theorem bZ{f:D->Option (Option D)}{h g:Nat->D}:∀ {m:Nat},(∀ i,i<m->f (h i)=some (some (g i)))->bD f (Ls m h)=some (Ls m g):=by
 have key:∀ (l:List Nat),(∀ i∈l,f (h i)=some (some (g i)))->bD f (l.map h)=some (l.map g):=by
  intro l
  induction l with
  | nil=>intro _;rfl
  | cons i r ih =>
   intro hi;simp only[O4z,bD,hi i O1z,ih fun j hj=>hi j (Y0z _ hj)];rfl
 intro m hm;exact key _ fun i hi=>hm i (List.mem_range.mp hi)
def cF(cx:Cxt)(n:Nat)(sc scope:Scope)(ρ:Rho)(tg elt:Expr)(ifs:List Expr):D->Option (Option D):=fun d=>do
 let ρ1 <- fO scope tg d (bC scope ρ)
 let b <- mH (ev cx n (jP scope sc) ρ1) ifs
 if b then(ev cx n (jP scope sc) ρ1 elt).map some else some none
theorem dH{tg elt:Expr}{ρ1:Rho}(h1:fO scope tg x (bC scope ρ)=some ρ1)(h2:ev cx n (jP scope sc) ρ1 elt=some d):cF cx n sc scope ρ tg elt [] x=some (some d):=by
 simp only[cF,h1,mH];show Option.map some (ev cx n (jP scope sc) ρ1 elt)=_;rw[h2];rfl
theorem yS{tg elt:Expr}{ρ1:Rho}{t:Bool}(h1:fO scope tg x (bC scope ρ)=some ρ1)(h3:ev cx n (jP scope sc) ρ1 c=some (.bl t))(h2:ev cx n (jP scope sc) ρ1 elt=some d):cF cx n sc scope ρ tg elt [c] x=some (if t then some d else none):=by
 simp only[cF,h1,mH,h3,h2,bind,Y2z,asB]
 cases t<;>rfl
theorem dg{tg elt iter:Expr}{ifs:List Expr}{l out:List D}(hok:gP sc scope=true)(hI:evI cx (d7 tg) (ev cx n sc ρ) sc iter=some l)(hz:szl l.length=true)(hgo:bD (cF cx n sc scope ρ tg elt ifs) l=some out) :
  ev cx (n+1) sc ρ (.ListComp elt [⟨tg,iter,ifs,0⟩] scope p)=some (.lst out):=by
 simp only[ev,hok,hI];show(if szl l.length=true then(bD (cF cx n sc scope ρ tg elt ifs) l).bind (fun out=>some (D.lst out)) else none)=some (D.lst out);rw[Y5z hz,hgo];rfl
variable {F:Nat} {f:Rho->Stmt->Option Fl} {r:List Stmt} {fl:Fl} {m:Nat}
abbrev blk(cx:Cxt)(F m:Nat)(sc:Scope):List Stmt->Rho->Option Fl:=iI (fun ρ s=>st cx F m sc ρ s)
theorem bN:blk cx F m sc [] ρ=some (.nxt ρ):=rfl
def pZ(cx:Cxt)(F m:Nat)(sc:Scope)(r:List Stmt):Fl->Option Fl
 | .ret d=>some (.ret d)
 | .nxt ρ'=>blk cx F m sc r ρ'
theorem gSt{s:Stmt}{fl1:Fl}(h:st cx F m sc ρ s=some fl1)(k:pZ cx F m sc r fl1=some fl):blk cx F m sc (s::r) ρ=some fl:=by
 show(st cx F m sc ρ s).bind _=_;rw[h]
 cases fl1<;>exact k
theorem cZ(h:ev cx F sc (frz F e ρ) e=some d):blk cx F (m+1) sc (.Return (some e) p::r) ρ=some (.ret d):=by
 refine gSt (fl1:=.ret d) ?_ rfl;simp only[st,h];rfl
theorem mJ{px:Pos}(ho:(ownIn sc nm&&(ρ.map (·.1)).contains nm)=true)(h:ev cx F sc (frz F e ρ) e=some d)(k:blk cx F (m+1) sc r (cB (frz F e ρ) nm (lB e d))=some fl)(hoo:(ooE cx sc e&&lU (frz F e ρ) nm)=false:=by rfl)(hno:(aZ e && !Ao (frz F e ρ) nm)=false:=by rfl)(hle:Jq cx sc e=false:=by rfl)(hrd:rdA e=false:=by rfl):blk cx F (m+1) sc (.Assign [.Name nm px] e p::r) ρ=some fl:=by
 refine gSt (fl1:=.nxt _) ?_ k;simp only[st,h,Y5z ho,hoo,hno,hle,hrd,D4z,U1z,V5z]
theorem gTup{es:List Expr}{j:Nat}{ρ':Rho}{l:List D}(hs:(swp sc es e).isSome=true)(h:ev cx F sc (frz F e ρ) e=some d)(hl:items d=some l)(hb:bindNames sc es l (frz F e ρ)=some ρ')(k:blk cx F (m+1) sc r ρ'=some fl):blk cx F (m+1) sc (.Assign [.Tuple es j q] e p::r) ρ=some fl:=by
 refine gSt (fl1:=.nxt _) ?_ k;simp only[st,h,hs,Bool.true_or,X5z,hl,bind,Y2z,hb,O3z]
def nu:Expr->Bool
 | .Call (.Name ..) _ _ _=>true
 | _=>false
theorem Bk(hx:nu e=true)(h:ev cx F sc (frz F e ρ) e=some d)(k:blk cx F (m+1) sc r (frz F e ρ)=some fl):blk cx F (m+1) sc (.Expr e p::r) ρ=some fl:=by
 unfold nu at hx;split at hx
 ·refine gSt (fl1:=.nxt _) ?_ k
  simp only[st,h,O3z]
 ·cases hx
theorem ZR{px ap cp:Pos}{M:Str}{ds:List D}(hx:(frz F e ρ).lookup nm=some (.ow ds))(ho:(ownIn sc nm&&aF nm&&ap.endLine==cp.line)=true)(hM:(M=="append")=true)(hz:szl (ds.length+1)=true)(h:ev cx F sc (frz F e ρ) e=some d)(k:blk cx F (m+1) sc r (cB (frz F e ρ) nm (.ow (ds++[d])))=some fl) :
  blk cx F (m+1) sc (.Expr (.Call (.Attribute (.Name nm px) M ap) [e] [] cp) p::r) ρ=some fl:=by
 refine gSt (fl1:=.nxt _) ?_ k;simp only[st,hx,ho,hM,hz,Q4z,X5z,h,O3z]
theorem YB{px ap cp:Pos}{M:Str}{ds zs:List D}(hx:(frz F e ρ).lookup nm=some (.ow ds))(ho:(ownIn sc nm&&aF nm&&ap.endLine==cp.line)=true)(hM:(M=="append")=false)(hM2:(M=="extend")=true)(hz:szl (ds.length+zs.length)=true)(h:ev cx F sc (frz F e ρ) e=some (.lst zs))(k:blk cx F (m+1) sc r (cB (frz F e ρ) nm (.ow (ds++zs)))=some fl) :
  blk cx F (m+1) sc (.Expr (.Call (.Attribute (.Name nm px) M ap) [e] [] cp) p::r) ρ=some fl:=by
 refine gSt (fl1:=.nxt _) ?_ k;simp only[st,hx,ho,hM,hM2,D4z,U1z,V5z,X5z,h,bind,Y2z,hz]
theorem uF{A B:List Stmt}{fl1:Fl}(h:ev cx F sc (frz F c ρ) c=some (.bl true))(k:blk cx F m sc A ρ=some fl1)(k2:pZ cx F (m+1) sc r fl1=some fl):blk cx F (m+1) sc (.If c A B p::r) ρ=some fl:=by
 refine gSt ?_ k2;have k':iI (fun ρ s=>st cx F m sc ρ s) A ρ=some fl1:=k;simp only[st,h,bind,Y2z,asB,X5z,k']
theorem VJ{A B:List Stmt}{fl1:Fl}(h:ev cx F sc (frz F c ρ) c=some (.bl false))(k:blk cx F m sc B ρ=some fl1)(k2:pZ cx F (m+1) sc r fl1=some fl):blk cx F (m+1) sc (.If c A B p::r) ρ=some fl:=by
 refine gSt ?_ k2;have k':iI (fun ρ s=>st cx F m sc ρ s) B ρ=some fl1:=k;simp only[st,h,bind,Y2z,asB,U1z,V5z,k']
theorem sX{A:List Stmt}(h:ev cx F sc (frz F c ρ) c=some (.bl false))(k:blk cx F (m+1) sc r ρ=some fl):blk cx F (m+1) sc (.If c A [] p::r) ρ=some fl :=
 VJ h bN k
theorem mO{f:D->Rho->Option Fl}{h:Nat->D}{R:Nat->Rho}{N:Nat}(hs:∀ i,i<N->f (h i) (R i)=some (.nxt (R (i+1)))):bO f (Ls N h) (R 0)=some (.nxt (R N)):=by
  have key:∀ (j i:Nat),i+j=N->bO f ((List.range' i j).map h) (R i)=some (.nxt (R N)):=by
    intro j
    induction j with
    | zero => intro i hi; have : i = N := by omega
              subst this;rfl
    | succ j ih =>
      intro i hi
      rw[List.range'_succ,O4z]
      simp only[bO,hs i (by omega)]
      exact ih (i+1) (by omega)
  have:=key N 0 (by omega)
  rw[<- List.range_eq_range'] at this
  exact this
def fF(cx:Cxt)(F m:Nat)(sc:Scope)(tg:Expr)(body:List Stmt):D->Rho->Option Fl:=fun d ρ=>do let ρ1 <- fO sc tg d ρ;iI (fun ρ s=>st cx F m sc ρ s) body ρ1
theorem eH{tg:Expr}{body:List Stmt}{ρ1:Rho}(h1:fO sc tg d ρ=some ρ1)(h2:blk cx F m sc body ρ1=some fl):fF cx F m sc tg body d ρ=some fl:=by
 have h2':iI (fun ρ s=>st cx F m sc ρ s) body ρ1=some fl:=h2;simp only[fF,h1];exact h2'
theorem Yz{tg iter:Expr}{body:List Stmt}{l:List D}{fl1:Fl}(hI:evI cx (d7 tg) (ev cx F sc (frz F iter ρ)) sc iter=some l)(hgo:bO (fF cx F m sc tg body) l (frz F iter ρ)=some fl1)(k2:pZ cx F (m+1) sc r fl1=some fl):blk cx F (m+1) sc (.For tg iter body [] p::r) ρ=some fl:=by
 refine gSt ?_ k2;have hgo':bO (fun d ρ=>(fO sc tg d ρ).bind fun ρ1=>iI (fun ρ s=>st cx F m sc ρ s) body ρ1) l (frz F iter ρ)=some fl1:=hgo;simp only[st,hI,bind,Y2z,hgo']
theorem yj{c:Expr}{body:List Stmt}{ρ2:Rho}(hgo:rm (fun ρ=>((ev cx F sc (frz F c ρ) c).bind asB).map fun b=>(frz F c ρ,b)) (fun ρ=>blk cx F m sc body ρ) whF ρ=some (.nxt ρ2))(k2:blk cx F (m+1) sc r ρ2=some fl):blk cx F (m+1) sc (.While c body [] p::r) ρ=some fl:=by
 refine gSt (fl1:=.nxt ρ2) ?_ k2;have hgo':rm (fun ρ=>((ev cx F sc (frz F c ρ) c).bind asB).map fun b=>(frz F c ρ,b)) (fun ρ=>iI (fun ρ s=>st cx F m sc ρ s) body ρ) whF ρ=some (.nxt ρ2):=hgo;simp only[st,hgo']
theorem Ck{f:Rho->Option Fl}{c:Expr}{N:Nat}{ρ1 ρ2:Rho}(hc:frz F c ρ=ρ1)(h:ev cx F sc ρ1 c=some (.bl true))(hf:f ρ1=some (.nxt ρ2))(k:rm (fun ρ=>((ev cx F sc (frz F c ρ) c).bind asB).map fun b=>(frz F c ρ,b)) f N ρ2=some fl):rm (fun ρ=>((ev cx F sc (frz F c ρ) c).bind asB).map fun b=>(frz F c ρ,b)) f (N+1) ρ=some fl:=by
 subst hc;simp only[rm,h,Y2z,asB,O3z,X5z,hf];exact k
theorem qZ{f:Rho->Option Fl}{c:Expr}{N:Nat}{ρ1:Rho}(hc:frz F c ρ=ρ1)(h:ev cx F sc ρ1 c=some (.bl false)):rm (fun ρ=>((ev cx F sc (frz F c ρ) c).bind asB).map fun b=>(frz F c ρ,b)) f (N+1) ρ=some (.nxt ρ1):=by
 subst hc;simp only[rm,h,Y2z,asB,O3z,U1z,V5z]
abbrev cxN(P:Pg)(F k:Nat):Cxt:=⟨P.cst,P.blt,P.defs.map (·.1),P.exs,P.top,true,aD P F k,eO P F k⟩
theorem Jb{P:Pg}{k:Nat}:P.cx (eN P F k)=cxN P F k:=by
 have e1:aD P F k=fun f ds=>Rs.val? (eN P F k f ds):=by funext f ds;exact gQ
 have e2:eO P F k=fun f ds=>Rs.exc? (eN P F k f ds):=by funext f ds;exact tQ
 unfold cxN;rw[e1,e2];rfl
theorem bU{P:Pg}{k:Nat}{f:Str}{fd:Fd}(hf:P.defs.lookup f=some fd)(hl:(ds.length==fd.ps.length)=true)(h:blk (cxN P F k) F F fd.sc fd.body (bY fd ds)=some (.ret d)):aD P F (k+1) f ds=some d:=by
 have h':iI (fun ρ s=>st (cxN P F k) F F fd.sc ρ s) fd.body (bY fd ds)=some (.ret d):=h;rw[gQ];simp only[jN,hf,hl,X5z,pG,Jb,h',Rs.val?]
theorem u0{P:Pg}{k:Nat}{f:Str}{fd:Fd}{ρ':Rho}(hf:P.defs.lookup f=some fd)(hl:(ds.length==fd.ps.length)=true)(h:blk (cxN P F k) F F fd.sc fd.body (bY fd ds)=some (.nxt ρ')):aD P F (k+1) f ds=some .non:=by
 have h':iI (fun ρ s=>st (cxN P F k) F F fd.sc ρ s) fd.body (bY fd ds)=some (.nxt ρ'):=h;rw[gQ];simp only[jN,hf,hl,X5z,pG,Jb,h',Rs.val?]
def yV(cx:Cxt)(F m:Nat)(sc:Scope)(l:List Stmt)(ρ:Rho)(c:Str):Prop:=iI (fun ρ s=>st cx F m sc ρ s) l ρ=none/\∃ ρ',fZ (fun ρ s=>st cx F m sc ρ s) (fun ρ s=>stx cx F m sc ρ s) l ρ=some (c,ρ')
theorem pR{P:Pg}{k:Nat}{f:Str}{fd:Fd}{c:Str}(hf:P.defs.lookup f=some fd)(hl:(ds.length==fd.ps.length)=true)(h:yV (cxN P F k) F F fd.sc fd.body (bY fd ds) c):eO P F (k+1) f ds=some c/\aD P F (k+1) f ds=none:=by
 obtain⟨h1,ρ',h2⟩:=h;rw[tQ,gQ];simp only[jN,hf,hl,X5z,pG,Jb,h1,h2,Rs.exc?,Rs.val?];trivial
theorem tR{s:Stmt}{ρ1:Rho}{c:Str}(h1:st cx F m sc ρ s=some (.nxt ρ1))(h2:yV cx F m sc r ρ1 c):yV cx F m sc (s::r) ρ c:=by
 obtain⟨h3,ρ',h4⟩:=h2;refine⟨?_,ρ',?_⟩
 ·show(st cx F m sc ρ s).bind _=_
  rw[h1];exact h3
 ·simp only[fZ,h1];exact h4
theorem tU{s:Stmt}{ρ1:Rho}{c:Str}(h1:st cx F m sc ρ s=none)(h2:stx cx F m sc ρ s=some (c,ρ1)):yV cx F m sc (s::r) ρ c:=by
 refine⟨?_,ρ1,?_⟩
 ·show(st cx F m sc ρ s).bind _=_
  rw[h1];rfl
 ·simp only[fZ,h1];exact h2
theorem qW{A B:List Stmt}{cn:Str}{np p1 cpos rp:Pos}{txt:Str}{j:Nat}(h:ev cx F sc (frz F c ρ) c=some (.bl true))(hr:(cx.rs&&mF cx sc cn&&cx.exs.contains cn&&aF cn)=true) :
  yV cx F (m+2) sc (.If c (.Raise (some (.Call (.Name cn np) [.Constant (.str txt) j p1] [] cpos)) none rp::A) B p::r) ρ cn:=by
 refine tU (ρ1:=frz F c ρ) ?_ ?_
 ·simp only[st,h,bind,Y2z,asB,X5z]
  rfl
 ·simp only[stx,h,Y2z,asB,X5z,fZ]
  simp only[st,Y5z hr]
theorem Oj{cn:Str}(hx:nu e=true)(h:ev cx F sc (frz F e ρ) e=none)(h2:evx cx F sc (frz F e ρ) e=some cn):yV cx F (m+1) sc (.Expr e p::r) ρ cn:=by
 refine tU (ρ1:=frz F e ρ) ?_ ?_
 ·unfold nu at hx
  split at hx
  ·simp only[st,h,X3z]
  ·cases hx
 ·unfold nu at hx
  split at hx
  ·simp only[stx,aZ,U1z,V5z,h2,O3z]
  ·cases hx
theorem jV{c:Str}(hf:(isFn cx sc nm es&&es.all aG)=true)(h1:jQ (ev cx n sc ρ) es=some ds)(h:cx.callx nm ds=some c)(h0:cx.call nm ds=none):evx cx (n+1) sc ρ (.Call (.Name nm q) es [] p)=some c/\ev cx (n+1) sc ρ (.Call (.Name nm q) es [] p)=none:=by
 unfold isFn at hf;simp only[X2z] at hf;obtain⟨⟨⟨⟨h2,h3⟩,h4⟩,h5⟩,h6⟩:=hf
 have h3':cx.blt.lookup nm=none:=by simpa using h3
 constructor
 ·simp only[evx,h2,h5,h6,h4,Q4z,X5z,h1,h]
 ·simp only[ev,h2,h3',X5z,h4,h5,Q4z,h1,bind,Y2z,h0]
end
abbrev row(n:Nat)(f:Nat->Int):D:=.tup (Ls n fun j=>.int (f j))
abbrev tbl(m n:Nat)(f:Nat->Nat->Int):D:=.tup (Ls m fun i=>.tup (Ls n fun j=>.int (f i j)))
def Wm:Nat->(Nat->Int)->Int
 | 0,_=>0
 | n+1,f=>Wm n f+f n
theorem V7{n:Nat}{h:Nat->D}:blt "len" [.tup (Ls n h)]=some (.int n):=by
 show some (D.int ((Ls n h).length:Int))=_;rw[dR]
theorem Er{l:List D}:blt "tuple" [.lst l]=some (.tup l):=rfl
theorem je{n:Nat}(h:n<=100000):szl n=true:=by unfold szl;exact E4z h
theorem nJ{α:Type}{n:Nat}{h:Nat->α}(hn:n<=100000):szl (Ls n h).length=true:=by rw[dR];exact je hn
theorem Zc{n:Nat}(h:n<=100000):dU (n:Int)=true:=by
 unfold dU;rw[E4z (by omega),E4z (by omega)];rfl
theorem oLe{i j:Int}(h:i<=j):cmpop .LtE (.int i) (.int j)=some (.bl true):=by
 show some (D.bl (decide (i<=j)))=_;rw[E4z h]
theorem oLt{i j:Int}(h:i<j):cmpop .Lt (.int i) (.int j)=some (.bl true):=by
 show some (D.bl (decide (i<j)))=_;rw[E4z h]
theorem Qn{i j:Int}(h:¬ i<j):cmpop .Lt (.int i) (.int j)=some (.bl false):=by
 show some (D.bl (decide (i<j)))=_;rw[D3z h]
theorem Jm{i j:Int}(h:i=j):cmpop .Eq (.int i) (.int j)=some (.bl true):=by
 subst h;show some (D.bl (i==i))=_;rw[P2z]
theorem Jo{i j:Int}(h:i≠j):cmpop .Eq (.int i) (.int j)=some (.bl false):=by
 show some (D.bl (i==j))=_;rw[K1z.mpr h]
theorem Oa{i j:Int}(h:i=j):cmpop .NotEq (.int i) (.int j)=some (.bl false):=by
 subst h;show some (D.bl (!(i==i)))=_;rw[P2z];rfl
theorem qR{i j:Int}(h:small i=true\/small j=true):binop .Mult (.int i) (.int j)=some (.int (i*j)):=by
 show(if(small i||small j||(mid i&&mid j))=true then _ else _)=_;rw[Y5z (by rw[S3z,S3z];exact .inl h)]
theorem Oh{i j:Int}(h:0<j):binop .Mod (.int i) (.int j)=some (.int (i%j)):=by
 show(if decide (0<j)=true then _ else _)=_;rw[Y5z (E4z h)]
theorem ZW{i j:Int}(h:0<j)(h':j<1073741824):binop .FloorDiv (.int i) (.int j)=some (.int (i / j)):=by
 show(if(decide (0<j)&&decide (j<1073741824))=true then _ else _)=_;rw[Y5z (by rw[E4z h,E4z h'];rfl)]
mutual
theorem yM:∀ d:D,dep d<1000->deq d d=true
 | .non,_=>rfl
 | .bl b,_=>by simp[deq]
 | .int i,_=>by simp[deq]
 | .str x,_=>by simp[deq]
 | .tup xs,h=>by simp only[deq];exact mR xs (by simp only[dep] at h;omega)
 | .lst xs,h=>by simp only[deq];exact mR xs (by simp only[dep] at h;omega)
 | .exc c,h=>absurd h (by simp[dep])
 | .dic _ _,h=>absurd h (by simp[dep])
 | .dt _ _,h=>absurd h (by simp[dep])
theorem mR:∀ ds:List D,deps ds<1000->oZ ds ds=true
 | [],_=>rfl
 | d::ds,h=>by
  simp only[deps] at h;simp only[oZ,yM d (by omega),mR ds (by omega),Q4z]
end
theorem oEq{x y:D}(h1:dep x<=50)(h2:dep y<=50):cmpop .Eq x y=some (.bl (deq x y)):=by
 show(if(decide (dep x<=50)&&decide (dep y<=50))=true then some (D.bl (deq x y)) else none)=_;rw[E4z h1,E4z h2];rfl
theorem oNe{x y:D}(h1:dep x<=50)(h2:dep y<=50):cmpop .NotEq x y=some (.bl (!deq x y)):=by
 show(if(decide (dep x<=50)&&decide (dep y<=50))=true then some (D.bl (!deq x y)) else none)=_;rw[E4z h1,E4z h2];rfl
theorem jG{b:Nat}:∀ {l:List D},(∀ d∈l,dep d<=b)->deps l<=b
 | [],_=>H5z _
 | d::r,h=>by
  simp only[deps];exact Nat.max_le.mpr ⟨h d O1z,jG fun e he=>h e (Y0z _ he)⟩
section
variable {cx:Cxt} {n:Nat} {sc scope:Scope} {ρ:Rho} {a b c e:Expr} {es:List Expr} {p q:Pos} {x y z d:D} {ds:List D} {nm:Str}
theorem Cp{tup:Bool}{j:Nat}(hw:qY cx sc e=.r1 a)(h1:ev cx n sc ρ a=some (.int j))(hz:j<=100000):evI cx tup (ev cx n sc ρ) sc e=some (Ls j fun k=>.int k):=by
 rw[wR1 hw h1 (Zc hz),wB]
theorem Wg{m:Nat}{h g:Nat->D}(hw:qY cx sc e=.zp a b)(h1:ev cx n sc ρ a=some (.tup (Ls m h)))(h2:ev cx n sc ρ b=some (.tup (Ls m g))):evI cx true (ev cx n sc ρ) sc e=some (Ls m fun i=>.tup [h i,g i]):=by
 rw[wZp hw h1 h2,Nt,Nu]
theorem Jk{tup:Bool}{xs:List D}(hw:qY cx sc e=.sq)(h1:ev cx n sc ρ e=some (.tup xs)):evI cx tup (ev cx n sc ρ) sc e=some xs:=wSq hw h1 rfl
theorem Fe{m j:Nat}{h:Nat->D}(h1:ev cx n sc ρ a=some (.tup (Ls m h)))(h2:ev cx n sc ρ b=some (.int j))(hj:j<m)(hs:aG b=true)(hd:h j=d):ev cx (n+1) sc ρ (.Subscript a b p)=some d:=hd▸xIx h1 h2 rfl (zc hj) hs
theorem Ol{m:Nat}{h:Nat->D}(h1:ev cx n sc ρ a=some (.tup (Ls m h)))(h2:ev cx n sc ρ b=some (.int 0))(hj:0<m)(hs:aG b=true)(hd:h 0=d):ev cx (n+1) sc ρ (.Subscript a b p)=some d:=hd▸xIx h1 h2 rfl (zc (j:=0) hj) hs
theorem EY{m j:Nat}{h:Nat->D}(h1:ev cx n sc ρ a=some (.lst (Ls m h)))(h2:ev cx n sc ρ b=some (.int j))(hj:j<m)(hs:aG b=true)(hd:h j=d):ev cx (n+1) sc ρ (.Subscript a b p)=some d:=hd▸xIx h1 h2 rfl (zc hj) hs
end
section
variable {cx:Cxt} {n:Nat} {sc scope:Scope} {ρ:Rho} {a b c e:Expr} {es:List Expr} {p q:Pos} {x y z d:D} {ds:List D} {nm:Str}
end
theorem M9{m:Nat}{h:Nat->D}:enD (Ls m h)=Ls m fun i=>.tup [.int i,h i]:=by
 apply List.ext_getElem?;intro i;unfold enD;rw[List.getElem?_map,List.getElem?_zipIdx]
 by_cases hi:i<m
 ·rw[kj hi,kj hi];simp
 ·rw[List.getElem?_eq_none (by rw[dR];omega),List.getElem?_eq_none (by rw[dR];omega)];rfl
theorem Wh{cx:Cxt}{n:Nat}{sc:Scope}{ρ:Rho}{a e:Expr}{m:Nat}{h:Nat->D}(hw:qY cx sc e=.en a)(h1:ev cx n sc ρ a=some (.tup (Ls m h))):evI cx true (ev cx n sc ρ) sc e=some (Ls m fun i=>.tup [.int i,h i]):=by
 rw[wEn hw h1,M9]
theorem Wr{i j:Int}(h:¬ i<=j):cmpop .LtE (.int i) (.int j)=some (.bl false):=by
 show some (D.bl (decide (i<=j)))=_;rw[D3z h]
theorem oGt{i j:Int}:cmpop .Gt (.int i) (.int j)=some (.bl (decide (j<i))):=rfl
theorem Ws{i j:Int}:cmpop .LtE (.int i) (.int j)=some (.bl (decide (i<=j))):=rfl
section
variable {cx:Cxt} {n:Nat} {sc scope:Scope} {ρ:Rho} {a b c e:Expr} {es:List Expr} {p q:Pos} {x y z d:D} {ds:List D} {nm:Str} {F m:Nat} {r:List Stmt} {fl:Fl} {op op':CmpOp}
theorem JB(h1:ev cx n sc ρ a=some x)(h2:ev cx n sc ρ b=some y)(h:cmpop op x y=some (.bl false))(hp:aG c=true:=by rfl):ev cx (n+1) sc ρ (.Compare a [op,op'] [b,c] p)=some (.bl false):=by
 simp only[ev,hp,Bool.not_true,U1z,V5z,h1,h2,bind,Y2z,h,asB]
theorem VP{px ap cp:Pos}{M:Str}{ds zs:List D}(hx:(frz F e ρ).lookup nm=some (.ow ds))(ho:(ownIn sc nm&&aF nm&&ap.endLine==cp.line)=true)(hM:(M=="append")=false)(hM2:(M=="extend")=true)(hz:szl (ds.length+zs.length)=true)(h:ev cx F sc (frz F e ρ) e=some (.tup zs))(k:blk cx F (m+1) sc r (cB (frz F e ρ) nm (.ow (ds++zs)))=some fl) :
  blk cx F (m+1) sc (.Expr (.Call (.Attribute (.Name nm px) M ap) [e] [] cp) p::r) ρ=some fl:=by
 refine gSt (fl1:=.nxt _) ?_ k;simp only[st,hx,ho,hM,hM2,D4z,U1z,V5z,X5z,h,bind,Y2z,hz]
end
section
variable {cx:Cxt} {n:Nat} {sc scope:Scope} {ρ:Rho} {a b c e:Expr} {es:List Expr} {p q:Pos} {x y z d:D} {ds:List D} {nm:Str} {F m:Nat} {r:List Stmt} {fl:Fl}
theorem Mu{body o f:List Stmt}{hs:List ExceptHandler}{t:Str×Str×Str}{fl1:Fl}(ht:um hs o f=some t)(h:blk cx F m sc body ρ=some fl1)(k:pZ cx F (m+1) sc r fl1=some fl):blk cx F (m+1) sc (.Try body hs o f p::r) ρ=some fl:=by
 obtain⟨t1,t2,t3⟩:=t;refine gSt ?_ k;have h':iI (fun ρ s=>st cx F m sc ρ s) body ρ=some fl1:=h;simp only[st,ht,h']
theorem VG{body o f:List Stmt}{hs:List ExceptHandler}{t e1 kn c':Str}{ρ':Rho}(ht:um hs o f=some (t,e1,kn))(h1:iI (fun ρ s=>st cx F m sc ρ s) body ρ=none)(h2:fZ (fun ρ s=>st cx F m sc ρ s) (fun ρ s=>stx { cx with rs:=false } F m sc ρ s) body ρ=some (c',ρ'))
  (hc:(mF cx sc t&&t==cx.top&&cx.exs.contains c'&&e1 !=kn&&aF e1&&sc.names.lookup e1==some .local&&sc.names.lookup kn==some .local&&(ρ.map (·.1)).contains e1&&(ρ.map (·.1)).contains kn&&aF t)=true)
  (k:blk cx F (m+1) sc r (cB (cB ρ' kn (.sh (.exc c'))) e1 .no)=some fl):blk cx F (m+1) sc (.Try body hs o f p::r) ρ=some fl:=by
 refine gSt (fl1:=.nxt _) ?_ k;simp only[st,ht,h1,h2,Y5z hc]
theorem Ed{cx:Cxt}{n:Nat}{sc:Scope}{ρ:Rho}{e:Expr}{c:Str}(h:evx cx n sc ρ e=some c):Oe e=false:=by
 cases n with
 | zero=>cases h
 | succ n=>cases e<;>first | rfl | (simp[evx] at h)
end
section
variable {cx:Cxt} {n:Nat} {sc scope:Scope} {ρ:Rho} {a b c e:Expr} {p q:Pos}
end
theorem yN{x:D}:∀ {l:List D},x∈l->dep x<=deps l
 | y::l,h=>by
  simp only[deps];rcases List.mem_cons.mp h with rfl | h
  ·omega
  ·have:=yN h;omega
theorem Je{us vs:List D}(h:us.length+vs.length<=100000):binop .Add (.tup us) (.tup vs)=some (.tup (us++vs)):=by
 show(if szl (us.length+vs.length)=true then _ else _)=_;rw[Y5z (je h)]
theorem cN{f:D->Option (Option D)}{g:D->D}:∀ {l:List D},(∀ x∈l,f x=some (some (g x)))->bD f l=some (l.map g)
 | [],_=>rfl
 | x::l,h=>by
  simp only[bD,h x O1z,bind,Y2z,cN (l:=l) fun y hy=>h y (Y0z _ hy),O3z,O4z]
theorem uR{l:List D}{t:D->Bool}:blt "all" [.lst (l.map fun x=>.bl (t x))]=some (.bl (l.all t)):=by
 have key:∀ l:List D,pO (l.map fun x=>.bl (t x))=some (l.map t):=by
  intro l
  induction l with
  | nil=>rfl
  | cons a r ih=>simp only[O4z,pO,ih];rfl
 show(pO (l.map fun x=>.bl (t x))).bind (fun bs=>some (D.bl (bs.all id)))=_;rw[key,Y2z,List.all_map];rfl
theorem oV{f:D->Rho->Option Fl}{R:List D->Rho}{whole:List D}(h:∀ pre x post,pre++x::post=whole->f x (R pre)=some (.nxt (R (pre++[x])))):∀ {l pre:List D},pre++l=whole->bO f l (R pre)=some (.nxt (R whole))
 | [],pre,e=>by rw[H3z] at e;rw[e];rfl
 | x::l,pre,e=>by
  simp only[bO,h pre x l e];exact oV h (l:=l) (pre:=pre++[x]) (by rw[E2z];exact e)
def Hj:List D->Sl
 | []=>.no
 | x::r=>.sh (r.getLastD x)
theorem uD:∀ (l:List D) (x:D),Hj (l++[x])=.sh x
 | [],x=>rfl
 | y::l,x=>by
  show Sl.sh ((l++[x]).getLastD y)=_;simp
theorem Zu{x:D}(h:dep x<1000):isExc x=false:=by cases x<;>first | rfl | exact absurd h (by simp[dep])
def nOw:Sl->Bool
 | .ow _=>false
 | .oo _=>false
 | .od _=>false
 | _=>true
def fX(ρ:Rho):Bool:=ρ.all fun p=>nOw p.2
theorem cJ{F:Nat}{e:Expr}{ρ:Rho}(h:fX ρ=true):frz F e ρ=ρ:=by
 unfold frz
 conv=>rhs;rw[<- List.map_id ρ]
 apply M1z;intro p hp;have:=A3z.mp h p hp;obtain⟨x,s⟩:=p
 cases s<;>first | rfl | simp[nOw] at this
theorem yO{ρ:Rho}{x:Str}(h:fX ρ=true):Ao ρ x=true:=by
 unfold Ao;rw[A3z];intro p hp;have:=A3z.mp h p hp;obtain⟨y,s⟩:=p
 cases s<;>first | (simp[nOw] at this;done) | simp[Od]
section
variable {cx:Cxt} {sc:Scope} {ρ:Rho} {c e:Expr} {p:Pos} {d:D} {nm:Str} {F m:Nat} {r:List Stmt} {fl:Fl}
theorem YJ{px:Pos}(hc:fX ρ=true)(ho:(ownIn sc nm&&(ρ.map (·.1)).contains nm)=true)(h:ev cx F sc ρ e=some d)(k:blk cx F (m+1) sc r (cB ρ nm (lB e d))=some fl)(hoo:(ooE cx sc e&&lU ρ nm)=false:=by rfl)(hle:Jq cx sc e=false:=by rfl)(hrd:rdA e=false:=by rfl):blk cx F (m+1) sc (.Assign [.Name nm px] e p::r) ρ=some fl:=by
 refine mJ ho (by rw[cJ hc];exact h) ?_ (by rw[cJ hc];exact hoo) (by rw[cJ hc,yO hc];simp) hle hrd
 rw[cJ hc];exact k
theorem oE(h:aZ e=false):ooE cx sc e=false:=by
 cases e<;>first | rfl | exact absurd h (by simp[aZ])
theorem nT(h:aZ e=false):lB e d=.sh d:=by
 unfold lB;split
 ·rw[h];rfl
 ·rfl
theorem fj{px:Pos}{ρ':Rho}(hf:frz F e ρ=ρ')(ho:(ownIn sc nm&&(ρ.map (·.1)).contains nm)=true)(hfr:aZ e=false)(h:ev cx F sc ρ' e=some d)(k:blk cx F (m+1) sc r (cB ρ' nm (.sh d))=some fl)(hle:Jq cx sc e=false:=by rfl)(hrd:rdA e=false:=by rfl):blk cx F (m+1) sc (.Assign [.Name nm px] e p::r) ρ=some fl:=by
 refine mJ ho (by rw[hf];exact h) ?_ (by rw[oE hfr];rfl) (by rw[hfr];rfl) hle hrd
 rw[hf,nT hfr];exact k
theorem mK{y:Str}{s:Sl}{ρ:Rho}:frz F e ((y,s)::ρ)=(match s with | .ow ds=>if dG F y e then(y,.sh (.lst ds)) else(y,.ow ds) | .oo dss=>if dG F y e then(y,.sh (.lst (dss.map .lst))) else(y,.oo dss) | .od l=>if dG F y e then(y,.sh (gU l)) else(y,.od l) | s=>(y,s))::frz F e ρ:=by
 cases s<;>rfl
theorem Bt{y:Str}{s:Sl}{ρ:Rho}(h:nOw s=true):frz F e ((y,s)::ρ)=(y,s)::frz F e ρ:=by
 cases s<;>first | rfl | simp[nOw] at h
theorem HF{y:Str}{ds:List D}{ρ:Rho}(h:dG F y e=true):frz F e ((y,.ow ds)::ρ)=(y,.sh (.lst ds))::frz F e ρ:=by
 show(if dG F y e=true then _ else _)::_=_;rw[Y5z h];rfl
theorem jU{px:Pos}(hc:fX ρ=true)(ho:(ownIn sc nm&&(ρ.map (·.1)).contains nm)=true)(hfr:aZ e=false)(h:ev cx F sc ρ e=some d)(k:blk cx F (m+1) sc r (cB ρ nm (.sh d))=some fl)(hle:Jq cx sc e=false:=by rfl)(hrd:rdA e=false:=by rfl):blk cx F (m+1) sc (.Assign [.Name nm px] e p::r) ρ=some fl:=YJ hc ho h (by rw[nT hfr];exact k) (by rw[oE hfr];rfl) hle hrd
theorem Og{A B:List Stmt}{fl1:Fl}(hc:fX ρ=true)(h:ev cx F sc ρ c=some (.bl true))(k:blk cx F m sc A ρ=some fl1)(k2:pZ cx F (m+1) sc r fl1=some fl):blk cx F (m+1) sc (.If c A B p::r) ρ=some fl:=uF (by rw[cJ hc];exact h) k k2
theorem ZV{A B:List Stmt}{fl1:Fl}(hc:fX ρ=true)(h:ev cx F sc ρ c=some (.bl false))(k:blk cx F m sc B ρ=some fl1)(k2:pZ cx F (m+1) sc r fl1=some fl):blk cx F (m+1) sc (.If c A B p::r) ρ=some fl:=VJ (by rw[cJ hc];exact h) k k2
theorem uY{A:List Stmt}(hc:fX ρ=true)(h:ev cx F sc ρ c=some (.bl false))(k:blk cx F (m+1) sc r ρ=some fl):blk cx F (m+1) sc (.If c A [] p::r) ρ=some fl:=ZV hc h bN k
theorem qP(hc:fX ρ=true)(h:ev cx F sc ρ e=some d):blk cx F (m+1) sc (.Return (some e) p::r) ρ=some (.ret d):=cZ (by rw[cJ hc];exact h)
end
theorem Om{cx:Cxt}{n:Nat}{sc:Scope}{ρ:Rho}{a b c:Expr}{p:Pos}{cn:Str}(h1:ev cx n sc ρ c=some (.bl true))(h:evx cx n sc ρ a=some cn/\ev cx n sc ρ a=none):evx cx (n+1) sc ρ (.IfExp c a b p)=some cn/\ev cx (n+1) sc ρ (.IfExp c a b p)=none:=by
 constructor
 ·simp only[evx,h1,Y2z,asB,h.1]
 ·simp only[ev,h1,bind,Y2z,asB,X5z,h.2]
theorem Oq{cx:Cxt}{n:Nat}{sc:Scope}{ρ:Rho}{a b c:Expr}{p:Pos}{cn:Str}(h1:ev cx n sc ρ c=some (.bl false))(h:evx cx n sc ρ b=some cn/\ev cx n sc ρ b=none):evx cx (n+1) sc ρ (.IfExp c a b p)=some cn/\ev cx (n+1) sc ρ (.IfExp c a b p)=none:=by
 constructor
 ·simp only[evx,h1,Y2z,asB,h.1]
 ·simp only[ev,h1,bind,Y2z,asB,U1z,V5z,h.2]
theorem Ey{cx:Cxt}{F m:Nat}{sc:Scope}{ρ:Rho}{e:Expr}{p:Pos}{r:List Stmt}{d:D}{cn:Str}(hx:nu e=true)(h:ev cx F sc (frz F e ρ) e=some d)(h2:yV cx F (m+1) sc r (frz F e ρ) cn):yV cx F (m+1) sc (.Expr e p::r) ρ cn:=by
 refine tR ?_ h2;unfold nu at hx;split at hx
 ·simp only[st,h,O3z]
 ·cases hx
theorem u6{cx:Cxt}{F m:Nat}{sc:Scope}{ρ:Rho}{e:Expr}{p:Pos}{r:List Stmt}{cn:Str}(hx:nu e=true)(h:evx cx F sc (frz F e ρ) e=some cn/\ev cx F sc (frz F e ρ) e=none):yV cx F (m+1) sc (.Expr e p::r) ρ cn:=Oj hx h.2 h.1
def RXs(cx:Cxt)(F m:Nat)(sc:Scope)(s:Stmt)(ρ:Rho)(c:Str)(ρ':Rho):Prop:=st cx F m sc ρ s=none/\st { cx with rs:=false } F m sc ρ s=none/\stx { cx with rs:=false } F m sc ρ s=some (c,ρ')
theorem Cy{cx:Cxt}{F m:Nat}{sc:Scope}{ρ:Rho}{e:Expr}{p px:Pos}{nm c:Str}(hc:fX ρ=true)(hfr:aZ e=false)(h:ev cx F sc ρ e=none)(h2:evx { cx with rs:=false } F sc ρ e=some c/\ev { cx with rs:=false } F sc ρ e=none):RXs cx F (m+1) sc (.Assign [.Name nm px] e p) ρ c ρ:=by
 refine⟨?_,?_,?_⟩
 ·simp only[st,cJ hc,h,Ed h2.1,D4z,U1z,V5z,X3z,B3z,ite_self]
 ·simp only[st,cJ hc,h2.2,Ed h2.1,D4z,U1z,V5z,X3z,B3z,ite_self]
 ·simp only[stx,cJ hc,hfr,U1z,V5z,h2.1,O3z]
theorem Mt{cx:Cxt}{F m:Nat}{sc:Scope}{ρ ρ':Rho}{p:Pos}{s:Stmt}{r o f:List Stmt}{hs:List ExceptHandler}{t e1 kn c':Str}{fl:Fl}(ht:um hs o f=some (t,e1,kn))(h:RXs cx F m sc s ρ c' ρ')
  (hc:(mF cx sc t&&t==cx.top&&cx.exs.contains c'&&e1 !=kn&&aF e1&&sc.names.lookup e1==some .local&&sc.names.lookup kn==some .local&&(ρ.map (·.1)).contains e1&&(ρ.map (·.1)).contains kn&&aF t)=true)
  (k:blk cx F (m+1) sc r (cB (cB ρ' kn (.sh (.exc c'))) e1 .no)=some fl):blk cx F (m+1) sc (.Try [s] hs o f p::r) ρ=some fl:=by
 obtain⟨k1,k2,k3⟩:=h;refine VG ht ?_ ?_ hc k
 ·simp only[iI,k1,bind,B3z]
 ·simp only[fZ,k1,k3]
theorem mQ{α β:Type}{g h:α->List β}:∀ {l:List α},(∀ x∈l,g x=h x)->l.flatMap g=l.flatMap h
 | [],_=>rfl
 | x::l,q=>by rw[L2z,L2z,q x O1z,mQ (l:=l) fun y hy=>q y (Y0z _ hy)]
theorem Qm{d:D}(h:dep d<=50):cmpop .NotEq d d=some (.bl false):=by
 rw[oNe h h,yM d (by omega)];rfl
theorem VN{cx:Cxt}{sc:Scope}{ρ ρ':Rho}{p:Pos}{F m:Nat}{r A:List Stmt}{c:Expr}{fl:Fl}(hf:frz F c ρ=ρ')(h:ev cx F sc ρ' c=some (.bl false))(k:blk cx F (m+1) sc r ρ=some fl):blk cx F (m+1) sc (.If c A [] p::r) ρ=some fl:=sX (hf▸h) k
theorem Bp{cx:Cxt}{sc:Scope}{ρ ρ' ρ2:Rho}{p:Pos}{F m:Nat}{r A B:List Stmt}{c:Expr}{fl:Fl}(hf:frz F c ρ=ρ')(h:ev cx F sc ρ' c=some (.bl true))(k:blk cx F m sc A ρ=some (.nxt ρ2))(k2:blk cx F (m+1) sc r ρ2=some fl):blk cx F (m+1) sc (.If c A B p::r) ρ=some fl:=uF (fl1:=.nxt ρ2) (hf▸h) k k2
def asV:Stmt->Expr
 | .Assign _ e _=>e
 | _=>.Name "" ⟨0,0,0,0⟩
def ifX:Stmt->Expr
 | .If c _ _ _=>c
 | _=>.Name "" ⟨0,0,0,0⟩
theorem dD{α:Type}{f:D->Option (Option D)}{h g:α->D}:∀ {l:List α},(∀ x∈l,f (h x)=some (some (g x)))->bD f (l.map h)=some (l.map g)
 | [],_=>rfl
 | x::l,q=>by
  simp only[O4z,bD,q x O1z,bind,Y2z,dD (l:=l) fun y hy=>q y (Y0z _ hy),O3z]
def upd(f:Nat->Nat->Int)(a b:Nat)(v:Int):Nat->Nat->Int:=fun i j=>if i=a then(if j=b then v else f i j) else f i j
theorem eG{F:Nat}{e:Expr}:frz F e []=[]:=rfl
theorem aA{F:Nat}{e:Expr}{y:Str}{s:Sl}{ρ ρ':Rho}(h:nOw s=true)(q:frz F e ρ=ρ'):frz F e ((y,s)::ρ)=(y,s)::ρ':=by rw[Bt h,q]
theorem YH{cx:Cxt}{sc:Scope}{ρ ρ':Rho}{e:Expr}{p q:Pos}{d:D}{F m j:Nat}{r:List Stmt}{fl:Fl}{es:List Expr}{l:List D}(hc:fX ρ=true)(hs:(swp sc es e).isSome=true)(h:ev cx F sc ρ e=some d)(hl:items d=some l)(hb:bindNames sc es l ρ=some ρ')(k:blk cx F (m+1) sc r ρ'=some fl):blk cx F (m+1) sc (.Assign [.Tuple es j q] e p::r) ρ=some fl:=gTup hs (by rw[cJ hc];exact h) hl (by rw[cJ hc];exact hb) k
def pP(u d:Int):Prop:=0<d/\Int.gcd u d=1
def gc(u d:Int):Int:=(Int.gcd u d:Int)
def qy(u d:Int):Int:=if d<0 then -(u / gc u d) else u / gc u d
def qz(u d:Int):Int:=if d<0 then -(d / gc u d) else d / gc u d
abbrev frD(u d:Int):D:=.tup [.int u,.int d]
abbrev loD(u d:Int):D:=frD (qy u d) (qz u d)
theorem oU{u d:Int}(h:d≠0):0<gc u d:=by
 have:=Int.gcd_pos_of_ne_zero_right u h;unfold gc;omega
theorem Mr{u d:Int}:gc u d ∣ u:=Int.gcd_dvd_left u d
theorem Ms{u d:Int}:gc u d ∣ d:=Int.gcd_dvd_right u d
theorem ZL{u d:Int}:gc u d*(u / gc u d)=u:=Int.mul_ediv_cancel' (Int.gcd_dvd_left u d)
theorem Yy{u d:Int}:gc u d*(d / gc u d)=d:=Int.mul_ediv_cancel' (Int.gcd_dvd_right u d)
theorem Lr{u d:Int}(h:d≠0):pP (qy u d) (qz u d):=by
 have g0:=oU (u:=u) h;have g1:Int.gcd (u / gc u d) (d / gc u d)=1:=Int.gcd_ediv_gcd_ediv_gcd (by unfold gc at g0;omega);have e:=Yy (u:=u) (d:=d);unfold pP qy qz
 by_cases q:d<0
 ·simp only[q,X5z,Int.neg_gcd,Int.gcd_neg]
  refine⟨?_,g1⟩
  have:d / gc u d<0:=by
   apply G0z;intro hn;have:=Int.mul_nonneg (show 0<=gc u d by omega) (show 0<=d / gc u d by omega);omega
  omega
 ·simp only[q,V5z]
  refine⟨?_,g1⟩;apply G0z;intro hn;have:=Int.mul_nonneg (show 0<=gc u d by omega) (show 0 <= -(d / gc u d) by omega);rw[Int.mul_neg,e] at this;omega
theorem Lw{u d:Int}(h:d≠0):qy u d*d=u*qz u d:=by
 have g0:=oU (u:=u) h;have a:=ZL (u:=u) (d:=d);have b:=Yy (u:=u) (d:=d)
 have key:∀ g x y:Int,g*x=u->g*y=d->x*d=u*y:=fun g x y h1 h2=>by rw[<- h1,<- h2];grind
 have k:=key _ _ _ a b;unfold qy qz;split
 ·rw[Int.neg_mul,k,Int.mul_neg]
 ·exact k
theorem Lp{u d v e:Int}(h1:pP u d)(h2:pP v e)(q:u*e=v*d):u=v/\d=e:=by
 obtain⟨d0,g1⟩:=h1;obtain⟨e0,g2⟩:=h2
 have a:d ∣ e:=by
  have z:Int.gcd d (u*e)=Int.gcd d e:=Int.gcd_mul_right_right_of_gcd_eq_one (by rw[Int.gcd_comm];exact g1)
  have w:d ∣ u*e:=⟨v,by rw[q];exact Int.mul_comm _ _⟩
  rw[Int.gcd_eq_natAbs_left w] at z;exact Int.gcd_eq_natAbs_left_iff_dvd.mp z.symm
 have b:e ∣ d:=by
  have z:Int.gcd e (v*d)=Int.gcd e d:=Int.gcd_mul_right_right_of_gcd_eq_one (by rw[Int.gcd_comm];exact g2)
  have w:e ∣ v*d:=⟨u,by rw[<- q];exact Int.mul_comm _ _⟩
  rw[Int.gcd_eq_natAbs_left w] at z;exact Int.gcd_eq_natAbs_left_iff_dvd.mp z.symm
 have de:d=e:=by
  have h1:=Int.le_of_dvd e0 a;have h2:=Int.le_of_dvd d0 b;omega
 subst de;refine⟨?_,rfl⟩;exact Int.eq_of_mul_eq_mul_right (by omega) q
theorem Lq{u d v e:Int}(h:d≠0)(hv:pP v e)(q:u*e=v*d):qy u d=v/\qz u d=e:=by
 refine Lp (Lr h) hv ?_;have:=Lw (u:=u) h;have g:=oU (u:=u) h;refine Int.eq_of_mul_eq_mul_right h ?_;grind
theorem fdiv_neg{x g:Int}(hg:g≠0)(h:g ∣ x):x.fdiv (-g)=-(x / g):=by
 obtain⟨y,rfl⟩:=h;rw[Int.mul_ediv_cancel_left _ hg,show g*y=-g * -y by grind,Int.mul_fdiv_cancel_left _ (by omega)]
theorem eE{x g:Int}(hg:0<g):x.fdiv g=x / g:=Int.fdiv_eq_ediv_of_nonneg x (by omega)
theorem sW{a b:Int}:Int.gcd b (a.fmod b)=Int.gcd a b:=by
 have e:=Int.fmod_def a b
 have h:a.fmod b=a+b*(-(a.fdiv b)):=by rw[e];grind
 rw[h,Int.gcd_add_mul_left_right,Int.gcd_comm]
theorem yt{a b:Int}(h:b≠0):(a.fmod b).natAbs<b.natAbs:=by
 by_cases q:0<b
 ·have h1:=S0z a q
  have h2:=Int.fmod_lt_of_pos a q;omega
 ·have e:(-a).fmod (-b)=-(a.fmod b):=by simp
  have h1:=S0z (-a) (b := -b) (by omega);have h2:=Int.fmod_lt_of_pos (-a) (b := -b) (by omega);omega
theorem Nm{i j:Int}(h:j≠0):binop .Mod (.int i) (.int j)=some (.int (i.fmod j)):=by
 show(if decide (0<j)=true then _ else _)=_
 by_cases q:0<j
 ·rw[Y5z (E4z q),Int.fmod_eq_emod_of_nonneg i (by omega)]
 ·rw[Z5z (by simpa using q),Y5z (E4z h)]
theorem pN{i j:Int}(h:j≠0)(h':j.natAbs.log2<9000):binop .FloorDiv (.int i) (.int j)=some (.int (i.fdiv j)):=by
 show(if(decide (0<j)&&decide (j<1073741824))=true then _ else _)=_
 by_cases q:0<j/\j<1073741824
 ·rw[Y5z (by rw[E4z q.1,E4z q.2];rfl),eE q.1]
 ·rw[Z5z (by rw[X2z,J2z,J2z];exact q),Y5z (by rw[E4z h,E4z h'];rfl)]
theorem Dt{n:Nat}(h:n<2^400):n.log2<9000:=by
 by_cases q:n=0
 ·subst q;decide
 ·have:=(Nat.log2_lt q).mpr h
  omega
abbrev qD(q:Rat):D:=frD q.num (q.den:Int)
theorem Qa(q:Rat):0<(q.den:Int):=by have:=q.den_nz;omega
theorem Ge(q:Rat):pP q.num (q.den:Int):=⟨Qa q,q.reduced⟩
theorem lK(q:Rat):(q.num:Rat)=q*(q.den:Rat):=by
 have h:(q.num:Rat) / (q.den:Rat)=q:=by rw[<- Rat.mkRat_eq_div,Rat.mkRat_self]
 have:(q.den:Rat)≠0:=by
  intro e;have:=q.den_nz;have e2:(q.den:Rat)=((0:Nat):Rat):=e;exact this (Rat.natCast_inj.mp e2)
 grind
theorem jk(q:Rat):(q.den:Rat)≠0:=by
 intro e;have e2:(q.den:Rat)=((0:Nat):Rat):=e;exact q.den_nz (Rat.natCast_inj.mp e2)
theorem Yx{d:Int}(h:d≠0):(d:Rat)≠0:=by
 intro e;have e2:(d:Rat)=((0:Int):Rat):=e;exact h (Rat.intCast_inj.mp e2)
theorem Ob{u d:Int}(h:d≠0):loD u d=qD ((u:Rat) / (d:Rat)):=by
 have hd:=Yx h;have e:=lK ((u:Rat) / (d:Rat))
 have key:u*(((u:Rat) / (d:Rat)).den:Int)=((u:Rat) / (d:Rat)).num*d:=by
  apply Rat.intCast_inj.mp;rw[Y3z,Y3z,e];show(u:Rat)*((((u:Rat) / (d:Rat)).den:Nat):Rat)=_;grind
 obtain⟨a,b⟩:=Lq h (Ge _) key;show frD (qy u d) (qz u d)=frD _ _;rw[a,b]
def Qb(D B:Nat)(q:Rat):Prop:=∃ x:Int,q*(D:Rat)=(x:Rat)/\x.natAbs<=B
theorem Qb.num{D B:Nat}{q:Rat}(hD:0<D)(h:Qb D B q):q.num.natAbs<=B/\q.den<=D:=by
 obtain⟨x,h1,h2⟩:=h;have e:=lK q
 have key:q.num*(D:Int)=x*(q.den:Int):=by
  apply Rat.intCast_inj.mp;rw[Y3z,Y3z,e,<- h1];show q*(q.den:Rat)*(D:Rat)=q*(D:Rat)*(q.den:Rat);grind
 have k2:q.num.natAbs*D=x.natAbs*q.den:=by
  have:=congrArg Int.natAbs key;rw[K4z,K4z] at this;simpa using this
 have dv:q.den ∣ D:=by
  have:q.den ∣ q.num.natAbs*D:=⟨x.natAbs,by rw[k2,A5z]⟩;exact(Nat.Coprime.symm q.reduced).dvd_of_dvd_mul_left this
 obtain⟨c,rfl⟩:=dv
 have c0:0<c:=by
  rcases Nat.eq_zero_or_pos c with e | e
  ·rw[e] at hD;omega
  ·exact e
 have dp:0<q.den:=Nat.pos_of_ne_zero q.den_nz;refine⟨?_,M0z _ c0⟩
 have k3:q.num.natAbs*c=x.natAbs:=by
  have:q.den*(q.num.natAbs*c)=q.den*x.natAbs:=by
   rw[<- Nat.mul_assoc,A5z q.den q.num.natAbs,Nat.mul_assoc,k2,A5z]
  exact Nat.eq_of_mul_eq_mul_left dp this
 have:=M0z q.num.natAbs c0;omega
theorem Qb.add{D B C:Nat}{p q:Rat}(h:Qb D B p)(k:Qb D C q):Qb D (B+C) (p+q):=by
 obtain⟨x,h1,h2⟩:=h;obtain⟨y,k1,k2⟩:=k;refine⟨x+y,?_,by omega⟩;rw[Z3z,<- h1,<- k1];grind
theorem Qb.mul{D E B C:Nat}{p q:Rat}(h:Qb D B p)(k:Qb E C q):Qb (D*E) (B*C) (p*q):=by
 obtain⟨x,h1,h2⟩:=h;obtain⟨y,k1,k2⟩:=k;refine⟨x*y,?_,by rw[K4z];exact Nat.mul_le_mul h2 k2⟩;rw[Y3z,<- h1,<- k1,Rat.natCast_mul];grind
theorem Qb.up{D B C:Nat}{p:Rat}(h:Qb D B p)(hc:B<=C):Qb D C p:=let ⟨x,h1,h2⟩:=h;⟨x,h1,V4z h2 hc⟩
theorem Qb.zero{D:Nat}:Qb D 0 0:=⟨0,by grind,by decide⟩
theorem Qb.one{D:Nat}:Qb D D 1:=⟨(D:Int),by show(1:Rat)*(D:Rat)=(D:Rat);grind,by simp⟩
def Sq(q:Rat):Prop:=q.num.natAbs<=1000000000000000000/\q.den<=1000000000000000000
theorem Qb.sq{D B:Nat}{q:Rat}(h:Qb D B q)(hD:0<D)(h1:D<=1000000000000000000)(h2:B<=1000000000000000000):Sq q:=by
 have:=h.num hD;exact⟨by omega,by omega⟩
def cu:Nat->(Nat->Rat)->Rat
 | 0,_=>0
 | n+1,g=>cu n g+g n
def mulQ(n:Nat)(F G:Nat->Nat->Rat):Nat->Nat->Rat:=fun i j=>cu n fun l=>F i l*G l j
theorem vP{D B:Nat}{g:Nat->Rat}:∀ {n:Nat},(∀ i,i<n->Qb D B (g i))->Qb D (n*B) (cu n g)
 | 0,_=>by rw[Nat.zero_mul];exact Qb.zero
 | n+1,h=>by
  rw[Z4z];exact(vP fun i hi=>h i (by omega)).add (h n (by omega))
theorem J5{a b:Rat}:((a.num*(b.den:Int)+b.num*(a.den:Int):Int):Rat) / (((a.den:Int)*(b.den:Int):Int):Rat)=a+b:=by
 rw[Z3z,Y3z,Y3z,Y3z,lK a,lK b];show(a*(a.den:Rat)*(b.den:Rat)+b*(b.den:Rat)*(a.den:Rat)) / ((a.den:Rat)*(b.den:Rat))=a+b;have:=jk a;have:=jk b;grind
theorem Dq{a b:Rat}:((a.num*b.num:Int):Rat) / (((a.den:Int)*(b.den:Int):Int):Rat)=a*b:=by
 rw[Y3z,Y3z,lK a,lK b];show(a*(a.den:Rat)*(b*(b.den:Rat))) / ((a.den:Rat)*(b.den:Rat))=a*b;have:=jk a;have:=jk b;grind
theorem Dm{b:Rat}(h:b≠0):b.num≠0:=fun e=>h (by
 have:=lK b;rw[e] at this;have h0:=jk b;have:(0:Rat)=b*(b.den:Rat):=this
 grind)
theorem Dl{q:Rat}(h:0<=q):0<=q.num:=Rat.num_nonneg.mpr h
theorem Vo{q:Rat}(h:0<q):0<q.num:=by
 have:=Dl (Rat.le_of_lt h);have h2:=Dm (b:=q) (by intro e;rw[e] at h;exact absurd h (by decide));omega
section
variable {cx:Cxt} {sc:Scope} {ρ ρ' ρ2:Rho} {e:Expr} {p:Pos} {d:D} {nm:Str} {F m:Nat} {r:List Stmt} {fl:Fl} {ds:List D}
theorem aX{y:Str}{s:Sl}(h:nOw s=true)(r:fX ρ=true):fX ((y,s)::ρ)=true:=by
 unfold fX at r ⊢;rw[List.all_cons,h,r];rfl
theorem d9{tg iter:Expr}{body:List Stmt}{l:List D}(hf:frz F iter ρ=ρ')(hI:evI cx (d7 tg) (ev cx F sc ρ') sc iter=some l)(hgo:bO (fF cx F m sc tg body) l ρ'=some (.nxt ρ2))(k2:blk cx F (m+1) sc r ρ2=some fl):blk cx F (m+1) sc (.For tg iter body [] p::r) ρ=some fl:=by
 subst hf;exact Yz hI hgo k2
theorem Bl{px:Pos}(hf:frz F e ρ=ρ')(ho:(ownIn sc nm&&(ρ.map (·.1)).contains nm)=true)(h:ev cx F sc ρ' e=some d)(k:blk cx F (m+1) sc r (cB ρ' nm (lB e d))=some fl)(hoo:(ooE cx sc e&&lU ρ' nm)=false:=by rfl)(hno:(aZ e && !Ao ρ' nm)=false:=by rfl)(hle:Jq cx sc e=false:=by rfl)(hrd:rdA e=false:=by rfl):blk cx F (m+1) sc (.Assign [.Name nm px] e p::r) ρ=some fl:=by
 subst hf;exact mJ ho h k hoo hno hle hrd
theorem gRetE(hf:frz F e ρ=ρ')(h:ev cx F sc ρ' e=some d):blk cx F (m+1) sc (.Return (some e) p::r) ρ=some (.ret d):=cZ (by rw[hf];exact h)
theorem Br{px ap cp:Pos}{M:Str}(hf:frz F e ρ=ρ')(hx:ρ'.lookup nm=some (.ow ds))(ho:(ownIn sc nm&&aF nm&&ap.endLine==cp.line)=true)(hM:(M=="append")=true)(hz:szl (ds.length+1)=true)(h:ev cx F sc ρ' e=some d)(k:blk cx F (m+1) sc r (cB ρ' nm (.ow (ds++[d])))=some fl) :
  blk cx F (m+1) sc (.Expr (.Call (.Attribute (.Name nm px) M ap) [e] [] cp) p::r) ρ=some fl:=by
 subst hf;exact ZR hx ho hM hz h k
theorem jR{y:Str}(h:dG F y e=false)(q:frz F e ρ=ρ'):frz F e ((y,.ow ds)::ρ)=(y,.ow ds)::ρ':=by
 rw[mK,q];simp only[h,U1z,V5z]
theorem Bs{y:Str}(h:dG F y e=true)(q:frz F e ρ=ρ'):frz F e ((y,.ow ds)::ρ)=(y,.sh (.lst ds))::ρ':=by rw[HF h,q]
end
theorem jD{f:D->Rho->Option Fl}{h:Nat->D}{P:Nat->Rho->Prop}{N:Nat}(hs:∀ i ρ,i<N->P i ρ->∃ ρ',P (i+1) ρ'/\f (h i) ρ=some (.nxt ρ')){ρ:Rho}(h0:P 0 ρ):∃ ρ',P N ρ'/\bO f (Ls N h) ρ=some (.nxt ρ'):=by
 have key:∀ (n a:Nat) (ρ:Rho),a+n<=N->P a ρ->∃ ρ',P (a+n) ρ'/\bO f ((List.range' a n).map h) ρ=some (.nxt ρ'):=by
  intro n
  induction n with
  | zero=>intro a ρ _ hp;exact⟨ρ,hp,rfl⟩
  | succ n ih =>
   intro a ρ ha hp;obtain⟨ρ1,h1,h2⟩:=hs a ρ (by omega) hp;obtain⟨ρ2,h3,h4⟩:=ih (a+1) ρ1 (by omega) h1;refine⟨ρ2,by rw[show a+(n+1)=a+1+n by omega];exact h3,?_⟩;rw[List.range'_succ,O4z];simp only[bO,h2];exact h4
 obtain⟨ρ',h1,h2⟩:=key N 0 ρ (by omega) h0;rw[Nat.zero_add] at h1;refine⟨ρ',h1,?_⟩;unfold Ls;rw[List.range_eq_range'];exact h2
end DE
namespace M40
open PySem L2 DE
def top(i:Nat):Stmt:=PySem.Challenge.pw_minortables_k40_whole_ways.main.body.getD i (.Pass ⟨0,0,0,0⟩)
def aU(t:Stmt):Fd:=⟨(dX t).args.map (·.arg),(dX t).args.map (·.arg)++(((bf t).names.filter fun p=>(p.2==.local||p.2==.cell) && !((dX t).args.map (·.arg)).contains p.1).map (·.1)),bf t,bQ t⟩
def cs:List (Str×D):=[("MOST_LINES",.int 4),("UP",.str "up"),("DOWN",.str "down"),("SCALE",.str "scale")]
noncomputable def bl:List (Str×String):=[("len","len"),("all","all"),("tuple","tuple"),("list","list"),("abs","abs"),("int","int"),("bool","bool"),("isinstance","isinstance"),("range","range"),("zip","zip"),("enumerate","enumerate"),("sorted","sorted"),("ValueError","ValueError")]
def df:List (Str×Fd):=[(("is_whole":Str),aU (top 10)),(("is_whole_within":Str),aU (top 11)),(("is_short_tuple":Str),aU (top 12)),(("has_lines":Str),aU (top 13)),(("numbers_of":Str),aU (top 14)),(("has_table_form":Str),aU (top 15)),(("is_place":Str),aU (top 16)),(("need_table":Str),aU (top 17)),(("need_place":Str),aU (top 18)),(("need_size":Str),aU (top 19)),(("common_measure":Str),aU (top 21)),(("lowest":Str),aU (top 22)),(("has_fraction_form":Str),aU (top 23)),(("is_fraction":Str),aU (top 24)),(("sum_of":Str),aU (top 25)),(("times_of":Str),aU (top 26)),(("all_sum":Str),aU (top 27)),(("need_fraction_table":Str),aU (top 28)),(("row_as_fractions":Str),aU (top 29)),(("as_fractions":Str),aU (top 30)),(("column_of":Str),aU (top 32)),(("columns_of":Str),aU (top 33)),(("plain_row":Str),aU (top 34)),(("plain":Str),aU (top 35)),(("is_step_of":Str),aU (top 40)),(("is_step":Str),aU (top 41)),(("need_steps":Str),aU (top 42)),(("row_by_column":Str),aU (top 43)),(("row_by_columns":Str),aU (top 44)),(("product_of":Str),aU (top 45)),(("table_of_step":Str),aU (top 46)),(("made_by":Str),aU (top 47)),(("step_tables":Str),aU (top 49)),(("with_one_more":Str),aU (top 50)),(("goings":Str),aU (top 51)),(("runs_from":Str),aU (top 52)),(("runs_between":Str),aU (top 53)),(("shares_from":Str),aU (top 54)),(("share_between":Str),aU (top 55)),(("need_levels":Str),aU (top 56)),(("ways":Str),aU (top 57)),(("share_of_ways":Str),aU (top 58)),(("_law_cell":Str),aU (top 60)),(("_law_pick":Str),aU (top 61)),(("_law_share":Str),aU (top 69)),(("_law_steps":Str),aU (top 70)),(("_law_lowest":Str),aU (top 71)),(("_law_sum":Str),aU (top 72)),(("_law_step_table":Str),aU (top 73)),(("_law_word":Str),aU (top 75)),(("_law_do":Str),aU (top 76)),(("_law_ways":Str),aU (top 77)),(("_law_product":Str),aU (top 78)),(("law":Str),aU (top 79))]
noncomputable def xs:List Str:=["NoTable","NoFit","NoPlace","NoStep","NoSteps","NoText"]
def T:Pg:=⟨cs,bl,df,xs,"MinorError"⟩
def BnO(nm:Str)(t:Stmt):Prop:=∀ (kV doc pm:Value) (an:Option Addr) (cdv ct:Value) (us:List Value),us.length=(aU t).ps.length->bindArgs (PySem.W.fnOf nm nm (dX t) (bQ t) (bf t) .none kV doc pm an cdv ct) ⟨us,[]⟩=pure ((aU t).ps.zip us)
def fsB(fd:Fd):Bool:=decide (fd.sc.kind=.function) && !fd.sc.isCoroutine && !fd.sc.isGenerator&&decide fd.N.Nodup&&decide (fd.N.take fd.ps.length=fd.ps)&&fd.ps.all (fun x=>decide (fd.sc.names.lookup x=some .local)||decide (fd.sc.names.lookup x=some .cell))&&fd.sc.names.all fun y=>decide (y.2≠.free)
theorem Mx{fd:Fd}(h:fsB fd=true):FnScope fd.N fd.ps fd.sc:=by
 unfold fsB at h;simp only[X2z,J2z,I2z,A3z,S3z] at h;obtain⟨⟨⟨⟨⟨⟨h1,h2⟩,h3⟩,h4⟩,h5⟩,h6⟩,h7⟩:=h;exact⟨h1,h2,h3,h4,h5,h6,h7⟩
theorem aQ{K:Z2}{h:Heap}{mg:Str->Option Value}{x nm:Str}{t:Stmt}(X:K.In h)(G:h.Ns mainGlobals mg)(f:Addr)(dc pm cd:Value)(hb:BnO nm t)(a:PySem.W.nsIn K mainGlobals x=some (some (.ref f)))
  (l:K.lookup f=some ⟨.type "function",none,.func (PySem.W.fnOf nm nm (dX t) (bQ t) (bf t) .none .none dc pm none cd .none),#[]⟩) (c:(PySem.W.codeIn K cd nm&&PySem.W.keepIn K (.ref f)&&fsB (aU t) && !(x==("__debug__":Str)))=true):FunAt K mg x (aU t):=by
 simp only[X2z,I2z] at c;obtain⟨⟨⟨c,k⟩,hs⟩,hd⟩:=c;exact⟨⟨nm,t,f,_,S4z X G a,yp l c k,(yp l c k).binds hb,rfl,rfl⟩,Mx hs,hd⟩
theorem len1{us:List Value}(h:us.length=1):∃ a,us=[a]:=List.length_eq_one_iff.mp h
theorem len2{us:List Value}(h:us.length=2):∃ a b,us=[a,b]:=by cases us with | nil=>cases h | cons a r=>obtain⟨b,e⟩:=len1 (us:=r) (Nat.succ.inj h);exact⟨a,b,congrArg (List.cons a) e⟩
theorem Lz{us:List Value}(h:us.length=3):∃ a b c,us=[a,b,c]:=by cases us with | nil=>cases h | cons a r=>obtain⟨b,c,e⟩:=len2 (us:=r) (Nat.succ.inj h);exact⟨a,b,c,congrArg (List.cons a) e⟩
theorem Ax{us:List Value}(h:us.length=4):∃ a b c d,us=[a,b,c,d]:=by cases us with | nil=>cases h | cons a r=>obtain⟨b,c,d,e⟩:=Lz (us:=r) (Nat.succ.inj h);exact⟨a,b,c,d,congrArg (List.cons a) e⟩
theorem b10:BnO "is_whole" (top 10):=fun _ _ _ _ _ _ _ h=>by obtain⟨_,rfl⟩:=len1 h;rfl
theorem b11:BnO "is_whole_within" (top 11):=fun _ _ _ _ _ _ _ h=>by obtain⟨_,_,_,rfl⟩:=Lz h;rfl
theorem b12:BnO "is_short_tuple" (top 12):=fun _ _ _ _ _ _ _ h=>by obtain⟨_,rfl⟩:=len1 h;rfl
theorem b13:BnO "has_lines" (top 13):=fun _ _ _ _ _ _ _ h=>by obtain⟨_,rfl⟩:=len1 h;rfl
theorem b14:BnO "numbers_of" (top 14):=fun _ _ _ _ _ _ _ h=>by obtain⟨_,rfl⟩:=len1 h;rfl
theorem b15:BnO "has_table_form" (top 15):=fun _ _ _ _ _ _ _ h=>by obtain⟨_,rfl⟩:=len1 h;rfl
theorem b16:BnO "is_place" (top 16):=fun _ _ _ _ _ _ _ h=>by obtain⟨_,_,rfl⟩:=len2 h;rfl
theorem b17:BnO "need_table" (top 17):=fun _ _ _ _ _ _ _ h=>by obtain⟨_,rfl⟩:=len1 h;rfl
theorem b18:BnO "need_place" (top 18):=fun _ _ _ _ _ _ _ h=>by obtain⟨_,_,rfl⟩:=len2 h;rfl
theorem b19:BnO "need_size" (top 19):=fun _ _ _ _ _ _ _ h=>by obtain⟨_,_,rfl⟩:=len2 h;rfl
theorem b21:BnO "common_measure" (top 21):=fun _ _ _ _ _ _ _ h=>by obtain⟨_,_,rfl⟩:=len2 h;rfl
theorem b22:BnO "lowest" (top 22):=fun _ _ _ _ _ _ _ h=>by obtain⟨_,_,rfl⟩:=len2 h;rfl
theorem b23:BnO "has_fraction_form" (top 23):=fun _ _ _ _ _ _ _ h=>by obtain⟨_,rfl⟩:=len1 h;rfl
theorem b24:BnO "is_fraction" (top 24):=fun _ _ _ _ _ _ _ h=>by obtain⟨_,rfl⟩:=len1 h;rfl
theorem b25:BnO "sum_of" (top 25):=fun _ _ _ _ _ _ _ h=>by obtain⟨_,_,rfl⟩:=len2 h;rfl
theorem b26:BnO "times_of" (top 26):=fun _ _ _ _ _ _ _ h=>by obtain⟨_,_,rfl⟩:=len2 h;rfl
theorem b27:BnO "all_sum" (top 27):=fun _ _ _ _ _ _ _ h=>by obtain⟨_,rfl⟩:=len1 h;rfl
theorem b28:BnO "need_fraction_table" (top 28):=fun _ _ _ _ _ _ _ h=>by obtain⟨_,rfl⟩:=len1 h;rfl
theorem b29:BnO "row_as_fractions" (top 29):=fun _ _ _ _ _ _ _ h=>by obtain⟨_,rfl⟩:=len1 h;rfl
theorem b30:BnO "as_fractions" (top 30):=fun _ _ _ _ _ _ _ h=>by obtain⟨_,rfl⟩:=len1 h;rfl
theorem b32:BnO "column_of" (top 32):=fun _ _ _ _ _ _ _ h=>by obtain⟨_,_,rfl⟩:=len2 h;rfl
theorem b33:BnO "columns_of" (top 33):=fun _ _ _ _ _ _ _ h=>by obtain⟨_,rfl⟩:=len1 h;rfl
theorem b34:BnO "plain_row" (top 34):=fun _ _ _ _ _ _ _ h=>by obtain⟨_,_,rfl⟩:=len2 h;rfl
theorem b35:BnO "plain" (top 35):=fun _ _ _ _ _ _ _ h=>by obtain⟨_,rfl⟩:=len1 h;rfl
theorem b40:BnO "is_step_of" (top 40):=fun _ _ _ _ _ _ _ h=>by obtain⟨_,_,_,_,rfl⟩:=Ax h;rfl
theorem b41:BnO "is_step" (top 41):=fun _ _ _ _ _ _ _ h=>by obtain⟨_,_,rfl⟩:=len2 h;rfl
theorem b42:BnO "need_steps" (top 42):=fun _ _ _ _ _ _ _ h=>by obtain⟨_,_,rfl⟩:=len2 h;rfl
theorem b43:BnO "row_by_column" (top 43):=fun _ _ _ _ _ _ _ h=>by obtain⟨_,_,rfl⟩:=len2 h;rfl
theorem b44:BnO "row_by_columns" (top 44):=fun _ _ _ _ _ _ _ h=>by obtain⟨_,_,rfl⟩:=len2 h;rfl
theorem b45:BnO "product_of" (top 45):=fun _ _ _ _ _ _ _ h=>by obtain⟨_,_,rfl⟩:=len2 h;rfl
theorem b46:BnO "table_of_step" (top 46):=fun _ _ _ _ _ _ _ h=>by obtain⟨_,_,_,_,rfl⟩:=Ax h;rfl
theorem b47:BnO "made_by" (top 47):=fun _ _ _ _ _ _ _ h=>by obtain⟨_,_,rfl⟩:=len2 h;rfl
theorem b49:BnO "step_tables" (top 49):=fun _ _ _ _ _ _ _ h=>by obtain⟨_,_,rfl⟩:=len2 h;rfl
theorem b50:BnO "with_one_more" (top 50):=fun _ _ _ _ _ _ _ h=>by obtain⟨_,_,_,rfl⟩:=Lz h;rfl
theorem b51:BnO "goings" (top 51):=fun _ _ _ _ _ _ _ h=>by obtain⟨_,_,rfl⟩:=len2 h;rfl
theorem b52:BnO "runs_from" (top 52):=fun _ _ _ _ _ _ _ h=>by obtain⟨_,_,rfl⟩:=len2 h;rfl
theorem b53:BnO "runs_between" (top 53):=fun _ _ _ _ _ _ _ h=>by obtain⟨_,_,_,_,rfl⟩:=Ax h;rfl
theorem b54:BnO "shares_from" (top 54):=fun _ _ _ _ _ _ _ h=>by obtain⟨_,_,rfl⟩:=len2 h;rfl
theorem b55:BnO "share_between" (top 55):=fun _ _ _ _ _ _ _ h=>by obtain⟨_,_,_,_,rfl⟩:=Ax h;rfl
theorem b56:BnO "need_levels" (top 56):=fun _ _ _ _ _ _ _ h=>by obtain⟨_,_,_,_,rfl⟩:=Ax h;rfl
theorem b57:BnO "ways" (top 57):=fun _ _ _ _ _ _ _ h=>by obtain⟨_,_,_,_,rfl⟩:=Ax h;rfl
theorem b58:BnO "share_of_ways" (top 58):=fun _ _ _ _ _ _ _ h=>by obtain⟨_,_,_,_,rfl⟩:=Ax h;rfl
theorem b60:BnO "_law_cell" (top 60):=fun _ _ _ _ _ _ _ h=>by obtain⟨_,_,rfl⟩:=len2 h;rfl
theorem b61:BnO "_law_pick" (top 61):=fun _ _ _ _ _ _ _ h=>by obtain⟨_,_,_,rfl⟩:=Lz h;rfl
theorem b69:BnO "_law_share" (top 69):=fun _ _ _ _ _ _ _ h=>by obtain⟨_,_,rfl⟩:=len2 h;rfl
theorem b70:BnO "_law_steps" (top 70):=fun _ _ _ _ _ _ _ h=>by obtain⟨_,_,_,_,rfl⟩:=Ax h;rfl
theorem b71:BnO "_law_lowest" (top 71):=fun _ _ _ _ _ _ _ h=>by obtain⟨_,_,rfl⟩:=len2 h;rfl
theorem b72:BnO "_law_sum" (top 72):=fun _ _ _ _ _ _ _ h=>by obtain⟨_,rfl⟩:=len1 h;rfl
theorem b73:BnO "_law_step_table" (top 73):=fun _ _ _ _ _ _ _ h=>by obtain⟨_,_,rfl⟩:=len2 h;rfl
theorem b75:BnO "_law_word" (top 75):=fun _ _ _ _ _ _ _ h=>by obtain⟨_,rfl⟩:=len1 h;rfl
theorem b76:BnO "_law_do" (top 76):=fun _ _ _ _ _ _ _ h=>by obtain⟨_,_,_,_,rfl⟩:=Ax h;rfl
theorem b77:BnO "_law_ways" (top 77):=fun _ _ _ _ _ _ _ h=>by obtain⟨_,_,_,rfl⟩:=Lz h;rfl
theorem b78:BnO "_law_product" (top 78):=fun _ _ _ _ _ _ _ h=>by obtain⟨_,rfl⟩:=len1 h;rfl
theorem b79:BnO "law" (top 79):=fun _ _ _ _ _ _ _ h=>by obtain⟨_,rfl⟩:=len1 h;rfl
theorem in_of{α:Type}{Q:Str->α->Prop}:∀ {l:List (Str×α)},(∀ p∈l,Q p.1 p.2)->∀ f fd,l.lookup f=some fd->Q f fd
 | (y,e)::r,hp,f,fd,h=>by
  rw[N2z] at h
  cases hb:f==y with
  | true =>
   rw[hb] at h
   have e1:f=y:=by simpa using hb
   cases h;subst e1;exact hp _ O1z
  | false =>
   rw[hb] at h;exact in_of (fun p hm=>hp p (Y0z _ hm)) f fd h
theorem aC{α:Type}{Q:α->Prop}{a:α}{l:List α}(h:Q a)(t:∀ p∈l,Q p):∀ p∈a::l,Q p:=List.forall_mem_cons.mpr ⟨h,t⟩
theorem aN{α:Type}{Q:α->Prop}:∀ p∈([]:List α),Q p:=List.forall_mem_nil _
theorem cA{K:Z2}{h:Heap}{mg:Str->Option Value}{x:Str}{i:Int}(X:K.In h)(G:h.Ns mainGlobals mg)(tk:Tok)(e:PySem.W.nsIn K mainGlobals x=some (some (.int i tk))):∃ v u,(∀ H,Rep K H (D.int i) v)/\mg x=some u/\RelV v u:=⟨.int i,_,fun _=>by simp[Rep],S4z X G e,⟨_,rfl⟩⟩
theorem cS{K:Z2}{h:Heap}{mg:Str->Option Value}{x y:Str}(X:K.In h)(G:h.Ns mainGlobals mg)(tk:Tok)(e:PySem.W.nsIn K mainGlobals x=some (some (.str y tk))):∃ v u,(∀ H,Rep K H (D.str y) v)/\mg x=some u/\RelV v u:=⟨.str y,_,fun _=>by simp[Rep],S4z X G e,⟨_,rfl⟩⟩
theorem bA{K:Z2}{h:Heap}{mg:Str->Option Value}{x:Str}{b:String}(X:K.In h)(G:h.Ns mainGlobals mg)(e:PySem.W.nsIn K mainGlobals x=some none)(q:x=Str.ofString b):mg x=none/\x=Str.ofString b:=⟨PySem.W.mg_none_of X G e,q⟩
theorem Vu:T.defs.lookup ("law":Str)=some (aU (top 79)):=by rfl'
theorem fin{l:PySem.W.OpenLaw}{w:World}{K:Z2}{h:Heap}{mg:Str->Option Value}{fa:Addr}(hlaw:∀ ns:List Int,ns.length<=63->aD T 60 40 "law" [.lst (ns.map D.int)]=some (.bl true))(TX:Text w K mg T)(X:K.In h)(G:h.Ns mainGlobals mg)(hfa:mg "law"=some (.ref fa))(f:Addr)(dc pm cd:Value)(a:PySem.W.nsIn K mainGlobals "law"=some (some (.ref f)))
  (lk:K.lookup f=some ⟨.type "function",none,.func (PySem.W.fnOf "law" "law" (dX (top 79)) (bQ (top 79)) (bf (top 79)) .none .none dc pm none cd .none),#[]⟩) (c:PySem.W.codeIn K cd "law"=true) (kp:PySem.W.keepIn K (.ref f)=true) :
  ∃ fd:FuncData,(∀ (s:Shared) (v:Value),BindsTo s fd ⟨[v],[]⟩ [("_law_script",v)])/\∀ base:Heap,K.In base->base.Ns mainGlobals mg->FnOk l.prog w K mg base CX0 40 fa fd ["_law_script"] (rE K):=by
 have e:=hfa.symm.trans (S4z X G a);cases e;refine⟨_,fun s v=>.of_eq (b79 .none dc pm none cd .none [v] rfl),fun base _ _=>?_⟩;exact LC (fd:=aU (top 79)) (t:=top 79) (f:="law") TX Vu (yp lk c kp) rfl rfl (Mx (by decide +kernel)) rfl hlaw
theorem walk{l:PySem.W.OpenLaw}{q:Program}{loose:List Str}{XP:(Str->Option Value)->Heap->Prop}{YP:World->Heap->Prop}{d:DefRec}{K:Params->Z2}(hn:l.most=some 63)(hdf:d.params.defaults=[])
  (hY:∀ (w:World) (h:Heap),YP w h->(K w.params).In h)
  (F : ∀ (w : World) (mg : Str -> Option Value) (fa : Addr) (h : Heap), (K w.params).In h -> h.Ns mainGlobals mg -> mg d.name = some (.ref fa) ->
   ∃ fd:FuncData,(∀ (s:Shared) (u:Value),BindsTo s fd ⟨[u],[]⟩ [("_law_script",u)])/\∀ base:Heap,(K w.params).In base->base.Ns mainGlobals mg->FnOk l.prog w (K w.params) mg base CX0 40 fa fd ["_law_script"] (rE (K w.params))) :
  PySem.W.WalkO q loose XP YP l.row.toRowW d [] (fun f vs=>PySem.call f vs) :=
 L2.Fj (n:=63) (k:=40) (x:="_law_script") (CX:=fun _=>CX0) (sp:=fun w=>rE (K w.params)) hn (by decide) hdf ⟨rfl,by decide,by decide⟩ hY F (fun _ _ a ns hl _ hS=>⟨a,ns,rfl,hS,hl,fun _=>rfl⟩) fun _ _ _ _ _ z=>z
end M40
local macro_rules | `(tactic| walk_at "xs") => `(tactic| first | exact DE.V7 | exact DE.bLenL | exact DE.bSum | rfl | assumption | omega)
local macro_rules | `(tactic| walk_at "xm") => `(tactic| first | exact DE.aL | (refine' DE.aj ?hA ?hB; (case hA => walk_at "xv"); (case hB => walk_at "xm")))
local macro_rules | `(tactic| walk_at "xi") => `(tactic| first
 | (refine' DE.Jk ?hA ?hB; (case hA => rfl); (case hB => walk_at "xv"))
 | (refine' DE.wSq ?hA ?hB ?hC; (case hA => rfl); (case hB => walk_at "xv"); (case hC => rfl))
 | (refine' DE.Cp ?hA ?hB ?hC; (case hA => rfl); (case hB => walk_at "xv"); (case hC => omega))
 | (refine' DE.wR2 ?hA ?hB ?hC ?hD; (case hA => rfl); (case hB => walk_at "xv"); (case hC => walk_at "xv"); (case hD => walk_at "xs"))
 | (refine' DE.Wg ?hA ?hB ?hC; (case hA => rfl); (case hB => walk_at "xv"); (case hC => walk_at "xv"))
 | (refine' DE.Wh ?hA ?hB; (case hA => rfl); (case hB => walk_at "xv")))
local macro_rules | `(tactic| walk_at "xl") => `(tactic| (refine' DE.dg ?hA ?hB ?hC (DE.bZ ?hD); (case hA => rfl); (case hB => walk_at "xi"); (case hC => (exact DE.nJ (by omega))); (case hD => (intro i hi; refine' DE.dH ?hE ?hF; (case hE => rfl); (case hF => walk_at "xv")))))
local macro_rules | `(tactic| walk_at "xv") => `(tactic| first
 | exact DE.xName rfl
 | exact DE.ak rfl
 | (refine' DE.cg ?hA ?hB ?hC; (case hA => walk_at "xv"); (case hB => walk_at "xv"); (case hC => walk_at "xs"))
 | (refine' DE.bV ?hA ?hB ?hC; (case hA => walk_at "xv"); (case hB => walk_at "xv"); (case hC => walk_at "xs"))
 | (refine' DE.Ol ?hA ?hB ?hC ?hD ?hE; (case hA => walk_at "xv"); (case hB => walk_at "xv"); (case hC => omega); (case hD => rfl); (case hE => rfl))
 | (refine' DE.Fe ?hA ?hB ?hC ?hD ?hE; (case hA => walk_at "xv"); (case hB => walk_at "xv"); (case hC => omega); (case hD => rfl); (case hE => rfl))
 | (refine' DE.EY ?hA ?hB ?hC ?hD ?hE; (case hA => walk_at "xv"); (case hB => walk_at "xv"); (case hC => omega); (case hD => rfl); (case hE => rfl))
 | (refine' DE.uc ?hA ?hB ?hC ?hD ?hE ?hF ?hG; (case hA => rfl); (case hB => rfl); (case hC => rfl); (case hD => walk_at "xv"); (case hE => rfl); (case hF => rfl); (case hG => rfl))
 | (refine' DE.dY ?hA ?hB ?hC ?hD ?hE; (case hA => rfl); (case hB => rfl); (case hC => rfl); (case hD => walk_at "xm"); (case hE => walk_at "xs"))
 | (refine' DE.aH ?hA ?hB ?hC; (case hA => rfl); (case hB => walk_at "xm"); (case hC => walk_at "xc"))
 | (refine' DE.xLr1n ?hA ?hB ?hC ?hD; (case hA => rfl); (case hB => rfl); (case hC => walk_at "xv"); (case hD => omega))
 | (refine' DE.cV ?hA ?hB; (case hA => walk_at "xm"); (case hB => rfl))
 | (refine' DE.nF ?hA ?hB; (case hA => walk_at "xm"); (case hB => rfl))
 | walk_at "xl"
 | (refine' DE.Ez ?hA; (case hA => walk_at "xv"))
 | (refine' DE.NK ?hA; (case hA => walk_at "xv")))
local macro_rules|`(tactic|nofun)=>`(tactic|walk_at "xv")
namespace M40
open PySem DE
def whole:D->Bool
 | .int _=>true
 | _=>false
theorem is_whole(k:Nat){d:D}(h:dep d<1000):aD T 60 (k+1) "is_whole" [d]=some (.bl (whole d)):=by
 cases d with
 | exc c=>exact absurd h (by simp[dep])
 | dic _ _=>exact absurd h (by simp[dep])
 | dt _ _=>exact absurd h (by simp[dep])
 | _=>rfl'
def within(l m:Int):D->Bool
 | .int i=>decide (l<=i)&&decide (i<=m)
 | _=>false
theorem oN(k:Nat){d:D}{l m:Int}(h:dep d<1000):aD T 60 (k+2) "is_whole_within" [d,.int l,.int m]=some (.bl (within l m d)):=by
 cases hw:whole d with
 | false =>
  have e:within l m d=false:=by cases d<;>first | rfl | simp[whole] at hw
  rw[e];refine bU (fd:=aU (top 11)) rfl rfl (cZ (cj (zG ?_)));refine' aH ?L40a_1a ?L40a_1b ?L40a_1c;(case L40a_1a=>rfl);(case L40a_1b=>walk_at "xm");(case L40a_1c=>exact hw▸is_whole k h)
 | true =>
  cases d<;>simp[whole] at hw
  rename_i i;refine bU (fd:=aU (top 11)) rfl rfl (cZ (cj (kJ ?_ (jc ?_))))
  ·refine' aH ?L40a_2a ?L40a_2b ?L40a_2c;(case L40a_2a=>rfl);(case L40a_2b=>walk_at "xm");(case L40a_2c=>exact is_whole k (by simp[dep]))
  ·by_cases h1:l<=i
   ·have e:within l m (.int i)=decide (i<=m):=by simp[within,h1]
    rw[e];exact Jz (by nofun) (by nofun) (oLe h1) (by nofun) Ws
   ·have e:within l m (.int i)=false:=by simp[within,h1]
    rw[e];exact JB (by nofun) (by nofun) (Wr h1)
def bJ:D->Bool
 | .tup us=>decide (1<=us.length)&&decide (us.length<=4)
 | _=>false
theorem uQ{us:List D}:blt "len" [.tup us]=some (.int (us.length:Int)):=rfl
theorem gH(k:Nat){d:D}(h:dep d<1000):aD T 60 (k+1) "is_short_tuple" [d]=some (.bl (bJ d)):=by
 cases ht:Dz "tuple" d with
 | false =>
  have e:bJ d=false:=by cases d<;>first | rfl | simp[Dz] at ht
  rw[e];exact bU (fd:=aU (top 12)) rfl rfl (cZ (cj (zG (uc rfl rfl rfl (by nofun) ht rfl (Zu h)))))
 | true =>
  cases d<;>simp[Dz] at ht
  rename_i us;refine bU (fd:=aU (top 12)) rfl rfl (cZ (cj (kJ (uc rfl rfl rfl (by nofun) rfl) (jc ?_))))
  by_cases h1:1<=us.length
  ·have e:bJ (.tup us)=decide ((us.length:Int)<=4):=by
    simp only[bJ,h1,J5z,R4z];exact decide_eq_decide.mpr (by omega)
   rw[e];refine Jz (by nofun) (y:=.int (us.length:Int)) ?_ (oLe (by omega)) (by nofun) Ws;refine' dY ?L40a_3a ?L40a_3b ?L40a_3c ?L40a_3d ?L40a_3e;(case L40a_3a=>rfl);(case L40a_3b=>rfl);(case L40a_3c=>rfl);(case L40a_3d=>walk_at "xm");(case L40a_3e=>exact uQ)
  ·have e:bJ (.tup us)=false:=by simp only[bJ];rw[D3z h1];rfl
   rw[e];refine JB (by nofun) (y:=.int (us.length:Int)) ?_ (Wr (by omega));refine' dY ?L40a_4a ?L40a_4b ?L40a_4c ?L40a_4d ?L40a_4e;(case L40a_4a=>rfl);(case L40a_4b=>rfl);(case L40a_4c=>rfl);(case L40a_4d=>walk_at "xm");(case L40a_4e=>exact uQ)
theorem at0{z:D}{zs:List D}:atD (z::zs) 0=some z:=qU (j:=0) rfl
def Ly:D->Nat
 | .tup us=>us.length
 | _=>0
def lens(us:List D):Bool:=us.all fun r=>Ly r==Ly (us.headD .non)
def iC:D->Bool
 | .tup us=>bJ (.tup us)&&us.all bJ&&lens us
 | _=>false
theorem eX{d:D}(h:bJ d=true):∃ us,d=.tup us/\1<=us.length/\us.length<=4:=by
 cases d<;>simp[bJ] at h
 rename_i us;exact⟨us,rfl,by omega,by omega⟩
theorem IW{us:List D}(h:dep (.tup us)<1000):∀ x∈us,dep x<1000:=fun x hx=>by
 have:=yN hx;simp only[dep] at h;omega
theorem has_lines(k:Nat){d:D}(h:dep d<1000):aD T 60 (k+2) "has_lines" [d]=some (.bl (iC d)):=by
 cases hs:bJ d with
 | false =>
  have e:iC d=false:=by cases d<;>first | rfl | (simp only[iC,hs];rfl)
  rw[e];refine bU (fd:=aU (top 13)) rfl rfl (uF (fl1:=.ret (.bl false)) (cj (Nz (pU ?_))) (cZ (by nofun)) rfl);refine' aH ?L40a_5a ?L40a_5b ?L40a_5c;(case L40a_5a=>rfl);(case L40a_5b=>walk_at "xm");(case L40a_5c=>exact hs▸gH k h)
 | true =>
  obtain⟨us,rfl,g1,g4⟩:=eX hs;have hd:=IW h
  cases ha:us.all bJ with
  | false =>
   have e:iC (.tup us)=false:=by simp only[iC,ha,J4z,D4z]
   rw[e];refine bU (fd:=aU (top 13)) rfl rfl (uF (fl1:=.ret (.bl false)) (cj (nD (cW ?_) (jc (pU ?_)))) (cZ (by nofun)) rfl)
   ·refine' aH ?L40a_6a ?L40a_6b ?L40a_6c;(case L40a_6a=>rfl);(case L40a_6b=>walk_at "xm");(case L40a_6c=>exact hs▸gH k h)
   ·refine dY rfl rfl rfl (aj (dg (l:=us) rfl (wSq rfl (by nofun) rfl) (je (by omega)) (cN (g:=fun x=>.bl (bJ x)) fun x hx=>dH rfl ?_)) aL) (by rw[uR,ha])
    refine' aH ?L40a_7a ?L40a_7b ?L40a_7c;(case L40a_7a=>rfl);(case L40a_7b=>walk_at "xm");(case L40a_7c=>exact gH k (hd x hx))
  | true =>
   have e:iC (.tup us)=lens us:=by simp only[iC,ha,hs,R4z]
   rw[e];refine bU (fd:=aU (top 13)) rfl rfl (sX (cj (nD (cW ?_) (jc (cW ?_)))) (cZ ?_))
   ·refine' aH ?L40a_8a ?L40a_8b ?L40a_8c;(case L40a_8a=>rfl);(case L40a_8b=>walk_at "xm");(case L40a_8c=>exact hs▸gH k h)
   ·refine dY rfl rfl rfl (aj (dg (l:=us) rfl (wSq rfl (by nofun) rfl) (je (by omega)) (cN (g:=fun x=>.bl (bJ x)) fun x hx=>dH rfl ?_)) aL) (by rw[uR,ha])
    refine' aH ?L40a_9a ?L40a_9b ?L40a_9c;(case L40a_9a=>rfl);(case L40a_9b=>walk_at "xm");(case L40a_9c=>exact gH k (hd x hx))
   ·refine dY rfl rfl rfl (aj (dg (l:=us) rfl (wSq rfl (by nofun) rfl) (je (by omega)) (cN (g:=fun x=>.bl (Ly x==Ly (us.headD .non))) fun x hx=>dH rfl ?_)) aL) uR
    obtain⟨ys,rfl,y1,y4⟩:=eX (A3z.mp ha x hx)
    cases us with
    | nil=>simp at g1
    | cons z zs =>
     obtain⟨ws,rfl,w1,w4⟩:=eX (A3z.mp ha z (by simp));refine bV (x:=.int (ys.length:Int)) (y:=.int (ws.length:Int)) ?_ ?_ ?_
     ·refine' dY ?L40a_10a ?L40a_10b ?L40a_10c ?L40a_10d ?L40a_10e;(case L40a_10a=>rfl);(case L40a_10b=>rfl);(case L40a_10c=>rfl);(case L40a_10d=>walk_at "xm");(case L40a_10e=>exact uQ)
     ·refine dY rfl rfl rfl (aj ?_ aL) uQ
      exact xIx (by nofun) (by nofun) rfl at0
     ·show some (D.bl ((ys.length:Int)==(ws.length:Int)))=_
      congr 2;show _=(ys.length==ws.length);rw[Bool.eq_iff_iff];simp only[Q5z];omega
def oM:D->List D
 | .tup us=>us
 | _=>[]
def nums:List D->List D
 | []=>[]
 | r::rs=>oM r++nums rs
theorem oG:∀ (a:List D) (r:D),nums (a++[r])=nums a++oM r
 | [],r=>by simp[nums]
 | x::a,r=>by simp[nums,oG a r]
theorem iV:∀ {us:List D},us.all bJ=true->(nums us).length<=4*us.length
 | [],_=>by simp[nums]
 | r::us,h=>by
  rw[List.all_cons,X2z] at h;obtain⟨ys,rfl,y1,y4⟩:=eX h.1;have:=iV h.2;simp only[nums,oM,T1z,W2z];omega
theorem numbers_of(k:Nat){us:List D}(h4:us.length<=4)(ha:us.all bJ=true):aD T 60 (k+1) "numbers_of" [.tup us]=some (.lst (nums us)):=by
 have hl:=iV ha
 have key:∀ (s:Sl),(s=.no\/∃ d,s=.sh d)->blk (cxN T 60 k) 60 60 (aU (top 14)).sc ((aU (top 14)).body.drop 2) [("table",.sh (.tup us)),("told",.ow (nums us)),("row",s)]=some (.ret (.lst (nums us))):=by
  intro s hs;rcases hs with rfl | ⟨d,rfl⟩
  ·exact cZ (by nofun)
  ·exact cZ (by nofun)
 refine bU (fd:=aU (top 14)) rfl rfl (mJ rfl (d:=.lst []) (by nofun) (Yz (l:=us) (fl1:=.nxt [("table",.sh (.tup us)),("told",.ow (nums us)),("row",Hj us)]) (wSq rfl (by nofun) rfl) ?_ (key _ ?_)))
 ·refine oV (R:=fun pre=>[("table",.sh (.tup us)),("told",.ow (nums pre)),("row",Hj pre)]) (whole:=us) (fun pre x post e=>?_) (pre:=[]) rfl
  have hx:bJ x=true:=A3z.mp ha x (by rw[<- e];simp)
  have hp:pre.all bJ=true:=by rw[<- e,List.all_append,X2z] at ha;exact ha.1
  have hl2:=iV hp
  have hl3:pre.length<=us.length:=by rw[<- e];simp
  obtain⟨ys,rfl,y1,y4⟩:=eX hx;rw[oG,uD,show oM (.tup ys)=ys from rfl];exact eH rfl (VP rfl rfl rfl rfl (je (by omega)) (by nofun) bN)
 ·cases us with
  | nil=>exact .inl rfl
  | cons x r=>exact .inr ⟨_,rfl⟩
theorem sy{x:D}:∀ {us:List D},x∈nums us->∃ r∈us,x∈oM r
 | r::us,h=>by
  simp only[nums,List.mem_append] at h;rcases h with h | h
  ·exact⟨r,by simp,h⟩
  ·obtain⟨r',h1,h2⟩:=sy h
   exact⟨r',Y0z _ h1,h2⟩
theorem lC{m:Nat}{h:Nat->D}:bJ (.tup (Ls m h))=(decide (1<=m)&&decide (m<=4)):=by simp only[bJ,dR]
theorem j4{m:Nat}{h:Nat->D}{x:D}(hx:x∈Ls m h):∃ i,i<m/\x=h i:=by
 unfold Ls at hx;obtain⟨i,hi,rfl⟩:=List.mem_map.mp hx;exact⟨i,List.mem_range.mp hi,rfl⟩
theorem Hx{m:Nat}{h:Nat->D}(hm:1<=m):(Ls m h).headD .non=h 0:=by
 obtain⟨m',rfl⟩:∃ m',m=m'+1:=⟨m-1,by omega⟩;unfold Ls;rw[List.range_succ_eq_map];rfl
theorem cQ(k:Nat){i l h:Int}(h1:l<=i)(h2:i<=h):aD T 60 (k+2) "is_whole_within" [.int i,.int l,.int h]=some (.bl true):=by
 rw[oN k (by simp[dep])];simp[within,h1,h2]
theorem is_place(k:Nat){v many:Nat}(h:v<many):aD T 60 (k+3) "is_place" [.int v,.int many]=some (.bl true):=by
 refine bU (fd:=aU (top 16)) rfl rfl (cZ ?_);refine' aH ?L40a_19a ?L40a_19b ?L40a_19c;(case L40a_19a=>rfl);(case L40a_19b=>walk_at "xm");(case L40a_19c=>exact cQ _ (by omega) (by omega))
noncomputable def uN(ns:List Int)(k:Nat):Int:=if k<ns.length then ns.getD k 0 else if ns=[] then 0 else ns.getD (k%ns.length) 0*31+k
def dJ(ns:List Int)(k:Nat):Int:=(uN ns k+6151*((k:Int)+1))*40692%2147483399
def pickN(ns:List Int)(k many:Nat):Nat:=((dJ ns k*dJ ns k+dJ ns k / 31)%2147483629%(many:Int)).toNat
theorem cP{ns:List Int}{k many:Nat}(h:0<many):pickN ns k many<many:=by
 unfold pickN;have h1:=A4z ((dJ ns k*dJ ns k+dJ ns k / 31)%2147483629) (show(many:Int)≠0 by omega);have h2:=Int.emod_lt_of_pos ((dJ ns k*dJ ns k+dJ ns k / 31)%2147483629) (show(0:Int)<many by omega);omega
abbrev scr(ns:List Int):D:=.lst (ns.map D.int)
theorem lD{ns:List Int}:blt "len" [scr ns]=some (.int (ns.length:Int)):=by
 show some (D.int ((ns.map D.int).length:Int))=_;rw[J3z]
theorem Cw{ns:List Int}{k:Nat}(h:k<ns.length):atD (ns.map D.int) (k:Int)=some (.int (ns.getD k 0)):=by
 refine qU ?_;rw[List.getElem?_map,List.getElem?_eq_getElem h,List.getD_eq_getElem?_getD,List.getElem?_eq_getElem h];rfl
theorem FT{ns:List Int}:dep (scr ns)<=50:=by
 simp only[dep]
 have:=jG (b:=0) (l:=ns.map D.int) fun d hd=>by
  obtain⟨i,_,rfl⟩:=List.mem_map.mp hd;simp[dep]
 omega
theorem cell(k:Nat)(ns:List Int)(kk:Nat):aD T 60 (k+1) "_law_cell" [scr ns,.int kk]=some (.int (uN ns kk)):=by
 unfold uN
 by_cases h:kk<ns.length
 ·rw[Y5z h]
  refine bU (fd:=aU (top 60)) rfl rfl (uF (fl1:=.ret (.int (ns.getD kk 0))) (bV (by nofun) (dY rfl rfl rfl (by walk_at "xm") lD) (oLt (by omega))) (cZ ?_) rfl);exact xIx (by nofun) (by nofun) rfl (Cw h)
 ·rw[Z5z h]
  by_cases e:ns=[]
  ·subst e
   rw[Y5z rfl];refine bU (fd:=aU (top 60)) rfl rfl (sX (bV (by nofun) (dY rfl rfl rfl (by walk_at "xm") (lD (ns:=[]))) (Qn (by simp))) (uF (fl1:=.ret (.int 0)) (bV (by nofun) (by nofun) rfl) (cZ (by nofun)) rfl))
  ·rw[Z5z e]
   have hl:0<ns.length:=List.length_pos_iff.mpr e;refine bU (fd:=aU (top 60)) rfl rfl (sX (bV (by nofun) (dY rfl rfl rfl (by walk_at "xm") lD) (Qn (by omega))) (sX (bV (y:=.lst []) (by nofun) (by nofun) ?_) (cZ ?_)))
   ·rw[oEq FT (by simp[dep,deps])]
    cases ns with
    | nil=>exact absurd rfl e
    | cons a r=>rfl
   ·refine cg (cg (x:=.int (ns.getD (kk%ns.length) 0)) (xIx (i:=((kk%ns.length:Nat):Int)) (by nofun) ?_ rfl (Cw (Nat.mod_lt _ hl))) (by nofun) (qR (.inr (by decide)))) (by nofun) rfl
    refine cg (by nofun) (dY rfl rfl rfl (by walk_at "xm") lD) ?_;rw[Oh (by omega)];rfl
theorem pick(k:Nat)(ns:List Int)(kk:Nat){many:Nat}(h:0<many):aD T 60 (k+2) "_law_pick" [scr ns,.int kk,.int many]=some (.int ((pickN ns kk many:Nat):Int)):=by
 have d0:=A4z ((uN ns kk+6151*((kk:Int)+1))*40692) (show(2147483399:Int)≠0 by decide);have d1:=Int.emod_lt_of_pos ((uN ns kk+6151*((kk:Int)+1))*40692) (show(0:Int)<2147483399 by decide)
 have e:((pickN ns kk many:Nat):Int)=(dJ ns kk*dJ ns kk+dJ ns kk / 31)%2147483629%(many:Int):=by
  unfold pickN;exact Int.toNat_of_nonneg (A4z _ (by omega))
 rw[e];refine bU (fd:=aU (top 61)) rfl rfl (mJ rfl (d:=.int (dJ ns kk)) ?_ (cZ ?_))
 ·refine cg (cg (cg (x:=.int (uN ns kk)) (y:=.int (6151*((kk:Int)+1))) ?_ ?_ rfl) (by nofun) (qR (.inr (by decide)))) (by nofun) (Oh (by decide))
  ·refine' aH ?L40a_20a ?L40a_20b ?L40a_20c;(case L40a_20a=>rfl);(case L40a_20b=>walk_at "xm");(case L40a_20c=>exact cell _ ns kk)
  ·exact cg (by nofun) (cg (by nofun) (by nofun) rfl) (qR (.inl (by decide)))
 ·refine cg (cg (cg (cg (by nofun) (by nofun) (qR (.inl ?_))) (cg (by nofun) (by nofun) (ZW (by decide) (by decide))) rfl) (by nofun) (Oh (by decide))) (by nofun) (Oh (by omega))
  unfold small;unfold dJ;rw[E4z (by omega),E4z (by omega)];rfl
theorem qX{cx:Cxt}{n:Nat}{sc:Scope}{ρ:Rho}{e:Expr}{d d':D}(h:ev cx n sc ρ e=some d)(q:d=d'):ev cx n sc ρ e=some d':=q▸h
def mul(n:Nat)(f g:Nat->Nat->Int):Nat->Nat->Int:=fun i j=>Wm n fun l=>f i l*g l j
def dl(i j:Nat):Int:=if j=i then 1 else 0
theorem plain_row(k:Nat){n i:Nat}(h4:n<=4):aD T 60 (k+1) "plain_row" [.int n,.int i]=some (row n (dl i)):=by
 refine bU (fd:=aU (top 34)) rfl rfl (cZ (dY rfl rfl rfl (aj ?_ aL) Er));refine' dg ?L40a_21a ?L40a_21b ?L40a_21c (bZ ?L40a_21d);(case L40a_21a=>rfl);(case L40a_21b=>walk_at "xi");(case L40a_21c=>exact nJ (by omega))
 case L40a_21d =>
  intro j hj;refine' dH ?L40a_21e ?L40a_21f;(case L40a_21e=>rfl)
  case L40a_21f =>
   by_cases e:j=i
   ·have:dl i j=1:=Y5z e
    rw[this];exact Jx (bV (by nofun) (by nofun) (Jm (by omega))) (by nofun)
   ·have:dl i j=0:=Z5z e
    rw[this];exact Jy (bV (by nofun) (by nofun) (Jo (by omega))) (by nofun)
theorem need_size(k:Nat){n:Nat}(h1:1<=n)(h4:n<=4):aD T 60 (k+3) "need_size" [.int n,.int 4]=some .non:=by
 refine u0 (fd:=aU (top 19)) rfl rfl (sX (cW ?_) bN);refine' aH ?L40a_22a ?L40a_22b ?L40a_22c;(case L40a_22a=>rfl);(case L40a_22b=>walk_at "xm");(case L40a_22c=>exact cQ k (by omega) (by omega))
theorem plain(k:Nat){n:Nat}(h1:1<=n)(h4:n<=4):aD T 60 (k+4) "plain" [.int n]=some (tbl n n dl):=by
 refine bU (fd:=aU (top 35)) rfl rfl (Bk rfl (d:=.non) ?_ (cZ (dY rfl rfl rfl (aj ?_ aL) Er)))
 ·refine' aH ?L40a_23a ?L40a_23b ?L40a_23c;(case L40a_23a=>rfl);(case L40a_23b=>walk_at "xm");(case L40a_23c=>exact need_size k h1 h4)
 ·refine' dg ?L40a_24a ?L40a_24b ?L40a_24c (bZ ?L40a_24d);(case L40a_24a=>rfl);(case L40a_24b=>walk_at "xi");(case L40a_24c=>exact nJ (by omega))
  case L40a_24d =>
   intro i hi;refine' dH ?L40a_24e ?L40a_24f;(case L40a_24e=>rfl)
   case L40a_24f =>
    refine' aH ?L40a_25a ?L40a_25b ?L40a_25c;(case L40a_25a=>rfl);(case L40a_25b=>walk_at "xm");(case L40a_25c=>exact plain_row (k+2) h4)
def bL(i j:Nat):Stmt:=(aU (top i)).body.getD j (.Pass ⟨0,0,0,0⟩)
def aV:Stmt->List Stmt
 | .For _ _ b _ _=>b
 | _=>[]
def cL:Stmt->Expr
 | .For t _ _ _ _=>t
 | _=>.Name "" ⟨0,0,0,0⟩
def whB:Stmt->List Stmt
 | .While _ b _ _=>b
 | _=>[]
def whC:Stmt->Expr
 | .While c _ _ _=>c
 | _=>.Name "" ⟨0,0,0,0⟩
abbrev whR(cx:Cxt)(sc:Scope)(s:Stmt)(N:Nat)(ρ:Rho):Option Fl:=rm (fun ρ=>((ev cx 60 sc (frz 60 (whC s) ρ) (whC s)).bind asB).map fun b=>(frz 60 (whC s) ρ,b)) (fun ρ=>blk cx 60 59 sc (whB s) ρ) N ρ
def zV(a b:Int)(r:Sl):Rho:=[("one",.sh (.int a)),("other",.sh (.int b)),("rest",r)]
theorem Wq{b:Int}:cmpop .NotEq (.int b) (.int 0)=some (.bl (decide (b≠0))):=by
 rw[oNe (by simp[dep]) (by simp[dep])]
 by_cases h:b=0
 ·subst h;rfl
 ·simp[deq,h]
theorem V3(k:Nat):∀ (n:Nat) (a b:Int) (r:Sl) (N:Nat),nOw r=true->b.natAbs<=n->n<N->∃ a' r',nOw r'=true/\a'.natAbs=Int.gcd a b/\whR (cxN T 60 k) (aU (top 21)).sc (bL 21 0) N (zV a b r)=some (.nxt (zV a' 0 r')):=by
 intro n
 induction n with
 | zero =>
  intro a b r N hr hb hN
  have b0:b=0:=by omega
  subst b0;obtain⟨N',rfl⟩:∃ N',N=N'+1:=⟨N-1,by omega⟩;exact⟨a,r,hr,by simp,qZ (cJ (aX rfl (aX rfl (aX hr rfl)))) (bV (x:=.int 0) (y:=.int 0) (xName rfl) (ak rfl) rfl)⟩
 | succ n ih =>
  intro a b r N hr hb hN;obtain⟨N',rfl⟩:∃ N',N=N'+1:=⟨N-1,by omega⟩
  by_cases b0:b=0
  ·subst b0
   exact⟨a,r,hr,by simp,qZ (cJ (aX rfl (aX rfl (aX hr rfl)))) (bV (x:=.int 0) (y:=.int 0) (xName rfl) (ak rfl) rfl)⟩
  ·have hl:=yt (a:=a) b0
   obtain⟨a',r',h1,h2,h3⟩:=ih b (a.fmod b) (.sh (.int (a.fmod b))) N' rfl (by omega) (by omega);refine⟨a',r',h1,by rw[h2,sW],Ck (ρ1:=zV a b r) (ρ2:=zV b (a.fmod b) (.sh (.int (a.fmod b)))) (cJ (aX rfl (aX rfl (aX hr rfl)))) (bV (x:=.int b) (y:=.int 0) (xName rfl) (ak rfl) (by rw[Wq,E4z b0])) ?_ h3⟩;refine jU (d:=.int (a.fmod b)) (aX rfl (aX rfl (aX hr rfl))) rfl rfl (cg (x:=.int a) (y:=.int b) (xName rfl) (xName rfl) (Nm b0)) ?_;refine fj (ρ:=zV a b (.sh (.int (a.fmod b)))) (ρ':=zV a b (.sh (.int (a.fmod b)))) (d:=.int b) rfl rfl rfl (xName rfl) ?_;exact fj (ρ:=zV b b (.sh (.int (a.fmod b)))) (ρ':=zV b b (.sh (.int (a.fmod b)))) (d:=.int (a.fmod b)) rfl rfl rfl (xName rfl) bN
theorem common(k:Nat){a b:Int}(hb:b.natAbs<10000000000000000000000000000000000000000000000000000000000000000000000000000000000000000000000000000):aD T 60 (k+1) "common_measure" [.int a,.int b]=some (.int (gc a b)):=by
 obtain⟨a',r',h1,h2,h3⟩:=V3 k b.natAbs a b .no 10000000000000000000000000000000000000000000000000000000000000000000000000000000000000000000000000000 rfl (F5z _) hb;refine bU (fd:=aU (top 21)) rfl rfl (yj (ρ2:=zV a' 0 r') h3 (qP (aX rfl (aX rfl (aX h1 rfl))) (qX (dY (ds:=[.int a']) rfl rfl rfl (aj (xName rfl) aL) rfl) ?_)));congr 1;unfold gc;rw[<- h2]
 split<;>omega
theorem lowest(k:Nat){u d:Int}(hd:d≠0)(hb:d.natAbs<10000000000000000000000000000000000000000000000000000000000000000000000000000000000000000000000000000):aD T 60 (k+2) "lowest" [.int u,.int d]=some (loD u d):=by
 have g0:=oU (u:=u) hd;have cm:=common k (a:=u) hb
 have gl:(gc u d).natAbs<=d.natAbs:=by
  have:=Nat.le_of_dvd (by omega) (Int.gcd_dvd_natAbs_right u d);unfold gc;omega
 have lg:(gc u d).natAbs.log2<9000:=Dt (X1z gl (N1z hb (by decide +kernel)));refine bU (fd:=aU (top 22)) rfl rfl (fj (ρ':=[("up",.sh (.int u)),("down",.sh (.int d)),("measure",.no)]) (d:=.int (gc u d)) rfl rfl rfl (aH rfl (aj (xName rfl) (aj (xName rfl) aL)) cm) ?_)
 by_cases q:d<0
 ·refine Bp (ρ:=[("up",.sh (.int u)),("down",.sh (.int d)),("measure",.sh (.int (gc u d)))]) (ρ':=[("up",.sh (.int u)),("down",.sh (.int d)),("measure",.sh (.int (gc u d)))]) (ρ2:=[("up",.sh (.int u)),("down",.sh (.int d)),("measure",.sh (.int (-(gc u d))))]) rfl (bV (x:=.int d) (y:=.int 0) (xName rfl) (ak rfl) (oLt q)) (fj (ρ':=[("up",.sh (.int u)),("down",.sh (.int d)),("measure",.sh (.int (gc u d)))]) (d:=.int (-(gc u d))) rfl rfl rfl (Ez (xName rfl)) bN) (cZ ?_)
  refine qX (cV (ds:=[.int (u.fdiv (-(gc u d))),.int (d.fdiv (-(gc u d)))]) (aj (cg (xName rfl) (xName rfl) (pN (by omega) (by rw[Int.natAbs_neg];exact lg))) (aj (cg (xName rfl) (xName rfl) (pN (by omega) (by rw[Int.natAbs_neg];exact lg))) aL)) rfl) ?_
  show D.tup _=D.tup [.int (qy u d),.int (qz u d)];unfold qy qz;rw[Y5z q,Y5z q,fdiv_neg (by omega) Mr,fdiv_neg (by omega) Ms]
 ·refine VN (ρ:=[("up",.sh (.int u)),("down",.sh (.int d)),("measure",.sh (.int (gc u d)))]) (ρ':=[("up",.sh (.int u)),("down",.sh (.int d)),("measure",.sh (.int (gc u d)))]) rfl (bV (x:=.int d) (y:=.int 0) (xName rfl) (ak rfl) (Qn q)) (cZ ?_)
  refine qX (cV (ds:=[.int (u.fdiv (gc u d)),.int (d.fdiv (gc u d))]) (aj (cg (xName rfl) (xName rfl) (pN (by omega) lg)) (aj (cg (xName rfl) (xName rfl) (pN (by omega) lg)) aL)) rfl) ?_;show D.tup _=D.tup [.int (qy u d),.int (qz u d)];unfold qy qz;rw[Z5z q,Z5z q,eE g0,eE g0]
theorem yr(k:Nat){u d:Int}(hb:d.natAbs<10000000000000000000000000000000000000000000000000000000000000000000000000000000000000000000000000000):aD T 60 (k+2) "has_fraction_form" [frD u d]=some (.bl (decide (0<d)&&decide (Int.gcd u d=1))):=by
 have w:∀ i,aD T 60 (k+1) "is_whole" [.int i]=some (.bl true):=fun i=>is_whole k (by simp[dep]);refine bU (fd:=aU (top 23)) rfl rfl (sX (cj (nD (cW (uc rfl rfl rfl (xName rfl) rfl)) (jc (bV (x:=.int 2) (y:=.int 2) (dY rfl rfl rfl (aj (x:=frD u d) (xName rfl) aL) rfl) (ak rfl) (Oa rfl))))) (sX (cj (nD (cW (aH rfl (aj (x:=.int u) (xIx (x:=frD u d) (i:=0) (xName rfl) (ak rfl) rfl rfl) aL) (w u))) (jc (cW (aH rfl (aj (x:=.int d) (xIx (x:=frD u d) (i:=1) (xName rfl) (ak rfl) rfl rfl) aL) (w d)))))) (cZ (cj ?_))))
 by_cases q:0<d
 ·rw[E4z q,R4z]
  refine kJ (bV (x:=.int d) (y:=.int 0) (xIx (x:=frD u d) (i:=1) (xName rfl) (ak rfl) rfl rfl) (ak rfl) (by rw[oGt,E4z q])) (jc (bV (x:=.int (gc u d)) (y:=.int 1) (aH rfl (aj (x:=.int u) (xIx (x:=frD u d) (i:=0) (xName rfl) (ak rfl) rfl rfl) (aj (x:=.int d) (xIx (x:=frD u d) (i:=1) (xName rfl) (ak rfl) rfl rfl) aL)) (common k hb)) (ak rfl) ?_))
  by_cases e:Int.gcd u d=1
  ·rw[E4z e];exact Jm (by unfold gc;omega)
  ·rw[D3z e];exact Jo (by unfold gc;omega)
 ·rw[D3z q,D4z]
  exact zG (bV (x:=.int d) (y:=.int 0) (xIx (x:=frD u d) (i:=1) (xName rfl) (ak rfl) rfl rfl) (ak rfl) (by rw[oGt,D3z q]))
theorem sZ(k:Nat){u d:Int}(hb:d.natAbs<10000000000000000000000000000000000000000000000000000000000000000000000000000000000000000000000000000)(h:pP u d):aD T 60 (k+2) "has_fraction_form" [frD u d]=some (.bl true):=by
 rw[yr k hb,E4z h.1,E4z h.2];rfl
theorem Vy(k:Nat){u d:Int}(hb:d.natAbs<10000000000000000000000000000000000000000000000000000000000000000000000000000000000000000000000000000)(h:pP u d)(h0:0<=u):aD T 60 (k+3) "is_fraction" [frD u d]=some (.bl true):=by
 refine bU (fd:=aU (top 24)) rfl rfl (cZ (cj (kJ (aH rfl (aj (x:=frD u d) (xName rfl) aL) (sZ k hb h)) (jc (bV (x:=.int u) (y:=.int 0) (xIx (x:=frD u d) (i:=0) (xName rfl) (ak rfl) rfl rfl) (ak rfl) ?_)))));show some (D.bl (decide (0<=u)))=_;rw[E4z h0]
theorem smN{x:Int}(h:x.natAbs<=1000000000000000000):small x=true:=by
 unfold small;rw[E4z (by omega),E4z (by omega)];rfl
theorem Yr{a b:Int}(h:a.natAbs<=1000000000000000000)(h':b.natAbs<=1000000000000000000):(a*b).natAbs<=1000000000000000000000000000000000000:=by
 rw[K4z];exact Nat.mul_le_mul h h'
theorem Dn{a b:Int}(h:a≠0)(h':b≠0):a*b≠0:=B4z h h'
section
variable {a b c d:Int}
theorem sum_of(k:Nat)(hb:b≠0)(hd:d≠0)(ka:a.natAbs<=1000000000000000000)(kb:b.natAbs<=1000000000000000000)(kc:c.natAbs<=1000000000000000000)(kd:d.natAbs<=1000000000000000000):aD T 60 (k+3) "sum_of" [frD a b,frD c d]=some (loD (a*d+c*b) (b*d)):=by
 have z:=Yr kb kd;refine bU (fd:=aU (top 25)) rfl rfl (cZ (aH rfl (aj (cg (x:=.int (a*d)) (y:=.int (c*b)) (cg (x:=.int a) (y:=.int d) (xIx (x:=frD a b) (i:=0) (xName rfl) (ak rfl) rfl rfl) (xIx (x:=frD c d) (i:=1) (xName rfl) (ak rfl) rfl rfl) (qR (.inl (smN ka)))) (cg (x:=.int c) (y:=.int b) (xIx (x:=frD c d) (i:=0) (xName rfl) (ak rfl) rfl rfl) (xIx (x:=frD a b) (i:=1) (xName rfl) (ak rfl) rfl rfl) (qR (.inl (smN kc)))) rfl) (aj (cg (x:=.int b) (y:=.int d) (xIx (x:=frD a b) (i:=1) (xName rfl) (ak rfl) rfl rfl) (xIx (x:=frD c d) (i:=1) (xName rfl) (ak rfl) rfl rfl) (qR (.inl (smN kb)))) aL)) (lowest k (Dn hb hd) (by omega))))
theorem times_of(k:Nat)(hb:b≠0)(hd:d≠0)(ka:a.natAbs<=1000000000000000000)(kb:b.natAbs<=1000000000000000000)(kd:d.natAbs<=1000000000000000000):aD T 60 (k+3) "times_of" [frD a b,frD c d]=some (loD (a*c) (b*d)):=by
 have z:=Yr kb kd;refine bU (fd:=aU (top 26)) rfl rfl (cZ (aH rfl (aj (cg (x:=.int a) (y:=.int c) (xIx (x:=frD a b) (i:=0) (xName rfl) (ak rfl) rfl rfl) (xIx (x:=frD c d) (i:=0) (xName rfl) (ak rfl) rfl rfl) (qR (.inl (smN ka)))) (aj (cg (x:=.int b) (y:=.int d) (xIx (x:=frD a b) (i:=1) (xName rfl) (ak rfl) rfl rfl) (xIx (x:=frD c d) (i:=1) (xName rfl) (ak rfl) rfl rfl) (qR (.inl (smN kb)))) aL)) (lowest k (Dn hb hd) (by omega))))
end
def ur(u d:Int)(a b:Sl):Rho:=[("_law_up",.sh (.int u)),("_law_down",.sh (.int d)),("_law_one",a),("_law_other",b)]
theorem Vs(k:Nat){u d:Int}:∀ (n:Nat) (a b:Int) (N:Nat),0<=a->0<=b->b.natAbs<=n->n<N->∃ a':Int,0<=a'/\a'.natAbs=Int.gcd a b/\whR (cxN T 60 k) (aU (top 71)).sc (bL 71 1) N (ur u d (.sh (.int a)) (.sh (.int b)))=some (.nxt (ur u d (.sh (.int a')) (.sh (.int 0)))):=by
 intro n
 induction n with
 | zero =>
  intro a b N ha h0 hb hN
  have b0:b=0:=by omega
  subst b0;obtain⟨N',rfl⟩:∃ N',N=N'+1:=⟨N-1,by omega⟩;exact⟨a,ha,by simp,qZ rfl (bV (x:=.int 0) (y:=.int 0) (xName rfl) (ak rfl) rfl)⟩
 | succ n ih =>
  intro a b N ha h0 hb hN;obtain⟨N',rfl⟩:∃ N',N=N'+1:=⟨N-1,by omega⟩
  by_cases b0:b=0
  ·subst b0
   exact⟨a,ha,by simp,qZ rfl (bV (x:=.int 0) (y:=.int 0) (xName rfl) (ak rfl) rfl)⟩
  ·have hl:=yt (a:=a) b0
   have hn:=S0z a (b:=b) (by omega);obtain⟨a',h1,h2,h3⟩:=ih b (a.fmod b) N' h0 hn (by omega) (by omega);refine⟨a',h1,by rw[h2,sW],Ck (ρ1:=ur u d (.sh (.int a)) (.sh (.int b))) (ρ2:=ur u d (.sh (.int b)) (.sh (.int (a.fmod b)))) rfl (bV (x:=.int b) (y:=.int 0) (xName rfl) (ak rfl) (by rw[Wq,E4z b0])) ?_ h3⟩;exact gTup (d:=.tup [.int b,.int (a.fmod b)]) rfl (cV (aj (xName rfl) (aj (cg (x:=.int a) (y:=.int b) (xName rfl) (xName rfl) (Nm b0)) aL)) rfl) rfl rfl bN
theorem Yu(k:Nat){u d:Int}(hd:d≠0)(hb:d.natAbs<10000000000000000000000000000000000000000000000000000000000000000000000000000000000000000000000000000):aD T 60 (k+1) "_law_lowest" [.int u,.int d]=some (loD u d):=by
 have g0:=oU (u:=u) hd;obtain⟨a',h1,h2,h3⟩:=Vs k (u:=u) (d:=d) d.natAbs (if u<0 then -u else u) (if d<0 then -d else d) 10000000000000000000000000000000000000000000000000000000000000000000000000000000000000000000000000000 (by split<;>omega) (by split<;>omega) (by split<;>omega) hb
 have e:a'=gc u d:=by
  have:Int.gcd (if u<0 then -u else u) (if d<0 then -d else d)=Int.gcd u d:=by
   split<;>split<;>simp
  rw[this] at h2;unfold gc;omega
 subst e
 have gl:(gc u d).natAbs<=d.natAbs:=by
  have:=Nat.le_of_dvd (by omega) (Int.gcd_dvd_natAbs_right u d);unfold gc;omega
 have lg:(gc u d).natAbs.log2<9000:=Dt (X1z gl (N1z hb (by decide +kernel)));refine bU (fd:=aU (top 71)) rfl rfl (gTup (d:=.tup [.int (if u<0 then -u else u),.int (if d<0 then -d else d)]) (ρ':=ur u d (.sh (.int (if u<0 then -u else u))) (.sh (.int (if d<0 then -d else d)))) rfl (cV (aj (dY (ds:=[.int u]) rfl rfl rfl (aj (xName rfl) aL) rfl) (aj (dY (ds:=[.int d]) rfl rfl rfl (aj (xName rfl) aL) rfl) aL)) rfl) rfl rfl (yj h3 (cZ ?_)));show ev _ _ _ (ur u d (.sh (.int (gc u d))) (.sh (.int 0))) _=_
 by_cases q:0<d
 ·refine Jx (bV (x:=.int d) (y:=.int 0) (xName rfl) (ak rfl) (by rw[oGt,E4z q])) (qX (cV (ds:=[.int (u.fdiv (gc u d)),.int (d.fdiv (gc u d))]) (aj (cg (xName rfl) (xName rfl) (pN (by omega) lg)) (aj (cg (xName rfl) (xName rfl) (pN (by omega) lg)) aL)) rfl) ?_)
  show D.tup _=D.tup [.int (qy u d),.int (qz u d)];unfold qy qz;rw[Z5z (by omega),Z5z (by omega),eE g0,eE g0]
 ·refine Jy (bV (x:=.int d) (y:=.int 0) (xName rfl) (ak rfl) (by rw[oGt,D3z q])) (qX (cV (ds:=[.int (0-u.fdiv (gc u d)),.int (0-d.fdiv (gc u d))]) (aj (cg (ak rfl) (cg (xName rfl) (xName rfl) (pN (by omega) lg)) rfl) (aj (cg (ak rfl) (cg (xName rfl) (xName rfl) (pN (by omega) lg)) rfl) aL)) rfl) ?_)
  show D.tup _=D.tup [.int (qy u d),.int (qz u d)];unfold qy qz;rw[Y5z (by omega),Y5z (by omega),eE g0,eE g0,Int.zero_sub,Int.zero_sub]
theorem Jg{cx:Cxt}{N j:Nat}{sc:Scope}{ρ:Rho}{e:Expr}{p q:Pos}{u d:Int}(h:ev cx (N+1) sc ρ e=some (frD u d)):ev cx (N+2) sc ρ (.Subscript e (.Constant (.int 0) j q) p)=some (.int u):=xIx (x:=frD u d) (i:=0) h (ak rfl) rfl rfl
theorem V8{cx:Cxt}{N j:Nat}{sc:Scope}{ρ:Rho}{e:Expr}{p q:Pos}{u d:Int}(h:ev cx (N+1) sc ρ e=some (frD u d)):ev cx (N+2) sc ρ (.Subscript e (.Constant (.int 1) j q) p)=some (.int d):=xIx (x:=frD u d) (i:=1) h (ak rfl) rfl rfl
theorem Ej{m b:Nat}{h:Nat->D}(q:∀ i,i<m->dep (h i)<=b):deps (Ls m h)<=b:=jG fun x hx=>by
 obtain⟨i,hi,rfl⟩:=j4 hx;exact q i hi
theorem xG{m n:Nat}{h:Nat->Nat->D}(h1:1<=m)(hm:m<=4)(h2:1<=n)(hn:n<=4):iC (.tup (Ls m fun i=>.tup (Ls n (h i))))=true:=by
 show(bJ (.tup (Ls m fun i=>.tup (Ls n (h i))))&&(Ls m fun i=>D.tup (Ls n (h i))).all bJ&&lens (Ls m fun i=>D.tup (Ls n (h i))))=true;rw[lC,E4z h1,E4z hm]
 have a1:(Ls m fun i=>D.tup (Ls n (h i))).all bJ=true:=by
  rw[A3z];intro x hx;obtain⟨i,_,rfl⟩:=j4 hx;rw[lC,E4z h2,E4z hn];rfl
 have a2:lens (Ls m fun i=>D.tup (Ls n (h i)))=true:=by
  unfold lens;rw[A3z,Hx h1];intro x hx;obtain⟨i,_,rfl⟩:=j4 hx;simp[Ly,dR]
 rw[a1,a2];rfl
theorem nU{m n:Nat}{h:Nat->Nat->D}(h2:1<=n)(hn:n<=4):(Ls m fun i=>D.tup (Ls n (h i))).all bJ=true:=by
 rw[A3z];intro x hx;obtain⟨i,_,rfl⟩:=j4 hx;rw[lC,E4z h2,E4z hn];rfl
theorem uM(q:Rat):(q.den:Int)≠0:=by have:=q.den_nz;omega
theorem d_na(q:Rat):((q.den:Int)).natAbs=q.den:=rfl
section
variable {a b:Rat}
theorem J6(k:Nat)(ha:Sq a)(hb:Sq b):aD T 60 (k+3) "sum_of" [qD a,qD b]=some (qD (a+b)):=by
 rw[sum_of k (uM a) (uM b) ha.1 ha.2 hb.1 hb.2,Ob (B4z (uM a) (uM b)),J5]
theorem kY(k:Nat)(ha:Sq a)(hb:Sq b):aD T 60 (k+3) "times_of" [qD a,qD b]=some (qD (a*b)):=by
 rw[times_of k (uM a) (uM b) ha.1 ha.2 hb.2,Ob (B4z (uM a) (uM b)),Dq]
theorem DW(k:Nat)(ha:Sq a)(h:0<=a):aD T 60 (k+3) "is_fraction" [qD a]=some (.bl true):=Vy k (X1z ha.2 (by decide +kernel)) (Ge a) (Dl h)
theorem Mz(k:Nat)(ha:Sq a):aD T 60 (k+2) "has_fraction_form" [qD a]=some (.bl true):=sZ k (X1z ha.2 (by decide +kernel)) (Ge a)
end
def CG(l:D)(t f:Sl):Rho:=[("some",.sh l),("told",t),("fraction",f)]
def ig(g:Nat->Rat):Nat->Sl
 | 0=>.no
 | i+1=>.sh (qD (g i))
theorem mz(g:Nat->Rat)(i:Nat):nOw (ig g i)=true:=by cases i<;>rfl
theorem all_sum(k:Nat){n:Nat}{g:Nat->Rat}(hg:∀ i,i<n->Sq (g i))(hs:∀ i,i<n->Sq (cu i g)):aD T 60 (k+4) "all_sum" [.lst (Ls n fun i=>qD (g i))]=some (qD (cu n g)):=by
 refine bU (fd:=aU (top 27)) rfl rfl (fj (ρ':=CG (.lst (Ls n fun i=>qD (g i))) .no .no) (d:=qD 0) rfl rfl rfl (cV (aj (ak rfl) (aj (ak rfl) aL)) rfl) ?_);refine d9 (ρ:=CG (.lst (Ls n fun i=>qD (g i))) (.sh (qD (cu 0 g))) .no) (ρ':=CG (.lst (Ls n fun i=>qD (g i))) (.sh (qD (cu 0 g))) (ig g 0)) (ρ2:=CG (.lst (Ls n fun i=>qD (g i))) (.sh (qD (cu n g))) (ig g n)) rfl (wSq (x:=.lst (Ls n fun i=>qD (g i))) rfl (xName rfl) rfl) (mO (R:=fun i=>CG (.lst (Ls n fun i=>qD (g i))) (.sh (qD (cu i g))) (ig g i)) fun i hi=>?_) (qP (aX rfl (aX rfl (aX (mz g n) rfl))) (xName rfl));refine eH (ρ1:=CG (.lst (Ls n fun i=>qD (g i))) (.sh (qD (cu i g))) (.sh (qD (g i)))) rfl ?_;exact fj (ρ:=CG (.lst (Ls n fun i=>qD (g i))) (.sh (qD (cu i g))) (.sh (qD (g i)))) (ρ':=CG (.lst (Ls n fun i=>qD (g i))) (.sh (qD (cu i g))) (.sh (qD (g i)))) (d:=qD (cu (i+1) g)) rfl rfl rfl (aH rfl (aj (xName rfl) (aj (xName rfl) aL)) (J6 k (hs i hi) (hg i hi))) bN
abbrev rwq(n:Nat)(f:Nat->Rat):D:=.tup (Ls n fun j=>qD (f j))
abbrev ftq(m n:Nat)(F:Nat->Nat->Rat):D:=.tup (Ls m fun i=>rwq n (F i))
theorem row_by_column(k:Nat){n:Nat}{f g:Nat->Rat}(h4:n<=4)(hf:∀ i,i<n->Sq (f i))(hg:∀ i,i<n->Sq (g i))(hp:∀ i,i<n->Sq (f i*g i))(hs:∀ i,i<n->Sq (cu i fun l=>f l*g l)):aD T 60 (k+5) "row_by_column" [rwq n f,rwq n g]=some (qD (cu n fun l=>f l*g l)):=by
 refine bU (fd:=aU (top 43)) rfl rfl (cZ (aH rfl (aj (x:=.lst (Ls n fun i=>qD (f i*g i))) (dg rfl (Wg (h:=fun j=>qD (f j)) (g:=fun j=>qD (g j)) rfl (xName rfl) (xName rfl)) (nJ (by omega)) (bZ (g:=fun i=>qD (f i*g i)) fun i hi=>dH rfl ?_)) aL) (all_sum k hp hs)));exact aH rfl (aj (x:=qD (f i)) (xName rfl) (aj (x:=qD (g i)) (xName rfl) aL)) (kY (k+1) (hf i hi) (hg i hi))
theorem row_by_columns(k:Nat){n p:Nat}{f:Nat->Rat}{G:Nat->Nat->Rat}(h4:n<=4)(hp4:p<=4)(hf:∀ i,i<n->Sq (f i))(hg:∀ j i,j<p->i<n->Sq (G j i))(hp:∀ j i,j<p->i<n->Sq (f i*G j i))(hs:∀ j i,j<p->i<n->Sq (cu i fun l=>f l*G j l)):aD T 60 (k+6) "row_by_columns" [rwq n f,ftq p n G]=some (rwq p fun j=>cu n fun l=>f l*G j l):=by
 refine bU (fd:=aU (top 44)) rfl rfl (cZ (dY rfl rfl rfl (aj (dg rfl (Jk (xs:=Ls p fun i=>rwq n (G i)) rfl (xName rfl)) (nJ (by omega)) (bZ (g:=fun j=>qD (cu n fun l=>f l*G j l)) fun j hj=>dH rfl ?_)) aL) Er));exact aH rfl (aj (x:=rwq n f) (xName rfl) (aj (x:=rwq n (G j)) (xName rfl) aL)) (row_by_column k h4 hf (fun i hi=>hg j i hj hi) (fun i hi=>hp j i hj hi) (fun i hi=>hs j i hj hi))
theorem Ja{m n:Nat}{F:Nat->Nat->Rat}:dep (ftq m n F)<=3:=by
 have:∀ i,i<m->dep (rwq n (F i))<=2:=fun i _=>by
  have:=Ej (m:=n) (b:=1) (h:=fun j=>qD (F i j)) fun j _=>by simp[dep,deps]
  simp only[dep];omega
 have:=Ej this;simp only[dep];omega
theorem G6{m n:Nat}{F:Nat->Nat->Rat}{x:D}(hx:x∈nums (Ls m fun i=>rwq n (F i))):∃ i j,i<m/\j<n/\x=qD (F i j):=by
 obtain⟨r,hr,hx⟩:=sy hx;obtain⟨i,hi,rfl⟩:=j4 hr;obtain⟨j,hj,rfl⟩:=j4 (show x∈Ls n fun j=>qD (F i j) from hx);exact⟨i,j,hi,hj,rfl⟩
theorem w6(k:Nat){m n:Nat}{F:Nat->Nat->Rat}(h1:1<=m)(h2:m<=4)(h3:1<=n)(h4:n<=4)(hl:∀ i j,i<m->j<n->Sq (F i j)):aD T 60 (k+3) "need_fraction_table" [ftq m n F]=some .non:=by
 have hz:(nums (Ls m fun i=>rwq n (F i))).length<=4*(Ls m fun i=>rwq n (F i)).length:=iV (nU (m:=m) (n:=n) (h:=fun i j=>qD (F i j)) h3 h4);rw[dR] at hz;have hL:aD T 60 (k+2) "has_lines" [ftq m n F]=some (.bl true):=(xG (h:=fun i j=>qD (F i j)) h1 h2 h3 h4)▸has_lines k (X1z Ja (by decide));have hN:aD T 60 (k+2) "numbers_of" [ftq m n F]=some (.lst (nums (Ls m fun i=>rwq n (F i)))):=numbers_of (k+1) (by rw[dR];exact h2) (nU (h:=fun i j=>qD (F i j)) h3 h4);refine u0 (fd:=aU (top 28)) rfl rfl (sX (cj (nD (cW (aH rfl (aj (xName rfl) aL) hL)) (jc (cW (dY (ds:=[.lst ((nums (Ls m fun i=>rwq n (F i))).map fun _=>.bl true)]) rfl rfl rfl (aj (dg (l:=nums (Ls m fun i=>rwq n (F i))) rfl (wSq (x:=.lst (nums (Ls m fun i=>rwq n (F i)))) rfl (aH rfl (aj (xName rfl) aL) hN) rfl) (je (by omega)) (cN (g:=fun _=>.bl true) fun x hx=>?_)) aL) ?_))))) bN)
 ·obtain⟨i,j,hi,hj,rfl⟩:=G6 hx
  exact dH rfl (aH rfl (aj (x:=qD (F i j)) (xName rfl) aL) (Mz k (hl i j hi hj)))
 ·have:=uR (l:=nums (Ls m fun i=>rwq n (F i))) (t:=fun _=>true)
  rw[this];congr 2;simp
theorem Ca(k:Nat){m n:Nat}{F:Nat->Nat->Rat}(h1:1<=m)(h2:m<=4)(h4:n<=4):aD T 60 (k+2) "columns_of" [ftq m n F]=some (ftq n m fun i j=>F j i):=by
 have col:∀ j,j<n->aD T 60 (k+1) "column_of" [ftq m n F,.int j]=some (rwq m fun i=>F i j):=fun j hj=>by
  refine bU (fd:=aU (top 32)) rfl rfl (cZ (dY rfl rfl rfl (aj (dg rfl (Jk (xs:=Ls m fun i=>rwq n (F i)) rfl (xName rfl)) (nJ (by omega)) (bZ (g:=fun i=>qD (F i j)) fun i hi=>dH rfl ?_)) aL) Er));exact Fe (m:=n) (h:=fun j=>qD (F i j)) (xName rfl) (xName rfl) hj rfl rfl
 refine bU (fd:=aU (top 33)) rfl rfl (cZ (dY rfl rfl rfl (aj (dg rfl (Cp (j:=n) rfl (dY (ds:=[rwq n (F 0)]) rfl rfl rfl (aj (Ol (m:=m) (h:=fun i=>rwq n (F i)) (xName rfl) (ak rfl) (by omega) rfl rfl) aL) V7) (by omega)) (nJ (by omega)) (bZ (g:=fun j=>rwq m fun i=>F i j) fun j hj=>dH rfl ?_)) aL) Er));exact aH rfl (aj (x:=ftq m n F) (xName rfl) (aj (x:=.int j) (xName rfl) aL)) (col j hj)
def Bq(m n D B:Nat)(F:Nat->Nat->Rat):Prop:=∀ i j,i<m->j<n->Qb D B (F i j)
theorem Bq.mul{m n p D B E C:Nat}{F G:Nat->Nat->Rat}(hF:Bq m n D B F)(hG:Bq n p E C G):Bq m p (D*E) (n*(B*C)) (mulQ n F G):=fun i j hi hj=>vP fun l hl=>(hF i l hi hl).mul (hG l j hl hj)
theorem product(k:Nat){m n p D B E C:Nat}{F G:Nat->Nat->Rat}(h1:1<=m)(h2:m<=4)(h3:1<=n)(h4:n<=4)(h5:1<=p)(h6:p<=4)(hF:Bq m n D B F)(hG:Bq n p E C G)(d0:0<D)(e0:0<E)(hD:D*E<=1000000000000000000)(hB:4*(B*C)<=1000000000000000000)(hBB:B<=1000000000000000000)(hCC:C<=1000000000000000000):aD T 60 (k+7) "product_of" [ftq m n F,ftq n p G]=some (ftq m p (mulQ n F G)):=by
 have de:0<D*E:=Nat.mul_pos d0 e0;have hD1:D<=D*E:=M0z _ e0;have hE1:E<=D*E:=Nat.le_mul_of_pos_left _ d0;have sF:∀ i j,i<m->j<n->Sq (F i j):=fun i j hi hj=>(hF i j hi hj).sq d0 (by omega) hBB;have sG:∀ i j,i<n->j<p->Sq (G i j):=fun i j hi hj=>(hG i j hi hj).sq e0 (by omega) hCC
 let R (c:Sl):Rho:=[("one",.sh (ftq m n F)),("other",.sh (ftq n p G)),("columns",c)]
 refine bU (fd:=aU (top 45)) rfl rfl (Bk rfl (d:=.non) (aH rfl (aj (xName rfl) aL) (w6 (k+3) h1 h2 h3 h4 sF)) (Bk rfl (d:=.non) (aH rfl (aj (xName rfl) aL) (w6 (k+3) h3 h4 h5 h6 sG)) (sX (bV (x:=.int n) (y:=.int n) (dY (ds:=[rwq n (F 0)]) rfl rfl rfl (aj (Ol (m:=m) (h:=fun i=>rwq n (F i)) (xName rfl) (ak rfl) (by omega) rfl rfl) aL) V7) (by nofun) (Oa rfl)) ?_)));refine fj (ρ:=R .no) (ρ':=R .no) (d:=ftq p n fun i j=>G j i) rfl rfl rfl (aH rfl (aj (xName rfl) aL) (Ca (k+4) h3 h4 h6)) ?_;refine cZ (ρ:=R (.sh (ftq p n fun i j=>G j i))) (dY rfl rfl rfl (aj (dg rfl (Jk (xs:=Ls m fun i=>rwq n (F i)) rfl (xName rfl)) (nJ (by omega)) (bZ (g:=fun i=>rwq p (mulQ n F G i)) fun i hi=>dH rfl ?_)) aL) Er);refine aH rfl (aj (x:=rwq n (F i)) (xName rfl) (aj (x:=ftq p n fun i j=>G j i) (xName rfl) aL)) (row_by_columns k h4 h6 (fun l hl=>sF i l hi hl) (fun j l hj hl=>sG l j hl hj) (fun j l hj hl=>((hF i l hi hl).mul (hG l j hl hj)).sq de hD (by omega)) (fun j l hj hl=>(vP (n:=l) fun q hq=>(hF i q hi (by omega)).mul (hG q j (by omega) hj)).sq de hD (V4z (D1z _ (by omega:l<=4)) hB)))
structure Stp where
 w:Nat
 p:Nat
 s:Rat
def wS:Nat->Str
 | 0=>"up"
 | 1=>"down"
 | _=>"scale"
def stD(x:Stp):D:=.tup [.str (wS x.w),.int (x.p:Int),qD x.s]
def spR(x:Stp):Nat:=match x.w with
 | 1=>x.p+1
 | _=>x.p
def spC(x:Stp):Nat:=match x.w with
 | 0=>x.p+1
 | _=>x.p
def idQ:Nat->Nat->Rat:=fun i j=>if i=j then 1 else 0
def stQ(x:Stp):Nat->Nat->Rat:=fun i j=>if i=spR x then(if j=spC x then x.s else idQ i j) else idQ i j
def okP(n w p:Nat):Bool:=match w with
 | 0=>decide (p+1<n)
 | 1=>decide (p+1<n)
 | 2=>decide (p<n)
 | _=>false
section
variable {s:Rat}
theorem Cq(k:Nat):∀ n,n<5->∀ w,w<3->∀ p,p<4->okP n w p=true->aD T 60 (k+6) "table_of_step" [.int n,.str (wS w),.int p,qD s]=some (ftq n n (stQ ⟨w,p,s⟩)):=by
 intro n hn w hw p hp h
 match n,hn,w,hw,p,hp,h with
 | 0,_,w,_,p,_,h=>exact absurd h (by unfold okP;split<;>simp)
 | 1,_,2,_,0,_,_=>rfl'
 | 2,_,0,_,0,_,_=>rfl'
 | 2,_,1,_,0,_,_=>rfl'
 | 2,_,2,_,0,_,_=>rfl'
 | 2,_,2,_,1,_,_=>rfl'
 | 3,_,0,_,0,_,_=>rfl'
 | 3,_,0,_,1,_,_=>rfl'
 | 3,_,1,_,0,_,_=>rfl'
 | 3,_,1,_,1,_,_=>rfl'
 | 3,_,2,_,0,_,_=>rfl'
 | 3,_,2,_,1,_,_=>rfl'
 | 3,_,2,_,2,_,_=>rfl'
 | 4,_,0,_,0,_,_=>rfl'
 | 4,_,0,_,1,_,_=>rfl'
 | 4,_,0,_,2,_,_=>rfl'
 | 4,_,1,_,0,_,_=>rfl'
 | 4,_,1,_,1,_,_=>rfl'
 | 4,_,1,_,2,_,_=>rfl'
 | 4,_,2,_,0,_,_=>rfl'
 | 4,_,2,_,1,_,_=>rfl'
 | 4,_,2,_,2,_,_=>rfl'
 | 4,_,2,_,3,_,_=>rfl'
theorem Kz(k:Nat):∀ n,n<5->1<=n->aD T 60 (k+6) "as_fractions" [tbl n n dl]=some (ftq n n idQ):=by
 intro n hn h1
 match n,hn,h1 with
 | 1,_,_=>rfl'
 | 2,_,_=>rfl'
 | 3,_,_=>rfl'
 | 4,_,_=>rfl'
abbrev lwq(n:Nat)(f:Nat->Rat):D:=.lst (Ls n fun j=>qD (f j))
abbrev llq(m n:Nat)(F:Nat->Nat->Rat):D:=.lst (Ls m fun i=>lwq n (F i))
theorem Lk(k:Nat):∀ n,n<5->∀ w,w<3->∀ p,p<4->okP n w p=true->aD T 60 (k+1) "_law_step_table" [.int n,.tup [.str (wS w),.int p,qD s]]=some (llq n n (stQ ⟨w,p,s⟩)):=by
 intro n hn w hw p hp h
 match n,hn,w,hw,p,hp,h with
 | 0,_,w,_,p,_,h=>exact absurd h (by unfold okP;split<;>simp)
 | 1,_,2,_,0,_,_=>rfl'
 | 2,_,0,_,0,_,_=>rfl'
 | 2,_,1,_,0,_,_=>rfl'
 | 2,_,2,_,0,_,_=>rfl'
 | 2,_,2,_,1,_,_=>rfl'
 | 3,_,0,_,0,_,_=>rfl'
 | 3,_,0,_,1,_,_=>rfl'
 | 3,_,1,_,0,_,_=>rfl'
 | 3,_,1,_,1,_,_=>rfl'
 | 3,_,2,_,0,_,_=>rfl'
 | 3,_,2,_,1,_,_=>rfl'
 | 3,_,2,_,2,_,_=>rfl'
 | 4,_,0,_,0,_,_=>rfl'
 | 4,_,0,_,1,_,_=>rfl'
 | 4,_,0,_,2,_,_=>rfl'
 | 4,_,1,_,0,_,_=>rfl'
 | 4,_,1,_,1,_,_=>rfl'
 | 4,_,1,_,2,_,_=>rfl'
 | 4,_,2,_,0,_,_=>rfl'
 | 4,_,2,_,1,_,_=>rfl'
 | 4,_,2,_,2,_,_=>rfl'
 | 4,_,2,_,3,_,_=>rfl'
end
theorem su{n w p:Nat}(h:okP n w p=true):p<n:=by
 unfold okP at h
 split at h<;>simp at h<;>omega
theorem Al{n w p:Nat}(h:okP n w p=true):w<3:=by
 unfold okP at h
 split at h<;>simp at h<;>omega
structure okS (n:Nat) (x:Stp):Prop where
 pl:okP n x.w x.p=true
 nn:0<=x.s
 ps:x.w=2->0<x.s
 sq:Sq x.s
theorem oO(k:Nat){v:Nat}{m:Int}(h:(v:Int)<m):aD T 60 (k+3) "is_place" [.int v,.int m]=some (.bl true) :=
 bU (fd:=aU (top 16)) rfl rfl (cZ (aH rfl (aj (xName rfl) (aj (ak rfl) (aj (cg (x:=.int m) (y:=.int 1) (xName rfl) (ak rfl) rfl) aL))) (cQ k (by omega) (by omega))))
theorem Mj(k:Nat){n p:Nat}{s:Rat}(hp:p<n)(h:0<s)(hs:Sq s):aD T 60 (k+4) "is_step_of" [.int n,.str "scale",.int p,qD s]=some (.bl true):=by
 have hf:=DW k hs (Rat.le_of_lt h);have ip:aD T 60 (k+3) "is_place" [.int p,.int n]=some (.bl true):=oO k (by omega);refine bU (fd:=aU (top 40)) rfl rfl (Og (ρ:=[("many",.sh (.int n)),("word",.sh (.str "scale")),("place",.sh (.int p)),("share",.sh (qD s))]) (fl1:=.ret (.bl true)) rfl (bV (x:=.str "scale") (y:=.str "scale") (xName rfl) (xName rfl) rfl) (qP rfl (cj (kJ (aH rfl (aj (xName rfl) (aj (xName rfl) aL)) ip) (kJ (aH rfl (aj (xName rfl) aL) hf) (jc (bV (x:=.int s.num) (y:=.int 0) (Jg (xName rfl)) (ak rfl) ?_)))))) rfl);rw[oGt,E4z (Vo h)]
theorem Dy(k:Nat){n p:Nat}{s:Rat}{w:Str}(hw:w="up"\/w="down")(hp:p+1<n)(h:0<=s)(hs:Sq s):aD T 60 (k+4) "is_step_of" [.int n,.str w,.int p,qD s]=some (.bl true):=by
 have hf:=DW k hs h;have ip:aD T 60 (k+3) "is_place" [.int p,.int ((n:Int)-1)]=some (.bl true):=oO k (by omega)
 have c1:cmpop .Eq (.str w) (.str "scale")=some (.bl false):=by rcases hw with rfl | rfl<;>rfl'
 have c2:cmpop .In (.str w) (.tup [.str "up",.str "down"])=some (.bl true):=by rcases hw with rfl | rfl<;>rfl'
 exact bU (fd:=aU (top 40)) rfl rfl (uY (ρ:=[("many",.sh (.int n)),("word",.sh (.str w)),("place",.sh (.int p)),("share",.sh (qD s))]) rfl (bV (x:=.str w) (y:=.str "scale") (xName rfl) (xName rfl) c1) (qP rfl (cj (kJ (bV (x:=.str w) (y:=.tup [.str "up",.str "down"]) (xName rfl) (cV (aj (xName rfl) (aj (xName rfl) aL)) rfl) c2) (kJ (aH rfl (aj (xName rfl) (aj (cg (x:=.int n) (y:=.int 1) (xName rfl) (ak rfl) rfl) aL)) ip) (jc (aH rfl (aj (xName rfl) aL) hf)))))))
theorem is_step_of(k:Nat){n:Nat}{x:Stp}(h:okS n x):aD T 60 (k+4) "is_step_of" [.int n,.str (wS x.w),.int (x.p:Int),qD x.s]=some (.bl true):=by
 have hlt:=su h.pl;have hw:=Al h.pl;have pl:=h.pl;obtain⟨w,p,s⟩:=x
 match w,hw with
 | 2,_=>exact Mj k hlt (h.ps rfl) h.sq
 | 0,_=>exact Dy k (.inl rfl) (by simpa[okP] using pl) h.nn h.sq
 | 1,_=>exact Dy k (.inr rfl) (by simpa[okP] using pl) h.nn h.sq
theorem v8{α:Type}{P:List α->Prop}(h0:P [])(hs:∀ l a,P l->P (l++[a]))(l:List α):P l:=by
 rw[<- List.reverse_reverse l]
 induction l.reverse with
 | nil=>exact h0
 | cons a t ih=>rw[List.reverse_cons];exact hs _ _ ih
theorem is_step(k:Nat){n:Nat}{x:Stp}(h:okS n x):aD T 60 (k+5) "is_step" [.int n,stD x]=some (.bl true):=by
 have i1:aD T 60 (k+4) "is_whole" [.int n]=some (.bl true):=is_whole (k+3) (by simp[dep]);refine bU (fd:=aU (top 41)) rfl rfl (uY (ρ:=[("many",.sh (.int n)),("thing",.sh (stD x))]) rfl (cj (nD (cW (aH rfl (aj (xName rfl) aL) i1)) (nD (cW (uc rfl rfl rfl (x:=stD x) (xName rfl) rfl rfl rfl)) (jc (bV (x:=.int 3) (y:=.int 3) (dY (ds:=[stD x]) rfl rfl rfl (aj (xName rfl) aL) rfl) (ak rfl) rfl))))) ?_);exact qP (ρ:=[("many",.sh (.int n)),("thing",.sh (stD x))]) rfl (aH rfl (aj (xName rfl) (aj (xIx (x:=stD x) (i:=0) (xName rfl) (ak rfl) rfl rfl) (aj (xIx (x:=stD x) (i:=1) (xName rfl) (ak rfl) rfl rfl) (aj (xIx (x:=stD x) (i:=2) (xName rfl) (ak rfl) rfl rfl) aL)))) (is_step_of k h))
abbrev ssD(l:List Stp):D:=.lst (l.map stD)
theorem need_steps(k:Nat){n:Nat}{l:List Stp}(h1:1<=n)(h4:n<=4)(hl:∀ x∈l,okS n x)(hz:l.length<=100):aD T 60 (k+6) "need_steps" [.int n,ssD l]=some .non:=by
 have w1:aD T 60 (k+5) "is_whole_within" [.int n,.int 1,.int 4]=some (.bl true):=cQ (k+3) (by omega) (by omega);refine u0 (fd:=aU (top 42)) rfl rfl (uY (ρ:=[("many",.sh (.int n)),("steps",.sh (ssD l))]) rfl (cW (aH rfl (aj (xName rfl) (aj (ak rfl) (aj (xName rfl) aL))) w1)) (uY (ρ:=[("many",.sh (.int n)),("steps",.sh (ssD l))]) rfl (cj (nD (cW (uc rfl rfl rfl (x:=ssD l) (xName rfl) rfl rfl rfl)) (jc (cW (dY (ds:=[.lst ((l.map stD).map fun _=>.bl true)]) rfl rfl rfl (aj (dg (l:=l.map stD) rfl (wSq (x:=ssD l) rfl (xName rfl) rfl) (je (by rw[J3z];omega)) (cN (g:=fun _=>.bl true) fun y hy=>?_)) aL) ?_))))) bN))
 ·obtain⟨x,hx,rfl⟩:=List.mem_map.mp hy
  exact dH rfl (aH rfl (aj (x:=.int n) (xName rfl) (aj (x:=stD x) (xName rfl) aL)) (is_step k (hl x hx)))
 ·have:=uR (l:=l.map stD) (t:=fun _=>true)
  rw[this];congr 2;simp
def mkQ(n:Nat)(l:List Stp):Nat->Nat->Rat:=l.foldl (fun M x=>mulQ n M (stQ x)) idQ
theorem gA{n:Nat}{l:List Stp}{x:Stp}:mkQ n (l++[x])=mulQ n (mkQ n l) (stQ x):=by simp[mkQ]
structure Sml (n E C:Nat) (l:List Stp):Prop where
 ok:∀ x∈l,okS n x
 bq:∀ x∈l,Bq n n E C (stQ x)
 e0:0<E
 h1:E^l.length<=1000000000000000000
 h2:(4*C)^l.length<=1000000000000000000
 c1:1<=C
 cc:C<=1000000000000000000
theorem ZD{n:Nat}:Bq n n 1 1 idQ:=fun i j _ _=>by
 unfold idQ;split
 ·exact Qb.one
 ·exact Qb.zero.up (by decide)
theorem Yt{n E C:Nat}(h4:n<=4):∀ {l:List Stp},(∀ x∈l,Bq n n E C (stQ x))->Bq n n (E^l.length) ((4*C)^l.length) (mkQ n l):=by
 intro l;refine v8 (P:=fun l=>(∀ x∈l,Bq n n E C (stQ x))->Bq n n (E^l.length) ((4*C)^l.length) (mkQ n l)) (fun _=>ZD) (fun l x ih h=>?_) l;rw[gA,T1z,U0z,E5z,E5z];have:=(ih fun y hy=>h y (by simp[hy])).mul (h x (by simp));refine fun i j hi hj=>(this i j hi hj).up ?_;rw[show(4*C)^l.length*(4*C)=4*((4*C)^l.length*C) by rw[Nat.mul_left_comm]];exact D1z _ h4
def ffB:D->Bool
 | .tup [.int u,.int v]=>decide (0<v)&&decide (Int.gcd u v=1)
 | _=>false
def nnB:D->Bool
 | .tup [.int u,_]=>decide (0<=u)
 | _=>false
def psB:D->Bool
 | .tup [.int u,_]=>decide (0<u)
 | _=>false
def bdS:D->Bool
 | .tup [.int u,.int v]=>decide (u.natAbs<=1000000000000000000)&&decide (v.natAbs<=1000000000000000000)
 | _=>true
def uU(t:Str):D->Bool
 | .str x=>decide (x=t)
 | _=>false
theorem wd1{t:Str}{w:D}:deq w (.str t)=uU t w:=by cases w<;>rfl
theorem wd2{t:Str}{w:D}:deq (.str t) w=uU t w:=by
 cases w<;>first | rfl | skip
 rename_i x;show(t==x)=decide (x=t)
 by_cases h:x=t
 ·subst h;simp
 ·rw[D3z h]
  have:t≠x:=fun e=>h e.symm;simpa using this
theorem Eb{s:D}(h:ffB s=true):∃ u v,s=frD u v/\0<v/\Int.gcd u v=1:=by
 unfold ffB at h;split at h
 ·rename_i u v
  simp only[X2z,J2z] at h;exact⟨u,v,rfl,h.1,h.2⟩
 ·cases h
theorem neI{a b:Int}:cmpop .NotEq (.int a) (.int b)=some (.bl (!(a==b))):=rfl
theorem Jt{cx:Cxt}{n:Nat}{sc:Scope}{ρ:Rho}{a b:Expr}{es:List Expr}{x y:Bool}(h1:ev cx n sc ρ a=some (.bl x))(h2:x=true->bR .And (ev cx n sc ρ) (b::es)=some (.bl y)):bR .And (ev cx n sc ρ) (a::b::es)=some (.bl (x&&y)):=by
 cases x
 ·exact zG h1
 ·exact kJ h1 (h2 rfl)
theorem Bu(k:Nat){d:D}(h:dep d<1000)(hb:bdS d=true):aD T 60 (k+2) "has_fraction_form" [d]=some (.bl (ffB d)):=by
 cases d with
 | tup us =>
  by_cases hl:us.length=2
  ·match us,hl with
   | [a,b],_ =>
    have da:dep a<1000:=by simp only[dep,deps] at h;omega
    have db:dep b<1000:=by simp only[dep,deps] at h;omega
    have c1:ev (cxN T 60 (k+1)) 60 (aU (top 23)).sc [("thing",.sh (.tup [a,b]))] (ifX (bL 23 0))=some (.bl false) :=
     cj (nD (cW (uc rfl rfl rfl (xName rfl) rfl)) (jc (bV (x:=.int 2) (y:=.int 2) (dY rfl rfl rfl (aj (x:=.tup [a,b]) (xName rfl) aL) rfl) (ak rfl) (Oa rfl))))
    cases wa:whole a with
    | false =>
     have e:ffB (.tup [a,b])=false:=by cases a<;>first | rfl | simp[whole] at wa
     rw[e];exact bU (fd:=aU (top 23)) rfl rfl (uY rfl c1 (uF (fl1:=.ret (.bl false)) (cj (Nz (pU (aH rfl (aj (x:=a) (xIx (x:=.tup [a,b]) (i:=0) (xName rfl) (ak rfl) rfl rfl) aL) (wa▸is_whole k da))))) (cZ (ak rfl)) rfl))
    | true =>
     cases wb:whole b with
     | false =>
      have e:ffB (.tup [a,b])=false:=by cases a<;>first | rfl | (cases b<;>first | rfl | simp[whole] at wb)
      rw[e];exact bU (fd:=aU (top 23)) rfl rfl (uY rfl c1 (uF (fl1:=.ret (.bl false)) (cj (nD (cW (aH rfl (aj (x:=a) (xIx (x:=.tup [a,b]) (i:=0) (xName rfl) (ak rfl) rfl rfl) aL) (wa▸is_whole k da))) (jc (pU (aH rfl (aj (x:=b) (xIx (x:=.tup [a,b]) (i:=1) (xName rfl) (ak rfl) rfl rfl) aL) (wb▸is_whole k db)))))) (cZ (ak rfl)) rfl))
     | true =>
      cases a<;>simp[whole] at wa
      cases b<;>simp[whole] at wb
      simp only[bdS,X2z,J2z] at hb;exact yr k (X1z hb.2 (by decide +kernel))
  ·have e:ffB (.tup us)=false:=by
    match us,hl with
    | [],_=>rfl
    | [a],_=>cases a<;>rfl
    | a::b::c::r,_=>cases a<;>first | rfl | (cases b<;>rfl)
    | [_,_],hl=>exact absurd rfl hl
   rw[e];refine bU (fd:=aU (top 23)) rfl rfl (uF (fl1:=.ret (.bl false)) (cj (nD (cW (uc rfl rfl rfl (xName rfl) rfl)) (jc (bV (x:=.int (us.length:Int)) (y:=.int 2) (dY rfl rfl rfl (aj (x:=.tup us) (xName rfl) aL) uQ) (ak rfl) ?_)))) (cZ (ak rfl)) rfl);rw[neI]
   have:((us.length:Int)==2)=false:=by simpa using(by omega:¬ (us.length:Int)=2)
   rw[this];rfl
 | exc c=>exact absurd h (by simp[dep])
 | dic _ _=>exact absurd h (by simp[dep])
 | dt _ _=>exact absurd h (by simp[dep])
 | _=>exact bU (fd:=aU (top 23)) rfl rfl (uF (fl1:=.ret (.bl false)) (cj (Nz (pU (uc rfl rfl rfl (xName rfl) rfl)))) (cZ (ak rfl)) rfl)
def frB(s:D):Bool:=ffB s&&nnB s
theorem yq(k:Nat){d:D}(h:dep d<1000)(hb:bdS d=true):aD T 60 (k+3) "is_fraction" [d]=some (.bl (frB d)):=by
 refine bU (fd:=aU (top 24)) rfl rfl (cZ (cj (Jt (aH rfl (aj (x:=d) (xName rfl) aL) (Bu k h hb)) fun q=>jc ?_)));obtain⟨u,v,rfl,_,_⟩:=Eb q;exact bV (x:=.int u) (y:=.int 0) (Jg (xName rfl)) (ak rfl) rfl
theorem jr(k:Nat){d:D}{m:Int}(h:dep d<1000):aD T 60 (k+3) "is_place" [d,.int m]=some (.bl (within 0 (m-1) d)) :=
 bU (fd:=aU (top 16)) rfl rfl (cZ (aH rfl (aj (xName rfl) (aj (ak rfl) (aj (cg (x:=.int m) (y:=.int 1) (xName rfl) (ak rfl) rfl) aL))) (oN k h)))
theorem in2{w:D}(h:dep w<=50):cmpop .In w (.tup [.str "up",.str "down"])=some (.bl (uU "up" w||uU "down" w)):=by
 have q:inT w [.str "up",.str "down"]=some (uU "up" w||uU "down" w):=by
  have e:inS w [.str "up",.str "down"]=some (uU "up" w||uU "down" w):=by
   show(if decide (dep w<=50) then some (deq (.str "up") w||(deq (.str "down") w||false)) else none)=_;rw[E4z h,wd2,wd2,Bool.or_false];rfl
  unfold inT;split
  ·rename_i i ns h1 h2;exact nomatch (show(none:Option (List Int))=some ns from h2)
  ·exact e
 show(inT w _).map _=_;rw[q];rfl
def stB(n:Int)(w p s:D):Bool:=if uU "scale" w then within 0 (n-1) p&&(frB s&&psB s) else(uU "up" w||uU "down" w)&&(within 0 (n-1-1) p&&frB s)
theorem Hr(k:Nat){n:Int}{w p s:D}(hw:dep w<=50)(hp:dep p<1000)(hs:dep s<1000)(hb:bdS s=true):aD T 60 (k+4) "is_step_of" [.int n,w,p,s]=some (.bl (stB n w p s)):=by
 have hf:=yq k hs hb;unfold stB
 cases e:uU "scale" w with
 | true =>
  refine bU (fd:=aU (top 40)) rfl rfl (Og (ρ:=[("many",.sh (.int n)),("word",.sh w),("place",.sh p),("share",.sh s)]) (fl1:=.ret (.bl (within 0 (n-1) p&&(frB s&&psB s)))) rfl (bV (x:=w) (y:=.str "scale") (xName rfl) (xName rfl) (by rw[oEq hw (by simp[dep]),wd1,e])) (qP rfl (cj (Jt (aH rfl (aj (xName rfl) (aj (xName rfl) aL)) (jr k hp)) fun _=>Jt (aH rfl (aj (xName rfl) aL) hf) fun q=>jc ?_))) rfl);obtain⟨u,v,rfl,_,_⟩:=Eb (Bool.and_eq_true_iff.mp q).1;exact bV (x:=.int u) (y:=.int 0) (Jg (xName rfl)) (ak rfl) rfl
 | false =>
  exact bU (fd:=aU (top 40)) rfl rfl (uY (ρ:=[("many",.sh (.int n)),("word",.sh w),("place",.sh p),("share",.sh s)]) rfl (bV (x:=w) (y:=.str "scale") (xName rfl) (xName rfl) (by rw[oEq hw (by simp[dep]),wd1,e])) (qP rfl (cj (Jt (bV (x:=w) (y:=.tup [.str "up",.str "down"]) (xName rfl) (cV (aj (xName rfl) (aj (xName rfl) aL)) rfl) (in2 hw)) fun _=>Jt (aH rfl (aj (xName rfl) (aj (cg (x:=.int n) (y:=.int 1) (xName rfl) (ak rfl) rfl) aL)) (jr k hp)) fun _=>jc (aH rfl (aj (xName rfl) aL) hf)))))
def jT(n:Int):D->Bool
 | .tup [w,p,s]=>stB n w p s
 | _=>false
def bdB:D->Bool
 | .tup [_,_,s]=>bdS s
 | _=>true
theorem zO{n:Int}{us:List D}(hl:us.length≠3):jT n (.tup us)=false:=by
 match us,hl with
 | [],_=>rfl
 | [_],_=>unfold jT;rfl
 | [_,_],_=>unfold jT;rfl
 | _::_::_::_::_,_=>unfold jT;rfl
 | [_,_,_],hl=>exact absurd rfl hl
theorem ne3{us:List D}(hl:us.length≠3):cmpop .NotEq (.int (us.length:Int)) (.int 3)=some (.bl true):=by
 rw[neI]
 have:((us.length:Int)==3)=false:=by simpa using(by omega:¬ (us.length:Int)=3)
 rw[this];rfl
theorem qH(k:Nat){n:Int}{d:D}(h:dep d<=50)(hb:bdB d=true):aD T 60 (k+5) "is_step" [.int n,d]=some (.bl (jT n d)):=by
 have wn:aD T 60 (k+4) "is_whole" [.int n]=some (.bl true):=is_whole (k+3) (by simp[dep])
 cases d with
 | tup us =>
  by_cases hl:us.length=3
  ·match us,hl with
   | [w,p,s],_ =>
    simp only[dep,deps] at h;refine bU (fd:=aU (top 41)) rfl rfl (uY (ρ:=[("many",.sh (.int n)),("thing",.sh (.tup [w,p,s]))]) rfl (cj (nD (cW (aH rfl (aj (x:=.int n) (xName rfl) aL) wn)) (nD (cW (uc rfl rfl rfl (xName rfl) rfl)) (jc (bV (x:=.int 3) (y:=.int 3) (dY rfl rfl rfl (aj (x:=.tup [w,p,s]) (xName rfl) aL) rfl) (ak rfl) (Oa rfl)))))) (qP rfl (aH rfl (aj (xName rfl) (aj (x:=w) (xIx (x:=.tup [w,p,s]) (i:=0) (xName rfl) (ak rfl) rfl rfl) (aj (x:=p) (xIx (x:=.tup [w,p,s]) (i:=1) (xName rfl) (ak rfl) rfl rfl) (aj (x:=s) (xIx (x:=.tup [w,p,s]) (i:=2) (xName rfl) (ak rfl) rfl rfl) aL)))) (Hr k (by omega) (by omega) (by omega) hb))))
  ·rw[zO hl]
   exact bU (fd:=aU (top 41)) rfl rfl (uF (fl1:=.ret (.bl false)) (cj (nD (cW (aH rfl (aj (x:=.int n) (xName rfl) aL) wn)) (nD (cW (uc rfl rfl rfl (xName rfl) rfl)) (jc (bV (x:=.int (us.length:Int)) (y:=.int 3) (dY rfl rfl rfl (aj (x:=.tup us) (xName rfl) aL) uQ) (ak rfl) (ne3 hl)))))) (cZ (ak rfl)) rfl)
 | exc c=>exact absurd h (by simp[dep])
 | dic _ _=>exact absurd h (by simp[dep])
 | dt _ _=>exact absurd h (by simp[dep])
 | _=>exact bU (fd:=aU (top 41)) rfl rfl (uF (fl1:=.ret (.bl false)) (cj (nD (cW (aH rfl (aj (x:=.int n) (xName rfl) aL) wn)) (Nz (pU (uc rfl rfl rfl (xName rfl) rfl))))) (cZ (ak rfl)) rfl)
theorem gJ{α:Type}{f:D->Rho->Option Fl}{g:α->D}{P:List α->Rho->Prop}{whole:List α}(h:∀ pre x post ρ,pre++x::post=whole->P pre ρ->∃ ρ',P (pre++[x]) ρ'/\f (g x) ρ=some (.nxt ρ')):∀ {l pre:List α} {ρ:Rho},pre++l=whole->P pre ρ->∃ ρ',P whole ρ'/\bO f (l.map g) ρ=some (.nxt ρ')
 | [],pre,ρ,e,hP=>⟨ρ,by rw[H3z] at e;rw[<- e];exact hP,rfl⟩
 | x::l,pre,ρ,e,hP=>by
  obtain⟨ρ1,h1,h2⟩:=h pre x l ρ e hP;obtain⟨ρ2,h3,h4⟩:=gJ h (l:=l) (pre:=pre++[x]) (by rw[E2z];exact e) h1;refine⟨ρ2,h3,?_⟩;simp only[O4z,bO,h2];exact h4
def zU(n:Nat)(l:List Stp)(md w p s:Sl):Rho:=[("many",.sh (.int n)),("steps",.sh (ssD l)),("made",md),("word",w),("place",p),("share",s)]
theorem wI{E:Nat}(h:0<E){i j:Nat}(hij:i<=j):E^i<=E^j:=E1z h hij
theorem Sml.bnd{n E C:Nat}{l:List Stp}(S:Sml n E C l){pre:List Stp}{x:Stp}{post:List Stp}(e:pre++x::post=l):E^pre.length*E<=1000000000000000000/\4*((4*C)^pre.length*C)<=1000000000000000000/\(4*C)^pre.length<=1000000000000000000:=by
 have hl:pre.length+1<=l.length:=by rw[<- e,T1z,W2z];omega
 have c1:=S.c1;refine⟨?_,?_,?_⟩
 ·rw[<- E5z];exact V4z (wI S.e0 hl) S.h1
 ·rw[show 4*((4*C)^pre.length*C)=(4*C)^(pre.length+1) by rw[E5z,Nat.mul_left_comm]]
  exact V4z (wI (by omega) hl) S.h2
 ·exact V4z (wI (by omega) (by omega)) S.h2
theorem made_by(k:Nat){n E C:Nat}{l:List Stp}(h1:1<=n)(h4:n<=4)(S:Sml n E C l)(hz:l.length<=100):aD T 60 (k+8) "made_by" [.int n,ssD l]=some (ftq n n (mkQ n l)):=by
 have go:=gJ (f:=fF (cxN T 60 (k+7)) 60 59 (aU (top 47)).sc (cL (bL 47 2)) (aV (bL 47 2))) (g:=stD) (whole:=l) (P:=fun pre ρ=>∃ w p s,nOw w=true/\nOw p=true/\nOw s=true/\ρ=zU n l (.sh (ftq n n (mkQ n pre))) w p s) (fun pre x post ρ e hP=>by
  obtain⟨w,p,s,_,_,_,rfl⟩:=hP;have ok:=S.ok x (by rw[<- e];simp);obtain⟨b1,b2,b3⟩:=S.bnd e;refine⟨_,⟨.sh (.str (wS x.w)),.sh (.int (x.p:Int)),.sh (qD x.s),rfl,rfl,rfl,rfl⟩,eH (ρ1:=zU n l (.sh (ftq n n (mkQ n pre))) (.sh (.str (wS x.w))) (.sh (.int (x.p:Int))) (.sh (qD x.s))) rfl ?_⟩;have ts:aD T 60 (k+7) "table_of_step" [.int n,.str (wS x.w),.int (x.p:Int),qD x.s]=some (ftq n n (stQ x)):=Cq (k+1) n (by omega) x.w (Al ok.pl) x.p (by have:=su ok.pl;omega) ok.pl;have pr:=product k (F:=mkQ n pre) (G:=stQ x) h1 h4 h1 h4 h1 h4 (Yt h4 fun y hy=>S.bq y (by rw[<- e];simp[hy])) (S.bq x (by rw[<- e];simp)) (Nat.pow_pos S.e0) S.e0 b1 b2 b3 S.cc;rw[<- gA] at pr
  exact fj (ρ:=zU n l (.sh (ftq n n (mkQ n pre))) (.sh (.str (wS x.w))) (.sh (.int (x.p:Int))) (.sh (qD x.s))) (ρ':=zU n l (.sh (ftq n n (mkQ n pre))) (.sh (.str (wS x.w))) (.sh (.int (x.p:Int))) (.sh (qD x.s))) (d:=ftq n n (mkQ n (pre++[x]))) rfl rfl rfl (aH rfl (aj (xName rfl) (aj (aH rfl (aj (xName rfl) (aj (xName rfl) (aj (xName rfl) (aj (xName rfl) aL)))) ts) aL)) pr) bN) (l:=l) (pre:=[]) (ρ:=zU n l (.sh (ftq n n (mkQ n []))) .no .no .no) rfl ⟨.no,.no,.no,rfl,rfl,rfl,rfl⟩
 obtain⟨ρ',⟨w,p,s,c1,c2,c3,rfl⟩,hgo⟩:=go;have pl:aD T 60 (k+7) "plain" [.int n]=some (tbl n n dl):=plain (k+3) h1 h4;refine bU (fd:=aU (top 47)) rfl rfl (Bk rfl (d:=.non) (aH rfl (aj (xName rfl) (aj (xName rfl) aL)) (need_steps (k+1) h1 h4 S.ok hz)) ?_);refine fj (ρ:=zU n l .no .no .no .no) (ρ':=zU n l .no .no .no .no) (d:=ftq n n idQ) rfl rfl rfl (aH rfl (aj (aH rfl (aj (xName rfl) aL) pl) aL) (Kz (k+1) n (by omega) h1)) ?_;exact d9 (ρ:=zU n l (.sh (ftq n n (mkQ n []))) .no .no .no) (ρ':=zU n l (.sh (ftq n n (mkQ n []))) .no .no .no) rfl (wSq (x:=ssD l) rfl (xName rfl) rfl) hgo (qP (aX rfl (aX rfl (aX rfl (aX c1 (aX c2 (aX c3 rfl)))))) (xName rfl))
def qo(u d:Int):Rat:=(u:Rat) / (d:Rat)
def jW(l:D)(u d o:Sl):Rho:=[("_law_some_here",.sh l),("_law_up",u),("_law_down",d),("_law_one",o)]
theorem smB{x:Int}(h:x.natAbs<=1000000000000000000):small x=true:=by
 unfold small;rw[E4z (by omega),E4z (by omega)];rfl
theorem J4{a:Rat}{u d:Int}(hd:d≠0):qo (a.num*d+u*(a.den:Int)) ((a.den:Int)*d)=a+qo u d:=by
 unfold qo;have h1:=Yx hd;have h2:=jk a;rw[Z3z,Y3z,Y3z,Y3z,lK a];show(a*(a.den:Rat)*(d:Rat)+(u:Rat)*(a.den:Rat)) / ((a.den:Rat)*(d:Rat))=a+(u:Rat) / (d:Rat);grind
theorem lA{f g:Nat->Rat}:∀ n:Nat,cu n (fun l=>f l+g l)=cu n f+cu n g
 | 0=>by simp only[cu];grind
 | n+1=>by simp only[cu,lA n];grind
theorem gW{f g:Nat->Rat}:∀ {n:Nat},(∀ l,l<n->f l=g l)->cu n f=cu n g
 | 0,_=>rfl
 | n+1,h=>by rw[cu,cu,gW fun l hl=>h l (by omega),h n (by omega)]
theorem rD{f:Nat->Rat}:∀ {n:Nat},(∀ l,l<n->f l=0)->cu n f=0
 | 0,_=>rfl
 | n+1,h=>by rw[cu,rD fun l hl=>h l (by omega),h n (by omega)];grind
theorem lu{f:Nat->Rat}{j:Nat}:∀ {n:Nat},j<n->cu n (fun l=>if l=j then f l else 0)=f j
 | n+1,h=>by
  rw[cu]
  by_cases q:j=n
  ·subst q
   rw[rD fun l hl=>Z5z (by omega),Y5z rfl];grind
  ·rw[lu (by omega),Z5z (by omega)];grind
section
variable {n:Nat} {i j:Nat}
theorem Zx{F:Nat->Nat->Rat}(hi:i<n):mulQ n idQ F i j=F i j:=by
 have e:(fun l=>idQ i l*F l j)=fun l=>if l=i then F l j else 0:=by
  funext l;unfold idQ
  by_cases h:l=i
  ·rw[Y5z h.symm,Y5z h];grind
  ·rw[Z5z (fun q=>h q.symm),Z5z h];grind
 unfold mulQ;rw[e,lu hi]
theorem Vr{F:Nat->Nat->Rat}(hj:j<n):mulQ n F idQ i j=F i j:=by
 have e:(fun l=>F i l*idQ l j)=fun l=>if l=j then F i l else 0:=by
  funext l;unfold idQ
  by_cases h:l=j
  ·rw[Y5z h,Y5z h];grind
  ·rw[Z5z h,Z5z h];grind
 unfold mulQ;rw[e,lu hj]
theorem nM{f:Nat->Rat}{c:Rat}:∀ n:Nat,cu n (fun l=>f l*c)=cu n f*c
 | 0=>by simp only[cu];grind
 | n+1=>by simp only[cu,nM n];grind
theorem nO{f:Nat->Rat}{c:Rat}:∀ n:Nat,cu n (fun l=>c*f l)=c*cu n f
 | 0=>by simp only[cu];grind
 | n+1=>by simp only[cu,nO n];grind
theorem nP{f:Nat->Nat->Rat}{m:Nat}:∀ n:Nat,cu n (fun l=>cu m fun k=>f k l)=cu m fun k=>cu n fun l=>f k l
 | 0=>(rD fun _ _=>rfl).symm
 | n+1=>by simp only[cu,nP n];rw[<- lA]
theorem Hg{A B C:Nat->Nat->Rat}:mulQ n (mulQ n A B) C i j=mulQ n A (mulQ n B C) i j:=by
 show cu n (fun l=>(cu n fun m=>A i m*B m l)*C l j)=cu n fun m=>A i m*cu n fun l=>B m l*C l j
 have e1:(fun l=>(cu n fun m=>A i m*B m l)*C l j)=fun l=>cu n fun m=>A i m*B m l*C l j:=by funext l;rw[<- nM]
 have e2:(fun m=>A i m*cu n fun l=>B m l*C l j)=fun m=>cu n fun l=>A i m*B m l*C l j:=by
  funext m;rw[<- nO];congr 1;funext l;grind
 rw[e1,e2,nP]
theorem Zy{A B A' B':Nat->Nat->Rat}(h1:∀ l,l<n->A i l=A' i l)(h2:∀ l,l<n->B l j=B' l j):mulQ n A B i j=mulQ n A' B' i j:=gW fun l hl=>by rw[h1 l hl,h2 l hl]
theorem Li(a:List Stp):∀ b:List Stp,∀ i j,i<n->j<n->mkQ n (a++b) i j=mulQ n (mkQ n a) (mkQ n b) i j:=by
 refine v8 ?_ fun b x ih=>?_
 ·intro i j hi hj
  rw[H3z];exact(Vr (F:=mkQ n a) hj).symm
 ·intro i j hi hj
  rw[<- E2z,gA,gA,<- Hg];exact Zy (fun l hl=>ih i l hi hl) fun l _=>rfl
theorem mk_one{x:Stp}(hi:i<n):mkQ n [x] i j=stQ x i j:=Zx hi
end
def shF:Nat->D
 | 0=>frD 0 1
 | 1=>frD 1 1
 | 2=>frD 2 1
 | 3=>frD 3 1
 | 4=>frD 1 2
 | 5=>frD 3 2
 | 6=>frD 2 3
 | _=>frD 5 1
theorem share(k:Nat)(ns:List Int)(a:Nat):aD T 60 (k+3) "_law_share" [scr ns,.int a]=some (shF (pickN ns a 8)):=by
 have h:=cP (ns:=ns) (k:=a) (many:=8) (by omega);have pk:=pick k ns a (many:=8) (by omega);generalize pickN ns a 8=p at h pk;refine bU (fd:=aU (top 69)) rfl rfl (qP (ρ:=[("_law_script",.sh (scr ns)),("_law_at",.sh (.int a))]) rfl (xIx (x:=.lst [frD 0 1,frD 1 1,frD 2 1,frD 3 1,frD 1 2,frD 3 2,frD 2 3,frD 5 1]) (i:=(p:Int)) ?_ (aH rfl (aj (x:=scr ns) (xName rfl) (aj (xName rfl) (aj (ak rfl) aL))) pk) rfl ?_))
 ·rfl
 ·match p,h with
  | 0,_=>rfl
  | 1,_=>rfl
  | 2,_=>rfl
  | 3,_=>rfl
  | 4,_=>rfl
  | 5,_=>rfl
  | 6,_=>rfl
  | 7,_=>rfl
def shN:Nat->Nat
 | 0=>0
 | 1=>6
 | 2=>12
 | 3=>18
 | 4=>3
 | 5=>9
 | 6=>4
 | _=>30
def shQ(p:Nat):Rat:=(shN p:Rat) / 6
def scQ(p:Nat):Rat:=if p=0 then 4 else shQ p
theorem Ph:∀ p,p<8->shN p<=30:=by decide
theorem Pa{p:Nat}(h:p<8):qD (shQ p)=shF p:=by
 match p,h with
 | 0,_=>rfl'
 | 1,_=>rfl'
 | 2,_=>rfl'
 | 3,_=>rfl'
 | 4,_=>rfl'
 | 5,_=>rfl'
 | 6,_=>rfl'
 | 7,_=>rfl'
theorem v9{p:Nat}(h:p<8):0<=shQ p/\0<scQ p:=by
 match p,h with
 | 0,_=>decide +kernel
 | 1,_=>decide +kernel
 | 2,_=>decide +kernel
 | 3,_=>decide +kernel
 | 4,_=>decide +kernel
 | 5,_=>decide +kernel
 | 6,_=>decide +kernel
 | 7,_=>decide +kernel
theorem Kc{p:Nat}(h:p<8):Qb 6 30 (shQ p):=⟨(shN p:Int),by
 show shQ p*(6:Rat)=((shN p:Nat):Rat)
 unfold shQ;grind,by have:=Ph p h;omega⟩
theorem Pk{p:Nat}(h:p<8):Qb 6 30 (scQ p):=by
 unfold scQ;split
 ·exact⟨24,by decide +kernel,by decide⟩
 ·exact Kc h
def NP:Nat->Nat
 | 0=>0
 | 1=>1
 | 2=>0
 | 3=>1
 | _=>2
theorem Fi(p:Nat):NP p<3:=by unfold NP;split<;>omega
def wV(ns:List Int)(n b:Nat):Nat:=if 1<n then NP (pickN ns b 5) else 2
def stV(ns:List Int)(at' n k:Nat):Stp:=⟨wV ns n (at'+1+4*k),if wV ns n (at'+1+4*k)=2 then pickN ns (at'+1+4*k+2) n else pickN ns (at'+1+4*k+2) (n-1),if wV ns n (at'+1+4*k)=2 then scQ (pickN ns (at'+1+4*k+1) 8) else shQ (pickN ns (at'+1+4*k+1) 8)⟩
def Jl(ns:List Int)(at' n m:Nat):List Stp:=(List.range m).map (stV ns at' n)
theorem JL{ns:List Int}{n b:Nat}:wV ns n b<3:=by
 unfold wV;split
 ·exact Fi _
 ·omega
theorem vY{ns:List Int}{at' n k:Nat}(h1:1<=n):okS n (stV ns at' n k)/\Bq n n 6 30 (stQ (stV ns at' n k)):=by
 have hp:=cP (ns:=ns) (k:=at'+1+4*k+1) (many:=8) (by omega);have hw:=JL (ns:=ns) (n:=n) (b:=at'+1+4*k)
 have qb:Qb 6 30 (stV ns at' n k).s:=by
  show Qb 6 30 (if wV ns n (at'+1+4*k)=2 then _ else _);split
  ·exact Pk hp
  ·exact Kc hp
 have pl:okP n (stV ns at' n k).w (stV ns at' n k).p=true:=by
  show okP n (wV ns n (at'+1+4*k)) (if wV ns n (at'+1+4*k)=2 then _ else _)=true
  by_cases q:wV ns n (at'+1+4*k)=2
  ·rw[Y5z q,q]
   have:=cP (ns:=ns) (k:=at'+1+4*k+2) (many:=n) (by omega);simp[okP];exact this
  ·rw[Z5z q]
   have n1:1<n:=by
    unfold wV at q
    by_cases z:1<n
    ·exact z
    ·rw[Z5z z] at q;exact absurd rfl q
   have:=cP (ns:=ns) (k:=at'+1+4*k+2) (many:=n-1) (by omega);generalize wV ns n (at'+1+4*k)=w at hw q
   match w,hw with
   | 0,_=>simp[okP];omega
   | 1,_=>simp[okP];omega
   | 2,_=>exact absurd rfl q
 refine⟨⟨pl,?_,fun hq=>?_,qb.sq (by decide) (by decide) (by decide)⟩,fun i j _ _=>?_⟩
 ·show 0<=(if wV ns n (at'+1+4*k)=2 then _ else _)
  split
  ·exact Rat.le_of_lt (v9 hp).2
  ·exact(v9 hp).1
 ·have hq:wV ns n (at'+1+4*k)=2:=hq
  show 0<(if wV ns n (at'+1+4*k)=2 then _ else _);rw[Y5z hq];exact(v9 hp).2
 ·have i0:Qb 6 30 (idQ i j):=by
   unfold idQ;split
   ·exact Qb.one.up (by decide)
   ·exact Qb.zero.up (H5z _)
  unfold stQ;split
  ·split
   ·exact qb
   ·exact i0
  ·exact i0
theorem Hf{ns:List Int}{at' n m:Nat}{x:Stp}(h:x∈Jl ns at' n m):∃ k,x=stV ns at' n k:=by
 obtain⟨k,_,rfl⟩:=List.mem_map.mp h;exact⟨k,rfl⟩
theorem Ka{n:Nat}{l:List Stp}(h1:1<=n)(hl:l.length<=7)(h:∀ x∈l,∃ ns at' k,x=stV ns at' n k):Sml n 6 30 l:=by
 refine⟨fun x hx=>?_,fun x hx=>?_,by decide,V4z (E1z (by decide) hl) (by decide),V4z (E1z (by decide) hl) (by decide),by decide,by decide⟩
 ·obtain⟨ns,a,k,rfl⟩:=h x hx;exact(vY h1).1
 ·obtain⟨ns,a,k,rfl⟩:=h x hx;exact(vY h1).2
theorem VL{cx:Cxt}{sc:Scope}{ρ ρ' ρ2:Rho}{p:Pos}{F m:Nat}{r A B:List Stmt}{c:Expr}{fl:Fl}(hf:frz F c ρ=ρ')(h:ev cx F sc ρ' c=some (.bl false))(k:blk cx F m sc B ρ=some (.nxt ρ2))(k2:blk cx F (m+1) sc r ρ2=some fl):blk cx F (m+1) sc (.If c A B p::r) ρ=some fl:=by
 subst hf;exact VJ h k k2
def gZ(ns:List Int)(a n m:Nat)(md k b w s:Sl):Rho:=[("_law_script",.sh (scr ns)),("_law_at",.sh (.int a)),("_law_many",.sh (.int n)),("_law_most",.sh (.int m)),("_law_made_here",md),("_law_k",k),("_law_base",b),("_law_word_here",w),("_law_share_here",s)]
theorem eqS{w:Nat}(h:w<3):cmpop .Eq (.str (wS w)) (.str "scale")=some (.bl (decide (w=2))):=by
 match w,h with
 | 0,_=>rfl'
 | 1,_=>rfl'
 | 2,_=>rfl'
theorem gt0{p:Nat}(h:p<8):cmpop .Gt (.int (shQ p).num) (.int 0)=some (.bl (decide (p≠0))):=by
 match p,h with
 | 0,_=>rfl'
 | 1,_=>rfl'
 | 2,_=>rfl'
 | 3,_=>rfl'
 | 4,_=>rfl'
 | 5,_=>rfl'
 | 6,_=>rfl'
 | 7,_=>rfl'
abbrev sSc:Scope:=(aU (top 70)).sc
abbrev sF:Stmt:=bL 70 1
theorem xH(k:Nat)(ns:List Int)(a:Nat){n mo:Nat}(h1:1<=n)(h4:n<=4)(hmo:mo<=100):aD T 60 (k+4) "_law_steps" [scr ns,.int a,.int n,.int mo]=some (ssD (Jl ns a n (pickN ns a (mo+1)))):=by
 have hm:=cP (ns:=ns) (k:=a) (many:=mo+1) (by omega);have pk:=pick (k+1) ns a (many:=mo+1) (by omega);generalize pickN ns a (mo+1)=m at hm pk
 obtain⟨ρ',⟨kk,b,w,s,c1,c2,c3,c4,rfl⟩,hgo⟩:=jD (f:=fF (cxN T 60 (k+3)) 60 59 sSc (cL sF) (aV sF)) (h:=fun i=>.int i) (N:=m) (P:=fun i ρ=>∃ kk b w s,nOw kk=true/\nOw b=true/\nOw w=true/\nOw s=true/\ρ=gZ ns a n mo (.ow (Ls i fun j=>stD (stV ns a n j))) kk b w s) (fun i ρ hi hP=>by
  obtain⟨kk,b,w,s,q1,q2,q3,q4,rfl⟩:=hP
  let bb:Nat:=a+1+4*i
  let md:Sl:=.ow (Ls i fun j=>stD (stV ns a n j))
  have hp:=cP (ns:=ns) (k:=bb+1) (many:=8) (by omega);have sh:=share k ns (bb+1);rw[<- Pa hp] at sh;refine⟨_,⟨.sh (.int i),.sh (.int (bb:Nat)),.sh (.str (wS (wV ns n bb))),.sh (qD (shQ (pickN ns (bb+1) 8))),rfl,rfl,rfl,rfl,rfl⟩,?_⟩;rw[Ji (m:=i)];refine eH (ρ1:=gZ ns a n mo md (.sh (.int i)) b w s) rfl (fj (ρ':=gZ ns a n mo md (.sh (.int i)) b w s) (d:=.int (bb:Nat)) (aA rfl (aA rfl (aA rfl (aA rfl (jR rfl (aA rfl (aA q2 (aA q3 (aA q4 eG))))))))) rfl rfl (qX (cg (x:=.int ((a:Int)+1)) (y:=.int (4*(i:Int))) (cg (x:=.int a) (y:=.int 1) (xName rfl) (ak rfl) rfl) (cg (x:=.int 4) (y:=.int i) (ak rfl) (xName rfl) (qR (.inl rfl))) rfl) (congrArg D.int (by show(a:Int)+1+4*i=((a+1+4*i:Nat):Int);omega))) ?_);refine fj (ρ':=gZ ns a n mo md (.sh (.int i)) (.sh (.int (bb:Nat))) w s) (d:=.str (wS (wV ns n bb))) (aA rfl (aA rfl (aA rfl (aA rfl (jR rfl (aA rfl (aA rfl (aA q3 (aA q4 eG))))))))) rfl rfl ?_ ?_
  ·by_cases z:1<n
   ·have h5:=cP (ns:=ns) (k:=bb) (many:=5) (by omega)
    have p5:=pick (k+1) ns bb (many:=5) (by omega);have e:wV ns n bb=NP (pickN ns bb 5):=Y5z z;rw[e];generalize pickN ns bb 5=y at h5 p5;refine Jx (bV (x:=.int n) (y:=.int 1) (xName rfl) (ak rfl) (by rw[oGt,E4z (by omega)])) (xIx (x:=.lst [.str "up",.str "down",.str "up",.str "down",.str "scale"]) (i:=(y:Int)) rfl (aH rfl (aj (x:=scr ns) (xName rfl) (aj (xName rfl) (aj (ak rfl) aL))) p5) rfl ?_)
    match y,h5 with
    | 0,_=>rfl
    | 1,_=>rfl
    | 2,_=>rfl
    | 3,_=>rfl
    | 4,_=>rfl
   ·have e:wV ns n bb=2:=Z5z z
    rw[e];exact Jy (bV (x:=.int n) (y:=.int 1) (xName rfl) (ak rfl) (by rw[oGt,D3z (by omega)])) (ak rfl)
  refine fj (ρ':=gZ ns a n mo md (.sh (.int i)) (.sh (.int (bb:Nat))) (.sh (.str (wS (wV ns n bb)))) s) (d:=qD (shQ (pickN ns (bb+1) 8))) (aA rfl (aA rfl (aA rfl (aA rfl (jR rfl (aA rfl (aA rfl (aA rfl (aA q4 eG))))))))) rfl rfl (aH rfl (aj (x:=scr ns) (xName rfl) (aj (x:=.int ((bb+1:Nat):Int)) (cg (x:=.int (bb:Nat)) (y:=.int 1) (xName rfl) (ak rfl) rfl) aL)) sh) ?_
  let R:Rho:=gZ ns a n mo md (.sh (.int i)) (.sh (.int (bb:Nat))) (.sh (.str (wS (wV ns n bb)))) (.sh (qD (shQ (pickN ns (bb+1) 8))))
  have fz:∀ e,dG 60 "_law_made_here" e=false->frz 60 e R=R:=fun e he=>aA rfl (aA rfl (aA rfl (aA rfl (jR he (aA rfl (aA rfl (aA rfl (aA rfl eG))))))));have cnd:=eqS (JL (ns:=ns) (n:=n) (b:=bb))
  by_cases q:wV ns n bb=2
  ·have sd:stD (stV ns a n i)=.tup [.str (wS (wV ns n bb)),.int (pickN ns (bb+2) n:Nat),qD (scQ (pickN ns (bb+1) 8))]:=by
    show D.tup [.str (wS (wV ns n bb)),.int (((if wV ns n bb=2 then _ else _):Nat):Int),qD (if wV ns n bb=2 then _ else _)]=_;rw[Y5z q,Y5z q]
   rw[sd];refine Bp (ρ:=R) (ρ':=R) (ρ2:=gZ ns a n mo (.ow ((Ls i fun j=>stD (stV ns a n j))++[.tup [.str (wS (wV ns n bb)),.int (pickN ns (bb+2) n:Nat),qD (scQ (pickN ns (bb+1) 8))]])) (.sh (.int i)) (.sh (.int (bb:Nat))) (.sh (.str (wS (wV ns n bb)))) (.sh (qD (shQ (pickN ns (bb+1) 8))))) (fz _ rfl) (bV (x:=.str (wS (wV ns n bb))) (y:=.str "scale") (xName rfl) (ak rfl) (by rw[cnd,E4z q])) ?_ bN;refine Br (ρ:=R) (ρ':=R) (fz _ rfl) rfl rfl rfl (je (by rw[dR];omega)) (cV (aj (xName rfl) (aj (aH rfl (aj (x:=scr ns) (xName rfl) (aj (x:=.int ((bb+2:Nat):Int)) (cg (x:=.int (bb:Nat)) (y:=.int 2) (xName rfl) (ak rfl) rfl) (aj (xName rfl) aL))) (pick (k+1) ns (bb+2) (many:=n) (by omega))) (aj ?_ aL))) rfl) bN;have g:=gt0 hp
   by_cases z:pickN ns (bb+1) 8=0
   ·rw[show scQ (pickN ns (bb+1) 8)=4 from Y5z z]
    exact Jy (bV (x:=.int (shQ (pickN ns (bb+1) 8)).num) (y:=.int 0) (Jg (xName rfl)) (ak rfl) (by rw[g,D3z (by omega)])) (cV (aj (ak rfl) (aj (ak rfl) aL)) rfl)
   ·rw[show scQ (pickN ns (bb+1) 8)=shQ (pickN ns (bb+1) 8) from Z5z z]
    exact Jx (bV (x:=.int (shQ (pickN ns (bb+1) 8)).num) (y:=.int 0) (Jg (xName rfl)) (ak rfl) (by rw[g,E4z z])) (xName rfl)
  ·have n1:1<n:=by
    unfold wV at q
    by_cases z:1<n
    ·exact z
    ·rw[Z5z z] at q;exact absurd rfl q
   have sd:stD (stV ns a n i)=.tup [.str (wS (wV ns n bb)),.int (pickN ns (bb+2) (n-1):Nat),qD (shQ (pickN ns (bb+1) 8))]:=by
    show D.tup [.str (wS (wV ns n bb)),.int (((if wV ns n bb=2 then _ else _):Nat):Int),qD (if wV ns n bb=2 then _ else _)]=_;rw[Z5z q,Z5z q]
   rw[sd];refine VL (ρ:=R) (ρ':=R) (ρ2:=gZ ns a n mo (.ow ((Ls i fun j=>stD (stV ns a n j))++[.tup [.str (wS (wV ns n bb)),.int (pickN ns (bb+2) (n-1):Nat),qD (shQ (pickN ns (bb+1) 8))]])) (.sh (.int i)) (.sh (.int (bb:Nat))) (.sh (.str (wS (wV ns n bb)))) (.sh (qD (shQ (pickN ns (bb+1) 8))))) (fz _ rfl) (bV (x:=.str (wS (wV ns n bb))) (y:=.str "scale") (xName rfl) (ak rfl) (by rw[cnd,D3z q])) ?_ bN
   exact Br (ρ:=R) (ρ':=R) (fz _ rfl) rfl rfl rfl (je (by rw[dR];omega)) (cV (aj (xName rfl) (aj (aH rfl (aj (x:=scr ns) (xName rfl) (aj (x:=.int ((bb+2:Nat):Int)) (cg (x:=.int (bb:Nat)) (y:=.int 2) (xName rfl) (ak rfl) rfl) (aj (x:=.int ((n-1:Nat):Int)) (qX (cg (x:=.int n) (y:=.int 1) (xName rfl) (ak rfl) rfl) (congrArg D.int (by omega))) aL))) (pick (k+1) ns (bb+2) (many:=n-1) (by omega))) (aj (xName rfl) aL))) rfl) bN) (ρ:=gZ ns a n mo (.ow []) .no .no .no .no) ⟨.no,.no,.no,.no,rfl,rfl,rfl,rfl,rfl⟩
 refine bU (fd:=aU (top 70)) rfl rfl (YJ (ρ:=gZ ns a n mo .no .no .no .no .no) (d:=.lst []) rfl rfl (nF aL rfl) ?_);refine d9 (ρ:=gZ ns a n mo (.ow []) .no .no .no .no) (ρ':=gZ ns a n mo (.ow []) .no .no .no .no) rfl (Cp (j:=m) rfl (aH rfl (aj (x:=scr ns) (xName rfl) (aj (xName rfl) (aj (x:=.int ((mo+1:Nat):Int)) (cg (x:=.int mo) (y:=.int 1) (xName rfl) (ak rfl) rfl) aL))) pk) (by omega)) hgo ?_;refine gRetE (ρ':=gZ ns a n mo (.sh (ssD (Jl ns a n m))) kk b w s) ?_ (xName rfl)
 have e:ssD (Jl ns a n m)=.lst (Ls m fun j=>stD (stV ns a n j)):=by
  show D.lst (((List.range m).map (stV ns a n)).map stD)=_;rw[D5z];rfl
 rw[e];exact aA rfl (aA rfl (aA rfl (aA rfl (Bs rfl (aA c1 (aA c2 (aA c3 (aA c4 eG))))))))
abbrev ti(l:List Int):D:=.tup (l.map D.int)
def prD(p:List Int×Rat):D:=.tup [ti p.1,qD p.2]
def wok(b:List Int)(f:Nat->Rat)(j:Nat):Bool:=decide (f j≠0) && !(b.any (· ==(j:Int)))
def wom(n:Nat)(b:List Int)(s:Rat)(f:Nat->Rat):List (List Int×Rat):=((List.range n).filter (wok b f)).map fun(j:Nat)=>(b++[(j:Int)],s*f j)
theorem JC{n:Nat}{b:List Int}{s:Rat}{f:Nat->Rat}:wom (n+1) b s f=wom n b s f++if wok b f n then[(b++[(n:Int)],s*f n)] else[]:=by
 unfold wom;rw[W3z,Y1z,V3z];congr 1
 cases h:wok b f n<;>simp[Z2z,h]
theorem vg{n:Nat}{b:List Int}{s:Rat}{f:Nat->Rat}:(wom n b s f).length<=n:=by
 unfold wom;rw[J3z];exact V4z (X0z _ _) (by simp)
theorem m8:∀ l:List Int,iH (l.map D.int)=some l
 | []=>rfl
 | x::l=>by simp only[O4z,iH,m8 l,O3z]
theorem Lg{i:Int}{b:List Int}:cmpop .NotIn (.int i) (ti b)=some (.bl (!(b.any (· ==i)))):=by
 show(inT (.int i) (b.map D.int)).map _=_;unfold inT;simp only[asI,m8];rfl
theorem Ko{q:Rat}:cmpop .NotEq (.int q.num) (.int 0)=some (.bl (decide (q≠0))):=by
 rw[neI];congr 2
 by_cases h:q=0
 ·subst h;simp
 ·rw[E4z h]
  have:=Dm h;simpa using this
theorem CN{q:Rat}{cx:Cxt}{n:Nat}{sc:Scope}{ρ:Rho}{a b:Expr}{p:Pos}(h1:ev cx n sc ρ a=some (qD q))(h2:ev cx n sc ρ b=some (.int 0))(hs:aG b=true):ev cx (n+1) sc ρ (.Subscript a b p)=some (.int q.num):=xIx (x:=qD q) (i:=0) h1 h2 rfl at0 hs
theorem gRetE{cx:Cxt}{sc:Scope}{ρ ρ':Rho}{e:Expr}{p:Pos}{d:D}{F m:Nat}{r:List Stmt}(hf:frz F e ρ=ρ')(h:ev cx F sc ρ' e=some d):blk cx F (m+1) sc (.Return (some e) p::r) ρ=some (.ret d):=cZ (by rw[hf];exact h)
def uW(b s r:D)(t l m:Sl):Rho:=[("behind",.sh b),("share",.sh s),("row",.sh r),("told",t),("level",l),("more",m)]
def lvS:Nat->Sl
 | 0=>.no
 | i+1=>.sh (.int i)
theorem Lj(i:Nat):nOw (lvS i)=true:=by cases i<;>rfl
theorem vh(k:Nat){n:Nat}{b:List Int}{s:Rat}{f:Nat->Rat}(h4:n<=4)(hb:b.length<=100)(hs:Sq s)(hf:∀ j,j<n->Sq (f j)):aD T 60 (k+4) "with_one_more" [ti b,qD s,rwq n f]=some (.lst ((wom n b s f).map prD)):=by
 refine bU (fd:=aU (top 50)) rfl rfl (mJ rfl (d:=.lst []) (nF aL rfl) ?_)
 have go:=mO (f:=fF (cxN T 60 (k+3)) 60 59 (aU (top 50)).sc (cL (bL 50 1)) (aV (bL 50 1))) (N:=n) (h:=fun i=>.tup [.int i,qD (f i)]) (R:=fun i=>uW (ti b) (qD s) (rwq n f) (.ow ((wom i b s f).map prD)) (lvS i) (ig f i)) fun i hi=>by
  refine eH (ρ1:=uW (ti b) (qD s) (rwq n f) (.ow ((wom i b s f).map prD)) (.sh (.int i)) (.sh (qD (f i)))) rfl ?_;have cd:ev (cxN T 60 (k+3)) 60 (aU (top 50)).sc (uW (ti b) (qD s) (rwq n f) (.ow ((wom i b s f).map prD)) (.sh (.int i)) (.sh (qD (f i)))) (ifX ((aV (bL 50 1)).getD 0 (.Pass ⟨0,0,0,0⟩)))=some (.bl (wok b f i)):=cj (Jt (bV (x:=.int (f i).num) (y:=.int 0) (CN (xName rfl) (ak rfl) rfl) (ak rfl) Ko) fun _=>jc (bV (x:=.int i) (y:=ti b) (xName rfl) (xName rfl) Lg));have wl:=vg (n:=i) (b:=b) (s:=s) (f:=f)
  cases q:wok b f i with
  | false =>
   rw[q] at cd;refine VN (ρ':=uW (ti b) (qD s) (rwq n f) (.ow ((wom i b s f).map prD)) (.sh (.int i)) (.sh (qD (f i)))) (aA rfl (aA rfl (aA rfl (jR rfl (aA rfl (aA rfl eG)))))) cd ?_;show _=some (Fl.nxt (uW (ti b) (qD s) (rwq n f) (.ow ((wom (i+1) b s f).map prD)) (.sh (.int i)) (.sh (qD (f i)))));rw[JC,q];simp only[U1z,V5z,H3z];exact bN
  | true =>
   rw[q] at cd;refine Bp (ρ':=uW (ti b) (qD s) (rwq n f) (.ow ((wom i b s f).map prD)) (.sh (.int i)) (.sh (qD (f i)))) (ρ2:=uW (ti b) (qD s) (rwq n f) (.ow ((wom i b s f).map prD++[prD (b++[(i:Int)],s*f i)])) (.sh (.int i)) (.sh (qD (f i)))) (aA rfl (aA rfl (aA rfl (jR rfl (aA rfl (aA rfl eG)))))) cd ?_ ?_
   ·refine Br (ds:=(wom i b s f).map prD) (d:=prD (b++[(i:Int)],s*f i)) (ρ':=uW (ti b) (qD s) (rwq n f) (.ow ((wom i b s f).map prD)) (.sh (.int i)) (.sh (qD (f i)))) (aA rfl (aA rfl (aA rfl (jR rfl (aA rfl (aA rfl eG)))))) rfl rfl rfl (je (by rw[J3z];omega)) ?_ bN
    refine cV (aj (qX (cg (x:=ti b) (y:=.tup [.int i]) (xName rfl) (cV (aj (xName rfl) aL) rfl) (Je (by rw[J3z];simp;omega))) ?_) (aj (aH rfl (aj (xName rfl) (aj (xName rfl) aL)) (kY k hs (hf i hi))) aL)) rfl
    show D.tup _=D.tup _;rw[V3z];rfl
   ·show _=some (Fl.nxt (uW (ti b) (qD s) (rwq n f) (.ow ((wom (i+1) b s f).map prD)) (.sh (.int i)) (.sh (qD (f i)))))
    rw[JC,q,V3z];exact bN
 refine d9 (ρ:=uW (ti b) (qD s) (rwq n f) (.ow []) .no .no) (ρ':=uW (ti b) (qD s) (rwq n f) (.ow []) .no .no) (aA rfl (aA rfl (aA rfl (jR rfl (aA rfl (aA rfl eG)))))) (Wh (h:=fun j=>qD (f j)) rfl (xName rfl)) go ?_;exact gRetE (ρ':=uW (ti b) (qD s) (rwq n f) (.sh (.lst ((wom n b s f).map prD))) (lvS n) (ig f n)) (aA rfl (aA rfl (aA rfl (Bs rfl (aA (Lj n) (aA (mz f n) eG)))))) (xName rfl)
def SlK(s:Sl):Prop:=s=.no\/∃ d,s=.sh d
def gst(n:Nat)(T:Nat->Nat->Rat)(M:List (List Int×Rat))(lv:Nat):List (List Int×Rat):=M.flatMap fun p=>wom n p.1 p.2 (T lv)
def goi(n:Nat)(T:Nat->Nat->Rat)(lvs:List Nat):List (List Int×Rat):=lvs.foldl (gst n T) [([],1)]
def jg(t l:D)(td lv lo be sh:Sl):Rho:=[("table",.sh t),("levels",.sh l),("told",td),("level",lv),("longer",lo),("behind",be),("share",sh)]
abbrev gF:Stmt:=bL 51 1
abbrev gI:Stmt:=(aV gF).getD 1 (.Pass ⟨0,0,0,0⟩)
abbrev gSc:Scope:=(aU (top 51)).sc
section
variable {n:Nat} {G:Nat->Nat->Rat} {l:D}
theorem DQ(k:Nat)(h4:n<=4){md:D}{lv:Nat}(hl:lv<n)(hG:∀ i j,i<n->j<n->Sq (G i j)):∀ (M A:List (List Int×Rat)) (be sh:Sl),SlK be->SlK sh->(∀ p∈M,p.1.length<=50/\Sq p.2)->A.length+4*M.length<=1000->∃ be' sh',SlK be'/\SlK sh'/\bO (fF (cxN T 60 (k+4)) 60 58 gSc (cL gI) (aV gI)) (M.map prD) (jg (ftq n n G) l (.sh md) (.sh (.int lv)) (.ow (A.map prD)) be sh)=some (.nxt (jg (ftq n n G) l (.sh md) (.sh (.int lv)) (.ow ((A++gst n G M lv).map prD)) be' sh'))
 | [],A,be,sh,h1,h2,_,_=>⟨be,sh,h1,h2,by simp only[gst,C3z,H3z];rfl⟩
 | p::M,A,be,sh,h1,h2,hp,hz=>by
  have wl:=vg (n:=n) (b:=p.1) (s:=p.2) (f:=G lv);simp only[W2z] at hz;obtain⟨be',sh',g1,g2,g3⟩:=DQ k h4 (md:=md) hl hG M (A++wom n p.1 p.2 (G lv)) (.sh (ti p.1)) (.sh (qD p.2)) (.inr ⟨_,rfl⟩) (.inr ⟨_,rfl⟩) (fun q hq=>hp q (Y0z _ hq)) (by rw[T1z];omega);refine⟨be',sh',g1,g2,?_⟩;obtain⟨q1,q2⟩:=hp p O1z;have wm:=vh k (n:=n) (b:=p.1) (s:=p.2) (f:=G lv) h4 (by omega) q2 fun j hj=>hG lv j hl hj
  have st:fF (cxN T 60 (k+4)) 60 58 gSc (cL gI) (aV gI) (prD p) (jg (ftq n n G) l (.sh md) (.sh (.int lv)) (.ow (A.map prD)) be sh)=some (.nxt (jg (ftq n n G) l (.sh md) (.sh (.int lv)) (.ow ((A++wom n p.1 p.2 (G lv)).map prD)) (.sh (ti p.1)) (.sh (qD p.2)))):=by
   refine eH (ρ1:=jg (ftq n n G) l (.sh md) (.sh (.int lv)) (.ow (A.map prD)) (.sh (ti p.1)) (.sh (qD p.2))) rfl ?_;rw[V3z];refine YB (ds:=A.map prD) (zs:=(wom n p.1 p.2 (G lv)).map prD) rfl rfl rfl rfl (je (by rw[J3z,J3z];omega)) ?_ rfl;exact aH rfl (aj (x:=ti p.1) (xName rfl) (aj (x:=qD p.2) (xName rfl) (aj (x:=rwq n (G lv)) (Fe (m:=n) (j:=lv) (h:=fun i=>rwq n (G i)) (xName rfl) (xName rfl) hl rfl rfl) aL))) wm
  simp only[O4z,bO,st];rw[show A++gst n G (p::M) lv=A++wom n p.1 p.2 (G lv)++gst n G M lv by simp[gst]];exact g3
def mdP(M:List (List Int×Rat))(s:Sl):Prop:=s=.ow (M.map prD)\/s=.sh (.lst (M.map prD))
theorem yg(k:Nat)(h4:n<=4)(hG:∀ i j,i<n->j<n->Sq (G i j)):∀ (lvs:List Nat) (M:List (List Int×Rat)) (md lv lo be sh:Sl),mdP M md->SlK lv->SlK lo->SlK be->SlK sh->(∀ x∈lvs,x<n)->(∀ pre x post,pre++x::post=lvs->(pre.foldl (gst n G) M).length<=200/\∀ p∈pre.foldl (gst n G) M,p.1.length<=50/\Sq p.2) ->
  ∃ md' lv' lo' be' sh',mdP (lvs.foldl (gst n G) M) md'/\SlK lv'/\SlK lo'/\SlK be'/\SlK sh'/\bO (fF (cxN T 60 (k+4)) 60 59 gSc (cL gF) (aV gF)) (lvs.map fun(x:Nat)=>D.int x) (jg (ftq n n G) l md lv lo be sh)=some (.nxt (jg (ftq n n G) l md' lv' lo' be' sh'))
 | [],M,md,lv,lo,be,sh,h,h1,h2,h3,h5,_,_=>⟨md,lv,lo,be,sh,h,h1,h2,h3,h5,rfl⟩
 | x::lvs,M,md,lv,lo,be,sh,h,h1,h2,h3,h5,hx,hq=>by
  obtain⟨z1,z2⟩:=hq [] x lvs rfl;have z1:M.length<=200:=z1;have z2:∀ p∈M,p.1.length<=50/\Sq p.2:=z2;obtain⟨be1,sh1,q1,q2,q3⟩:=DQ k h4 (l:=l) (md:=.lst (M.map prD)) (hx x O1z) hG M [] be sh h3 h5 z2 (by simp;omega);obtain⟨md',lv',lo',be',sh',r0,r1,r2,r3,r4,r5⟩:=yg k h4 hG lvs (gst n G M x) (.sh (.lst ((gst n G M x).map prD))) (.sh (.int x)) (.sh (.lst ((gst n G M x).map prD))) be1 sh1 (.inr rfl) (.inr ⟨_,rfl⟩) (.inr ⟨_,rfl⟩) q1 q2 (fun y hy=>hx y (Y0z _ hy)) (fun pre y post e=>hq (x::pre) y post (by rw[<- e];rfl));refine⟨md',lv',lo',be',sh',r0,r1,r2,r3,r4,?_⟩
  have c3:nOw be=true:=by rcases h3 with rfl | ⟨_,rfl⟩<;>rfl
  have c5:nOw sh=true:=by rcases h5 with rfl | ⟨_,rfl⟩<;>rfl
  have c2:nOw lo=true:=by rcases h2 with rfl | ⟨_,rfl⟩<;>rfl
  have d1:nOw be1=true:=by rcases q1 with rfl | ⟨_,rfl⟩<;>rfl
  have d2:nOw sh1=true:=by rcases q2 with rfl | ⟨_,rfl⟩<;>rfl
  have st:fF (cxN T 60 (k+4)) 60 59 gSc (cL gF) (aV gF) (.int x) (jg (ftq n n G) l md lv lo be sh)=some (.nxt (jg (ftq n n G) l (.sh (.lst ((gst n G M x).map prD))) (.sh (.int x)) (.sh (.lst ((gst n G M x).map prD))) be1 sh1)):=by
   refine eH (ρ1:=jg (ftq n n G) l md (.sh (.int x)) lo be sh) rfl ?_
   have s2:blk (cxN T 60 (k+4)) 60 59 gSc ((aV gF).drop 2) (jg (ftq n n G) l (.sh (.lst (M.map prD))) (.sh (.int x)) (.ow ((gst n G M x).map prD)) be1 sh1)=some (.nxt (jg (ftq n n G) l (.sh (.lst ((gst n G M x).map prD))) (.sh (.int x)) (.sh (.lst ((gst n G M x).map prD))) be1 sh1)) :=
    fj (d:=.lst ((gst n G M x).map prD)) (ρ':=jg (ftq n n G) l (.sh (.lst (M.map prD))) (.sh (.int x)) (.sh (.lst ((gst n G M x).map prD))) be1 sh1) (aA rfl (aA rfl (aA rfl (aA rfl (Bs rfl (aA d1 (aA d2 eG))))))) rfl rfl (xName rfl) bN
   rcases h with rfl | rfl
   ·refine Bl (ρ':=jg (ftq n n G) l (.ow (M.map prD)) (.sh (.int x)) lo be sh) (d:=.lst []) (aA rfl (aA rfl (jR rfl (aA rfl (aA c2 (aA c3 (aA c5 eG))))))) rfl (nF aL rfl) ?_ (hno:=by rcases h2 with rfl | ⟨_,rfl⟩<;>rcases h3 with rfl | ⟨_,rfl⟩<;>rcases h5 with rfl | ⟨_,rfl⟩<;>rfl)
    exact d9 (ρ:=jg (ftq n n G) l (.ow (M.map prD)) (.sh (.int x)) (.ow []) be sh) (ρ':=jg (ftq n n G) l (.sh (.lst (M.map prD))) (.sh (.int x)) (.ow []) be sh) (aA rfl (aA rfl (Bs rfl (aA rfl (jR rfl (aA c3 (aA c5 eG))))))) (wSq (x:=.lst (M.map prD)) rfl (xName rfl) rfl) q3 s2
   ·refine Bl (ρ':=jg (ftq n n G) l (.sh (.lst (M.map prD))) (.sh (.int x)) lo be sh) (d:=.lst []) (aA rfl (aA rfl (aA rfl (aA rfl (aA c2 (aA c3 (aA c5 eG))))))) rfl (nF aL rfl) ?_ (hno:=by rcases h2 with rfl | ⟨_,rfl⟩<;>rcases h3 with rfl | ⟨_,rfl⟩<;>rcases h5 with rfl | ⟨_,rfl⟩<;>rfl)
    exact d9 (ρ:=jg (ftq n n G) l (.sh (.lst (M.map prD))) (.sh (.int x)) (.ow []) be sh) (ρ':=jg (ftq n n G) l (.sh (.lst (M.map prD))) (.sh (.int x)) (.ow []) be sh) (aA rfl (aA rfl (aA rfl (aA rfl (jR rfl (aA c3 (aA c5 eG))))))) (wSq (x:=.lst (M.map prD)) rfl (xName rfl) rfl) q3 s2
  simp only[O4z,bO,st];exact r5
theorem goings(k:Nat)(h4:n<=4)(hG:∀ i j,i<n->j<n->Sq (G i j)){lvs:List Nat}(hx:∀ x∈lvs,x<n)(hq:∀ pre x post,pre++x::post=lvs->(pre.foldl (gst n G) [([],1)]).length<=200/\∀ p∈pre.foldl (gst n G) [([],1)],p.1.length<=50/\Sq p.2):aD T 60 (k+5) "goings" [ftq n n G,.tup (lvs.map fun(x:Nat)=>D.int x)]=some (.lst ((goi n G lvs).map prD)):=by
 have p1:[prD ([],1)]=[D.tup [.tup [],.tup [.int 1,.int 1]]]:=rfl;obtain⟨md',lv',lo',be',sh',r0,r1,r2,r3,r4,r5⟩:=yg k h4 (l:=.tup (lvs.map fun(x:Nat)=>D.int x)) hG lvs [([],1)] (.ow [prD ([],1)]) .no .no .no .no (.inl rfl) (.inl rfl) (.inl rfl) (.inl rfl) (.inl rfl) hx hq;refine bU (fd:=aU (top 51)) rfl rfl (mJ rfl (d:=.lst [prD ([],1)]) (nF (aj (cV (aj (cV aL rfl) (aj (cV (aj (ak rfl) (aj (ak rfl) aL)) rfl) aL)) rfl) aL) rfl) ?_);refine d9 (ρ:=jg (ftq n n G) (.tup (lvs.map fun(x:Nat)=>D.int x)) (.ow [prD ([],1)]) .no .no .no .no) (ρ':=jg (ftq n n G) (.tup (lvs.map fun(x:Nat)=>D.int x)) (.ow [prD ([],1)]) .no .no .no .no) (aA rfl (aA rfl (jR rfl (aA rfl (aA rfl (aA rfl (aA rfl eG))))))) (Jk (xs:=lvs.map fun(x:Nat)=>D.int x) rfl (xName rfl)) r5 ?_
 have c1:nOw lv'=true:=by rcases r1 with rfl | ⟨_,rfl⟩<;>rfl
 have c2:nOw lo'=true:=by rcases r2 with rfl | ⟨_,rfl⟩<;>rfl
 have c3:nOw be'=true:=by rcases r3 with rfl | ⟨_,rfl⟩<;>rfl
 have c4:nOw sh'=true:=by rcases r4 with rfl | ⟨_,rfl⟩<;>rfl
 rcases r0 with rfl | rfl
 ·exact gRetE (ρ':=jg (ftq n n G) _ (.sh (.lst ((goi n G lvs).map prD))) lv' lo' be' sh') (aA rfl (aA rfl (Bs rfl (aA c1 (aA c2 (aA c3 (aA c4 eG))))))) (xName rfl)
 ·exact gRetE (ρ':=jg (ftq n n G) _ (.sh (.lst ((goi n G lvs).map prD))) lv' lo' be' sh') (aA rfl (aA rfl (aA rfl (aA c1 (aA c2 (aA c3 (aA c4 eG))))))) (xName rfl)
end
theorem ZK{n:Nat}{G:Nat->Nat->Rat}{x:Nat}:goi n G [x]=wom n [] 1 (G x):=by simp[goi,gst]
theorem DP(k:Nat){n:Nat}{G:Nat->Nat->Rat}(h4:n<=4)(hG:∀ i j,i<n->j<n->Sq (G i j)){x:Nat}(hx:x<n):aD T 60 (k+5) "goings" [ftq n n G,ti [(x:Int)]]=some (.lst ((wom n [] 1 (G x)).map prD)):=by
 have:=goings k h4 hG (lvs:=[x]) (fun y hy=>by rw[List.mem_singleton.mp hy];exact hx) (fun pre y post e=>by
  have:pre=[]:=by cases pre with
   | nil=>rfl
   | cons a r=>simp at e
  subst this
  exact⟨by simp,fun p hp=>by rw[List.mem_singleton.mp hp];exact⟨by simp,by decide +kernel,by decide +kernel⟩⟩)
 rw[ZK] at this;exact this
theorem bh{s:Sl}(h:SlK s):nOw s=true:=by rcases h with rfl | ⟨_,rfl⟩<;>rfl
theorem iJ{d:D}:SlK (.sh d):=.inr ⟨_,rfl⟩
abbrev tbs(n:Nat)(l:List Stp):D:=.lst (l.map fun x=>ftq n n (stQ x))
theorem step_tables(k:Nat){n:Nat}{l:List Stp}(h4:n<=4)(hl:∀ x∈l,okS n x)(hz:l.length<=100):aD T 60 (k+7) "step_tables" [.int n,ssD l]=some (tbs n l):=by
 refine bU (fd:=aU (top 49)) rfl rfl (cZ (dg (l:=l.map stD) rfl (wSq (x:=ssD l) rfl (xName rfl) rfl) (je (by rw[J3z];omega)) (dD fun x hx=>dH rfl ?_)))
 have o:=hl x hx;have w:=Al o.pl;have p:=su o.pl;exact aH rfl (aj (xName rfl) (aj (x:=.str (wS x.w)) (xName rfl) (aj (x:=.int (x.p:Int)) (xName rfl) (aj (x:=qD x.s) (xName rfl) aL)))) (Cq k n (by omega) x.w w x.p (by omega) o.pl)
structure Rn where
 pre:List Nat
 x:Nat
 s:Rat
def lvD(x:Nat):D:=ti [(x:Int)]
def rnD(r:Rn):D:=.tup [.tup ((r.pre++[r.x]).map lvD),qD r.s]
def js(n:Nat)(G:Nat->Nat->Rat)(x:Nat):List Nat:=(List.range n).filter (wok [] (G x))
theorem Dw{n:Nat}{G:Nat->Nat->Rat}{x:Nat}:(js n G x).length<=n:=V4z (X0z _ _) (by simp)
theorem mD{n:Nat}{G:Nat->Nat->Rat}{x j:Nat}(h:j∈js n G x):j<n:=List.mem_range.mp (List.mem_filter.mp h).1
theorem Wf{n:Nat}{G:Nat->Nat->Rat}{x:Nat}:wom n [] 1 (G x)=(js n G x).map fun(j:Nat)=>([(j:Int)],1*G x j):=rfl
def nxR(n:Nat)(G:Nat->Nat->Rat)(r:Rn):List Rn:=(js n G r.x).map fun j=>⟨r.pre++[r.x],j,r.s*(1*G r.x j)⟩
def rst(n:Nat)(M:List Rn)(G:Nat->Nat->Rat):List Rn:=M.flatMap (nxR n G)
def fU(t s:D)(td tb lo ru sh be mo:Sl):Rho:=[("tables",.sh t),("some",.sh s),("told",td),("table",tb),("longer",lo),("run",ru),("share",sh),("behind",be),("more",mo)]
abbrev rF:Stmt:=bL 52 1
abbrev rG:Stmt:=(aV rF).getD 1 (.Pass ⟨0,0,0,0⟩)
abbrev rH:Stmt:=(aV rG).getD 0 (.Pass ⟨0,0,0,0⟩)
abbrev rSc:Scope:=(aU (top 52)).sc
theorem m7{l:List D}{x:D}:atD (l++[x]) (-1)=some x:=by
 unfold atD ixD;rw[Z5z (by omega),Y5z (by simp;omega),Y2z]
 have e:(-1+((l++[x]).length:Int)).toNat=l.length:=by simp;omega
 rw[e];simp
section
variable {n:Nat} {G:Nat->Nat->Rat} {ts so md:D} {r:Rn}
theorem Cz(k:Nat)(hp:r.pre.length<=50)(hs:Sq r.s):∀ (J:List Nat) (A:List Rn) (be mo:Sl),SlK be->SlK mo->(∀ j∈J,Sq (1*G r.x j))->A.length+J.length<=1000->∃ be' mo',SlK be'/\SlK mo'/\bO (fF (cxN T 60 (k+5)) 60 57 rSc (cL rH) (aV rH)) ((J.map fun(j:Nat)=>(([(j:Int)],1*G r.x j):List Int×Rat)).map prD) (fU ts so (.sh md) (.sh (ftq n n G)) (.ow (A.map rnD)) (.sh (.tup ((r.pre++[r.x]).map lvD))) (.sh (qD r.s)) be mo)=some (.nxt (fU ts so (.sh md) (.sh (ftq n n G)) (.ow ((A++J.map fun j=>(⟨r.pre++[r.x],j,r.s*(1*G r.x j)⟩:Rn)).map rnD)) (.sh (.tup ((r.pre++[r.x]).map lvD))) (.sh (qD r.s)) be' mo'))
 | [],A,be,mo,h1,h2,_,_=>⟨be,mo,h1,h2,by simp only[Y4z,H3z];rfl⟩
 | j::J,A,be,mo,h1,h2,hj,hz=>by
  simp only[W2z] at hz;obtain⟨be',mo',g1,g2,g3⟩:=Cz k hp hs J (A++[(⟨r.pre++[r.x],j,r.s*(1*G r.x j)⟩:Rn)]) (.sh (lvD j)) (.sh (qD (1*G r.x j))) iJ iJ (fun q hq=>hj q (Y0z _ hq)) (by rw[T1z];simp;omega);refine⟨be',mo',g1,g2,?_⟩
  have st:fF (cxN T 60 (k+5)) 60 57 rSc (cL rH) (aV rH) (prD ([(j:Int)],1*G r.x j)) (fU ts so (.sh md) (.sh (ftq n n G)) (.ow (A.map rnD)) (.sh (.tup ((r.pre++[r.x]).map lvD))) (.sh (qD r.s)) be mo)=some (.nxt (fU ts so (.sh md) (.sh (ftq n n G)) (.ow ((A++[(⟨r.pre++[r.x],j,r.s*(1*G r.x j)⟩:Rn)]).map rnD)) (.sh (.tup ((r.pre++[r.x]).map lvD))) (.sh (qD r.s)) (.sh (lvD j)) (.sh (qD (1*G r.x j))))):=by
   refine eH (ρ1:=fU ts so (.sh md) (.sh (ftq n n G)) (.ow (A.map rnD)) (.sh (.tup ((r.pre++[r.x]).map lvD))) (.sh (qD r.s)) (.sh (lvD j)) (.sh (qD (1*G r.x j)))) rfl ?_;rw[V3z (f:=rnD)];refine Br (ds:=A.map rnD) (d:=rnD ⟨r.pre++[r.x],j,r.s*(1*G r.x j)⟩) (ρ':=fU ts so (.sh md) (.sh (ftq n n G)) (.ow (A.map rnD)) (.sh (.tup ((r.pre++[r.x]).map lvD))) (.sh (qD r.s)) (.sh (lvD j)) (.sh (qD (1*G r.x j)))) (aA rfl (aA rfl (aA rfl (aA rfl (jR rfl (aA rfl (aA rfl (aA rfl (aA rfl eG))))))))) rfl rfl rfl (je (by rw[J3z];omega)) ?_ bN;refine cV (aj (qX (cg (x:=.tup ((r.pre++[r.x]).map lvD)) (y:=.tup [lvD j]) (xName rfl) (cV (aj (xName rfl) aL) rfl) (Je (by rw[J3z];simp;omega))) ?_) (aj (aH rfl (aj (x:=qD r.s) (xName rfl) (aj (x:=qD (1*G r.x j)) (xName rfl) aL)) (kY (k+2) hs (hj j O1z))) aL)) rfl;simp
  simp only[O4z,bO,st];rw[show A++((⟨r.pre++[r.x],j,r.s*(1*G r.x j)⟩:Rn)::J.map fun j=>(⟨r.pre++[r.x],j,r.s*(1*G r.x j)⟩:Rn))=A++[(⟨r.pre++[r.x],j,r.s*(1*G r.x j)⟩:Rn)]++J.map fun j=>(⟨r.pre++[r.x],j,r.s*(1*G r.x j)⟩:Rn) by simp];exact g3
end
structure rOk (n:Nat) (G:Nat->Nat->Rat) (r:Rn):Prop where
 lt:r.x<n
 len:r.pre.length<=50
 s:Sq r.s
section
variable {n:Nat} {G:Nat->Nat->Rat} {ts so md:D}
theorem wz(k:Nat)(h4:n<=4)(hG:∀ i j,i<n->j<n->Sq (G i j)):∀ (M A:List Rn) (ru sh be mo:Sl),SlK ru->SlK sh->SlK be->SlK mo->(∀ r∈M,rOk n G r)->A.length+4*M.length<=1000->∃ ru' sh' be' mo',SlK ru'/\SlK sh'/\SlK be'/\SlK mo'/\bO (fF (cxN T 60 (k+5)) 60 58 rSc (cL rG) (aV rG)) (M.map rnD) (fU ts so (.sh md) (.sh (ftq n n G)) (.ow (A.map rnD)) ru sh be mo)=some (.nxt (fU ts so (.sh md) (.sh (ftq n n G)) (.ow ((A++rst n M G).map rnD)) ru' sh' be' mo'))
 | [],A,ru,sh,be,mo,h1,h2,h3,h5,_,_=>⟨ru,sh,be,mo,h1,h2,h3,h5,by simp only[rst,C3z,H3z];rfl⟩
 | r::M,A,ru,sh,be,mo,h1,h2,h3,h5,hr,hz=>by
  simp only[W2z] at hz;obtain⟨o1,o2,o3⟩:=hr r O1z;have jl:=Dw (n:=n) (G:=G) (x:=r.x)
  have one:∀ j,j<n->Sq (1*G r.x j):=fun j hj=>by rw[L5z];exact hG _ _ o1 hj
  obtain⟨be1,mo1,q1,q2,q3⟩:=Cz k (n:=n) (G:=G) (ts:=ts) (so:=so) (md:=md) (r:=r) o2 o3 (js n G r.x) A be mo h3 h5 (fun j hj=>one j (mD hj)) (by omega);obtain⟨ru',sh',be',mo',g1,g2,g3,g4,g5⟩:=wz k h4 hG M (A++nxR n G r) (.sh (.tup ((r.pre++[r.x]).map lvD))) (.sh (qD r.s)) be1 mo1 iJ iJ q1 q2 (fun q hq=>hr q (Y0z _ hq)) (by rw[T1z];unfold nxR;rw[J3z];omega);refine⟨ru',sh',be',mo',g1,g2,g3,g4,?_⟩;have go:=DP k h4 hG o1
  have st:fF (cxN T 60 (k+5)) 60 58 rSc (cL rG) (aV rG) (rnD r) (fU ts so (.sh md) (.sh (ftq n n G)) (.ow (A.map rnD)) ru sh be mo)=some (.nxt (fU ts so (.sh md) (.sh (ftq n n G)) (.ow ((A++nxR n G r).map rnD)) (.sh (.tup ((r.pre++[r.x]).map lvD))) (.sh (qD r.s)) be1 mo1)):=by
   refine eH (ρ1:=fU ts so (.sh md) (.sh (ftq n n G)) (.ow (A.map rnD)) (.sh (.tup ((r.pre++[r.x]).map lvD))) (.sh (qD r.s)) be mo) rfl ?_;refine d9 (l:=(wom n [] 1 (G r.x)).map prD) (ρ':=fU ts so (.sh md) (.sh (ftq n n G)) (.ow (A.map rnD)) (.sh (.tup ((r.pre++[r.x]).map lvD))) (.sh (qD r.s)) be mo) (ρ2:=fU ts so (.sh md) (.sh (ftq n n G)) (.ow ((A++nxR n G r).map rnD)) (.sh (.tup ((r.pre++[r.x]).map lvD))) (.sh (qD r.s)) be1 mo1) (aA rfl (aA rfl (aA rfl (aA rfl (jR rfl (aA rfl (aA rfl (aA (bh h3) (aA (bh h5) eG))))))))) (wSq (x:=.lst ((wom n [] 1 (G r.x)).map prD)) rfl (aH rfl (aj (x:=ftq n n G) (xName rfl) (aj (x:=lvD r.x) (xIx (x:=.tup ((r.pre++[r.x]).map lvD)) (i := -1) (xName rfl) (Ez (ak rfl)) rfl ?_) aL)) go) rfl) q3 bN;rw[V3z];exact m7
  simp only[O4z,bO,st];rw[show A++rst n (r::M) G=A++nxR n G r++rst n M G by simp[rst]];exact g5
def mdR(M:List Rn)(s:Sl):Prop:=s=.ow (M.map rnD)\/s=.sh (.lst (M.map rnD))
theorem wu(k:Nat)(h4:n<=4):∀ (L:List Stp) (M:List Rn) (td tb lo ru sh be mo:Sl),mdR M td->SlK tb->SlK lo->SlK ru->SlK sh->SlK be->SlK mo->(∀ x∈L,∀ i j,i<n->j<n->Sq (stQ x i j))->(∀ pre x post,pre++x::post=L->(pre.foldl (fun M x=>rst n M (stQ x)) M).length<=200/\∀ r∈pre.foldl (fun M x=>rst n M (stQ x)) M,rOk n G r) ->
  ∃ td' tb' lo' ru' sh' be' mo',mdR (L.foldl (fun M x=>rst n M (stQ x)) M) td'/\SlK tb'/\SlK lo'/\SlK ru'/\SlK sh'/\SlK be'/\SlK mo'/\bO (fF (cxN T 60 (k+5)) 60 59 rSc (cL rF) (aV rF)) (L.map fun x=>ftq n n (stQ x)) (fU ts so td tb lo ru sh be mo)=some (.nxt (fU ts so td' tb' lo' ru' sh' be' mo'))
 | [],M,td,tb,lo,ru,sh,be,mo,h,h1,h2,h3,h5,h6,h7,_,_=>⟨td,tb,lo,ru,sh,be,mo,h,h1,h2,h3,h5,h6,h7,rfl⟩
 | x::L,M,td,tb,lo,ru,sh,be,mo,h,h1,h2,h3,h5,h6,h7,hx,hq=>by
  obtain⟨z1,z2⟩:=hq [] x L rfl;have z1:M.length<=200:=z1;have z2:∀ r∈M,rOk n (stQ x) r:=fun r hr=>⟨(z2 r hr).lt,(z2 r hr).len,(z2 r hr).s⟩;obtain⟨ru1,sh1,be1,mo1,q1,q2,q3,q4,q5⟩:=wz k (G:=stQ x) (ts:=ts) (so:=so) (md:=.lst (M.map rnD)) h4 (hx x O1z) M [] ru sh be mo h3 h5 h6 h7 z2 (by simp;omega);obtain⟨td',tb',lo',ru',sh',be',mo',r0,r1,r2,r3,r4,r5,r6,r7⟩:=wu k h4 L (rst n M (stQ x)) (.sh (.lst ((rst n M (stQ x)).map rnD))) (.sh (ftq n n (stQ x))) (.sh (.lst ((rst n M (stQ x)).map rnD))) ru1 sh1 be1 mo1 (.inr rfl) iJ iJ q1 q2 q3 q4 (fun y hy=>hx y (Y0z _ hy)) (fun pre y post e=>hq (x::pre) y post (by rw[<- e];rfl));refine⟨td',tb',lo',ru',sh',be',mo',r0,r1,r2,r3,r4,r5,r6,?_⟩
  have st:fF (cxN T 60 (k+5)) 60 59 rSc (cL rF) (aV rF) (ftq n n (stQ x)) (fU ts so td tb lo ru sh be mo)=some (.nxt (fU ts so (.sh (.lst ((rst n M (stQ x)).map rnD))) (.sh (ftq n n (stQ x))) (.sh (.lst ((rst n M (stQ x)).map rnD))) ru1 sh1 be1 mo1)):=by
   refine eH (ρ1:=fU ts so td (.sh (ftq n n (stQ x))) lo ru sh be mo) rfl ?_
   have s2:blk (cxN T 60 (k+5)) 60 59 rSc ((aV rF).drop 2) (fU ts so (.sh (.lst (M.map rnD))) (.sh (ftq n n (stQ x))) (.ow ((rst n M (stQ x)).map rnD)) ru1 sh1 be1 mo1)=some (.nxt (fU ts so (.sh (.lst ((rst n M (stQ x)).map rnD))) (.sh (ftq n n (stQ x))) (.sh (.lst ((rst n M (stQ x)).map rnD))) ru1 sh1 be1 mo1)) :=
    fj (d:=.lst ((rst n M (stQ x)).map rnD)) (ρ':=fU ts so (.sh (.lst (M.map rnD))) (.sh (ftq n n (stQ x))) (.sh (.lst ((rst n M (stQ x)).map rnD))) ru1 sh1 be1 mo1) (aA rfl (aA rfl (aA rfl (aA rfl (Bs rfl (aA (bh q1) (aA (bh q2) (aA (bh q3) (aA (bh q4) eG))))))))) rfl rfl (xName rfl) bN
   rcases h with rfl | rfl
   ·refine Bl (ρ':=fU ts so (.ow (M.map rnD)) (.sh (ftq n n (stQ x))) lo ru sh be mo) (d:=.lst []) (aA rfl (aA rfl (jR rfl (aA rfl (aA (bh h2) (aA (bh h3) (aA (bh h5) (aA (bh h6) (aA (bh h7) eG))))))))) rfl (nF aL rfl) ?_ (hno:=by rcases h2 with rfl | ⟨_,rfl⟩<;>rcases h3 with rfl | ⟨_,rfl⟩<;>rcases h5 with rfl | ⟨_,rfl⟩<;>rcases h6 with rfl | ⟨_,rfl⟩<;>rcases h7 with rfl | ⟨_,rfl⟩<;>rfl)
    exact d9 (ρ:=fU ts so (.ow (M.map rnD)) (.sh (ftq n n (stQ x))) (.ow []) ru sh be mo) (ρ':=fU ts so (.sh (.lst (M.map rnD))) (.sh (ftq n n (stQ x))) (.ow []) ru sh be mo) (aA rfl (aA rfl (Bs rfl (aA rfl (jR rfl (aA (bh h3) (aA (bh h5) (aA (bh h6) (aA (bh h7) eG))))))))) (wSq (x:=.lst (M.map rnD)) rfl (xName rfl) rfl) q5 s2
   ·refine Bl (ρ':=fU ts so (.sh (.lst (M.map rnD))) (.sh (ftq n n (stQ x))) lo ru sh be mo) (d:=.lst []) (aA rfl (aA rfl (aA rfl (aA rfl (aA (bh h2) (aA (bh h3) (aA (bh h5) (aA (bh h6) (aA (bh h7) eG))))))))) rfl (nF aL rfl) ?_ (hno:=by rcases h2 with rfl | ⟨_,rfl⟩<;>rcases h3 with rfl | ⟨_,rfl⟩<;>rcases h5 with rfl | ⟨_,rfl⟩<;>rcases h6 with rfl | ⟨_,rfl⟩<;>rcases h7 with rfl | ⟨_,rfl⟩<;>rfl)
    exact d9 (ρ:=fU ts so (.sh (.lst (M.map rnD))) (.sh (ftq n n (stQ x))) (.ow []) ru sh be mo) (ρ':=fU ts so (.sh (.lst (M.map rnD))) (.sh (ftq n n (stQ x))) (.ow []) ru sh be mo) (aA rfl (aA rfl (aA rfl (aA rfl (jR rfl (aA (bh h3) (aA (bh h5) (aA (bh h6) (aA (bh h7) eG))))))))) (wSq (x:=.lst (M.map rnD)) rfl (xName rfl) rfl) q5 s2
  simp only[O4z,bO,st];exact r7
end
def runs(n:Nat)(L:List Stp)(x:Nat):List Rn:=L.foldl (fun M y=>rst n M (stQ y)) [⟨[],x,1⟩]
theorem runs_from(k:Nat){n x:Nat}{L:List Stp}(h4:n<=4)(hx:∀ y∈L,∀ i j,i<n->j<n->Sq (stQ y i j))(hq:∀ pre y post,pre++y::post=L->(runs n pre x).length<=200/\∀ r∈runs n pre x,rOk n idQ r):aD T 60 (k+6) "runs_from" [tbs n L,lvD x]=some (.lst ((runs n L x).map rnD)):=by
 obtain⟨td',tb',lo',ru',sh',be',mo',r0,r1,r2,r3,r4,r5,r6,r7⟩:=wu k (G:=idQ) (ts:=tbs n L) (so:=lvD x) h4 L [⟨[],x,1⟩] (.ow [rnD ⟨[],x,1⟩]) .no .no .no .no .no .no (.inl rfl) (.inl rfl) (.inl rfl) (.inl rfl) (.inl rfl) (.inl rfl) (.inl rfl) hx hq;refine bU (fd:=aU (top 52)) rfl rfl (mJ rfl (d:=.lst [rnD ⟨[],x,1⟩]) (nF (aj (cV (aj (x:=.tup [lvD x]) (cV (aj (xName rfl) aL) rfl) (aj (cV (aj (ak rfl) (aj (ak rfl) aL)) rfl) aL)) rfl) aL) rfl) ?_);refine d9 (ρ:=fU (tbs n L) (lvD x) (.ow [rnD ⟨[],x,1⟩]) .no .no .no .no .no .no) (ρ':=fU (tbs n L) (lvD x) (.ow [rnD ⟨[],x,1⟩]) .no .no .no .no .no .no) (aA rfl (aA rfl (jR rfl (aA rfl (aA rfl (aA rfl (aA rfl (aA rfl (aA rfl eG))))))))) (wSq (x:=tbs n L) rfl (xName rfl) rfl) r7 ?_;rcases r0 with rfl | rfl
 ·exact gRetE (ρ':=fU (tbs n L) (lvD x) (.sh (.lst ((runs n L x).map rnD))) tb' lo' ru' sh' be' mo') (aA rfl (aA rfl (Bs rfl (aA (bh r1) (aA (bh r2) (aA (bh r3) (aA (bh r4) (aA (bh r5) (aA (bh r6) eG))))))))) (xName rfl)
 ·exact gRetE (ρ':=fU (tbs n L) (lvD x) (.sh (.lst ((runs n L x).map rnD))) tb' lo' ru' sh' be' mo') (aA rfl (aA rfl (aA rfl (aA (bh r1) (aA (bh r2) (aA (bh r3) (aA (bh r4) (aA (bh r5) (aA (bh r6) eG))))))))) (xName rfl)
abbrev niD(L:List Nat):D:=.tup (L.map fun(x:Nat)=>D.int x)
theorem Cd(k:Nat){L:List Nat}(h1:1<=L.length)(hz:L.length<=60):aD T 60 (k+2) "columns_of" [.tup (L.map lvD)]=some (.tup [niD L]):=by
 have co:aD T 60 (k+1) "column_of" [.tup (L.map lvD),.int 0]=some (niD L):=by
  refine bU (fd:=aU (top 32)) rfl rfl (cZ (dY rfl rfl rfl (aj (dg (l:=L.map lvD) rfl (Jk rfl (xName rfl)) (je (by rw[J3z];omega)) (dD fun x hx=>dH rfl ?_)) aL) Er))
  exact xIx (x:=lvD x) (i:=0) (xName rfl) (xName rfl) rfl at0
 obtain⟨a,L',rfl⟩:∃ a L',L=a::L':=by
  cases L with
  | nil=>simp at h1
  | cons a r=>exact⟨a,r,rfl⟩
 refine bU (fd:=aU (top 33)) rfl rfl (cZ (dY (ds:=[.lst [niD (a::L')]]) rfl rfl rfl (aj (dg (l:=[D.int 0]) rfl ?_ rfl (dD (l:=[()]) (h:=fun _=>D.int 0) (g:=fun _=>niD (a::L')) fun _ _=>dH rfl (aH rfl (aj (x:=.tup ((a::L').map lvD)) (xName rfl) (aj (x:=.int 0) (xName rfl) aL)) co))) aL) Er));exact wR1 (j:=1) rfl (dY (ds:=[lvD a]) rfl rfl rfl (aj (xIx (x:=.tup ((a::L').map lvD)) (i:=0) (xName rfl) (ak rfl) rfl at0) aL) rfl) rfl
def bwD(r:Rn):D:=.tup [.tup [niD (r.pre++[r.x])],qD r.s]
def wyD(r:Rn):D:=.tup [niD (r.pre++[r.x]),qD r.s]
theorem Vt{x y:Nat}:cmpop .Eq (lvD x) (lvD y)=some (.bl (decide (x=y))):=by
 rw[oEq (by simp[lvD,dep,deps]) (by simp[lvD,dep,deps])];congr 2;show(((x:Int)==(y:Int))&&true)=_
 by_cases h:x=y
 ·subst h;simp
 ·rw[D3z h];simp;omega
theorem jL{α:Type}{f:D->Option (Option D)}{h g:α->D}{t:α->Bool}:∀ {l:List α},(∀ x∈l,f (h x)=some (if t x then some (g x) else none))->bD f (l.map h)=some ((l.filter t).map g)
 | [],_=>rfl
 | x::l,q=>by
  have h1:=q x O1z;have h2:=jL (l:=l) fun y hy=>q y (Y0z _ hy);simp only[O4z,bD,h1]
  cases ht:t x with
  | true=>simp only[X5z,Z2z,ht,O4z,h2];rfl
  | false=>simp only[U1z,V5z,Z2z,ht];exact h2
structure Net (n:Nat) (L:List Stp):Prop where
 n1:1<=n
 n4:n<=4
 ok:∀ x∈L,okS n x
 len:L.length<=20
 sq:∀ y∈L,∀ i j,i<n->j<n->Sq (stQ y i j)
 few:∀ x,x<n->∀ pre post,pre++post=L->(runs n pre x).length<=200/\∀ r∈runs n pre x,rOk n idQ r
theorem runs_between(k:Nat){n x y:Nat}{L:List Stp}(N:Net n L)(hx:x<n):aD T 60 (k+8) "runs_between" [.int n,ssD L,lvD x,lvD y]=some (.lst (((runs n L x).filter fun r=>decide (r.x=y)).map bwD)):=by
 have st:=step_tables k N.n4 N.ok (by have:=N.len;omega)
 have rf:=runs_from (k+1) (x:=x) N.n4 N.sq (fun pre z post e=>N.few x hx pre (z::post) e);obtain⟨f1,f2⟩:=N.few x hx L [] (by simp);refine bU (fd:=aU (top 53)) rfl rfl (mJ rfl (d:=.lst ((runs n L x).map rnD)) (aH rfl (aj (x:=tbs n L) (aH rfl (aj (xName rfl) (aj (xName rfl) aL)) st) (aj (x:=lvD x) (xName rfl) aL)) rf) ?_);refine cZ (dg (l:=(runs n L x).map rnD) rfl (wSq (x:=.lst ((runs n L x).map rnD)) rfl (xName rfl) rfl) (je (by rw[J3z];omega)) (jL fun r hr=>?_));have o:=f2 r hr;refine yS rfl (bV (x:=lvD r.x) (y:=lvD y) (xIx (x:=.tup ((r.pre++[r.x]).map lvD)) (i := -1) (xName rfl) (Ez (ak rfl)) rfl ?_) (xName rfl) Vt) (cV (aj (aH rfl (aj (x:=.tup ((r.pre++[r.x]).map lvD)) (xName rfl) aL) (Cd (k+5) (by simp) (by have:=o.len;simp;omega))) (aj (x:=qD r.s) (xName rfl) aL)) rfl);rw[V3z];exact m7
theorem need_place(k:Nat){n x:Nat}(h:x<n):aD T 60 (k+4) "need_place" [.int x,.int n]=some .non :=
 u0 (fd:=aU (top 18)) rfl rfl (sX (cW (aH rfl (aj (xName rfl) (aj (xName rfl) aL)) (is_place k h))) bN)
theorem need_levels(k:Nat){n x y:Nat}{L:List Stp}(N:Net n L)(hx:x<n)(hy:y<n):aD T 60 (k+7) "need_levels" [.int n,ssD L,.int x,.int y]=some .non:=by
 refine u0 (fd:=aU (top 56)) rfl rfl (Bk rfl (d:=.non) (aH rfl (aj (xName rfl) (aj (xName rfl) aL)) (need_steps k N.n1 N.n4 N.ok (by have:=N.len;omega))) (Bk rfl (d:=.non) (aH rfl (aj (xName rfl) (aj (xName rfl) aL)) (need_place (k+2) hx)) (Bk rfl (d:=.non) (aH rfl (aj (xName rfl) (aj (xName rfl) aL)) (need_place (k+2) hy)) bN)))
theorem ways(k:Nat){n x y:Nat}{L:List Stp}(N:Net n L)(hx:x<n)(hy:y<n):aD T 60 (k+9) "ways" [.int n,ssD L,.int x,.int y]=some (.lst (((runs n L x).filter fun r=>decide (r.x=y)).map wyD)):=by
 have rb:=runs_between k (y:=y) N hx;obtain⟨f1,f2⟩:=N.few x hx L [] (by simp);have fl:=X0z (fun r:Rn=>decide (r.x=y)) (runs n L x);refine bU (fd:=aU (top 57)) rfl rfl (Bk rfl (d:=.non) (aH rfl (aj (xName rfl) (aj (xName rfl) (aj (xName rfl) (aj (xName rfl) aL)))) (need_levels (k+1) N hx hy)) (cZ (dg (l:=((runs n L x).filter fun r=>decide (r.x=y)).map bwD) rfl (wSq (x:=.lst (((runs n L x).filter fun r=>decide (r.x=y)).map bwD)) rfl (aH rfl (aj (xName rfl) (aj (xName rfl) (aj (x:=lvD x) (cV (aj (xName rfl) aL) rfl) (aj (x:=lvD y) (cV (aj (xName rfl) aL) rfl) aL)))) rb) rfl) (je (by rw[J3z];omega)) (dD fun r hr=>dH rfl ?_))));exact cV (aj (xIx (x:=.tup [niD (r.pre++[r.x])]) (i:=0) (xName rfl) (ak rfl) rfl at0) (aj (x:=qD r.s) (xName rfl) aL)) rfl
section
variable {cx:Cxt} {n:Nat} {sc:Scope} {ρ ρ':Rho} {e e2 a b k v:Expr} {p q px ap:Pos} {d x y z:D} {kk:List Int} {nm y0:Str} {F m:Nat} {r:List Stmt} {fl:Fl} {l:List (List Int×D)}
theorem YM(h1:ev cx n sc ρ k=some y)(h2:xM y=some kk)(h3:ev cx n sc ρ v=some d):ev cx (n+1) sc ρ (.Dict [some k] [v] p)=some (.dt [kk] [d]):=by
 have h:dt1 (ev cx n sc ρ) [some k] [v]=some (.dt [kk] [d]):=by simp only[dt1,h1,h3,bind,Option.bind,h2]
 simp only[ev,h]
theorem Ot{M:Str}(hl:(ap.endLine==p.line&&M=="get"&&aG e&&aG e2)=true)(h1:ev cx n sc ρ (.Name nm px)=some x)(h2:ev cx n sc ρ e=some y)(h3:ev cx n sc ρ e2=some z)(h:HB x y z=some d):ev cx (n+1) sc ρ (.Call (.Attribute (.Name nm px) M ap) [e,e2] [] p)=some d:=by
 simp only[ev,hl,X5z];simp only[h1,h2,h3,bind,Option.bind,h]
theorem Ou{M:Str}{g a1:Expr}{as:List Expr}{gp:Pos}(hl:(ap.endLine==p.line&&M=="get"&&aG e&&aG e2)=true)(h1:ev cx n sc ρ (.Call g (a1::as) [] gp)=some x)(h2:ev cx n sc ρ e=some y)(h3:ev cx n sc ρ e2=some z)(h:HB x y z=some d):ev cx (n+1) sc ρ (.Call (.Attribute (.Call g (a1::as) [] gp) M ap) [e,e2] [] p)=some d:=by
 simp only[ev,hl,X5z];simp only[h1,h2,h3,bind,Option.bind,h]
theorem wIt{us:List D}(hw:qY cx sc e=.it a)(h1:ev cx n sc ρ a=some x)(h2:Jr x=some us):evI cx true (ev cx n sc ρ) sc e=some us:=by
 unfold evI;simp only[hw,h1,bind,Option.bind,X5z,h2]
theorem gD0{dp:Pos}(ho:(ownIn sc nm&&(ρ.map (·.1)).contains nm)=true)(hc:lU ρ nm=true)(hF:0<F)(hk:blk cx F (m+1) sc r (cB ρ nm (.od []))=some fl):blk cx F (m+1) sc (.Assign [.Name nm px] (.Dict [] [] dp) p::r) ρ=some fl:=by
 refine gSt (fl1:=.nxt (cB ρ nm (.od []))) ?_ hk;obtain⟨F,rfl⟩:∃ F',F=F'+1:=⟨F-1,by omega⟩;have h:ev cx (F+1) sc (frz (F+1) (.Dict [] [] dp) ρ) (.Dict [] [] dp)=none:=rfl;simp only[st,Y5z ho,h,hc];rfl
theorem VH{tp:Pos}{ie:Expr}(hf:frz F e ρ=ρ')(ha:Nq nm e=none)(hx:(frz F ie ρ').lookup nm=some (.sh x))(hx2:ρ.lookup nm=some (.od l))(ho:(ownIn sc nm&&aF nm && !aZ e)=true)(h:ev cx F sc ρ' e=some d)(h1:ev cx F sc ρ' ie=some y)(h2:xM y=some kk)(hfl:(fB d&&decide (l.length<=1000))=true)(hk:blk cx F (m+1) sc r (cB ρ nm (.od (CQ l kk d)))=some fl):blk cx F (m+1) sc (.Assign [.Subscript (.Name nm px) ie tp] e p::r) ρ=some fl:=by
 subst hf;refine gSt (fl1:=.nxt _) ?_ hk;simp only[st,ha,hx,hx2,Y5z ho,h,h1,h2,bind,Option.bind,Y5z hfl]
theorem Mw(h:dG F y0 e=false)(hq:frz F e ρ=ρ'):frz F e ((y0,.od l)::ρ)=(y0,.od l)::ρ':=by
 rw[mK,hq];simp only[h,U1z,V5z]
theorem Mv(h:dG F y0 e=true)(hq:frz F e ρ=ρ'):frz F e ((y0,.od l)::ρ)=(y0,.sh (gU l))::ρ':=by
 rw[mK,hq];simp only[h,X5z]
end
def ed(p:Nat×Rat):List Int×D:=([(p.1:Int)],qD p.2)
abbrev EN:=List (Nat×Rat)
def putN(E:EN)(j:Nat)(v:Rat):EN:=if(E.any fun q=>decide (q.1=j))=true then E.map (fun q=>if q.1=j then(q.1,v) else q) else E++[(j,v)]
def mj(E:EN)(j:Nat):Option Rat:=(E.find? fun q=>decide (q.1=j)).map (·.2)
def vE(E:EN)(j:Nat):Rat:=(mj E j).getD 0
theorem BR{p:Nat×Rat}{j:Nat}:((ed p).1=[(j:Int)])↔p.1=j:=by
 show[(p.1:Int)]=[(j:Int)]↔_;constructor
 ·intro h;injection h with h _;omega
 ·intro h;rw[h]
theorem Kr{E:EN}{j:Nat}{v:Rat}:CQ (E.map ed) [(j:Int)] (qD v)=(putN E j v).map ed:=by
 unfold CQ putN
 have e:((E.map ed).any fun q=>decide (q.1=[(j:Int)]))=E.any fun q=>decide (q.1=j):=by
  rw[List.any_map];congr 1;funext p;exact decide_eq_decide.mpr BR
 rw[e];split
 ·rw[D5z,D5z]
  refine M1z fun p _=>?_;show(if(ed p).1=[(j:Int)] then((ed p).1,qD v) else ed p)=ed (if p.1=j then(p.1,v) else p)
  by_cases h:p.1=j
  ·rw[Y5z h,Y5z (BR.mpr h)];rfl
  ·rw[Z5z h,Z5z fun z=>h (BR.mp z)]
 ·rw[V3z];rfl
theorem Ci(E:EN):((E.map ed).map (·.1)).zip ((E.map ed).map (·.2))=E.map ed:=by
 induction E with
 | nil=>rfl
 | cons p E ih=>simp only[O4z,W1z,ih]
theorem DR{E:EN}{j:Nat}:HB (gU (E.map ed)) (ti [(j:Int)]) (qD 0)=some (qD (vE E j)):=by
 show some ((xr (((E.map ed).map (·.1)).zip ((E.map ed).map (·.2))) [(j:Int)]).getD (qD 0))=_;rw[Ci];congr 1;unfold xr vE mj;rw[List.find?_map]
 have e:((fun q:List Int×D=>decide (q.1=[(j:Int)]))∘ed)=fun q=>decide (q.1=j):=by
  funext p;exact decide_eq_decide.mpr BR
 rw[e]
 cases E.find? fun q=>decide (q.1=j)<;>rfl
theorem Mi{E:EN}:Jr (gU (E.map ed))=some (E.map fun p=>prD ([(p.1:Int)],p.2)):=by
 show some ((((E.map ed).map (·.1)).zip ((E.map ed).map (·.2))).map fun q=>D.tup [.tup (q.1.map D.int),q.2])=_;rw[Ci,D5z];rfl
theorem JM{E:EN}{j i:Nat}{v:Rat}:vE (putN E j v) i=if i=j then v else vE E i:=by
 unfold putN vE mj;split
 ·rename_i h
  induction E with
  | nil=>simp at h
  | cons p E ih =>
   simp only[O4z,List.find?_cons]
   by_cases c:p.1=j
   ·rw[Y5z c]
    by_cases ci:i=j
    ·subst ci;simp[c]
    ·have:¬ p.1=i:=fun z=>ci (z.symm.trans c)
     simp only[this,C5z];rw[Z5z ci]
     by_cases ha:(E.any fun q=>decide (q.1=j))=true
     ·have:=ih ha
      rw[Z5z ci] at this;exact this
     ·have e:E.map (fun q=>if q.1=j then(q.1,v) else q)=E:=by
       refine(M1z fun q hq=>?_).trans (List.map_id E);have:¬ q.1=j:=fun z=>ha (List.any_eq_true.mpr ⟨q,hq,by simp[z]⟩);rw[Z5z this];rfl
      rw[e]
   ·rw[Z5z c]
    have ha:(E.any fun q=>decide (q.1=j))=true:=by
     simp only[P4z,c,C5z,Bool.false_or] at h;exact h
    by_cases ci:p.1=i
    ·have:¬ i=j:=fun z=>c (ci.trans z)
     simp[ci,this]
    ·simp only[ci,C5z]
     exact ih ha
 ·rename_i h
  rw[List.find?_append];have hn:∀ q∈E,¬ q.1=j:=fun q hq z=>h (List.any_eq_true.mpr ⟨q,hq,by simp[z]⟩)
  by_cases ci:i=j
  ·subst ci
   have e:E.find? (fun q=>decide (q.1=i))=none:=List.find?_eq_none.mpr fun q hq=>by simp[hn q hq]
   rw[e];simp
  ·cases e:E.find? (fun q=>decide (q.1=i)) with
   | some q=>simp[ci]
   | none =>
    have:¬ j=i:=fun z=>ci z.symm;simp[ci,this]
theorem zZ{E:EN}{j:Nat}{v:Rat}:(putN E j v).length<=E.length+1:=by
 unfold putN;split
 ·rw[J3z];omega
 ·simp
def pst(G:Nat->Nat->Rat)(p:Nat×Rat)(E:EN)(j:Nat):EN:=putN E j (vE E j+p.2*(1*G p.1 j))
def hst(n:Nat)(G:Nat->Nat->Rat)(E:EN)(p:Nat×Rat):EN:=(js n G p.1).foldl (pst G p) E
def dst(n:Nat)(G:Nat->Nat->Rat)(E:EN):EN:=E.foldl (hst n G) []
def iz(t s:D)(sh tb la le sa be mo:Sl):Rho:=[("tables",.sh t),("some",.sh s),("shares",sh),("table",tb),("later",la),("levels",le),("share",sa),("behind",be),("more",mo)]
abbrev hF:Stmt:=bL 54 1
abbrev hG:Stmt:=(aV hF).getD 1 (.Pass ⟨0,0,0,0⟩)
abbrev hH:Stmt:=(aV hG).getD 0 (.Pass ⟨0,0,0,0⟩)
abbrev hSc:Scope:=(aU (top 54)).sc
theorem MF(q:Rat):fB (qD q)=true:=rfl
section
variable {n:Nat} {G:Nat->Nat->Rat} {ts so sd:D} {p:Nat×Rat}
theorem DN(k:Nat)(hp:Sq p.2):∀ (J:List Nat) (E:EN) (be mo:Sl),SlK be->SlK mo->(∀ j∈J,Sq (1*G p.1 j)/\Sq (p.2*(1*G p.1 j)))->(∀ pre j post,pre++j::post=J->Sq (vE (pre.foldl (pst G p) E) j))->E.length+J.length<=500->∃ be' mo',SlK be'/\SlK mo'/\bO (fF (cxN T 60 (k+5)) 60 57 hSc (cL hH) (aV hH)) ((J.map fun(j:Nat)=>(([(j:Int)],1*G p.1 j):List Int×Rat)).map prD) (iz ts so (.sh sd) (.sh (ftq n n G)) (.od (E.map ed)) (.sh (lvD p.1)) (.sh (qD p.2)) be mo)=some (.nxt (iz ts so (.sh sd) (.sh (ftq n n G)) (.od ((J.foldl (pst G p) E).map ed)) (.sh (lvD p.1)) (.sh (qD p.2)) be' mo'))
 | [],E,be,mo,h1,h2,_,_,_=>⟨be,mo,h1,h2,rfl⟩
 | j::J,E,be,mo,h1,h2,hj,hv,hz=>by
  simp only[W2z] at hz;have pl:=zZ (E:=E) (j:=j) (v:=vE E j+p.2*(1*G p.1 j));obtain⟨be',mo',g1,g2,g3⟩:=DN k hp J (pst G p E j) (.sh (lvD j)) (.sh (qD (1*G p.1 j))) iJ iJ (fun q hq=>hj q (Y0z _ hq)) (fun pre i post e=>hv (j::pre) i post (by rw[<- e];rfl)) (by unfold pst;omega);refine⟨be',mo',g1,g2,?_⟩;obtain⟨s1,s2⟩:=hj j O1z;have s3:Sq (vE E j):=hv [] j J rfl
  have st:fF (cxN T 60 (k+5)) 60 57 hSc (cL hH) (aV hH) (prD ([(j:Int)],1*G p.1 j)) (iz ts so (.sh sd) (.sh (ftq n n G)) (.od (E.map ed)) (.sh (lvD p.1)) (.sh (qD p.2)) be mo)=some (.nxt (iz ts so (.sh sd) (.sh (ftq n n G)) (.od ((pst G p E j).map ed)) (.sh (lvD p.1)) (.sh (qD p.2)) (.sh (lvD j)) (.sh (qD (1*G p.1 j))))):=by
   refine eH (ρ1:=iz ts so (.sh sd) (.sh (ftq n n G)) (.od (E.map ed)) (.sh (lvD p.1)) (.sh (qD p.2)) (.sh (lvD j)) (.sh (qD (1*G p.1 j)))) rfl ?_;unfold pst;rw[<- Kr];refine VH (ρ':=iz ts so (.sh sd) (.sh (ftq n n G)) (.sh (gU (E.map ed))) (.sh (lvD p.1)) (.sh (qD p.2)) (.sh (lvD j)) (.sh (qD (1*G p.1 j)))) (x:=gU (E.map ed)) (l:=E.map ed) (d:=qD (vE E j+p.2*(1*G p.1 j))) (y:=lvD j) (kk:=[(j:Int)]) (aA rfl (aA rfl (aA rfl (aA rfl (Mv rfl (aA rfl (aA rfl (aA rfl (aA rfl eG))))))))) rfl rfl rfl rfl ?_ (xName rfl) rfl ?_ bN
   ·refine aH rfl (aj (x:=qD (vE E j)) (Ot rfl (xName rfl) (xName rfl) (cV (aj (ak rfl) (aj (ak rfl) aL)) rfl) DR) (aj (x:=qD (p.2*(1*G p.1 j))) (aH rfl (aj (x:=qD p.2) (xName rfl) (aj (x:=qD (1*G p.1 j)) (xName rfl) aL)) (kY (k+2) hp s1)) aL)) (J6 (k+2) s3 s2)
   ·rw[MF,J3z,E4z (by omega)];rfl
  simp only[O4z,bO,st];exact g3
end
section
variable {n:Nat} {G:Nat->Nat->Rat} {ts so sd:D}
structure hOk (n:Nat) (G:Nat->Nat->Rat) (E0 E:EN):Prop where
 lt:∀ p∈E,p.1<n/\Sq p.2/\∀ j,j<n->Sq (p.2*(1*G p.1 j))
 mid:∀ pre p post,pre++p::post=E->(pre.foldl (hst n G) E0).length<=100/\∀ pj j pt,pj++j::pt=js n G p.1->Sq (vE (pj.foldl (pst G p) (pre.foldl (hst n G) E0)) j)
theorem yc(k:Nat)(h4:n<=4)(hG:∀ i j,i<n->j<n->Sq (G i j)):∀ (E E0:EN) (le sa be mo:Sl),SlK le->SlK sa->SlK be->SlK mo->hOk n G E0 E->∃ le' sa' be' mo',SlK le'/\SlK sa'/\SlK be'/\SlK mo'/\bO (fF (cxN T 60 (k+5)) 60 58 hSc (cL M40.hG) (aV M40.hG)) (E.map fun p=>prD ([(p.1:Int)],p.2)) (iz ts so (.sh sd) (.sh (ftq n n G)) (.od (E0.map ed)) le sa be mo)=some (.nxt (iz ts so (.sh sd) (.sh (ftq n n G)) (.od ((E.foldl (hst n G) E0).map ed)) le' sa' be' mo'))
 | [],E0,le,sa,be,mo,h1,h2,h3,h5,_=>⟨le,sa,be,mo,h1,h2,h3,h5,rfl⟩
 | p::E,E0,le,sa,be,mo,h1,h2,h3,h5,O=>by
  obtain⟨o1,o2,o3⟩:=O.lt p O1z;obtain⟨m1,m2⟩:=O.mid [] p E rfl;have m1:E0.length<=100:=m1;have jl:=Dw (n:=n) (G:=G) (x:=p.1);obtain⟨be1,mo1,q1,q2,q3⟩:=DN k (n:=n) (G:=G) (ts:=ts) (so:=so) (sd:=sd) (p:=p) o2 (js n G p.1) E0 be mo h3 h5 (fun j hj=>⟨by rw[L5z];exact hG _ _ o1 (mD hj),o3 j (mD hj)⟩) m2 (by omega);obtain⟨le',sa',be',mo',g1,g2,g3,g4,g5⟩:=yc k h4 hG E (hst n G E0 p) (.sh (lvD p.1)) (.sh (qD p.2)) be1 mo1 iJ iJ q1 q2 ⟨fun q hq=>O.lt q (Y0z _ hq),fun pre q post e=>O.mid (p::pre) q post (by rw[<- e];rfl)⟩;refine⟨le',sa',be',mo',g1,g2,g3,g4,?_⟩;have go:=DP k h4 hG o1
  have st:fF (cxN T 60 (k+5)) 60 58 hSc (cL M40.hG) (aV M40.hG) (prD ([(p.1:Int)],p.2)) (iz ts so (.sh sd) (.sh (ftq n n G)) (.od (E0.map ed)) le sa be mo)=some (.nxt (iz ts so (.sh sd) (.sh (ftq n n G)) (.od ((hst n G E0 p).map ed)) (.sh (lvD p.1)) (.sh (qD p.2)) be1 mo1)):=by
   refine eH (ρ1:=iz ts so (.sh sd) (.sh (ftq n n G)) (.od (E0.map ed)) (.sh (lvD p.1)) (.sh (qD p.2)) be mo) rfl ?_;exact d9 (l:=(wom n [] 1 (G p.1)).map prD) (ρ':=iz ts so (.sh sd) (.sh (ftq n n G)) (.od (E0.map ed)) (.sh (lvD p.1)) (.sh (qD p.2)) be mo) (ρ2:=iz ts so (.sh sd) (.sh (ftq n n G)) (.od ((hst n G E0 p).map ed)) (.sh (lvD p.1)) (.sh (qD p.2)) be1 mo1) (aA rfl (aA rfl (aA rfl (aA rfl (Mw rfl (aA rfl (aA rfl (aA (bh h3) (aA (bh h5) eG))))))))) (wSq (x:=.lst ((wom n [] 1 (G p.1)).map prD)) rfl (aH rfl (aj (x:=ftq n n G) (xName rfl) (aj (x:=lvD p.1) (xName rfl) aL)) go) rfl) q3 bN
  simp only[O4z,bO,st];exact g5
end
def ni(n:Nat)(L:List Stp)(x:Nat):EN:=L.foldl (fun E y=>dst n (stQ y) E) [(x,1)]
section
variable {n:Nat} {ts so:D}
theorem xZ(k:Nat)(h4:n<=4):∀ (L:List Stp) (E:EN) (tb la le sa be mo:Sl),SlK tb->SlK la->SlK le->SlK sa->SlK be->SlK mo->(∀ x∈L,∀ i j,i<n->j<n->Sq (stQ x i j))->(∀ pre x post,pre++x::post=L->hOk n (stQ x) [] (pre.foldl (fun E y=>dst n (stQ y) E) E)) ->
  ∃ tb' la' le' sa' be' mo',SlK tb'/\SlK la'/\SlK le'/\SlK sa'/\SlK be'/\SlK mo'/\bO (fF (cxN T 60 (k+5)) 60 59 hSc (cL hF) (aV hF)) (L.map fun x=>ftq n n (stQ x)) (iz ts so (.sh (gU (E.map ed))) tb la le sa be mo)=some (.nxt (iz ts so (.sh (gU ((L.foldl (fun E y=>dst n (stQ y) E) E).map ed))) tb' la' le' sa' be' mo'))
 | [],E,tb,la,le,sa,be,mo,h1,h2,h3,h5,h6,h7,_,_=>⟨tb,la,le,sa,be,mo,h1,h2,h3,h5,h6,h7,rfl⟩
 | x::L,E,tb,la,le,sa,be,mo,h1,h2,h3,h5,h6,h7,hx,hq=>by
  obtain⟨le1,sa1,be1,mo1,q1,q2,q3,q4,q5⟩:=yc k (G:=stQ x) (ts:=ts) (so:=so) (sd:=gU (E.map ed)) h4 (hx x O1z) E [] le sa be mo h3 h5 h6 h7 (hq [] x L rfl);obtain⟨tb',la',le',sa',be',mo',r1,r2,r3,r4,r5,r6,r7⟩:=xZ k h4 L (dst n (stQ x) E) (.sh (ftq n n (stQ x))) (.sh (gU ((dst n (stQ x) E).map ed))) le1 sa1 be1 mo1 iJ iJ q1 q2 q3 q4 (fun y hy=>hx y (Y0z _ hy)) (fun pre y post e=>hq (x::pre) y post (by rw[<- e];rfl));refine⟨tb',la',le',sa',be',mo',r1,r2,r3,r4,r5,r6,?_⟩
  have st:fF (cxN T 60 (k+5)) 60 59 hSc (cL hF) (aV hF) (ftq n n (stQ x)) (iz ts so (.sh (gU (E.map ed))) tb la le sa be mo)=some (.nxt (iz ts so (.sh (gU ((dst n (stQ x) E).map ed))) (.sh (ftq n n (stQ x))) (.sh (gU ((dst n (stQ x) E).map ed))) le1 sa1 be1 mo1)):=by
   refine eH (ρ1:=iz ts so (.sh (gU (E.map ed))) (.sh (ftq n n (stQ x))) la le sa be mo) rfl ?_;refine gD0 rfl ?_ (by decide) ?_
   ·rcases h3 with rfl | ⟨_,rfl⟩<;>rcases h5 with rfl | ⟨_,rfl⟩<;>rcases h6 with rfl | ⟨_,rfl⟩<;>rcases h7 with rfl | ⟨_,rfl⟩<;>rfl
   refine d9 (l:=E.map fun(p:Nat×Rat)=>prD ([(p.1:Int)],p.2)) (ρ:=iz ts so (.sh (gU (E.map ed))) (.sh (ftq n n (stQ x))) (.od (([]:EN).map ed)) le sa be mo) (ρ':=iz ts so (.sh (gU (E.map ed))) (.sh (ftq n n (stQ x))) (.od (([]:EN).map ed)) le sa be mo) (aA rfl (aA rfl (aA rfl (aA rfl (Mw rfl (aA (bh h3) (aA (bh h5) (aA (bh h6) (aA (bh h7) eG))))))))) (wIt rfl (xName rfl) Mi) q5 ?_;exact fj (d:=gU ((dst n (stQ x) E).map ed)) (ρ:=iz ts so (.sh (gU (E.map ed))) (.sh (ftq n n (stQ x))) (.od ((dst n (stQ x) E).map ed)) le1 sa1 be1 mo1) (ρ':=iz ts so (.sh (gU (E.map ed))) (.sh (ftq n n (stQ x))) (.sh (gU ((dst n (stQ x) E).map ed))) le1 sa1 be1 mo1) (aA rfl (aA rfl (aA rfl (aA rfl (Mv rfl (aA (bh q1) (aA (bh q2) (aA (bh q3) (aA (bh q4) eG))))))))) rfl rfl (xName rfl) bN
  simp only[O4z,bO,st];exact r7
end
theorem shares_from(k:Nat){n x:Nat}{L:List Stp}(h4:n<=4)(hx:∀ y∈L,∀ i j,i<n->j<n->Sq (stQ y i j))(hq:∀ pre y post,pre++y::post=L->hOk n (stQ y) [] (ni n pre x)):aD T 60 (k+6) "shares_from" [tbs n L,lvD x]=some (gU ((ni n L x).map ed)):=by
 obtain⟨tb',la',le',sa',be',mo',r1,r2,r3,r4,r5,r6,r7⟩:=xZ k (ts:=tbs n L) (so:=lvD x) h4 L [(x,1)] .no .no .no .no .no .no (.inl rfl) (.inl rfl) (.inl rfl) (.inl rfl) (.inl rfl) (.inl rfl) hx hq;refine bU (fd:=aU (top 54)) rfl rfl (fj (ρ':=iz (tbs n L) (lvD x) .no .no .no .no .no .no .no) (d:=gU ([(x,1)].map ed)) rfl rfl rfl (YM (y:=lvD x) (kk:=[(x:Int)]) (d:=qD 1) (xName rfl) rfl (cV (aj (ak rfl) (aj (ak rfl) aL)) rfl)) ?_);refine d9 (ρ:=iz (tbs n L) (lvD x) (.sh (gU ([(x,1)].map ed))) .no .no .no .no .no .no) (ρ':=iz (tbs n L) (lvD x) (.sh (gU ([(x,1)].map ed))) .no .no .no .no .no .no) rfl (wSq (x:=tbs n L) rfl (xName rfl) rfl) r7 ?_;exact gRetE (ρ':=iz (tbs n L) (lvD x) (.sh (gU ((ni n L x).map ed))) tb' la' le' sa' be' mo') (aA rfl (aA rfl (aA rfl (aA (bh r1) (aA (bh r2) (aA (bh r3) (aA (bh r4) (aA (bh r5) (aA (bh r6) eG))))))))) (xName rfl)
structure Net2 (n:Nat) (L:List Stp):Prop where
 net:Net n L
 sh:∀ x,x<n->∀ pre y post,pre++y::post=L->hOk n (stQ y) [] (ni n pre x)
theorem share_between(k:Nat){n x y:Nat}{L:List Stp}(N:Net2 n L)(hx:x<n):aD T 60 (k+8) "share_between" [.int n,ssD L,lvD x,lvD y]=some (qD (vE (ni n L x) y)):=by
 have st:=step_tables k N.net.n4 N.net.ok (by have:=N.net.len;omega)
 have sf:=shares_from (k+1) N.net.n4 N.net.sq (N.sh x hx);exact bU (fd:=aU (top 55)) rfl rfl (cZ (Ou rfl (aH rfl (aj (x:=tbs n L) (aH rfl (aj (xName rfl) (aj (xName rfl) aL)) st) (aj (x:=lvD x) (xName rfl) aL)) sf) (xName rfl) (cV (aj (ak rfl) (aj (ak rfl) aL)) rfl) DR))
theorem share_of_ways(k:Nat){n x y:Nat}{L:List Stp}(N:Net2 n L)(hx:x<n)(hy:y<n):aD T 60 (k+9) "share_of_ways" [.int n,ssD L,.int x,.int y]=some (qD (vE (ni n L x) y)) :=
 bU (fd:=aU (top 58)) rfl rfl (Bk rfl (d:=.non) (aH rfl (aj (xName rfl) (aj (xName rfl) (aj (xName rfl) (aj (xName rfl) aL)))) (need_levels (k+1) N.net hx hy)) (cZ (aH rfl (aj (xName rfl) (aj (xName rfl) (aj (x:=lvD x) (cV (aj (xName rfl) aL) rfl) (aj (x:=lvD y) (cV (aj (xName rfl) aL) rfl) aL)))) (share_between k N hx))))
def pth(n:Nat):List Stp->Nat->List (List Nat×List Rat)
 | [],_=>[([],[])]
 | y::L,i=>(js n (stQ y) i).flatMap fun j=>(pth n L j).map fun p=>(j::p.1,stQ y i j::p.2)
def bw:List Rat->Rat
 | []=>1
 | q::r=>q*bw r
def lev(r:Rn):List Nat:=r.pre++[r.x]
theorem DX{α β γ:Type}(f:α->List β)(g:β->γ)(l:List α):(l.flatMap f).map g=l.flatMap fun a=>(f a).map g:=by
 induction l with
 | nil=>rfl
 | cons a l ih=>simp only[L2z,V3z,ih]
theorem V1{α β γ:Type}(f:α->List β)(g:β->List γ)(l:List α):(l.flatMap f).flatMap g=l.flatMap fun a=>(f a).flatMap g:=by
 induction l with
 | nil=>rfl
 | cons a l ih=>simp only[L2z,List.flatMap_append,ih]
theorem Vp{α β γ:Type}(f:α->β)(g:β->List γ)(l:List α):(l.map f).flatMap g=l.flatMap fun a=>g (f a):=by
 induction l with
 | nil=>rfl
 | cons a l ih=>simp only[O4z,L2z,ih]
theorem wk{n:Nat}:∀ (L:List Stp) (M:List Rn),(L.foldl (fun M y=>rst n M (stQ y)) M).map (fun r=>(lev r,r.s))=M.flatMap fun r=>(pth n L r.x).map fun p=>(lev r++p.1,r.s*bw p.2)
 | [],M=>by
  simp only[List.foldl_nil,pth,O4z,Y4z,H3z,bw,Rat.mul_one]
  induction M with
  | nil=>rfl
  | cons r M ih=>simp only[O4z,L2z,ih];rfl
 | y::L,M=>by
  rw[L3z,wk L];unfold rst;rw[V1];refine mQ fun r _=>?_;unfold nxR;rw[Vp];simp only[pth,DX,D5z];refine mQ fun j _=>?_;refine M1z fun p _=>?_;show(lev ⟨r.pre++[r.x],j,_⟩++p.1,_)=(lev r++(j::p.1),_);refine Prod.ext ?_ ?_
  ·simp[lev]
  ·show r.s*(1*stQ y r.x j)*bw p.2=r.s*(stQ y r.x j*bw p.2)
   grind
theorem rN{n x:Nat}{L:List Stp}:(runs n L x).map (fun r=>(lev r,r.s))=(pth n L x).map fun p=>(x::p.1,bw p.2):=by
 unfold runs;rw[wk];simp only[L2z,C3z,H3z];refine M1z fun p _=>?_;show(_,_)=(_,_);simp[lev]
theorem Mf{n i:Nat}{y:Stp}:(js n (stQ y) i).length<=2:=by
 have nd:(js n (stQ y) i).Nodup:=F1z _ T2z
 have sub:∀ j∈js n (stQ y) i,j=i\/j=spC y:=fun j hj=>by
  have h:=(List.mem_filter.mp hj).2;unfold wok at h;rw[X2z,J2z] at h;apply G0z;intro c;apply h.1;unfold stQ idQ;rw[not_or] at c;have c1:¬ i=j:=fun z=>c.1 z.symm;split
  all_goals simp_all
 match hj:js n (stQ y) i with
 | []=>simp
 | [a]=>simp
 | [a,b]=>simp
 | a::b::c::r =>
  exfalso;rw[hj] at nd sub;have ha:=sub a (by simp);have hb:=sub b (by simp);have hc:=sub c (by simp);simp only[N3z,List.mem_cons,not_or] at nd;omega
theorem DY{α β:Type}{f:α->List β}{b:Nat}:∀ {l:List α},(∀ a∈l,(f a).length<=b)->(l.flatMap f).length<=l.length*b
 | [],_=>by simp
 | a::l,h=>by
  have i:=DY (l:=l) fun x hx=>h x (Y0z _ hx);have:=h a O1z;simp only[L2z,T1z,W2z,Nat.add_mul,Nat.one_mul];omega
theorem fV{n:Nat}:∀ (L:List Stp) (x:Nat),(pth n L x).length<=2^L.length
 | [],x=>by simp[pth]
 | y::L,x=>by
  have h:=DY (l:=js n (stQ y) x) (f:=fun j=>(pth n L j).map fun p=>(j::p.1,stQ y x j::p.2)) (b:=2^L.length) fun j _=>by rw[J3z];exact fV L j
  have t:=Mf (n:=n) (i:=x) (y:=y);have m:=D1z (2^L.length) t;show(((js n (stQ y) x).flatMap _)).length<=2^(L.length+1);rw[E5z,A5z (2^L.length) 2];exact V4z h m
theorem zR{n x:Nat}{L:List Stp}:(runs n L x).length<=2^L.length:=by
 have:=congrArg List.length (rN (n:=n) (x:=x) (L:=L));rw[J3z,J3z] at this;rw[this];exact fV L x
theorem wj{n x:Nat}{L:List Stp}{y:Stp}:runs n (L++[y]) x=rst n (runs n L x) (stQ y):=by simp[runs]
theorem FW{n x:Nat}(hx:x<n){D B:Nat}:∀ L:List Stp,(∀ y∈L,∀ i j,i<n->j<n->Qb D B (stQ y i j))->∀ r∈runs n L x,r.x<n/\r.pre.length=L.length/\Qb (D^L.length) (B^L.length) r.s:=by
 intro L
 induction L using v8 with
 | h0 =>
  intro _ r hr;rw[List.mem_singleton.mp hr];exact⟨hx,rfl,by simpa using Qb.one (D:=1)⟩
 | hs L y ih =>
  intro h r hr;rw[wj] at hr;obtain⟨r0,h0,h1⟩:=List.mem_flatMap.mp hr;obtain⟨j,hj,rfl⟩:=List.mem_map.mp h1;obtain⟨a,b,c⟩:=ih (fun z hz=>h z (Z0z _ hz)) r0 h0;refine⟨mD hj,by simp[b],?_⟩;have q:=h y (by simp) r0.x j a (mD hj);have m:=c.mul q;rw[T1z,U0z,E5z,E5z];rw[L5z];exact m
def bW:List Rat->Rat
 | []=>0
 | q::r=>q+bW r
theorem iR:∀ a b:List Rat,bW (a++b)=bW a+bW b
 | [],b=>by simp only[Q3z,bW];grind
 | q::a,b=>by simp only[List.cons_append,bW,iR a b];grind
theorem rC{c:Rat}:∀ a:List Rat,bW (a.map fun q=>c*q)=c*bW a
 | []=>by simp only[Y4z,bW];grind
 | q::a=>by simp only[O4z,bW,rC a];grind
def fW(x y:Nat)(p:List Nat×List Rat):Bool:=decide ((x::p.1).getLast?=some y)
def pS(n:Nat)(L:List Stp)(x y:Nat):Rat:=bW (((pth n L x).filter (fW x y)).map fun p=>bw p.2)
theorem vM{n:Nat}{f:Nat->Rat}{t:Nat->Bool}:∀ m:Nat,bW (((List.range m).filter t).map f)=cu m fun j=>if t j then f j else 0
 | 0=>rfl
 | m+1=>by
  rw[W3z,Y1z,V3z,iR,vM (n:=n) m];show _=cu m _+_;congr 1
  cases h:t m<;>simp[Z2z,h,bW]<;>grind
theorem yu{α β:Type}(f:α->List β)(t:β->Bool)(l:List α):(l.flatMap f).filter t=l.flatMap fun a=>(f a).filter t:=by
 induction l with
 | nil=>rfl
 | cons a l ih=>simp only[L2z,Y1z,ih]
theorem vN{α:Type}(f:α->List Rat):∀ l:List α,bW (l.flatMap f)=bW (l.map fun a=>bW (f a))
 | []=>rfl
 | a::l=>by simp only[L2z,O4z,bW,iR,vN f l]
theorem Zg{n x y:Nat}{z:Stp}{L:List Stp}:pS n (z::L) x y=cu n fun j=>stQ z x j*pS n L j y:=by
 unfold pS;simp only[pth];rw[yu,DX,vN];unfold js;rw[vM (n:=n)];refine gW fun j hj=>?_
 have e:((List.filter (fW x y) ((pth n L j).map fun p=>(j::p.1,stQ z x j::p.2))).map fun p=>bw p.2)=(((pth n L j).filter (fW j y)).map fun p=>bw p.2).map fun q=>stQ z x j*q:=by
  rw[C4z,D5z,D5z]
  have:(fW x y∘fun p:List Nat×List Rat=>(j::p.1,stQ z x j::p.2))=fW j y:=by
   funext p;show decide _=decide _;rw[List.getLast?_cons_cons]
  rw[this];rfl
 rw[e,rC]
 by_cases h:stQ z x j=0
 ·rw[h];simp
 ·have:wok [] (stQ z x) j=true:=by simp[wok,h]
  rw[Y5z this]
theorem K5{n y:Nat}(hy:y<n):∀ (L:List Stp) (x:Nat),x<n->pS n L x y=mkQ n L x y
 | [],x,hx=>by
  show bW (((pth n [] x).filter (fW x y)).map fun p=>bw p.2)=idQ x y;simp only[pth,idQ]
  by_cases h:x=y
  ·have:fW x y ([],[])=true:=by simp[fW,h]
   simp only[Z2z,this,X5z,List.filter_nil,O4z,Y4z,bW,bw,Y5z h];grind
  ·have:fW x y ([],[])=false:=by simp[fW,h]
   simp only[Z2z,this,U1z,V5z,List.filter_nil,Y4z,bW,Z5z h]
 | z::L,x,hx=>by
  rw[Zg,show z::L=[z]++L from rfl,Li [z] L x y hx hy]
  exact gW fun j hj=>by rw[K5 hy L j hj,mk_one hx]
theorem vA{G:Nat->Nat->Rat}{p:Nat×Rat}:∀ (J:List Nat) (E:EN) (j:Nat),J.Nodup->vE (J.foldl (pst G p) E) j=vE E j+if j∈J then p.2*(1*G p.1 j) else 0
 | [],E,j,_=>by simp only[List.foldl_nil,List.not_mem_nil,V5z];grind
 | a::J,E,j,h=>by
  obtain⟨h1,h2⟩:=N3z.mp h;rw[L3z,vA J _ j h2];unfold pst;rw[JM]
  by_cases c:j=a
  ·subst c
   rw[Y5z rfl,Z5z h1,Y5z O1z];grind
  ·rw[Z5z c]
   by_cases m:j∈J
   ·rw[Y5z m,Y5z (Y0z _ m)]
   ·rw[Z5z m,Z5z (by simp[c,m])]
theorem Mg{n:Nat}{G:Nat->Nat->Rat}{x:Nat}:(js n G x).Nodup:=F1z _ T2z
theorem Dv{n:Nat}{G:Nat->Nat->Rat}{x j:Nat}(hj:j<n):j∈js n G x↔G x j≠0:=by
 unfold js;rw[List.mem_filter,List.mem_range];simp[wok,hj]
theorem JR{n:Nat}{G:Nat->Nat->Rat}{p:Nat×Rat}{E:EN}{j:Nat}(hj:j<n):vE (hst n G E p) j=vE E j+p.2*G p.1 j:=by
 unfold hst;rw[vA _ _ _ Mg,L5z]
 by_cases h:G p.1 j=0
 ·rw[Z5z fun z=>(Dv hj).mp z h,h];grind
 ·rw[Y5z ((Dv hj).mpr h)]
theorem vB{n:Nat}{G:Nat->Nat->Rat}{j:Nat}(hj:j<n):∀ (E E0:EN),vE (E.foldl (hst n G) E0) j=vE E0 j+bW (E.map fun p=>p.2*G p.1 j)
 | [],E0=>by simp only[List.foldl_nil,Y4z,bW];grind
 | p::E,E0=>by
  rw[L3z,vB hj E,JR hj];simp only[O4z,bW];grind
structure Ky (n:Nat) (E:EN):Prop where
 nd:(E.map (·.1)).Nodup
 lt:∀ p∈E,p.1<n
theorem zX{E:EN}{j:Nat}{v:Rat}:(putN E j v).map (·.1)=if(E.any fun q=>decide (q.1=j))=true then E.map (·.1) else E.map (·.1)++[j]:=by
 unfold putN;split
 ·rw[D5z]
  refine M1z fun q _=>?_;show(if q.1=j then(q.1,v) else q).1=q.1
  split<;>rfl
 ·rw[V3z];rfl
theorem Ky.lt'{n:Nat}{E:EN}(h:Ky n E):∀ x∈E.map (·.1),x<n:=fun x hx=>by
 obtain⟨p,hp,rfl⟩:=List.mem_map.mp hx;exact h.lt p hp
theorem Ky.put{n:Nat}{E:EN}{j:Nat}{v:Rat}(h:Ky n E)(hj:j<n):Ky n (putN E j v):=by
 have e:=zX (E:=E) (j:=j) (v:=v)
 have l:∀ x∈(putN E j v).map (·.1),x<n:=fun x hx=>by
  rw[e] at hx;split at hx
  ·exact h.lt' x hx
  ·rcases List.mem_append.mp hx with hx | hx
   ·exact h.lt' x hx
   ·rw[List.mem_singleton.mp hx];exact hj
 refine⟨?_,fun p hp=>l p.1 (List.mem_map_of_mem hp)⟩;rw[e];split
 ·exact h.nd
 ·rename_i c
  refine List.nodup_append.mpr ⟨h.nd,by simp,fun a ha b hb=>?_⟩;rw[List.mem_singleton.mp hb];obtain⟨p,hp,rfl⟩:=List.mem_map.mp ha;exact fun z=>c (List.any_eq_true.mpr ⟨p,hp,by simp[z]⟩)
theorem Ky.pst{n:Nat}{G:Nat->Nat->Rat}{p:Nat×Rat}:∀ {J:List Nat} {E:EN},Ky n E->(∀ j∈J,j<n)->Ky n (J.foldl (pst G p) E)
 | [],E,h,_=>h
 | j::J,E,h,hj=>Ky.pst (J:=J) (h.put (hj j O1z)) fun i hi=>hj i (Y0z _ hi)
theorem Ky.hst{n:Nat}{G:Nat->Nat->Rat}:∀ {E E0:EN},Ky n E0->Ky n (E.foldl (hst n G) E0)
 | [],_,h=>h
 | p::E,E0,h=>Ky.hst (E:=E) (Ky.pst h fun j hj=>mD hj)
theorem Ky.nil{n:Nat}:Ky n []:=⟨by simp,fun p hp=>by simp at hp⟩
theorem xK{n x:Nat}(hx:x<n)(L:List Stp):Ky n (ni n L x):=by
 induction L using v8 with
 | h0=>exact⟨by simp[ni],fun p hp=>by rw[List.mem_singleton.mp hp];exact hx⟩
 | hs L y ih =>
  have:ni n (L++[y]) x=dst n (stQ y) (ni n L x):=by simp[ni]
  rw[this];exact Ky.hst Ky.nil
theorem Dp:∀ (n:Nat) (l:List Nat),l.Nodup->(∀ x∈l,x<n)->l.length<=n
 | 0,l,_,h=>by
  cases l with
  | nil=>simp
  | cons a l=>exact absurd (h a O1z) (by omega)
 | n+1,l,h,hl=>by
  have i:=Dp n (l.erase n) (h.erase n) fun x hx=>by
   have:=(h.mem_erase_iff).mp hx;have:=hl x this.2;omega
  have:=List.length_erase (l:=l) (a:=n)
  split at this<;>omega
theorem Ky.len{n:Nat}{E:EN}(h:Ky n E):E.length<=n:=by
 have:=Dp n (E.map (·.1)) h.nd h.lt'
 rwa [J3z] at this
theorem JN{E:EN}{i:Nat}(h:∀ q∈E,q.1≠i):vE E i=0:=by
 have e:E.find? (fun q=>decide (q.1=i))=none:=List.find?_eq_none.mpr fun q hq=>by simp[h q hq]
 unfold vE mj;rw[e];rfl
theorem pY{p:Nat×Rat}{E:EN}{i:Nat}(h:∀ q∈E,q.1≠p.1):vE (p::E) i=(if i=p.1 then p.2 else 0)+vE E i:=by
 by_cases c:i=p.1
 ·subst c
  rw[Y5z rfl,JN h];simp[vE,mj];grind
 ·rw[Z5z c]
  have:¬ p.1=i:=fun z=>c z.symm;simp[vE,mj,List.find?_cons,this];grind
theorem Ky.tail{n:Nat}{p:Nat×Rat}{E:EN}(h:Ky n (p::E)):Ky n E/\∀ q∈E,q.1≠p.1:=by
 have:=N3z.mp h.nd;exact⟨⟨this.2,fun q hq=>h.lt q (Y0z _ hq)⟩,fun q hq z=>this.1 (List.mem_map.mpr ⟨q,hq,z⟩)⟩
theorem Du{n:Nat}{f:Nat->Rat}:∀ {E:EN},Ky n E->bW (E.map fun p=>p.2*f p.1)=cu n fun i=>vE E i*f i
 | [],_=>by
  rw[rD (fun l _=>by simp[vE,mj])];rfl
 | p::E,h=>by
  obtain⟨h1,h2⟩:=h.tail
  have e:(cu n fun i=>vE (p::E) i*f i)=cu n fun i=>(if i=p.1 then p.2*f i else 0)+vE E i*f i:=gW fun i _=>by
   rw[pY h2]
   split<;>grind
  rw[e,lA,lu (f:=fun i=>p.2*f i) (h.lt p O1z),<- Du h1];rfl
theorem JQ{n:Nat}:∀ {E:EN},Ky n E->∀ p∈E,vE E p.1=p.2
 | p::E,h,q,hq=>by
  obtain⟨h1,h2⟩:=h.tail;rw[pY h2];rcases List.mem_cons.mp hq with rfl | hm
  ·rw[Y5z rfl,JN h2];grind
  ·rw[Z5z (h2 q hm),JQ h1 q hm];grind
theorem vq{n x:Nat}(hx:x<n)(L:List Stp):∀ j,j<n->vE (ni n L x) j=mkQ n L x j:=by
 induction L using v8 with
 | h0 =>
  intro j _;show vE [(x,1)] j=idQ x j;rw[pY (fun q hq=>by simp at hq)];unfold idQ
  by_cases h:x=j
  ·rw[Y5z h.symm,Y5z h];simp[vE,mj];grind
  ·rw[Z5z fun z=>h z.symm,Z5z h];simp[vE,mj];grind
 | hs L y ih =>
  intro j hj
  have:ni n (L++[y]) x=dst n (stQ y) (ni n L x):=by simp[ni]
  rw[this,gA];show vE ((ni n L x).foldl (hst n (stQ y)) []) j=_;rw[vB hj,Du (f:=fun i=>stQ y i j) (xK hx L)];show vE [] j+_=cu n _;rw[show vE [] j=0 from rfl,gW (g:=fun i=>mkQ n L x i*stQ y i j) fun i hi=>by rw[ih i hi]];grind
theorem vO{D B:Nat}:∀ {l:List Rat},(∀ q∈l,Qb D B q)->Qb D (l.length*B) (bW l)
 | [],_=>by rw[R3z,Nat.zero_mul];exact Qb.zero
 | q::l,h=>by
  have:=(h q O1z).add (vO fun p hp=>h p (Y0z _ hp));rw[W2z,Z4z,Nat.add_comm];exact this
theorem p6:∀ t,t<6->6^t*6<=1000000000000000000/\120^t*30<=100000000000000000/\30^t<=1000000000000000000/\6^t<=1000000000000000000/\120^t<=100000000000000000/\0<6^t:=by decide +kernel
theorem Zw{n:Nat}{L:List Stp}(n1:1<=n)(n4:n<=4)(hl:L.length<=5)(ok:∀ x∈L,okS n x/\Bq n n 6 30 (stQ x)):Net2 n L:=by
 refine⟨⟨n1,n4,fun x hx=>(ok x hx).1,by omega,fun y hy i j hi hj=>((ok y hy).2 i j hi hj).sq (by decide) (by decide) (by decide),fun x hx pre post e=>?_⟩,fun x hx pre y post e=>?_⟩
 ·have pl:pre.length<6:=by have:=congrArg List.length e;rw[T1z] at this;omega
  obtain⟨_,_,b3,b4,_,b6⟩:=p6 _ pl;refine⟨V4z zR (V4z (E1z (by decide) (show pre.length<=5 by omega)) (by decide)),fun r hr=>?_⟩;obtain⟨a,b,c⟩:=FW hx pre (fun z hz=>(ok z (by rw[<- e];exact Z0z _ hz)).2) r hr;exact⟨a,by omega,c.sq b6 b4 b3⟩
 ·have pl:pre.length<6:=by have:=congrArg List.length e;rw[T1z] at this;omega
  obtain⟨b1,b2,_,b4,b5,b6⟩:=p6 _ pl;have ky:=xK hx pre;have mb:=Yt (n:=n) (E:=6) (C:=30) n4 (l:=pre) fun z hz=>(ok z (by rw[<- e];exact Z0z _ hz)).2;have gy:=(ok y (by rw[<- e];simp)).2
  have vb:∀ p∈ni n pre x,Qb (6^pre.length) (120^pre.length) p.2:=fun p hp=>by
   rw[<- JQ ky p hp,vq hx pre p.1 (ky.lt p hp)];exact mb x p.1 hx (ky.lt p hp)
  refine⟨fun p hp=>⟨ky.lt p hp,(vb p hp).sq b6 b4 (by omega),fun j hj=>?_⟩,fun pr p po e2=>?_⟩
  ·rw[L5z]
   exact((vb p hp).mul (gy p.1 j (ky.lt p hp) hj)).sq (by omega) b1 (by omega)
  ·have k2:Ky n (pr.foldl (hst n (stQ y)) []):=Ky.hst Ky.nil
   refine⟨by have:=k2.len;omega,fun pj j pt e3=>?_⟩
   have nd:=Mg (n:=n) (G:=stQ y) (x:=p.1);have jl:j<n:=mD (n:=n) (G:=stQ y) (x:=p.1) (by rw[<- e3];simp);rw[<- e3] at nd;have nd2:=List.nodup_append.mp nd;have nj:¬ j∈pj:=fun z=>nd2.2.2 j z j O1z rfl;rw[vA _ _ _ nd2.1,Z5z nj,vB jl]
   have pl2:pr.length<=4:=by have:=congrArg List.length e2;rw[T1z] at this;have:=ky.len;omega
   have sb:=vO (D:=6^pre.length*6) (B:=120^pre.length*30) (l:=pr.map fun p=>p.2*stQ y p.1 j) fun q hq=>by
    obtain⟨p,hp,rfl⟩:=List.mem_map.mp hq
    have hm:p∈ni n pre x:=by rw[<- e2];exact Z0z _ hp
    exact(vb p hm).mul (gy p.1 j (ky.lt p hm) jl)
   rw[J3z] at sb
   have z:vE [] j+bW (pr.map fun p=>p.2*stQ y p.1 j)+0=bW (pr.map fun p=>p.2*stQ y p.1 j):=by
    rw[show vE [] j=0 from rfl];grind
   rw[z];have m4:=D1z (120^pre.length*30) pl2;exact sb.sq (by omega) b1 (by omega)
def dZ(lv:List Nat)(p:List Nat×List Rat):D:=.tup [niD (lv++p.1),.lst (p.2.map qD)]
def nY(n:Nat)(st lv:D)(tb md le sa:Sl):Rho:=[("_law_many",.sh (.int n)),("_law_steps_here",.sh st),("_law_levels",.sh lv),("_law_table_here",tb),("_law_made_here",md),("_law_level",le),("_law_share_here",sa)]
def wyp(n:Nat)(z:Stp)(L:List Stp)(x m:Nat):List (List Nat×List Rat):=((List.range m).filter (wok [] (stQ z x))).flatMap fun j=>(pth n L j).map fun p=>(j::p.1,stQ z x j::p.2)
theorem Fg{n:Nat}{z:Stp}{L:List Stp}{x m:Nat}:wyp n z L x (m+1)=wyp n z L x m++if stQ z x m=0 then[] else(pth n L m).map fun p=>(m::p.1,stQ z x m::p.2):=by
 unfold wyp;rw[W3z,Y1z,List.flatMap_append]
 by_cases h:stQ z x m=0
 ·rw[Y5z h]
  have:wok [] (stQ z x) m=false:=by simp[wok,h]
  simp[Z2z,this]
 ·rw[Z5z h]
  have:wok [] (stQ z x) m=true:=by simp[wok,h]
  simp[Z2z,this]
theorem YQ{n:Nat}{z:Stp}{L:List Stp}{x:Nat}:wyp n z L x n=pth n (z::L) x:=rfl
theorem u9{n:Nat}{z:Stp}{L:List Stp}{x:Nat}:∀ m,m<=4->(wyp n z L x m).length<=m*2^L.length
 | 0,_=>by simp[wyp]
 | m+1,h=>by
  have i:=u9 (n:=n) (z:=z) (L:=L) (x:=x) m (by omega);have p:=fV (n:=n) L m;rw[Fg,T1z,Z4z];split
  ·simp;omega
  ·rw[J3z];omega
theorem Np{us vs:List D}(h:us.length+vs.length<=100000):binop .Add (.lst us) (.lst vs)=some (.lst (us++vs)):=by
 show(if szl (us.length+vs.length) then some (D.lst (us++vs)) else none)=_;rw[Y5z (je h)]
theorem xg{l:List Nat}:blt "len" [niD l]=some (.int (l.length:Int)):=by
 show some (D.int ((l.map _).length:Int))=_;rw[J3z]
theorem Cv{l:List Stp}:blt "len" [ssD l]=some (.int (l.length:Int)):=by
 show some (D.int ((l.map _).length:Int))=_;rw[J3z]
theorem xq{l:List Nat}{x:Nat}:atD ((l++[x]).map fun(x:Nat)=>D.int x) (-1)=some (.int x):=by
 rw[V3z];exact m7
abbrev yF:Stmt:=bL 77 3
abbrev yI:Stmt:=(aV yF).getD 1 (.Pass ⟨0,0,0,0⟩)
abbrev ySc:Scope:=(aU (top 77)).sc
theorem gn{n:Nat}:∀ (L:List Stp) (x:Nat),∀ p∈pth n L x,p.1.length=L.length/\p.2.length=L.length
 | [],x,p,hp=>by rw[List.mem_singleton.mp hp];exact⟨rfl,rfl⟩
 | z::L,x,p,hp=>by
  obtain⟨j,hj,h1⟩:=List.mem_flatMap.mp hp;obtain⟨q,hq,rfl⟩:=List.mem_map.mp h1;have:=gn L j q hq;simp[this.1,this.2]
theorem JK{n k:Nat}{pre:List Stp}{lv:List Nat}{x:Nat}(hx:x<n)(hl:lv.length=pre.length):aD T 60 (k+1) "_law_ways" [.int n,ssD (pre++[]),niD (lv++[x])]=some (.lst ((pth n [] x).map (dZ (lv++[x])))):=by
 refine bU (fd:=aU (top 77)) rfl rfl (uF (fl1:=.ret (.lst ((pth n [] x).map (dZ (lv++[x]))))) ?_ ?_ rfl)
 ·exact bV (x:=.int ((lv++[x]).length:Int)) (y:=.int (((pre++[]).length:Int)+1)) (dY (ds:=[niD (lv++[x])]) rfl rfl rfl (aj (xName rfl) aL) xg) (cg (x:=.int ((pre++[]).length:Int)) (y:=.int 1) (dY (ds:=[ssD (pre++[])]) rfl rfl rfl (aj (xName rfl) aL) Cv) (ak rfl) rfl) (Jm (by simp;omega))
 ·refine cZ (qX (nF (ds:=[.tup [niD (lv++[x]),.lst []]]) (aj (cV (aj (x:=niD (lv++[x])) (xName rfl) (aj (x:=.lst []) (nF aL rfl) aL)) rfl) aL) rfl) ?_)
  simp[pth,dZ]
theorem JG{n k:Nat}(h4:n<=4){z:Stp}{post:List Stp}{lv:List Nat}{x:Nat}{LD:D}(hl:lv.length<=50)(hz:post.length<=5){i:Nat}(ih:aD T 60 (k+1) "_law_ways" [.int n,LD,niD (lv++[x]++[i])]=some (.lst ((pth n post i).map (dZ (lv++[x]++[i])))))(hi:i<n):blk (cxN T 60 (k+1)) 60 59 ySc ((aV yF).drop 1) (nY n LD (niD (lv++[x])) (.sh (llq n n (stQ z))) (.ow ((wyp n z post x i).map (dZ (lv++[x])))) (.sh (.int i)) (.sh (qD (stQ z x i))))=some (.nxt (nY n LD (niD (lv++[x])) (.sh (llq n n (stQ z))) (.ow ((wyp n z post x (i+1)).map (dZ (lv++[x])))) (.sh (.int i)) (.sh (qD (stQ z x i))))):=by
 have cd:ev (cxN T 60 (k+1)) 60 ySc (nY n LD (niD (lv++[x])) (.sh (llq n n (stQ z))) (.ow ((wyp n z post x i).map (dZ (lv++[x])))) (.sh (.int i)) (.sh (qD (stQ z x i)))) (ifX yI)=some (.bl (decide (stQ z x i≠0))):=bV (x:=.int (stQ z x i).num) (y:=.int 0) (CN (xName rfl) (ak rfl) rfl) (ak rfl) Ko
 by_cases q:stQ z x i=0
 ·rw[D3z (by simpa using q)] at cd
  refine VN (ρ':=nY n LD (niD (lv++[x])) (.sh (llq n n (stQ z))) (.ow ((wyp n z post x i).map (dZ (lv++[x])))) (.sh (.int i)) (.sh (qD (stQ z x i)))) (aA rfl (aA rfl (aA rfl (aA rfl (jR rfl (aA rfl (aA rfl eG))))))) cd ?_;show _=some (Fl.nxt (nY n LD (niD (lv++[x])) (.sh (llq n n (stQ z))) (.ow ((wyp n z post x (i+1)).map (dZ (lv++[x])))) (.sh (.int i)) (.sh (qD (stQ z x i)))));rw[Fg,Y5z q,H3z];exact bN
 ·rw[E4z q] at cd
  have pl:=fV (n:=n) post i;have wl:=u9 (n:=n) (z:=z) (L:=post) (x:=x) i (by omega);have p2:2^post.length<=2^5:=E1z (by decide) (by omega);have w4:=D1z (2^post.length) (show i<=4 by omega)
  let zs:List D:=(pth n post i).map fun p=>dZ (lv++[x]) (i::p.1,stQ z x i::p.2)
  refine Bp (ρ':=nY n LD (niD (lv++[x])) (.sh (llq n n (stQ z))) (.ow ((wyp n z post x i).map (dZ (lv++[x])))) (.sh (.int i)) (.sh (qD (stQ z x i)))) (ρ2:=nY n LD (niD (lv++[x])) (.sh (llq n n (stQ z))) (.ow ((wyp n z post x i).map (dZ (lv++[x]))++zs)) (.sh (.int i)) (.sh (qD (stQ z x i)))) (aA rfl (aA rfl (aA rfl (aA rfl (jR rfl (aA rfl (aA rfl eG))))))) cd ?_ ?_
  ·refine YB (ds:=(wyp n z post x i).map (dZ (lv++[x]))) (zs:=zs) rfl rfl rfl rfl (je (by simp only[zs,J3z];omega)) ?_ rfl
   refine dg (l:=(pth n post i).map (dZ (lv++[x]++[i]))) rfl (wSq (x:=.lst ((pth n post i).map (dZ (lv++[x]++[i])))) rfl (aH rfl (aj (x:=.int n) (xName rfl) (aj (x:=LD) (xName rfl) (aj (x:=niD (lv++[x]++[i])) ?_ aL))) ih) rfl) (je (by rw[J3z];omega)) (dD fun p hp=>dH rfl ?_)
   ·refine qX (cg (x:=niD (lv++[x])) (y:=.tup [.int i]) (xName rfl) (cV (aj (xName rfl) aL) rfl) (Je (by simp;omega))) ?_
    simp[niD]
   ·refine qX (cV (aj (x:=niD (lv++[x]++[i]++p.1)) (xName rfl) (aj (cg (x:=.lst [qD (stQ z x i)]) (y:=.lst (p.2.map qD)) (nF (aj (x:=qD (stQ z x i)) (xName rfl) aL) rfl) (xName rfl) (Np (by have:=(gn post i p hp).2;simp;omega))) aL)) rfl) ?_
    simp[dZ,niD]
  ·show _=some (Fl.nxt (nY n LD (niD (lv++[x])) (.sh (llq n n (stQ z))) (.ow ((wyp n z post x (i+1)).map (dZ (lv++[x])))) (.sh (.int i)) (.sh (qD (stQ z x i)))))
   rw[Fg,Z5z q,V3z,D5z];exact bN
theorem JH{n k:Nat}(h4:n<=4){z:Stp}{post:List Stp}{lv:List Nat}{x:Nat}{LD:D}(hx:x<n)(hl:lv.length<=50)(hz:post.length<=5)(IH:∀ i,i<n->aD T 60 (k+1) "_law_ways" [.int n,LD,niD (lv++[x]++[i])]=some (.lst ((pth n post i).map (dZ (lv++[x]++[i]))))){i:Nat}(hi:i<n):fF (cxN T 60 (k+1)) 60 59 ySc (cL yF) (aV yF) (.int i) (nY n LD (niD (lv++[x])) (.sh (llq n n (stQ z))) (.ow ((wyp n z post x i).map (dZ (lv++[x])))) (lvS i) (ig (stQ z x) i))=some (.nxt (nY n LD (niD (lv++[x])) (.sh (llq n n (stQ z))) (.ow ((wyp n z post x (i+1)).map (dZ (lv++[x])))) (lvS (i+1)) (ig (stQ z x) (i+1)))):=by
 refine eH (ρ1:=nY n LD (niD (lv++[x])) (.sh (llq n n (stQ z))) (.ow ((wyp n z post x i).map (dZ (lv++[x])))) (.sh (.int i)) (ig (stQ z x) i)) rfl ?_;refine fj (d:=qD (stQ z x i)) (ρ':=nY n LD (niD (lv++[x])) (.sh (llq n n (stQ z))) (.ow ((wyp n z post x i).map (dZ (lv++[x])))) (.sh (.int i)) (ig (stQ z x) i)) (aA rfl (aA rfl (aA rfl (aA rfl (jR rfl (aA rfl (aA (mz _ i) eG))))))) rfl rfl ?_ ?_
 ·exact EY (m:=n) (j:=i) (h:=fun j=>qD (stQ z x j)) (EY (m:=n) (j:=x) (h:=fun i=>lwq n (stQ z i)) (xName rfl) (xIx (x:=niD (lv++[x])) (i := -1) (xName rfl) (Ez (ak rfl)) rfl xq) hx rfl rfl) (xName rfl) hi rfl rfl
 ·exact JG h4 hl hz (IH i hi) hi
theorem JF{n k:Nat}(h4:n<=4){z:Stp}{post pre:List Stp}{lv:List Nat}{x:Nat}(hx:x<n)(hl:lv.length=pre.length)(hz:pre.length+(post.length+1)<=5)(okz:okS n z)(IH:∀ i,i<n->aD T 60 (k+1) "_law_ways" [.int n,ssD (pre++z::post),niD (lv++[x]++[i])]=some (.lst ((pth n post i).map (dZ (lv++[x]++[i]))))):aD T 60 (k+2) "_law_ways" [.int n,ssD (pre++z::post),niD (lv++[x])]=some (.lst ((pth n (z::post) x).map (dZ (lv++[x])))):=by
 have pw:=Al okz.1;have pp:=su okz.1;have st:=Lk (s:=z.s) k n (by omega) z.w pw z.p (by omega) okz.1;have go:=mO (f:=fF (cxN T 60 (k+1)) 60 59 ySc (cL yF) (aV yF)) (N:=n) (h:=fun i=>D.int i) (R:=fun i=>nY n (ssD (pre++z::post)) (niD (lv++[x])) (.sh (llq n n (stQ z))) (.ow ((wyp n z post x i).map (dZ (lv++[x])))) (lvS i) (ig (stQ z x) i)) fun i hi=>JH h4 hx (by omega) (by omega) IH hi
 have t1:(pre++z::post)[pre.length]?=some z:=by simp
 have t2:((pre++z::post).map stD)[pre.length]?=some (stD z):=by rw[List.getElem?_map,t1];rfl
 generalize e:pre++z::post=LL at *
 have ll:LL.length=pre.length+(post.length+1):=by rw[<- e];simp
 refine bU (fd:=aU (top 77)) rfl rfl (sX ?_ ?_)
 ·exact bV (x:=.int ((lv++[x]).length:Int)) (y:=.int ((LL.length:Int)+1)) (dY (ds:=[niD (lv++[x])]) rfl rfl rfl (aj (xName rfl) aL) xg) (cg (x:=.int (LL.length:Int)) (y:=.int 1) (dY (ds:=[ssD LL]) rfl rfl rfl (aj (xName rfl) aL) Cv) (ak rfl) rfl) (Jo (by rw[ll];simp;omega))
 refine mJ rfl (d:=llq n n (stQ z)) (aH rfl (aj (x:=.int n) (xName rfl) (aj (x:=stD z) (xIx (x:=ssD LL) (i:=(pre.length:Int)) (xName rfl) (qX (cg (x:=.int ((lv++[x]).length:Int)) (y:=.int 1) (dY (ds:=[niD (lv++[x])]) rfl rfl rfl (aj (xName rfl) aL) xg) (ak rfl) rfl) (congrArg D.int (by simp;omega))) rfl (qU t2)) aL)) st) ?_
 refine mJ rfl (d:=.lst []) (nF aL rfl) ?_;refine d9 (ρ:=nY n (ssD LL) (niD (lv++[x])) (.sh (llq n n (stQ z))) (.ow []) .no .no) (ρ':=nY n (ssD LL) (niD (lv++[x])) (.sh (llq n n (stQ z))) (.ow []) .no .no) (ρ2:=nY n (ssD LL) (niD (lv++[x])) (.sh (llq n n (stQ z))) (.ow ((wyp n z post x n).map (dZ (lv++[x])))) (lvS n) (ig (stQ z x) n)) (aA rfl (aA rfl (aA rfl (aA rfl (jR rfl (aA rfl (aA rfl eG))))))) (Cp rfl (xName rfl) (by omega)) go ?_;exact gRetE (ρ':=nY n (ssD LL) (niD (lv++[x])) (.sh (llq n n (stQ z))) (.sh (.lst ((pth n (z::post) x).map (dZ (lv++[x]))))) (lvS n) (ig (stQ z x) n)) (aA rfl (aA rfl (aA rfl (aA rfl (Bs rfl (aA (Lj n) (aA (mz _ n) eG))))))) (xName rfl)
theorem Ay{n:Nat}(h4:n<=4)(post:List Stp):∀ (k:Nat) (pre:List Stp) (lv:List Nat) (x:Nat),x<n->lv.length=pre.length->pre.length+post.length<=5->(∀ z∈post,okS n z)->aD T 60 (k+1+post.length) "_law_ways" [.int n,ssD (pre++post),niD (lv++[x])]=some (.lst ((pth n post x).map (dZ (lv++[x])))):=by
 induction post with
 | nil=>intro k pre lv x hx hl _ _;exact JK hx hl
 | cons z post ih =>
  intro k pre lv x hx hl hz ok
  have IH:∀ i,i<n->aD T 60 (k+post.length+1) "_law_ways" [.int n,ssD (pre++z::post),niD (lv++[x]++[i])]=some (.lst ((pth n post i).map (dZ (lv++[x]++[i])))):=fun i hi=>by
   have h:=ih k (pre++[z]) (lv++[x]) i hi (by simp[hl]) (by simp at hz ⊢;omega) fun y hy=>ok y (Y0z _ hy)
   rw[E2z,List.singleton_append,show k+1+post.length=k+post.length+1 by omega] at h;exact h
  have r:=JF h4 hx hl (by simpa using hz) (ok z O1z) IH;rw[show k+1+(z::post).length=k+post.length+2 by simp;omega];exact r
theorem jX{q:Rat}:∀ l:List Rat,bw (l++[q])=bw l*q
 | []=>by simp only[Q3z,bw];grind
 | a::l=>by simp only[List.cons_append,bw,jX l];grind
theorem vL{q:Rat}(l:List Rat):bW (l++[q])=bW l+q:=by
 rw[iR];simp only[bW];grind
theorem dzQ{a q:Rat}(ha:Sq a)(hq:Sq q):((a.den:Int)*(q.den:Int)).natAbs<10000000000000000000000000000000000000000000000000000000000000000000000000000000000000000000000000000:=by
 rw[K4z];exact X1z (Nat.mul_le_mul ha.2 hq.2) (by decide +kernel)
theorem Ba(k:Nat){l:List Rat}(hl:∀ q∈l,Sq q)(hp:∀ pre post,pre++post=l->Sq (bw pre)):aD T 60 (k+2) "_law_product" [.lst (l.map qD)]=some (qD (bw l)):=by
 refine bU (fd:=aU (top 78)) rfl rfl (gTup (d:=.tup [.int 1,.int 1]) (ρ':=jW (.lst (l.map qD)) (.sh (.int (bw []).num)) (.sh (.int ((bw []).den:Int))) .no) rfl (cV (aj (ak rfl) (aj (ak rfl) aL)) rfl) rfl rfl ?_)
 obtain⟨ρ',⟨o,ho,rfl⟩,go⟩:=gJ (f:=fF (cxN T 60 (k+1)) 60 59 (aU (top 78)).sc (cL (bL 78 1)) (aV (bL 78 1))) (g:=qD) (whole:=l) (P:=fun pre ρ=>∃ o,nOw o=true/\ρ=jW (.lst (l.map qD)) (.sh (.int (bw pre).num)) (.sh (.int ((bw pre).den:Int))) o) (fun pre q post ρ e=>fun⟨o,ho,hρ⟩=>by
  subst hρ;have sq:=hp pre (q::post) e;have s2:=hl q (by rw[<- e];simp);have d0:((bw pre).den:Int)*(q.den:Int)≠0:=B4z (uM _) (uM _);have ll:=Yu k (u:=(bw pre).num*q.num) d0 (dzQ sq s2);rw[Ob d0,Dq,<- jX] at ll;refine⟨jW (.lst (l.map qD)) (.sh (.int (bw (pre++[q])).num)) (.sh (.int ((bw (pre++[q])).den:Int))) (.sh (qD q)),⟨_,rfl,rfl⟩,?_⟩;refine eH (ρ1:=jW (.lst (l.map qD)) (.sh (.int (bw pre).num)) (.sh (.int ((bw pre).den:Int))) (.sh (qD q))) rfl (YH (ρ:=jW (.lst (l.map qD)) (.sh (.int (bw pre).num)) (.sh (.int ((bw pre).den:Int))) (.sh (qD q))) (ρ':=jW (.lst (l.map qD)) (.sh (.int (bw (pre++[q])).num)) (.sh (.int ((bw (pre++[q])).den:Int))) (.sh (qD q))) (d:=qD (bw (pre++[q]))) rfl rfl ?_ rfl rfl bN)
  exact aH rfl (aj (cg (x:=.int (bw pre).num) (y:=.int q.num) (xName rfl) (Jg (xName rfl)) (qR (.inl (smB sq.1)))) (aj (cg (x:=.int ((bw pre).den:Int)) (y:=.int (q.den:Int)) (xName rfl) (V8 (xName rfl)) (qR (.inl (smB (by exact sq.2))))) aL)) ll) (pre:=[]) (l:=l) rfl ⟨.no,rfl,rfl⟩
 refine d9 (ρ:=jW (.lst (l.map qD)) (.sh (.int (bw []).num)) (.sh (.int ((bw []).den:Int))) .no) (ρ':=jW (.lst (l.map qD)) (.sh (.int (bw []).num)) (.sh (.int ((bw []).den:Int))) .no) (ρ2:=jW (.lst (l.map qD)) (.sh (.int (bw l).num)) (.sh (.int ((bw l).den:Int))) o) rfl (wSq (x:=.lst (l.map qD)) rfl (xName rfl) rfl) go ?_;exact qP (ρ:=jW (.lst (l.map qD)) (.sh (.int (bw l).num)) (.sh (.int ((bw l).den:Int))) o) (aX rfl (aX rfl (aX rfl (aX ho rfl)))) (cV (aj (xName rfl) (aj (xName rfl) aL)) rfl)
theorem Az(k:Nat){l:List Rat}(hl:∀ q∈l,Sq q)(hp:∀ pre post,pre++post=l->Sq (bW pre)):aD T 60 (k+2) "_law_sum" [.lst (l.map qD)]=some (qD (bW l)):=by
 refine bU (fd:=aU (top 72)) rfl rfl (gTup (d:=.tup [.int 0,.int 1]) (ρ':=jW (.lst (l.map qD)) (.sh (.int (bW []).num)) (.sh (.int ((bW []).den:Int))) .no) rfl (cV (aj (ak rfl) (aj (ak rfl) aL)) rfl) rfl rfl ?_)
 obtain⟨ρ',⟨o,ho,rfl⟩,go⟩:=gJ (f:=fF (cxN T 60 (k+1)) 60 59 (aU (top 72)).sc (cL (bL 72 1)) (aV (bL 72 1))) (g:=qD) (whole:=l) (P:=fun pre ρ=>∃ o,nOw o=true/\ρ=jW (.lst (l.map qD)) (.sh (.int (bW pre).num)) (.sh (.int ((bW pre).den:Int))) o) (fun pre q post ρ e=>fun⟨o,ho,hρ⟩=>by
  subst hρ;have sq:=hp pre (q::post) e;have s2:=hl q (by rw[<- e];simp);have d0:((bW pre).den:Int)*(q.den:Int)≠0:=B4z (uM _) (uM _);have ll:=Yu k (u:=(bW pre).num*(q.den:Int)+q.num*((bW pre).den:Int)) d0 (dzQ sq s2);rw[Ob d0,show(((bW pre).num*(q.den:Int)+q.num*((bW pre).den:Int):Int):Rat) / ((((bW pre).den:Int)*(q.den:Int):Int):Rat)=bW pre+q from(J4 (uM q)).trans (by rw[show qo q.num (q.den:Int)=q from by unfold qo;rw[lK q];have:=jk q;show q*(q.den:Rat) / (q.den:Rat)=q;grind]),<- vL] at ll;refine⟨jW (.lst (l.map qD)) (.sh (.int (bW (pre++[q])).num)) (.sh (.int ((bW (pre++[q])).den:Int))) (.sh (qD q)),⟨_,rfl,rfl⟩,?_⟩;refine eH (ρ1:=jW (.lst (l.map qD)) (.sh (.int (bW pre).num)) (.sh (.int ((bW pre).den:Int))) (.sh (qD q))) rfl (YH (ρ:=jW (.lst (l.map qD)) (.sh (.int (bW pre).num)) (.sh (.int ((bW pre).den:Int))) (.sh (qD q))) (ρ':=jW (.lst (l.map qD)) (.sh (.int (bW (pre++[q])).num)) (.sh (.int ((bW (pre++[q])).den:Int))) (.sh (qD q))) (d:=qD (bW (pre++[q]))) rfl rfl ?_ rfl rfl bN)
  exact aH rfl (aj (cg (x:=.int ((bW pre).num*(q.den:Int))) (y:=.int (q.num*((bW pre).den:Int))) (cg (x:=.int (bW pre).num) (y:=.int (q.den:Int)) (xName rfl) (V8 (xName rfl)) (qR (.inl (smB sq.1)))) (cg (x:=.int q.num) (y:=.int ((bW pre).den:Int)) (Jg (xName rfl)) (xName rfl) (qR (.inl (smB s2.1)))) rfl) (aj (cg (x:=.int ((bW pre).den:Int)) (y:=.int (q.den:Int)) (xName rfl) (V8 (xName rfl)) (qR (.inl (smB (by exact sq.2))))) aL)) ll) (pre:=[]) (l:=l) rfl ⟨.no,rfl,rfl⟩
 refine d9 (ρ:=jW (.lst (l.map qD)) (.sh (.int (bW []).num)) (.sh (.int ((bW []).den:Int))) .no) (ρ':=jW (.lst (l.map qD)) (.sh (.int (bW []).num)) (.sh (.int ((bW []).den:Int))) .no) (ρ2:=jW (.lst (l.map qD)) (.sh (.int (bW l).num)) (.sh (.int ((bW l).den:Int))) o) rfl (wSq (x:=.lst (l.map qD)) rfl (xName rfl) rfl) go ?_;exact qP (ρ:=jW (.lst (l.map qD)) (.sh (.int (bW l).num)) (.sh (.int ((bW l).den:Int))) o) (aX rfl (aX rfl (aX rfl (aX ho rfl)))) (cV (aj (xName rfl) (aj (xName rfl) aL)) rfl)
def inl(l:List Nat):List Int:=l.map fun(x:Nat)=>(x:Int)
def Lx(a b:List Nat):Prop:=Kas.uz false (inl a) (inl b)=true/\Kas.uz false (inl b) (inl a)=false/\inl a≠inl b
theorem Lx.cons{x:Nat}{a b:List Nat}(h:Lx a b):Lx (x::a) (x::b):=by
 obtain⟨h1,h2,h3⟩:=h;refine⟨?_,?_,fun z=>h3 (by injection z)⟩
 ·show(if(x:Int)=(x:Int) then _ else _)=true
  rw[Y5z rfl];exact h1
 ·show(if(x:Int)=(x:Int) then _ else _)=false
  rw[Y5z rfl];exact h2
theorem Lx.lt{x y:Nat}{a b:List Nat}(h:x<y):Lx (x::a) (y::b):=by
 have n1:¬ (x:Int)=(y:Int):=by omega
 have n2:¬ (y:Int)=(x:Int):=by omega
 refine⟨?_,?_,fun z=>by injection z with z _;exact n1 z⟩
 ·show(if(x:Int)=(y:Int) then _ else decide ((x:Int)<(y:Int)))=true
  rw[Z5z n1];exact E4z (by omega)
 ·show(if(y:Int)=(x:Int) then _ else decide ((y:Int)<(x:Int)))=false
  rw[Z5z n2];exact D3z (by omega)
theorem Vx{n:Nat}{G:Nat->Nat->Rat}{x:Nat}:(js n G x).Pairwise (· < ·):=F1z _ List.pairwise_lt_range
theorem CT{n:Nat}:∀ (L:List Stp) (x:Nat),(pth n L x).Pairwise fun p q=>Lx p.1 q.1
 | [],x=>List.pairwise_singleton _ _
 | y::L,x=>by
  show((js n (stQ y) x).flatMap _).Pairwise _;rw[List.pairwise_flatMap];refine⟨fun j _=>?_,?_⟩
  ·rw[List.pairwise_map]
   exact(CT L j).imp fun h=>h.cons
  ·refine Vx.imp fun {i j} hij p hp q hq=>?_
   obtain⟨p',_,rfl⟩:=List.mem_map.mp hp;obtain⟨q',_,rfl⟩:=List.mem_map.mp hq;exact Lx.lt hij
def duD(x:Nat)(p:List Nat×List Rat):D:=.tup [niD (x::p.1),qD (bw p.2)]
theorem zj{x:Nat}:∀ l:List (List Nat×List Rat),Et (l.map (duD x))=some (l.map fun p=>inl (x::p.1))
 | []=>rfl
 | p::l=>by
  have h:=zj (x:=x) l
  have a:iH ((x::p.1).map fun(x:Nat)=>D.int x)=some (inl (x::p.1)):=by
   have:=m8 (inl (x::p.1));unfold inl at this ⊢;rw[D5z] at this;exact this
  show(match iH ((x::p.1).map fun(x:Nat)=>D.int x),Et (l.map (duD x)) with
   | some k,some l=>some (k::l)
   | _,_=>none)=_
  rw[a,h];rfl
theorem Ga{ks:List (List Int)}{m:Nat}(hm:∀ a∈ks,a.length=m)(h:ks.Pairwise fun a b=>Kas.uz false a b=true/\Kas.uz false b a=false/\a≠b):Gb ks=true:=by
 unfold Gb;rw[A3z];intro i hi;rw[A3z];intro j hj;have hi:=List.mem_range.mp hi;have hj:=List.mem_range.mp hj;rw[S3z]
 by_cases e:i=j
 ·left;simp[e]
 ·right
  have p:=List.pairwise_iff_getElem.mp h
  have gi:ks.getD i []=ks[i]:=by simp[List.getD,hi]
  have gj:ks.getD j []=ks[j]:=by simp[List.getD,hj]
  rw[gi,gj,hm _ (S2z hi),hm _ (S2z hj),D3z (L4z m)]
  by_cases c:i<j
  ·obtain⟨q1,q2,q3⟩:=p i j hi hj c
   rw[q1,E4z c];simp[q3]
  ·obtain⟨q1,q2,q3⟩:=p j i hj hi (by omega)
   rw[q2,D3z c];simp;exact fun z=>q3 z.symm
theorem vZ{x n:Nat}{L:List Stp}{t:List Nat×List Rat->Bool}(hl:L.length<=5):blt "sorted" [.lst (((pth n L x).filter t).map (duD x))]=some (.lst (((pth n L x).filter t).map (duD x))):=by
 have ps:=zj (x:=x) ((pth n L x).filter t)
 have ln:((pth n L x).filter t).length<64:=by
  have h1:=X0z t (pth n L x);have h2:=fV (n:=n) L x;have h3:2^L.length<=2^5:=E1z (by decide) hl;omega
 have rs:Gb (((pth n L x).filter t).map fun p=>inl (x::p.1))=true:=by
  refine Ga (m:=L.length+1) (fun a ha=>?_) ?_
  ·obtain⟨p,hp,rfl⟩:=List.mem_map.mp ha
   have:=(gn L x p (List.mem_filter.mp hp).1).1;simp[inl,this]
  ·rw[List.pairwise_map]
   exact((CT L x).filter t).imp fun h=>Lx.cons h
 generalize hW:(pth n L x).filter t=W at *
 cases W with
 | nil=>rfl
 | cons p W =>
  show(match iH ((p::W).map (duD x)) with
   | some ns=>if Js ns&&decide (ns.length<64) then some (D.lst ((p::W).map (duD x))) else none
   | none=>(match Et ((p::W).map (duD x)) with
    | some ks=>if Gb ks&&decide (ks.length<64) then some (D.lst ((p::W).map (duD x))) else none
    | none=>none))=_
  have an:iH ((p::W).map (duD x))=none:=rfl;rw[an,ps];show(if Gb _&&decide _ then _ else _)=_;rw[rs,J3z,E4z ln];rfl
theorem zH{n x y:Nat}{L:List Stp}:((runs n L x).filter fun r=>decide (r.x=y)).map wyD=((pth n L x).filter (fW x y)).map (duD x):=by
 have h:=rN (n:=n) (x:=x) (L:=L)
 let f:Rn->List Nat×Rat:=fun r=>(lev r,r.s)
 let g:List Nat×List Rat->List Nat×Rat:=fun p=>(x::p.1,bw p.2)
 let t:List Nat×Rat->Bool:=fun q=>decide (q.1.getLast?=some y)
 let w:List Nat×Rat->D:=fun q=>.tup [niD q.1,qD q.2]
 have h':(runs n L x).map f=(pth n L x).map g:=h
 have e1:(fun r:Rn=>decide (r.x=y))=t∘f:=by
  funext r;show _=decide ((r.pre++[r.x]).getLast?=some y);simp
 have e2:fW x y=t∘g:=rfl;have e3:wyD=w∘f:=rfl;have e4:duD x=w∘g:=rfl;rw[e1,e2,e3,e4,<- D5z,<- D5z,<- C4z,<- C4z,h']
theorem Oo{cx:Cxt}{F m:Nat}{sc:Scope}{ρ:Rho}{c:Expr}{A r:List Stmt}{p:Pos}{cn:Str}(hc:fX ρ=true)(h:ev cx F sc ρ c=some (.bl false))(k:yV cx F (m+1) sc r ρ cn):yV cx F (m+1) sc (.If c A [] p::r) ρ cn :=
 tR (by simp only[st,cJ hc,h,bind,Y2z,asB,U1z,V5z];rfl) k
theorem zq(k:Nat){n:Int}{us:List D}(hz:us.length<=100)(hd:∀ x∈us,dep x<=50/\bdB x=true):ev (cxN T 60 (k+5)) 60 (aU (top 42)).sc [("many",.sh (.int n)),("steps",.sh (.lst us))] (ifX (bL 42 1))=some (.bl (!us.all (jT n))):=by
 refine cj (nD (cW (uc rfl rfl rfl (x:=.lst us) (xName rfl) rfl rfl rfl)) (jc (NK (dY (ds:=[.lst (us.map fun x=>.bl (jT n x))]) rfl rfl rfl (aj (dg (l:=us) rfl (wSq (x:=.lst us) rfl (xName rfl) rfl) (je (by omega)) (cN (g:=fun x=>.bl (jT n x)) fun y hy=>?_)) aL) uR))));exact dH rfl (aH rfl (aj (x:=.int n) (xName rfl) (aj (x:=y) (xName rfl) aL)) (qH k (hd y hy).1 (hd y hy).2))
theorem ux(k:Nat){n:Nat}{us:List D}(h1:1<=n)(h4:n<=4)(hz:us.length<=100)(hd:∀ x∈us,dep x<=50/\bdB x=true)(hn:us.all (jT n)=false):eO T 60 (k+6) "need_steps" [.int n,.lst us]=some "NoStep"/\aD T 60 (k+6) "need_steps" [.int n,.lst us]=none:=by
 have w1:aD T 60 (k+5) "is_whole_within" [.int n,.int 1,.int 4]=some (.bl true):=cQ (k+3) (by omega) (by omega);refine pR (fd:=aU (top 42)) rfl rfl (Oo (ρ:=[("many",.sh (.int n)),("steps",.sh (.lst us))]) rfl (cW (aH rfl (aj (xName rfl) (aj (ak rfl) (aj (xName rfl) aL))) w1)) ?_);have a:=zq k (n:=(n:Int)) hz hd;rw[hn] at a;exact qW a rfl
theorem Aq(k:Nat){n us a b:D}(h:eO T 60 k "need_steps" [n,us]=some "NoStep"/\aD T 60 k "need_steps" [n,us]=none):eO T 60 (k+1) "need_levels" [n,us,a,b]=some "NoStep"/\aD T 60 (k+1) "need_levels" [n,us,a,b]=none :=
 pR (fd:=aU (top 56)) rfl rfl (u6 rfl (jV rfl (aj (x:=n) (xName rfl) (aj (x:=us) (xName rfl) aL)) h.1 h.2))
theorem rW(k:Nat){d:D}{n:Nat}(h:dep d<1000)(hw:within 0 ((n:Int)-1) d=false):eO T 60 (k+4) "need_place" [d,.int n]=some "NoPlace"/\aD T 60 (k+4) "need_place" [d,.int n]=none:=by
 have p:=jr k (m:=(n:Int)) h;rw[hw] at p;exact pR (fd:=aU (top 18)) rfl rfl (qW (pU (aH rfl (aj (x:=d) (xName rfl) (aj (x:=.int n) (xName rfl) aL)) p)) rfl)
theorem qt(k:Nat){n:Nat}{L:List Stp}{a b:D}(N:Net n L)(h:dep a<1000)(hw:within 0 ((n:Int)-1) a=false):eO T 60 (k+7) "need_levels" [.int n,ssD L,a,b]=some "NoPlace"/\aD T 60 (k+7) "need_levels" [.int n,ssD L,a,b]=none:=by
 have q:=rW (k+2) (n:=n) h hw;exact pR (fd:=aU (top 56)) rfl rfl (Ey rfl (d:=.non) (aH rfl (aj (x:=.int n) (xName rfl) (aj (x:=ssD L) (xName rfl) aL)) (need_steps k N.n1 N.n4 N.ok (by have:=N.len;omega))) (u6 rfl (jV rfl (aj (x:=a) (xName rfl) (aj (x:=.int n) (xName rfl) aL)) q.1 q.2)))
theorem wZ(k:Nat){n x:Nat}{L:List Stp}{b:D}(N:Net n L)(hx:x<n)(h:dep b<1000)(hw:within 0 ((n:Int)-1) b=false):eO T 60 (k+7) "need_levels" [.int n,ssD L,.int x,b]=some "NoPlace"/\aD T 60 (k+7) "need_levels" [.int n,ssD L,.int x,b]=none:=by
 have q:=rW (k+2) (n:=n) h hw;exact pR (fd:=aU (top 56)) rfl rfl (Ey rfl (d:=.non) (aH rfl (aj (x:=.int n) (xName rfl) (aj (x:=ssD L) (xName rfl) aL)) (need_steps k N.n1 N.n4 N.ok (by have:=N.len;omega))) (Ey rfl (d:=.non) (aH rfl (aj (x:=.int x) (xName rfl) (aj (x:=.int n) (xName rfl) aL)) (need_place (k+2) hx)) (u6 rfl (jV rfl (aj (x:=b) (xName rfl) (aj (x:=.int n) (xName rfl) aL)) q.1 q.2))))
section
variable {n us a b:D} {c:Str}
theorem vm(k:Nat)(h:eO T 60 k "need_levels" [n,us,a,b]=some c/\aD T 60 k "need_levels" [n,us,a,b]=none):eO T 60 (k+1) "ways" [n,us,a,b]=some c/\aD T 60 (k+1) "ways" [n,us,a,b]=none :=
 pR (fd:=aU (top 57)) rfl rfl (u6 rfl (jV rfl (aj (x:=n) (xName rfl) (aj (x:=us) (xName rfl) (aj (x:=a) (xName rfl) (aj (x:=b) (xName rfl) aL)))) h.1 h.2))
theorem rM(k:Nat)(h:eO T 60 k "need_levels" [n,us,a,b]=some c/\aD T 60 k "need_levels" [n,us,a,b]=none):eO T 60 (k+1) "share_of_ways" [n,us,a,b]=some c/\aD T 60 (k+1) "share_of_ways" [n,us,a,b]=none :=
 pR (fd:=aU (top 58)) rfl rfl (u6 rfl (jV rfl (aj (x:=n) (xName rfl) (aj (x:=us) (xName rfl) (aj (x:=a) (xName rfl) (aj (x:=b) (xName rfl) aL)))) h.1 h.2))
end
def rO(w n s t:D)(kept ans e:Sl):Rho:=[("_law_what",.sh w),("_law_many",.sh n),("_law_steps_here",.sh s),("_law_spot",.sh t),("_law_kept",kept),("_law_answer",ans),("e",e)]
theorem vd(k:Nat):aD T 60 (k+1) "_law_word" [.exc "NoStep"]=some (.str "no step"):=by rfl'
theorem vf(k:Nat):aD T 60 (k+1) "_law_word" [.exc "NoPlace"]=some (.str "no place"):=by rfl'
theorem Eo{cx:Cxt}{f:Str}{ds:List D}{ρ:Rho}{sc:Scope}{cn:Str}(hf:isFn cx sc f [.Name "" ⟨0,0,0,0⟩]=true)(h1:cx.callx f ds=some cn)(h2:cx.call f ds=none){q1 q2:Pos}{n:Nat}{es:List Expr}(he:jQ (ev cx n sc ρ) es=some ds)(hp:(es.all aG && !es.isEmpty)=true):evx cx (n+1) sc ρ (.Call (.Name f q1) es [] q2)=some cn/\ev cx (n+1) sc ρ (.Call (.Name f q1) es [] q2)=none:=by
 refine jV ?_ he h1 h2;rw[X2z] at hp;unfold isFn at hf ⊢;rw[hp.1,hp.2];simpa using hf
def NQ:Stmt->List Stmt
 | .Try b _ _ _ _=>b
 | _=>[]
theorem YF(k:Nat){n s a b:D}{c w:Str}(hw:aD T 60 (k+1) "_law_word" [.exc c]=some (.str w))(h:eO T 60 (k+1) "ways" [n,s,a,b]=some c/\aD T 60 (k+1) "ways" [n,s,a,b]=none)(hc:c="NoStep"\/c="NoPlace"):aD T 60 (k+2) "_law_do" [.int 0,n,s,.tup [a,b]]=some (.str w):=by
 have go:∀ rs,evx { cxN T 60 (k+1) with rs:=rs } 60 (aU (top 76)).sc (rO (.int 0) n s (.tup [a,b]) (.sh .non) (.sh .non) .no) (asV ((NQ (bL 76 2)).getD 0 (.Pass ⟨0,0,0,0⟩)))=some c/\ev { cxN T 60 (k+1) with rs:=rs } 60 (aU (top 76)).sc (rO (.int 0) n s (.tup [a,b]) (.sh .non) (.sh .non) .no) (asV ((NQ (bL 76 2)).getD 0 (.Pass ⟨0,0,0,0⟩)))=none:=fun rs=>Om (bV (x:=.int 0) (y:=.int 0) (xName rfl) (ak rfl) (Jm rfl)) (Eo (cx:={ cxN T 60 (k+1) with rs:=rs }) rfl h.1 h.2 (aj (x:=n) (xName rfl) (aj (x:=s) (xName rfl) (aj (x:=a) (xIx (x:=.tup [a,b]) (i:=0) (xName rfl) (ak rfl) rfl rfl) (aj (x:=b) (xIx (x:=.tup [a,b]) (i:=1) (xName rfl) (ak rfl) rfl rfl) aL)))) rfl);refine bU (fd:=aU (top 76)) rfl rfl (mJ rfl (d:=.non) (by nofun) (mJ rfl (d:=.non) (by nofun) (Mt (ρ:=rO (.int 0) n s (.tup [a,b]) (.sh .non) (.sh .non) .no) (ρ':=rO (.int 0) n s (.tup [a,b]) (.sh .non) (.sh .non) .no) (c':=c) rfl (Cy rfl rfl (go true).2 (go false)) (by rcases hc with rfl | rfl<;>rfl) (sX (bV (x:=.exc c) (y:=.non) (xName rfl) (ak rfl) rfl) (cZ ?_)))));exact aH rfl (aj (x:=.exc c) (xName rfl) aL) hw
theorem YD(k:Nat){n s a b:D}{c w:Str}(hw:aD T 60 (k+1) "_law_word" [.exc c]=some (.str w))(h:eO T 60 (k+1) "share_of_ways" [n,s,a,b]=some c/\aD T 60 (k+1) "share_of_ways" [n,s,a,b]=none)(hc:c="NoStep"\/c="NoPlace"):aD T 60 (k+2) "_law_do" [.int 1,n,s,.tup [a,b]]=some (.str w):=by
 have go:∀ rs,evx { cxN T 60 (k+1) with rs:=rs } 60 (aU (top 76)).sc (rO (.int 1) n s (.tup [a,b]) (.sh .non) (.sh .non) .no) (asV ((NQ (bL 76 2)).getD 0 (.Pass ⟨0,0,0,0⟩)))=some c/\ev { cxN T 60 (k+1) with rs:=rs } 60 (aU (top 76)).sc (rO (.int 1) n s (.tup [a,b]) (.sh .non) (.sh .non) .no) (asV ((NQ (bL 76 2)).getD 0 (.Pass ⟨0,0,0,0⟩)))=none:=fun rs=>Oq (bV (x:=.int 1) (y:=.int 0) (xName rfl) (ak rfl) (Jo (by decide))) (Eo (cx:={ cxN T 60 (k+1) with rs:=rs }) rfl h.1 h.2 (aj (x:=n) (xName rfl) (aj (x:=s) (xName rfl) (aj (x:=a) (xIx (x:=.tup [a,b]) (i:=0) (xName rfl) (ak rfl) rfl rfl) (aj (x:=b) (xIx (x:=.tup [a,b]) (i:=1) (xName rfl) (ak rfl) rfl rfl) aL)))) rfl);refine bU (fd:=aU (top 76)) rfl rfl (mJ rfl (d:=.non) (by nofun) (mJ rfl (d:=.non) (by nofun) (Mt (ρ:=rO (.int 1) n s (.tup [a,b]) (.sh .non) (.sh .non) .no) (ρ':=rO (.int 1) n s (.tup [a,b]) (.sh .non) (.sh .non) .no) (c':=c) rfl (Cy rfl rfl (go true).2 (go false)) (by rcases hc with rfl | rfl<;>rfl) (sX (bV (x:=.exc c) (y:=.non) (xName rfl) (ak rfl) rfl) (cZ ?_)))));exact aH rfl (aj (x:=.exc c) (xName rfl) aL) hw
theorem do0(k:Nat){n s a b v:D}(h:aD T 60 k "ways" [n,s,a,b]=some v):aD T 60 (k+1) "_law_do" [.int 0,n,s,.tup [a,b]]=some v :=
 bU (fd:=aU (top 76)) rfl rfl (mJ rfl (d:=.non) (by nofun) (mJ rfl (d:=.non) (by nofun) (Mu rfl (fl1:=.nxt (rO (.int 0) n s (.tup [a,b]) (.sh .non) (.sh v) .no)) (jU (ρ:=rO (.int 0) n s (.tup [a,b]) (.sh .non) (.sh .non) .no) rfl rfl rfl (Jx (bV (x:=.int 0) (y:=.int 0) (xName rfl) (ak rfl) (Jm rfl)) (aH rfl (aj (xName rfl) (aj (xName rfl) (aj (xIx (x:=.tup [a,b]) (i:=0) (xName rfl) (ak rfl) rfl rfl) (aj (xIx (x:=.tup [a,b]) (i:=1) (xName rfl) (ak rfl) rfl rfl) aL)))) h)) bN) (Og (ρ:=rO (.int 0) n s (.tup [a,b]) (.sh .non) (.sh v) .no) (fl1:=.ret v) rfl (bV (x:=.non) (y:=.non) (xName rfl) (ak rfl) rfl) (qP rfl (xName rfl)) rfl))))
theorem do1(k:Nat){n s a b v:D}(h:aD T 60 k "share_of_ways" [n,s,a,b]=some v):aD T 60 (k+1) "_law_do" [.int 1,n,s,.tup [a,b]]=some v :=
 bU (fd:=aU (top 76)) rfl rfl (mJ rfl (d:=.non) (by nofun) (mJ rfl (d:=.non) (by nofun) (Mu rfl (fl1:=.nxt (rO (.int 1) n s (.tup [a,b]) (.sh .non) (.sh v) .no)) (jU (ρ:=rO (.int 1) n s (.tup [a,b]) (.sh .non) (.sh .non) .no) rfl rfl rfl (Jy (bV (x:=.int 1) (y:=.int 0) (xName rfl) (ak rfl) (Jo (by decide))) (aH rfl (aj (xName rfl) (aj (xName rfl) (aj (xIx (x:=.tup [a,b]) (i:=0) (xName rfl) (ak rfl) rfl rfl) (aj (xIx (x:=.tup [a,b]) (i:=1) (xName rfl) (ak rfl) rfl rfl) aL)))) h)) bN) (Og (ρ:=rO (.int 1) n s (.tup [a,b]) (.sh .non) (.sh v) .no) (fl1:=.ret v) rfl (bV (x:=.non) (y:=.non) (xName rfl) (ak rfl) rfl) (qP rfl (xName rfl)) rfl))))
theorem Gg{n:Nat}:∀ (L:List Stp) (x:Nat),x<n->(∀ y∈L,Bq n n 6 30 (stQ y))->∀ p∈pth n L x,∀ q∈p.2,Qb 6 30 q
 | [],x,_,_,p,hp,q,hq=>by rw[List.mem_singleton.mp hp] at hq;simp at hq
 | z::L,x,hx,h,p,hp,q,hq=>by
  obtain⟨j,hj,h1⟩:=List.mem_flatMap.mp hp;obtain⟨p',hp',rfl⟩:=List.mem_map.mp h1;rcases List.mem_cons.mp hq with rfl | hm
  ·exact h z O1z x j hx (mD hj)
  ·exact Gg L j (mD hj) (fun y hy=>h y (Y0z _ hy)) p' hp' q hm
theorem qg:∀ {l:List Rat},(∀ q∈l,Qb 6 30 q)->Qb (6^l.length) (30^l.length) (bw l)
 | [],_=>Qb.one (D:=1)
 | q::l,h=>by
  have:=(h q O1z).mul (qg fun p hp=>h p (Y0z _ hp));rw[W2z,E5z,E5z,A5z (6^l.length),A5z (30^l.length)];exact this
theorem p30:∀ t,t<6->6^t<=1000000000000000000/\32*30^t<=1000000000000000000/\0<6^t:=by decide +kernel
theorem Gm{l:List Rat}(hl:l.length<=5)(h:∀ q∈l,Qb 6 30 q):Sq (bw l):=by
 obtain⟨a,b,c⟩:=p30 l.length (by omega);exact(qg h).sq c a (by omega)
structure Dr (n:Nat) (L:List Stp):Prop where
 n1:1<=n
 n3:n<=3
 len:L.length<=5
 ok:∀ x∈L,okS n x/\Bq n n 6 30 (stQ x)
theorem Dr.net{n:Nat}{L:List Stp}(h:Dr n L):Net2 n L:=Zw h.n1 (by have:=h.n3;omega) h.len h.ok
section
variable {n:Nat} {L:List Stp}
theorem Kw(k:Nat)(H:Dr n L){x:Nat}(hx:x<n){p:List Nat×List Rat}(hp:p∈pth n L x):aD T 60 (k+2) "_law_product" [.lst (p.2.map qD)]=some (qD (bw p.2)):=by
 have pq:=Gg L x hx (fun y hy=>(H.ok y hy).2) p hp;have pl:=(gn L x p hp).2;have l5:=H.len;refine Ba k (fun q hq=>(pq q hq).sq (by decide) (by decide) (by decide)) fun pre post e=>Gm ?_ fun q hq=>pq q (by rw[<- e];exact Z0z _ hq);have:=congrArg List.length e;rw[T1z] at this;omega
theorem O6(k:Nat)(H:Dr n L){x y:Nat}(hx:x<n)(hy:y<n):aD T 60 (k+2) "_law_sum" [.lst (((pth n L x).filter (fW x y)).map fun p=>qD (bw p.2))]=some (qD (mkQ n L x y)):=by
 have l5:=H.len;obtain⟨a,b,c⟩:=p30 L.length (by omega)
 have qb:∀ q∈((pth n L x).filter (fW x y)).map fun p=>bw p.2,Qb (6^L.length) (30^L.length) q:=fun q hq=>by
  obtain⟨p,hp,rfl⟩:=List.mem_map.mp hq;have hp:=(List.mem_filter.mp hp).1;have:=qg (Gg L x hx (fun y hy=>(H.ok y hy).2) p hp)
  rwa [(gn L x p hp).2] at this
 have ll:(((pth n L x).filter (fW x y)).map fun p=>bw p.2).length<=32:=by
  rw[J3z];have h1:=X0z (fW x y) (pth n L x);have h2:=fV (n:=n) L x;have h3:2^L.length<=2^5:=E1z (by decide) l5;omega
 have s:=Az k (l:=((pth n L x).filter (fW x y)).map fun p=>bw p.2) (fun q hq=>(qb q hq).sq c a (by omega)) fun pre post e=>by
  have sb:=vO (l:=pre) fun q hq=>qb q (by rw[<- e];exact Z0z _ hq)
  have pl:pre.length<=32:=by
   have:=congrArg List.length e;rw[T1z] at this;omega
  have:=D1z (30^L.length) pl;exact sb.sq c a (by omega)
 rw[D5z] at s;rw[<- K5 hy L x hx];exact s
theorem Nh{l:List Nat}:dep (niD l)<=5:=by
 have:deps (l.map fun(x:Nat)=>D.int x)<=3:=jG fun z hz=>by
  obtain⟨a,_,rfl⟩:=List.mem_map.mp hz;simp[dep]
 show deps _+1<=5;omega
theorem Ni{x:Nat}{W:List (List Nat×List Rat)}:dep (.lst (W.map (duD x)))<=50:=by
 have:deps (W.map (duD x))<=20:=jG fun z hz=>by
  obtain⟨p,_,rfl⟩:=List.mem_map.mp hz;have:=Nh (l:=x::p.1);simp only[duD,dep,deps,qD,frD] at this ⊢;omega
 show deps _+1<=50;omega
theorem Jf{l:List Nat}(h:l≠[]):atD (l.map fun(x:Nat)=>D.int x) (-1)=some (.int ((l.getLast h:Nat):Int)):=by
 have e:=List.dropLast_concat_getLast h;generalize l.getLast h=z at e;rw[<- e];exact xq
theorem M8{a b:Nat}:cmpop .Eq (.int a) (.int b)=some (.bl (decide (a=b))):=by
 by_cases h:a=b
 ·rw[E4z h];exact Jm (by omega)
 ·rw[D3z h];exact Jo (by omega)
theorem end_is{x y:Nat}{p:List Nat×List Rat}:fW x y p=decide ((x::p.1).getLast (by simp)=y):=by
 unfold fW;rw[List.getLast?_eq_getLast (by simp)];simp
end
abbrev lSc:Scope:=(aU (top 79)).sc
abbrev bdy(i:Nat):List Stmt:=(aU (top 79)).body.drop i
def N6(ns:List Int)(m s md st so en du od bd:Sl):Rho:=[("_law_script",.sh (scr ns)),("_law_many",m),("_law_steps_here",s),("_law_made_here",md),("_law_start",st),("_law_some_here",so),("_law_end",en),("_law_due",du),("_law_odd",od),("_law_bad",bd)]
abbrev SL(ns:List Int)(n:Nat)(L:List Stp)(st so en du od bd:Sl):Rho:=N6 ns (.sh (.int n)) (.sh (ssD L)) (.sh (ftq n n (mkQ n L))) st so en du od bd
abbrev lF:Stmt:=bL 79 3
abbrev lG:Stmt:=(aV lF).getD 1 (.Pass ⟨0,0,0,0⟩)
section
variable {ns:List Int} {n:Nat} {L:List Stp}
theorem calmS{st so en du od bd:Sl}(h1:nOw st=true)(h2:nOw so=true)(h3:nOw en=true)(h4:nOw du=true)(h5:nOw od=true)(h6:nOw bd=true):fX (SL ns n L st so en du od bd)=true:=aX rfl (aX rfl (aX rfl (aX rfl (aX h1 (aX h2 (aX h3 (aX h4 (aX h5 (aX h6 rfl)))))))))
theorem Zz(H:Dr n L){x y:Nat}(hx:x<n)(hy:y<n){en du:Sl}(he:nOw en=true)(hd:nOw du=true):fF (cxN T 60 39) 60 58 lSc (cL lG) (aV lG) (.int y) (SL ns n L (.sh (.int x)) (.sh (.lst ((pth n L x).map (dZ [x])))) en du .no .no)=some (.nxt (SL ns n L (.sh (.int x)) (.sh (.lst ((pth n L x).map (dZ [x])))) (.sh (.int y)) (.sh (.lst (((pth n L x).filter (fW x y)).map (duD x)))) .no .no)):=by
 have l5:=H.len;have n3:=H.n3;have h32:2^L.length<=2^5:=E1z (by decide) l5;have pl:=fV (n:=n) L x;have fl:=X0z (fW x y) (pth n L x);have w0:=do0 38 (ways 29 H.net.net hx hy);rw[zH] at w0;have w1:=do1 38 (share_of_ways 29 H.net hx hy);rw[vq hx L y hy] at w1;have sd:=vZ (x:=x) (n:=n) (t:=fW x y) l5;have sm:=O6 37 H hx hy;refine eH (ρ1:=SL ns n L (.sh (.int x)) (.sh (.lst ((pth n L x).map (dZ [x])))) (.sh (.int y)) du .no .no) rfl ?_;refine jU (d:=.lst (((pth n L x).filter (fW x y)).map (duD x))) (calmS rfl rfl rfl hd rfl rfl) rfl rfl (dY (ds:=[.lst (((pth n L x).filter (fW x y)).map (duD x))]) rfl rfl rfl (aj (dg (l:=(pth n L x).map (dZ [x])) rfl (wSq (x:=.lst ((pth n L x).map (dZ [x]))) rfl (xName rfl) rfl) (je (by rw[J3z];omega)) (jL fun p hp=>?_)) aL) sd) ?_
 ·have e:=end_is (x:=x) (y:=y) (p:=p)
  rw[e];refine yS rfl (bV (x:=.int (((x::p.1).getLast (by simp):Nat):Int)) (y:=.int y) (xIx (x:=niD (x::p.1)) (i := -1) (xName rfl) (Ez (ak rfl)) rfl (Jf (by simp))) (xName rfl) M8) (cV (aj (x:=niD (x::p.1)) (xName rfl) (aj (aH rfl (aj (x:=.lst (p.2.map qD)) (xName rfl) aL) (Kw 37 H hx hp)) aL)) rfl)
 refine uY (ρ:=SL ns n L (.sh (.int x)) (.sh (.lst ((pth n L x).map (dZ [x])))) (.sh (.int y)) (.sh (.lst (((pth n L x).filter (fW x y)).map (duD x)))) .no .no) (calmS rfl rfl rfl rfl rfl rfl) (bV (x:=.lst (((pth n L x).filter (fW x y)).map (duD x))) (y:=.lst (((pth n L x).filter (fW x y)).map (duD x))) (dY (ds:=[.lst (((pth n L x).filter (fW x y)).map (duD x))]) rfl rfl rfl (aj (aH rfl (aj (ak rfl) (aj (x:=.int n) (xName rfl) (aj (x:=ssD L) (xName rfl) (aj (x:=.tup [.int x,.int y]) (cV (aj (xName rfl) (aj (xName rfl) aL)) rfl) aL)))) w0) aL) sd) (xName rfl) (Qm Ni)) ?_;refine uY (calmS rfl rfl rfl rfl rfl rfl) (bV (x:=qD (mkQ n L x y)) (y:=qD (mkQ n L x y)) (aH rfl (aj (ak rfl) (aj (x:=.int n) (xName rfl) (aj (x:=ssD L) (xName rfl) (aj (x:=.tup [.int x,.int y]) (cV (aj (xName rfl) (aj (xName rfl) aL)) rfl) aL)))) w1) (Fe (m:=n) (j:=y) (h:=fun j=>qD (mkQ n L x j)) (Fe (m:=n) (j:=x) (h:=fun i=>rwq n (mkQ n L i)) (xName rfl) (xName rfl) hx rfl rfl) (xName rfl) hy rfl rfl) (Qm (by simp[qD,frD,dep,deps]))) ?_;refine uY (calmS rfl rfl rfl rfl rfl rfl) (bV (x:=qD (mkQ n L x y)) (y:=qD (mkQ n L x y)) (aH rfl (aj (x:=.lst (((pth n L x).filter (fW x y)).map fun p=>qD (bw p.2))) (dg (l:=((pth n L x).filter (fW x y)).map (duD x)) rfl (wSq (x:=.lst (((pth n L x).filter (fW x y)).map (duD x))) rfl (xName rfl) rfl) (je (by rw[J3z];omega)) (dD fun p hp=>dH rfl (xName rfl))) aL) sm) (Fe (m:=n) (j:=y) (h:=fun j=>qD (mkQ n L x j)) (Fe (m:=n) (j:=x) (h:=fun i=>rwq n (mkQ n L i)) (xName rfl) (xName rfl) hx rfl rfl) (xName rfl) hy rfl rfl) (Qm (by simp[qD,frD,dep,deps]))) bN
end
section
variable {ns:List Int} {n:Nat} {L:List Stp}
theorem l_out(H:Dr n L){x:Nat}(hx:x<n){st so en du:Sl}(h1:nOw st=true)(h2:nOw so=true)(h3:nOw en=true)(h4:nOw du=true):∃ en' du',nOw en'=true/\nOw du'=true/\fF (cxN T 60 39) 60 59 lSc (cL lF) (aV lF) (.int x) (SL ns n L st so en du .no .no)=some (.nxt (SL ns n L (.sh (.int x)) (.sh (.lst ((pth n L x).map (dZ [x])))) en' du' .no .no)):=by
 have l5:=H.len;have n3:=H.n3;have lw:=Ay (n:=n) (by omega) L (38-L.length) [] [] x hx rfl (by simpa using l5) fun z hz=>(H.ok z hz).1;rw[show 38-L.length+1+L.length=39 by omega] at lw
 obtain⟨ρ',⟨en',du',q1,q2,rfl⟩,go⟩:=jD (f:=fF (cxN T 60 39) 60 58 lSc (cL lG) (aV lG)) (h:=fun y=>D.int y) (N:=n) (P:=fun _ ρ=>∃ en du,nOw en=true/\nOw du=true/\ρ=SL ns n L (.sh (.int x)) (.sh (.lst ((pth n L x).map (dZ [x])))) en du .no .no) (fun y ρ hy hP=>by
  obtain⟨en,du,q1,q2,rfl⟩:=hP
  exact⟨_,⟨_,_,rfl,rfl,rfl⟩,Zz H hx hy q1 q2⟩) (ρ:=SL ns n L (.sh (.int x)) (.sh (.lst ((pth n L x).map (dZ [x])))) en du .no .no) ⟨en,du,h3,h4,rfl⟩
 refine⟨en',du',q1,q2,?_⟩;refine eH (ρ1:=SL ns n L (.sh (.int x)) so en du .no .no) rfl ?_;refine jU (d:=.lst ((pth n L x).map (dZ [x]))) (calmS rfl h2 h3 h4 rfl rfl) rfl rfl (aH rfl (aj (x:=.int n) (xName rfl) (aj (x:=ssD L) (xName rfl) (aj (x:=.tup [.int x]) (cV (aj (xName rfl) aL) rfl) aL))) lw) ?_;exact d9 (ρ:=SL ns n L (.sh (.int x)) (.sh (.lst ((pth n L x).map (dZ [x])))) en du .no .no) (ρ':=SL ns n L (.sh (.int x)) (.sh (.lst ((pth n L x).map (dZ [x])))) en du .no .no) (cJ (calmS rfl rfl h3 h4 rfl rfl)) (Cp (j:=n) rfl (xName rfl) (by omega)) go bN
def oA(n:Nat):Nat->D
 | 0=>.int (-1)
 | 1=>.int n
 | 2=>.int 0
 | 3=>.non
 | _=>.int 0
def oB(n:Nat):Nat->D
 | 0=>.int 0
 | 1=>.int 0
 | 2=>.int n
 | 3=>.int 0
 | _=>.bl true
theorem Ld(k:Nat)(H:Dr n L):∀ p,p<5->eO T 60 (k+7) "need_levels" [.int n,ssD L,oA n p,oB n p]=some "NoPlace"/\aD T 60 (k+7) "need_levels" [.int n,ssD L,oA n p,oB n p]=none
 | 0,_=>qt k H.net.net (by simp[oA,dep]) (by simp[oA,within])
 | 1,_=>qt k H.net.net (by simp[oA,dep]) (by simp[oA,within];omega)
 | 2,_=>wZ k (x:=0) H.net.net (by have:=H.n1;omega) (by simp[oB,dep]) (by simp[oB,within];omega)
 | 3,_=>qt k H.net.net (by simp[oA,dep]) rfl
 | 4,_=>wZ k (x:=0) H.net.net (by have:=H.n1;omega) (by simp[oB,dep]) rfl
theorem Ql(k:Nat)(H:Dr n L){p:Nat}(hp:p<5):aD T 60 (k+9) "_law_do" [.int 0,.int n,ssD L,.tup [oA n p,oB n p]]=some (.str "no place"):=YF (k+7) (vf (k+7)) (vm (k+7) (Ld k H p hp)) (.inr rfl)
theorem Qk(k:Nat)(H:Dr n L){p:Nat}(hp:p<5):aD T 60 (k+9) "_law_do" [.int 1,.int n,ssD L,.tup [oA n p,oB n p]]=some (.str "no place"):=YD (k+7) (vf (k+7)) (rM (k+7) (Ld k H p hp)) (.inr rfl)
def bdL(n:Nat)(L:List Stp):List D:=L.map stD++[.tup [.str "up",.int ((n:Int)-1),frD 1 1]]
theorem Zh{x:Stp}(h:okS n x):dep (stD x)<=50/\bdB (stD x)=true:=by
 refine⟨by simp[stD,dep,deps],?_⟩;show(decide (x.s.num.natAbs<=1000000000000000000)&&decide (((x.s.den:Nat):Int).natAbs<=1000000000000000000))=true;rw[E4z h.sq.1,E4z (by simpa using h.sq.2)];rfl
theorem Nk(k:Nat)(H:Dr n L){a b:D}:eO T 60 (k+7) "need_levels" [.int n,.lst (bdL n L),a,b]=some "NoStep"/\aD T 60 (k+7) "need_levels" [.int n,.lst (bdL n L),a,b]=none:=by
 have n1:=H.n1;have n3:=H.n3;have l5:=H.len;refine Aq (k+6) (ux k n1 (by omega) (by simp[bdL];omega) (fun x hx=>?_) ?_)
 ·rcases List.mem_append.mp hx with hx | hx
  ·obtain⟨y,hy,rfl⟩:=List.mem_map.mp hx
   exact Zh (H.ok y hy).1
  ·rw[List.mem_singleton.mp hx]
   exact⟨by simp[frD,dep,deps],rfl⟩
 ·unfold bdL
  rw[List.all_append]
  have:([.tup [.str "up",.int ((n:Int)-1),frD 1 1]]:List D).all (jT (n:Int))=false:=by
   have:n=1\/n=2\/n=3:=by omega
   rcases this with rfl | rfl | rfl<;>rfl
  rw[this,J4z]
theorem V6(k:Nat)(H:Dr n L){a b:D}:aD T 60 (k+9) "_law_do" [.int 0,.int n,.lst (bdL n L),.tup [a,b]]=some (.str "no step"):=YF (k+7) (vd (k+7)) (vm (k+7) (Nk k H)) (.inl rfl)
theorem V5(k:Nat)(H:Dr n L){a b:D}:aD T 60 (k+9) "_law_do" [.int 1,.int n,.lst (bdL n L),.tup [a,b]]=some (.str "no step"):=YD (k+7) (vd (k+7)) (rM (k+7) (Nk k H)) (.inl rfl)
theorem t4(H:Dr n L){st so en du:Sl}(h1:nOw st=true)(h2:nOw so=true)(h3:nOw en=true)(h4:nOw du=true):blk (cxN T 60 39) 60 60 lSc (bdy 4) (SL ns n L st so en du .no .no)=some (.ret (.bl true)):=by
 have n3:=H.n3;have l5:=H.len;have hp:=cP (ns:=ns) (k:=1) (many:=5) (by omega);have pk:=pick 37 ns 1 (many:=5) (by omega);generalize pickN ns 1 5=p at hp pk;refine jU (d:=.tup [oA n p,oB n p]) (calmS h1 h2 h3 h4 rfl rfl) rfl rfl (xIx (x:=.lst [.tup [.int (-1),.int 0],.tup [.int n,.int 0],.tup [.int 0,.int n],.tup [.non,.int 0],.tup [.int 0,.bl true]]) (i:=(p:Int)) (nF (aj (cV (aj (Ez (ak rfl)) (aj (ak rfl) aL)) rfl) (aj (cV (aj (xName rfl) (aj (ak rfl) aL)) rfl) (aj (cV (aj (ak rfl) (aj (xName rfl) aL)) rfl) (aj (cV (aj (ak rfl) (aj (ak rfl) aL)) rfl) (aj (cV (aj (ak rfl) (aj (ak rfl) aL)) rfl) aL))))) rfl) (aH rfl (aj (x:=scr ns) (xName rfl) (aj (ak rfl) (aj (ak rfl) aL))) pk) rfl ?_) ?_
 ·match p,hp with
  | 0,_=>rfl
  | 1,_=>rfl
  | 2,_=>rfl
  | 3,_=>rfl
  | 4,_=>rfl
 refine uY (ρ:=SL ns n L st so en du (.sh (.tup [oA n p,oB n p])) .no) (calmS h1 h2 h3 h4 rfl rfl) (bV (x:=.lst [.str "no place",.str "no place"]) (y:=.lst [.str "no place",.str "no place"]) (dg (l:=Ls 2 fun i=>.int i) (out:=[.str "no place",.str "no place"]) rfl (Cp (j:=2) rfl (ak rfl) (by omega)) rfl (bZ (g:=fun _=>.str "no place") fun i hi=>dH rfl ?_)) (cg (x:=.lst [.str "no place"]) (y:=.int 2) (nF (aj (ak rfl) aL) rfl) (ak rfl) rfl) rfl) ?_
 ·refine aH rfl (aj (x:=.int i) (xName rfl) (aj (x:=.int n) (xName rfl) (aj (x:=ssD L) (xName rfl) (aj (x:=.tup [oA n p,oB n p]) (xName rfl) aL)))) ?_
  match i,hi with
  | 0,_=>exact Ql 30 H hp
  | 1,_=>exact Qk 30 H hp
 refine jU (ρ:=SL ns n L st so en du (.sh (.tup [oA n p,oB n p])) .no) (d:=.lst (bdL n L)) (calmS h1 h2 h3 h4 rfl rfl) rfl rfl (cg (x:=ssD L) (y:=.lst [.tup [.str "up",.int ((n:Int)-1),frD 1 1]]) (xName rfl) (nF (aj (cV (aj (ak rfl) (aj (cg (x:=.int n) (y:=.int 1) (xName rfl) (ak rfl) rfl) (aj (cV (aj (ak rfl) (aj (ak rfl) aL)) rfl) aL))) rfl) aL) rfl) (Np (by simp;omega))) ?_
 refine qP (ρ:=SL ns n L st so en du (.sh (.tup [oA n p,oB n p])) (.sh (.lst (bdL n L)))) (calmS h1 h2 h3 h4 rfl rfl) (bV (x:=.lst [.str "no step",.str "no step"]) (y:=.lst [.str "no step",.str "no step"]) (dg (l:=Ls 2 fun i=>.int i) (out:=[.str "no step",.str "no step"]) rfl (Cp (j:=2) rfl (ak rfl) (by omega)) rfl (bZ (g:=fun _=>.str "no step") fun i hi=>dH rfl ?_)) (cg (x:=.lst [.str "no step"]) (y:=.int 2) (nF (aj (ak rfl) aL) rfl) (ak rfl) rfl) rfl);refine aH rfl (aj (x:=.int i) (xName rfl) (aj (x:=.int n) (xName rfl) (aj (x:=.lst (bdL n L)) (xName rfl) (aj (x:=.tup [.int 0,.int 0]) (cV (aj (ak rfl) (aj (ak rfl) aL)) rfl) aL)))) ?_
 match i,hi with
 | 0,_=>exact V6 30 H
 | 1,_=>exact V5 30 H
end
theorem law_true(ns:List Int)(_h:ns.length<=63):aD T 60 40 "law" [.lst (ns.map D.int)]=some (.bl true):=by
 have p3:=cP (ns:=ns) (k:=0) (many:=3) (by omega);have p6:=cP (ns:=ns) (k:=10) (many:=6) (by omega);have pk:=pick 37 ns 0 (many:=3) (by omega);generalize hn:1+pickN ns 0 3=n
 have n1:1<=n:=by omega
 have n3:n<=3:=by omega
 have ls:=xH 35 ns 10 (n:=n) (mo:=5) n1 (by omega) (by omega);generalize hL:Jl ns 10 n (pickN ns 10 (5+1))=L at ls
 have l5:L.length<=5:=by rw[<- hL];simp[Jl];omega
 have mem:∀ x∈L,∃ k,x=stV ns 10 n k:=fun x hx=>Hf (hL▸hx)
 have H:Dr n L:=⟨n1,n3,l5,fun x hx=>by
  obtain⟨k,rfl⟩:=mem x hx
  exact vY n1⟩
 have mb:=made_by 31 (n:=n) (l:=L) n1 (by omega) (Ka (l:=L) n1 (by omega) fun x hx=>by
  obtain⟨k,e⟩:=mem x hx
  exact⟨ns,10,k,e⟩) (by omega)
 obtain⟨ρ',⟨st,so,en,du,q1,q2,q3,q4,rfl⟩,go⟩:=jD (f:=fF (cxN T 60 39) 60 59 lSc (cL lF) (aV lF)) (h:=fun y=>D.int y) (N:=n) (P:=fun _ ρ=>∃ st so en du,nOw st=true/\nOw so=true/\nOw en=true/\nOw du=true/\ρ=SL ns n L st so en du .no .no) (fun y ρ hy hP=>by
  obtain⟨st,so,en,du,q1,q2,q3,q4,rfl⟩:=hP;obtain⟨en',du',r1,r2,r3⟩:=l_out H hy q1 q2 q3 q4
  exact⟨_,⟨_,_,en',du',rfl,rfl,r1,r2,rfl⟩,r3⟩) (ρ:=SL ns n L .no .no .no .no .no .no) ⟨.no,.no,.no,.no,rfl,rfl,rfl,rfl,rfl⟩
 refine bU (fd:=aU (top 79)) rfl rfl ?_;refine jU (ρ:=N6 ns .no .no .no .no .no .no .no .no .no) (d:=.int n) rfl rfl rfl (qX (cg (x:=.int 1) (y:=.int ((pickN ns 0 3:Nat):Int)) (ak rfl) (aH rfl (aj (x:=scr ns) (xName rfl) (aj (ak rfl) (aj (ak rfl) aL))) pk) rfl) (congrArg D.int (by omega))) ?_;refine jU (ρ:=N6 ns (.sh (.int n)) .no .no .no .no .no .no .no .no) (d:=ssD L) rfl rfl rfl (aH rfl (aj (x:=scr ns) (xName rfl) (aj (ak rfl) (aj (x:=.int n) (xName rfl) (aj (ak rfl) aL)))) ls) ?_;refine jU (ρ:=N6 ns (.sh (.int n)) (.sh (ssD L)) .no .no .no .no .no .no .no) (d:=ftq n n (mkQ n L)) rfl rfl rfl (aH rfl (aj (x:=.int n) (xName rfl) (aj (x:=ssD L) (xName rfl) aL)) mb) ?_;exact d9 (ρ:=SL ns n L .no .no .no .no .no .no) (ρ':=SL ns n L .no .no .no .no .no .no) (cJ rfl) (Cp (j:=n) rfl (xName rfl) (by omega)) go (t4 H q1 q2 q3 q4)
end M40
noncomputable section
namespace HS
open PySem PySem.W
theorem goT{p:Program}{w:World}{m:Nat}{a:Option Value}{n:Nat}{x y:Shared}{u:Thread}{c:Code}{o:Pos}{l:List Frame}(h:Fast.tw15667345088766844465 Fast.tw14364793385576792824 p w m a n x u=some (y,⟨Fast.tw11892475500146522536 Fast.tw14364793385576792824 c,c,o,l⟩)):topGo treeTable p w m a n x u=some (y,⟨denote treeTable c,c,o,l⟩):=by
 rw[Fast.te15667345088766844465,D0z,Fast.te11892475500146522536];exact h
theorem Zb{p:Program}{w:World}{m:Nat}{a:Option Value}{k n:Nat}{x:Shared}{u:Thread}{y:Option (Flow×Shared×Code×Pos)}(h:Fast.tw14374325043358763698 Fast.tw14364793385576792824 p w m a k n x u=y):segRun treeTable p w m a k n x u=y:=by
 rw[Fast.te14374325043358763698,D0z];exact h
theorem uV{p:Program}{w:World}{m:Nat}{a:Option Value}{k n:Nat}{x:SharedT}{u:Thread}{y:Option (Flow×SharedT×Code×Pos)}(h:Fast.tw10110043849684766642 Fast.tw14364793385576792824 p w m a k n x u=y):segRunT treeTable p w m a k n x u=y:=by
 rw[Fast.te10110043849684766642,D0z];exact h
theorem YS{p:Program}{w:World}{m:Nat}{a:Option Value}{n:Nat}{x:Shared}{u:Thread}{y:Option Shared}(h:Fast.tw14082659384304107361 Fast.tw14364793385576792824 p w m a n x u=y):topRun treeTable p w m a n x u=y:=by
 rw[Fast.te14082659384304107361,D0z];exact h
theorem Pq{p:Program}{w:World}{m:Nat}{a:Option Value}{n:Nat}{x:Shared}{b l:List Stmt}{E:Env}{c:Code}{o:Pos}{B:List Frame}{y:Option Shared}(e:b=l)(h:topRun treeTable p w m a n x (restOf l E c o B)=y):topRun treeTable p w m a n x (restOf b E c o B)=y:=by
 rw[e];exact h
end HS
namespace H40
open PySem PySem.W HS
noncomputable abbrev p:Program:=PySem.Challenge.pw_minortables_k40_whole_ways
abbrev q:Program:=PySem.W.view p [1,2,3,4,5,6,7,9,10,11,12,13,14,15,16,17,18,19,21,22,23,24,25,26,27,28,29,30,32,33,34,35,37,38,39,40,41,42,43,44,45,46,47,49,50,51,52,53,54,55,56,57,58,60,61,62,63,64,65,66,67,68,69,70,71,72,73,74,75,76,77,78,79]
abbrev N:Nat:=6900
noncomputable abbrev lo:List Str:=[]
abbrev z:Value:=.none
noncomputable abbrev r(a:Nat):Value:=.ref a
noncomputable abbrev i(a:Int)(n:Nat):Value:=.int a n
abbrev s(x:Str)(n:Nat):Value:=.str x n
abbrev t(x:String):Value:=.type x
abbrev b(x:String):Value:=.builtin x
abbrev e(P:Params)(x:Str)(n:Nat)(v:Value):DictEntry:=⟨PyData.keyHash P x,.str x n,v⟩
def d(j:Nat):Stmt:=p.main.body.getD j (.Pass ⟨0,0,0,0⟩)
def m(j k:Nat):Stmt:=match d j with | .ClassDef _ _ _ l .. =>l.getD k (.Pass ⟨0,0,0,0⟩) | x=>x
def f(x:Stmt)(qn:Str)(g:Nat)(dV kV dc pm cd ct:Value):FuncData:=match x with | .FunctionDef n a l _ _ _ sc .. =>⟨n,qn,a,.stmts l,sc,g,[],dV,kV,dc,pm,none,cd,ct,0⟩ | _=>default
def y:Obj:=⟨.type "tuple",none,.seq #[] 0,#[]⟩
noncomputable def x:Obj:=⟨.none,none,.fields #[],#[]⟩
noncomputable def tnV:List Str->Nat->List Value | [],_=>[] | a::l,k=>.str a k::tnV l (k+1)
def tn(l:List Str)(k:Nat):Obj:=⟨.type "tuple",none,.seq (tnV l k).toArray 0,#[]⟩
def g(a:Stmt)(n:Str):Obj:=⟨.none,none,.func (f a n 0 z z z z z z),#[]⟩
def u(a:Stmt)(n:Str)(pm:Value)(c:Nat):Obj:=⟨.type "function",none,.func (f a n 3 z z z pm (r c) z),#[]⟩
def c(n:Str)(k:Nat)(l a fl:Int)(q:Nat)(bb:Bool)(h:Int)(q':Nat)(v w v':Value)(k':Nat):Obj:=⟨.type "code",none,.fields #[s n k,s n (k+1),s "/claim/cut.py" (k+2),i l 0,i a 0,i 0 0,i 0 0,i fl 0,r q,.bool bb,i h 0,r q',z,v,w,v',i k' 0,i l 0,s "/claim/cut.py" (k'+1)],#[]⟩
def I(t:BT):Nat->List Obj->BT | _,[]=>t | n,o::l=>I (t.ins n o) (n+1) l
def es(P:Params):List DictEntry:=[e P "__doc__" 166 z,
 e P "__package__" 167 z,
 e P "__loader__" 168 (b "__main__.__loader__#opaque"),
 e P "__spec__" 169 z,
 e P "__annotations__" 170 (r 6),
 e P "__builtins__" 171 (r 4),
 e P "__file__" 173 (s "/claim/cut.py" 172),
 e P "__cached__" 174 z,
 e P "MinorError" 206 (r 24),
 e P "NoTable" 222 (r 37),
 e P "NoFit" 238 (r 49),
 e P "NoPlace" 254 (r 61),
 e P "NoStep" 270 (r 73),
 e P "NoSteps" 286 (r 85),
 e P "NoText" 302 (r 97),
 e P "MOST_LINES" 306 (i 4 305),
 e P "is_whole" 313 (r 106),
 e P "is_whole_within" 322 (r 113),
 e P "is_short_tuple" 329 (r 120),
 e P "has_lines" 335 (r 125),
 e P "numbers_of" 344 (r 132),
 e P "has_table_form" 350 (r 137),
 e P "is_place" 358 (r 144),
 e P "need_table" 365 (r 151),
 e P "need_place" 373 (r 158),
 e P "need_size" 381 (r 165),
 e P "common_measure" 392 (r 172),
 e P "lowest" 401 (r 179),
 e P "has_fraction_form" 408 (r 186),
 e P "is_fraction" 415 (r 193),
 e P "sum_of" 423 (r 200),
 e P "times_of" 431 (r 207),
 e P "all_sum" 440 (r 214),
 e P "need_fraction_table" 446 (r 219),
 e P "row_as_fractions" 452 (r 224),
 e P "as_fractions" 458 (r 229),
 e P "column_of" 466 (r 234),
 e P "columns_of" 472 (r 239),
 e P "plain_row" 478 (r 244),
 e P "plain" 484 (r 249),
 e P "UP" 488 (s "up" 487),
 e P "DOWN" 490 (s "down" 489),
 e P "SCALE" 492 (s "scale" 491),
 e P "is_step_of" 502 (r 256),
 e P "is_step" 510 (r 263),
 e P "need_steps" 516 (r 268),
 e P "row_by_column" 522 (r 273),
 e P "row_by_columns" 528 (r 278),
 e P "product_of" 534 (r 283),
 e P "table_of_step" 540 (r 288),
 e P "made_by" 552 (r 295),
 e P "step_tables" 560 (r 300),
 e P "with_one_more" 572 (r 307),
 e P "goings" 585 (r 314),
 e P "runs_from" 600 (r 321),
 e P "runs_between" 606 (r 326),
 e P "shares_from" 621 (r 333),
 e P "share_between" 631 (r 340),
 e P "need_levels" 641 (r 347),
 e P "ways" 647 (r 352),
 e P "share_of_ways" 657 (r 359),
 e P "_law_cell" 667 (r 366),
 e P "_law_pick" 677 (r 373),
 e P "_law_table" 683 (r 378),
 e P "_law_size" 691 (r 385),
 e P "_law_times" 705 (r 392),
 e P "_law_worth" 711 (r 397),
 e P "_law_some" 717 (r 402),
 e P "_law_part" 723 (r 407),
 e P "_law_minors" 734 (r 414),
 e P "_law_share" 742 (r 421),
 e P "_law_steps" 757 (r 428),
 e P "_law_lowest" 767 (r 435),
 e P "_law_sum" 777 (r 442),
 e P "_law_step_table" 783 (r 447),
 e P "_law_made" 789 (r 452),
 e P "_law_word" 797 (r 459),
 e P "_law_do" 810 (r 466),
 e P "_law_ways" 816 (r 471),
 e P "_law_product" 826 (r 478),
 e P "law" 832 (r 483)]
def og(k n:Nat)(v:Value)(P:Params):Obj:=⟨.type "dict",none,.dict ((e P "__name__" 165 v::es P).take k).toArray n,#[]⟩
def fv:List Value:=[(i 2 0),(i 0 0),(r 20),(i 4 0),(i 0 0),(r 33),(i 6 0),(i 0 0),(r 45),(i 8 0),(i 0 0),(r 57),(i 10 0),(i 0 0),(r 69),(i 12 0),(i 0 0),(r 81),(i 14 0),(i 0 0),(r 93),(i 18 0),(i 0 0),(r 105),(i 20 0),(i 0 0),(r 112),(i 22 0),(i 0 0),(r 119),(i 24 0),(i 0 0),(r 124),(i 28 0),(i 0 0),(r 131),(i 33 0),(i 0 0),(r 136),(i 35 0),(i 0 0),(r 143),(i 37 0),(i 0 0),(r 150),(i 40 0),(i 0 0),(r 157),(i 43 0),(i 0 0),(r 164),(i 47 0),(i 0 0),(r 171),(i 53 0),(i 0 0),(r 178),(i 58 0),(i 0 0),(r 185),(i 64 0),(i 0 0),(r 192),(i 66 0),(i 0 0),(r 199),(i 68 0),(i 0 0),(r 206),(i 70 0),(i 0 0),(r 213),(i 75 0),(i 0 0),(r 218),(i 78 0),(i 0 0),(r 223),(i 80 0),(i 0 0),(r 228),(i 84 0),(i 0 0),(r 233),(i 86 0),(i 0 0),(r 238),(i 88 0),(i 0 0),(r 243),(i 90 0),(i 0 0),(r 248),(i 97 0),(i 0 0),(r 255),(i 101 0),(i 0 0),(r 262),(i 105 0),(i 0 0),(r 267),(i 110 0),(i 0 0),(r 272),(i 112 0),(i 0 0),(r 277),(i 114 0),(i 0 0),(r 282),(i 121 0),(i 0 0),(r 287),(i 127 0),(i 0 0),(r 294),(i 134 0),(i 0 0),(r 299),(i 136 0),(i 0 0),(r 306),(i 142 0),(i 0 0),(r 313),(i 150 0),(i 0 0),(r 320),(i 159 0),(i 0 0),(r 325),(i 162 0),(i 0 0),(r 332),(i 171 0),(i 0 0),(r 339),(i 173 0),(i 0 0),(r 346),(i 177 0),(i 0 0),(r 351),(i 180 0),(i 0 0),(r 358),(i 184 0),(i 0 0),(r 365),(i 190 0),(i 0 0),(r 372),(i 193 0),(i 0 0),(r 377),(i 199 0),(i 0 0),(r 384),(i 201 0),(i 0 0),(r 391),(i 212 0),(i 0 0),(r 396),(i 222 0),(i 0 0),(r 401),(i 230 0),(i 0 0),(r 406),(i 232 0),(i 0 0),(r 413),(i 239 0),(i 0 0),(r 420),(i 241 0),(i 0 0),(r 427),(i 252 0),(i 0 0),(r 434),(i 257 0),(i 0 0),(r 441),(i 262 0),(i 0 0),(r 446),(i 269 0),(i 0 0),(r 451),(i 282 0),(i 0 0),(r 458),(i 288 0),(i 0 0),(r 465),(i 298 0),(i 0 0),(r 470),(i 308 0),(i 0 0),(r 477),(i 313 0),(i 0 0),(r 482)]
def o12:Obj:=⟨z,none,.fields (fv.take 0).toArray,#[]⟩
def o13:=c "<module>" 182 1 0 0 11 false 181 12 z z z 185
def o14:Obj:=⟨(t "frame"),none,.plain,#[some (r 13),some (r 3),some (r 3),none,some (s "__main__" 164),none,some (r 0)]⟩
def Zt(P:Params):Obj:=og 10 10 (s "minortables.errors" 187) P
def Vb:Obj:=⟨z,none,.fields (fv.take 3).toArray,#[]⟩
def o15:Obj:=⟨(t "tuple"),none,(.seq #[(t "ValueError")] 0),#[]⟩
def o16:Obj:=⟨(t "builtin_function_or_method"),none,(.fields #[(b "type.__prepare__"),(t "type")]),#[]⟩
def o17(P:Params):Obj:=⟨(t "dict"),none,(.dict #[e P "__module__" 196 (s "minortables.errors" 187),e P "__qualname__" 198 (s "MinorError" 197),e P "__firstlineno__" 200 (i 2 199),e P "__static_attributes__" 201 (r 22)] 4),#[]⟩
def o20:=c "MinorError" 191 2 0 0 18 false 181 19 z z z 194
def o21:Obj:=⟨(t "frame"),none,.plain,#[some (r 20),some (r 3),some (r 17),none,some (s "minortables.errors" 187),none,some (r 0)]⟩
def o23(P:Params):Obj:=⟨(t "dict"),none,(.dict #[e P "__module__" 196 (s "minortables.errors" 187),e P "__firstlineno__" 200 (i 2 199),e P "__static_attributes__" 201 (r 22),e P "__weakref__" 203 (r 25),e P "__doc__" 204 z] 3),#[]⟩
def o24:Obj:=⟨(t "type"),none,(.cls ⟨"MinorError",[(t "ValueError")],[(r 24),(t "ValueError"),(t "Exception"),(t "BaseException"),(t "object")],23,"MinorError",true,[],[],false,none,false⟩),#[some (r 15),none,some (s "MinorError" 189),some (s "MinorError" 197),some (b "ValueError.__new__"),some (.bool true)]⟩
def o25:Obj:=⟨(t "getset_descriptor"),none,(.fields #[(s "__weakref__" 202),(r 24),(b "ExceptionGroup.__weakref__"),z]),#[]⟩
def o26:Obj:=⟨(t "super"),none,(.fields #[(r 24),(r 24),(r 24)]),#[]⟩
def o27:Obj:=⟨(t "builtin_function_or_method"),none,(.fields #[(b "object.__init_subclass__"),(r 24)]),#[]⟩
def Zr(P:Params):Obj:=og 11 11 (s "minortables.errors" 187) P
def Va:Obj:=⟨z,none,.fields (fv.take 6).toArray,#[]⟩
def Sy:Obj:=⟨(t "type"),none,(.cls ⟨"MinorError",[(t "ValueError")],[(r 24),(t "ValueError"),(t "Exception"),(t "BaseException"),(t "object")],23,"MinorError",true,[],[(r 37)],false,none,false⟩),#[some (r 15),none,some (s "MinorError" 189),some (s "MinorError" 197),some (b "ValueError.__new__"),some (.bool true)]⟩
def o28:Obj:=⟨(t "tuple"),none,(.seq #[(r 24)] 0),#[]⟩
def o29:Obj:=⟨(t "builtin_function_or_method"),none,(.fields #[(b "type.__prepare__"),(t "type")]),#[]⟩
def o30(P:Params):Obj:=⟨(t "dict"),none,(.dict #[e P "__module__" 214 (s "minortables.errors" 187),e P "__qualname__" 216 (s "NoTable" 215),e P "__firstlineno__" 218 (i 4 217),e P "__static_attributes__" 219 (r 35)] 4),#[]⟩
def o33:=c "NoTable" 209 4 0 0 31 false 181 32 z z z 212
def o34:Obj:=⟨(t "frame"),none,.plain,#[some (r 33),some (r 3),some (r 30),none,some (s "minortables.errors" 187),none,some (r 0)]⟩
def o36(P:Params):Obj:=⟨(t "dict"),none,(.dict #[e P "__module__" 214 (s "minortables.errors" 187),e P "__firstlineno__" 218 (i 4 217),e P "__static_attributes__" 219 (r 35),e P "__doc__" 220 z] 2),#[]⟩
def o37:Obj:=⟨(t "type"),none,(.cls ⟨"NoTable",[(r 24)],[(r 37),(r 24),(t "ValueError"),(t "Exception"),(t "BaseException"),(t "object")],36,"NoTable",true,[],[],false,none,false⟩),#[some (r 28),none,some (s "NoTable" 207),some (s "NoTable" 215),some (b "ValueError.__new__"),some (.bool true)]⟩
def o38:Obj:=⟨(t "super"),none,(.fields #[(r 37),(r 37),(r 37)]),#[]⟩
def o39:Obj:=⟨(t "builtin_function_or_method"),none,(.fields #[(b "object.__init_subclass__"),(r 37)]),#[]⟩
def Zq(P:Params):Obj:=og 12 12 (s "minortables.errors" 187) P
def U9:Obj:=⟨z,none,.fields (fv.take 9).toArray,#[]⟩
def Sx:Obj:=⟨(t "type"),none,(.cls ⟨"MinorError",[(t "ValueError")],[(r 24),(t "ValueError"),(t "Exception"),(t "BaseException"),(t "object")],23,"MinorError",true,[],[(r 37),(r 49)],false,none,false⟩),#[some (r 15),none,some (s "MinorError" 189),some (s "MinorError" 197),some (b "ValueError.__new__"),some (.bool true)]⟩
def o40:Obj:=⟨(t "tuple"),none,(.seq #[(r 24)] 0),#[]⟩
def o41:Obj:=⟨(t "builtin_function_or_method"),none,(.fields #[(b "type.__prepare__"),(t "type")]),#[]⟩
def o42(P:Params):Obj:=⟨(t "dict"),none,(.dict #[e P "__module__" 230 (s "minortables.errors" 187),e P "__qualname__" 232 (s "NoFit" 231),e P "__firstlineno__" 234 (i 6 233),e P "__static_attributes__" 235 (r 47)] 4),#[]⟩
def o45:=c "NoFit" 225 6 0 0 43 false 181 44 z z z 228
def o46:Obj:=⟨(t "frame"),none,.plain,#[some (r 45),some (r 3),some (r 42),none,some (s "minortables.errors" 187),none,some (r 0)]⟩
def o48(P:Params):Obj:=⟨(t "dict"),none,(.dict #[e P "__module__" 230 (s "minortables.errors" 187),e P "__firstlineno__" 234 (i 6 233),e P "__static_attributes__" 235 (r 47),e P "__doc__" 236 z] 2),#[]⟩
def o49:Obj:=⟨(t "type"),none,(.cls ⟨"NoFit",[(r 24)],[(r 49),(r 24),(t "ValueError"),(t "Exception"),(t "BaseException"),(t "object")],48,"NoFit",true,[],[],false,none,false⟩),#[some (r 40),none,some (s "NoFit" 223),some (s "NoFit" 231),some (b "ValueError.__new__"),some (.bool true)]⟩
def o50:Obj:=⟨(t "super"),none,(.fields #[(r 49),(r 49),(r 49)]),#[]⟩
def o51:Obj:=⟨(t "builtin_function_or_method"),none,(.fields #[(b "object.__init_subclass__"),(r 49)]),#[]⟩
def Zo(P:Params):Obj:=og 13 13 (s "minortables.errors" 187) P
def U8:Obj:=⟨z,none,.fields (fv.take 12).toArray,#[]⟩
def Sw:Obj:=⟨(t "type"),none,(.cls ⟨"MinorError",[(t "ValueError")],[(r 24),(t "ValueError"),(t "Exception"),(t "BaseException"),(t "object")],23,"MinorError",true,[],[(r 37),(r 49),(r 61)],false,none,false⟩),#[some (r 15),none,some (s "MinorError" 189),some (s "MinorError" 197),some (b "ValueError.__new__"),some (.bool true)]⟩
def o52:Obj:=⟨(t "tuple"),none,(.seq #[(r 24)] 0),#[]⟩
def o53:Obj:=⟨(t "builtin_function_or_method"),none,(.fields #[(b "type.__prepare__"),(t "type")]),#[]⟩
def o54(P:Params):Obj:=⟨(t "dict"),none,(.dict #[e P "__module__" 246 (s "minortables.errors" 187),e P "__qualname__" 248 (s "NoPlace" 247),e P "__firstlineno__" 250 (i 8 249),e P "__static_attributes__" 251 (r 59)] 4),#[]⟩
def o57:=c "NoPlace" 241 8 0 0 55 false 181 56 z z z 244
def o58:Obj:=⟨(t "frame"),none,.plain,#[some (r 57),some (r 3),some (r 54),none,some (s "minortables.errors" 187),none,some (r 0)]⟩
def o60(P:Params):Obj:=⟨(t "dict"),none,(.dict #[e P "__module__" 246 (s "minortables.errors" 187),e P "__firstlineno__" 250 (i 8 249),e P "__static_attributes__" 251 (r 59),e P "__doc__" 252 z] 2),#[]⟩
def o61:Obj:=⟨(t "type"),none,(.cls ⟨"NoPlace",[(r 24)],[(r 61),(r 24),(t "ValueError"),(t "Exception"),(t "BaseException"),(t "object")],60,"NoPlace",true,[],[],false,none,false⟩),#[some (r 52),none,some (s "NoPlace" 239),some (s "NoPlace" 247),some (b "ValueError.__new__"),some (.bool true)]⟩
def o62:Obj:=⟨(t "super"),none,(.fields #[(r 61),(r 61),(r 61)]),#[]⟩
def o63:Obj:=⟨(t "builtin_function_or_method"),none,(.fields #[(b "object.__init_subclass__"),(r 61)]),#[]⟩
def Zn(P:Params):Obj:=og 14 14 (s "minortables.errors" 187) P
def U7:Obj:=⟨z,none,.fields (fv.take 15).toArray,#[]⟩
def Sv:Obj:=⟨(t "type"),none,(.cls ⟨"MinorError",[(t "ValueError")],[(r 24),(t "ValueError"),(t "Exception"),(t "BaseException"),(t "object")],23,"MinorError",true,[],[(r 37),(r 49),(r 61),(r 73)],false,none,false⟩),#[some (r 15),none,some (s "MinorError" 189),some (s "MinorError" 197),some (b "ValueError.__new__"),some (.bool true)]⟩
def o64:Obj:=⟨(t "tuple"),none,(.seq #[(r 24)] 0),#[]⟩
def o65:Obj:=⟨(t "builtin_function_or_method"),none,(.fields #[(b "type.__prepare__"),(t "type")]),#[]⟩
def o66(P:Params):Obj:=⟨(t "dict"),none,(.dict #[e P "__module__" 262 (s "minortables.errors" 187),e P "__qualname__" 264 (s "NoStep" 263),e P "__firstlineno__" 266 (i 10 265),e P "__static_attributes__" 267 (r 71)] 4),#[]⟩
def o69:=c "NoStep" 257 10 0 0 67 false 181 68 z z z 260
def o70:Obj:=⟨(t "frame"),none,.plain,#[some (r 69),some (r 3),some (r 66),none,some (s "minortables.errors" 187),none,some (r 0)]⟩
def o72(P:Params):Obj:=⟨(t "dict"),none,(.dict #[e P "__module__" 262 (s "minortables.errors" 187),e P "__firstlineno__" 266 (i 10 265),e P "__static_attributes__" 267 (r 71),e P "__doc__" 268 z] 2),#[]⟩
def o73:Obj:=⟨(t "type"),none,(.cls ⟨"NoStep",[(r 24)],[(r 73),(r 24),(t "ValueError"),(t "Exception"),(t "BaseException"),(t "object")],72,"NoStep",true,[],[],false,none,false⟩),#[some (r 64),none,some (s "NoStep" 255),some (s "NoStep" 263),some (b "ValueError.__new__"),some (.bool true)]⟩
def o74:Obj:=⟨(t "super"),none,(.fields #[(r 73),(r 73),(r 73)]),#[]⟩
def o75:Obj:=⟨(t "builtin_function_or_method"),none,(.fields #[(b "object.__init_subclass__"),(r 73)]),#[]⟩
def Zm(P:Params):Obj:=og 15 15 (s "minortables.errors" 187) P
def U4:Obj:=⟨z,none,.fields (fv.take 18).toArray,#[]⟩
def Ss:Obj:=⟨(t "type"),none,(.cls ⟨"MinorError",[(t "ValueError")],[(r 24),(t "ValueError"),(t "Exception"),(t "BaseException"),(t "object")],23,"MinorError",true,[],[(r 37),(r 49),(r 61),(r 73),(r 85)],false,none,false⟩),#[some (r 15),none,some (s "MinorError" 189),some (s "MinorError" 197),some (b "ValueError.__new__"),some (.bool true)]⟩
def o76:Obj:=⟨(t "tuple"),none,(.seq #[(r 24)] 0),#[]⟩
def o77:Obj:=⟨(t "builtin_function_or_method"),none,(.fields #[(b "type.__prepare__"),(t "type")]),#[]⟩
def o78(P:Params):Obj:=⟨(t "dict"),none,(.dict #[e P "__module__" 278 (s "minortables.errors" 187),e P "__qualname__" 280 (s "NoSteps" 279),e P "__firstlineno__" 282 (i 12 281),e P "__static_attributes__" 283 (r 83)] 4),#[]⟩
def o81:=c "NoSteps" 273 12 0 0 79 false 181 80 z z z 276
def o82:Obj:=⟨(t "frame"),none,.plain,#[some (r 81),some (r 3),some (r 78),none,some (s "minortables.errors" 187),none,some (r 0)]⟩
def o84(P:Params):Obj:=⟨(t "dict"),none,(.dict #[e P "__module__" 278 (s "minortables.errors" 187),e P "__firstlineno__" 282 (i 12 281),e P "__static_attributes__" 283 (r 83),e P "__doc__" 284 z] 2),#[]⟩
def o85:Obj:=⟨(t "type"),none,(.cls ⟨"NoSteps",[(r 24)],[(r 85),(r 24),(t "ValueError"),(t "Exception"),(t "BaseException"),(t "object")],84,"NoSteps",true,[],[],false,none,false⟩),#[some (r 76),none,some (s "NoSteps" 271),some (s "NoSteps" 279),some (b "ValueError.__new__"),some (.bool true)]⟩
def o86:Obj:=⟨(t "super"),none,(.fields #[(r 85),(r 85),(r 85)]),#[]⟩
def o87:Obj:=⟨(t "builtin_function_or_method"),none,(.fields #[(b "object.__init_subclass__"),(r 85)]),#[]⟩
def Zk(P:Params):Obj:=og 22 22 (s "minortables.checks" 303) P
def U3:Obj:=⟨z,none,.fields (fv.take 36).toArray,#[]⟩
def G5:Obj:=⟨(t "type"),none,(.cls ⟨"MinorError",[(t "ValueError")],[(r 24),(t "ValueError"),(t "Exception"),(t "BaseException"),(t "object")],23,"MinorError",true,[],[(r 37),(r 49),(r 61),(r 73),(r 85),(r 97)],false,none,false⟩),#[some (r 15),none,some (s "MinorError" 189),some (s "MinorError" 197),some (b "ValueError.__new__"),some (.bool true)]⟩
def o88:Obj:=⟨(t "tuple"),none,(.seq #[(r 24)] 0),#[]⟩
def o89:Obj:=⟨(t "builtin_function_or_method"),none,(.fields #[(b "type.__prepare__"),(t "type")]),#[]⟩
def o90(P:Params):Obj:=⟨(t "dict"),none,(.dict #[e P "__module__" 294 (s "minortables.errors" 187),e P "__qualname__" 296 (s "NoText" 295),e P "__firstlineno__" 298 (i 14 297),e P "__static_attributes__" 299 (r 95)] 4),#[]⟩
def o93:=c "NoText" 289 14 0 0 91 false 181 92 z z z 292
def o94:Obj:=⟨(t "frame"),none,.plain,#[some (r 93),some (r 3),some (r 90),none,some (s "minortables.errors" 187),none,some (r 0)]⟩
def o96(P:Params):Obj:=⟨(t "dict"),none,(.dict #[e P "__module__" 294 (s "minortables.errors" 187),e P "__firstlineno__" 298 (i 14 297),e P "__static_attributes__" 299 (r 95),e P "__doc__" 300 z] 2),#[]⟩
def o97:Obj:=⟨(t "type"),none,(.cls ⟨"NoText",[(r 24)],[(r 97),(r 24),(t "ValueError"),(t "Exception"),(t "BaseException"),(t "object")],96,"NoText",true,[],[],false,none,false⟩),#[some (r 88),none,some (s "NoText" 287),some (s "NoText" 295),some (b "ValueError.__new__"),some (.bool true)]⟩
def o98:Obj:=⟨(t "super"),none,(.fields #[(r 97),(r 97),(r 97)]),#[]⟩
def o99:Obj:=⟨(t "builtin_function_or_method"),none,(.fields #[(b "object.__init_subclass__"),(r 97)]),#[]⟩
def Vn:Obj:=tn ["thing"] 310
def Yp:Obj:=g (d 10) "is_whole"
def Vm:Obj:=c "is_whole" 307 18 1 3 100 true 181 101 (r 102) (r 103) (r 104) 311
def Vl:Obj:=u (d 10) "is_whole" (s "minortables.checks" 303) 105
def Vk:Obj:=tn ["thing","least","most"] 317
def o111:=g (d 11) "is_whole_within"
def Vj:Obj:=c "is_whole_within" 314 20 3 3 107 true 181 108 (r 109) (r 110) (r 111) 320
def Vi:Obj:=u (d 11) "is_whole_within" (s "minortables.checks" 303) 112
def Vh:Obj:=tn ["thing"] 326
def Yo:Obj:=g (d 12) "is_short_tuple"
def Vg:Obj:=c "is_short_tuple" 323 22 1 3 114 true 181 115 (r 116) (r 117) (r 118) 327
def Vf:Obj:=u (d 12) "is_short_tuple" (s "minortables.checks" 303) 119
def Yn:Obj:=g (d 13) "has_lines"
def Ve:Obj:=c "has_lines" 330 24 1 3 121 true 181 122 z z (r 123) 333
def Vd:Obj:=u (d 13) "has_lines" (s "minortables.checks" 303) 124
def Vc:Obj:=tn ["table","told","row"] 339
def Ym:Obj:=g (d 14) "numbers_of"
def UJ:Obj:=c "numbers_of" 336 28 1 3 126 true 181 127 (r 128) (r 129) (r 130) 342
def UG:Obj:=u (d 14) "numbers_of" (s "minortables.checks" 303) 131
def Zj(P:Params):Obj:=og 35 35 (s "minortables.fractions" 382) P
def UW:Obj:=⟨z,none,.fields (fv.take 75).toArray,#[]⟩
def Yl:Obj:=g (d 15) "has_table_form"
def Uz:Obj:=c "has_table_form" 345 33 1 3 133 true 181 134 z z (r 135) 348
def Uy:Obj:=u (d 15) "has_table_form" (s "minortables.checks" 303) 136
def Ux:Obj:=tn ["thing","many"] 354
def Yk:Obj:=g (d 16) "is_place"
def Uw:Obj:=c "is_place" 351 35 2 3 138 true 181 139 (r 140) (r 141) (r 142) 356
def Uv:Obj:=u (d 16) "is_place" (s "minortables.checks" 303) 143
def Uu:Obj:=tn ["thing"] 362
def Yj:Obj:=g (d 17) "need_table"
def Ut:Obj:=c "need_table" 359 37 1 3 145 true 181 146 (r 147) (r 148) (r 149) 363
def Us:Obj:=u (d 17) "need_table" (s "minortables.checks" 303) 150
def Ur:Obj:=tn ["thing","many"] 369
def Yi:Obj:=g (d 18) "need_place"
def Uq:Obj:=c "need_place" 366 40 2 3 152 true 181 153 (r 154) (r 155) (r 156) 371
def Uo:Obj:=u (d 18) "need_place" (s "minortables.checks" 303) 157
def Um:Obj:=tn ["thing","most"] 377
def Yh:Obj:=g (d 19) "need_size"
def Ul:Obj:=c "need_size" 374 43 2 3 159 true 181 160 (r 161) (r 162) (r 163) 379
def Uk:Obj:=u (d 19) "need_size" (s "minortables.checks" 303) 164
def Uj:Obj:=tn ["one","other","rest"] 387
def Yg:Obj:=g (d 21) "common_measure"
def Ui:Obj:=c "common_measure" 384 47 2 3 166 true 181 167 (r 168) (r 169) (r 170) 390
def Uh:Obj:=u (d 21) "common_measure" (s "minortables.fractions" 382) 171
def Ug:Obj:=tn ["up","down","measure"] 396
def Ye:Obj:=g (d 22) "lowest"
def Ue:Obj:=c "lowest" 393 53 2 3 173 true 181 174 (r 175) (r 176) (r 177) 399
def Ud:Obj:=u (d 22) "lowest" (s "minortables.fractions" 382) 178
def Uc:Obj:=tn ["thing"] 405
def Yd:Obj:=g (d 23) "has_fraction_form"
def Ub:Obj:=c "has_fraction_form" 402 58 1 3 180 true 181 181 (r 182) (r 183) (r 184) 406
def Ua:Obj:=u (d 23) "has_fraction_form" (s "minortables.fractions" 382) 185
def TY:Obj:=tn ["thing"] 412
def Yc:Obj:=g (d 24) "is_fraction"
def TV:Obj:=c "is_fraction" 409 64 1 3 187 true 181 188 (r 189) (r 190) (r 191) 413
def TQ:Obj:=u (d 24) "is_fraction" (s "minortables.fractions" 382) 192
def TJ:Obj:=tn ["one","other"] 419
def Yb:Obj:=g (d 25) "sum_of"
def TF:Obj:=c "sum_of" 416 66 2 3 194 true 181 195 (r 196) (r 197) (r 198) 421
def o200:=u (d 25) "sum_of" (s "minortables.fractions" 382) 199
def Tz:Obj:=tn ["one","other"] 427
def X8:Obj:=g (d 26) "times_of"
def Tw:Obj:=c "times_of" 424 68 2 3 201 true 181 202 (r 203) (r 204) (r 205) 429
def Tv:Obj:=u (d 26) "times_of" (s "minortables.fractions" 382) 206
def Tt:Obj:=tn ["some","told","fraction"] 435
def X7:Obj:=g (d 27) "all_sum"
def Tr:Obj:=c "all_sum" 432 70 1 3 208 true 181 209 (r 210) (r 211) (r 212) 438
def Tq:Obj:=u (d 27) "all_sum" (s "minortables.fractions" 382) 213
def X6:Obj:=g (d 28) "need_fraction_table"
def Tp:Obj:=c "need_fraction_table" 441 75 1 3 215 true 181 216 z z (r 217) 444
def Tn:Obj:=u (d 28) "need_fraction_table" (s "minortables.fractions" 382) 218
def Zi(P:Params):Obj:=og 51 51 (s "minortables.steps" 485) P
def UL:Obj:=⟨z,none,.fields (fv.take 114).toArray,#[]⟩
def X5:Obj:=g (d 29) "row_as_fractions"
def Tj:Obj:=c "row_as_fractions" 447 78 1 3 220 true 181 221 z z (r 222) 450
def Ti:Obj:=u (d 29) "row_as_fractions" (s "minortables.fractions" 382) 223
def X4:Obj:=g (d 30) "as_fractions"
def Tg:Obj:=c "as_fractions" 453 80 1 3 225 true 181 226 z z (r 227) 456
def Tf:Obj:=u (d 30) "as_fractions" (s "minortables.fractions" 382) 228
def X3:Obj:=g (d 32) "column_of"
def Te:Obj:=c "column_of" 461 84 2 3 230 true 181 231 z z (r 232) 464
def Td:Obj:=u (d 32) "column_of" (s "minortables.tables" 459) 233
def XS:Obj:=g (d 33) "columns_of"
def Tc:Obj:=c "columns_of" 467 86 1 3 235 true 181 236 z z (r 237) 470
def SX:Obj:=u (d 33) "columns_of" (s "minortables.tables" 459) 238
def XR:Obj:=g (d 34) "plain_row"
def SQ:Obj:=c "plain_row" 473 88 2 3 240 true 181 241 z z (r 242) 476
def SN:Obj:=u (d 34) "plain_row" (s "minortables.tables" 459) 243
def XQ:Obj:=g (d 35) "plain"
def SM:Obj:=c "plain" 479 90 1 3 245 true 181 246 z z (r 247) 482
def SJ:Obj:=u (d 35) "plain" (s "minortables.tables" 459) 248
def Sh:Obj:=tn ["many","word","place","share"] 496
def XM:Obj:=g (d 40) "is_step_of"
def Sg:Obj:=c "is_step_of" 493 97 4 3 250 true 181 251 (r 252) (r 253) (r 254) 500
def Sd:Obj:=u (d 40) "is_step_of" (s "minortables.steps" 485) 255
def R9:Obj:=tn ["many","thing"] 506
def XJ:Obj:=g (d 41) "is_step"
def R8:Obj:=c "is_step" 503 101 2 3 257 true 181 258 (r 259) (r 260) (r 261) 508
def R7:Obj:=u (d 41) "is_step" (s "minortables.steps" 485) 262
def XH:Obj:=g (d 42) "need_steps"
def R6:Obj:=c "need_steps" 511 105 2 3 264 true 181 265 z z (r 266) 514
def R5:Obj:=u (d 42) "need_steps" (s "minortables.steps" 485) 267
def XF:Obj:=g (d 43) "row_by_column"
def R4:Obj:=c "row_by_column" 517 110 2 3 269 true 181 270 z z (r 271) 520
def R3:Obj:=u (d 43) "row_by_column" (s "minortables.steps" 485) 272
def XD:Obj:=g (d 44) "row_by_columns"
def R0:Obj:=c "row_by_columns" 523 112 2 3 274 true 181 275 z z (r 276) 526
def RZ:Obj:=u (d 44) "row_by_columns" (s "minortables.steps" 485) 277
def XC:Obj:=g (d 45) "product_of"
def RX:Obj:=c "product_of" 529 114 2 3 279 true 181 280 z z (r 281) 532
def RW:Obj:=u (d 45) "product_of" (s "minortables.steps" 485) 282
def Xz:Obj:=g (d 46) "table_of_step"
def RV:Obj:=c "table_of_step" 535 121 4 3 284 true 181 285 z z (r 286) 538
def RT:Obj:=u (d 46) "table_of_step" (s "minortables.steps" 485) 287
def Q5(P:Params):Obj:=og 63 63 (s "law_minortables_k40_whole_ways" 658) P
def Lf:Obj:=⟨z,none,.fields (fv.take 150).toArray,#[]⟩
def RQ:Obj:=tn ["many","steps","made","word","place","share"] 544
def Xy:Obj:=g (d 47) "made_by"
def RP:Obj:=c "made_by" 541 127 2 3 289 true 181 290 (r 291) (r 292) (r 293) 550
def RN:Obj:=u (d 47) "made_by" (s "minortables.steps" 485) 294
def Xx:Obj:=g (d 49) "step_tables"
def RM:Obj:=c "step_tables" 555 134 2 3 296 true 181 297 z z (r 298) 558
def o300:=u (d 49) "step_tables" (s "minortables.nets" 553) 299
def RL:Obj:=tn ["behind","share","row","told","level","more"] 564
def Xw:Obj:=g (d 50) "with_one_more"
def RK:Obj:=c "with_one_more" 561 136 3 3 301 true 181 302 (r 303) (r 304) (r 305) 570
def RJ:Obj:=u (d 50) "with_one_more" (s "minortables.nets" 553) 306
def RG:Obj:=tn ["table","levels","told","level","longer","behind","share"] 576
def Xv:Obj:=g (d 51) "goings"
def RD:Obj:=c "goings" 573 142 2 3 308 true 181 309 (r 310) (r 311) (r 312) 583
def RB:Obj:=u (d 51) "goings" (s "minortables.nets" 553) 313
def Rz:Obj:=tn ["tables","some","told","table","longer","run","share","behind","more"] 589
def Xu:Obj:=g (d 52) "runs_from"
def Ry:Obj:=c "runs_from" 586 150 2 3 315 true 181 316 (r 317) (r 318) (r 319) 598
def Rx:Obj:=u (d 52) "runs_from" (s "minortables.nets" 553) 320
def Xr:Obj:=g (d 53) "runs_between"
def Rw:Obj:=c "runs_between" 601 159 4 3 322 true 181 323 z z (r 324) 604
def Rv:Obj:=u (d 53) "runs_between" (s "minortables.nets" 553) 325
def Ru:Obj:=tn ["tables","some","shares","table","later","levels","share","behind","more"] 610
def Xq:Obj:=g (d 54) "shares_from"
def Rt:Obj:=c "shares_from" 607 162 2 3 327 true 181 328 (r 329) (r 330) (r 331) 619
def Rr:Obj:=u (d 54) "shares_from" (s "minortables.nets" 553) 332
def Rq:Obj:=tn ["many","steps","some","others"] 625
def Xp:Obj:=g (d 55) "share_between"
def Rp:Obj:=c "share_between" 622 171 4 3 334 true 181 335 (r 336) (r 337) (r 338) 629
def Ro:Obj:=u (d 55) "share_between" (s "minortables.nets" 553) 339
def Rm:Obj:=tn ["many","steps","start","end"] 635
def Xo:Obj:=g (d 56) "need_levels"
def Rk:Obj:=c "need_levels" 632 173 4 3 341 true 181 342 (r 343) (r 344) (r 345) 639
def Rj:Obj:=u (d 56) "need_levels" (s "minortables.nets" 553) 346
def Xn:Obj:=g (d 57) "ways"
def Ri:Obj:=c "ways" 642 177 4 3 348 true 181 349 z z (r 350) 645
def Rh:Obj:=u (d 57) "ways" (s "minortables.nets" 553) 351
def Rg:Obj:=tn ["many","steps","start","end"] 651
def Xm:Obj:=g (d 58) "share_of_ways"
def Rf:Obj:=c "share_of_ways" 648 180 4 3 353 true 181 354 (r 355) (r 356) (r 357) 655
def Rc:Obj:=u (d 58) "share_of_ways" (s "minortables.nets" 553) 358
def Rb:Obj:=tn ["_law_script","_law_k"] 663
def Xl:Obj:=g (d 60) "_law_cell"
def Ra:Obj:=c "_law_cell" 660 184 2 3 360 true 181 361 (r 362) (r 363) (r 364) 665
def Q9:Obj:=u (d 60) "_law_cell" (s "law_minortables_k40_whole_ways" 658) 365
def Q0(P:Params):Obj:=og 76 76 (s "law_minortables_k40_whole_ways" 658) P
def Le:Obj:=⟨z,none,.fields (fv.take 189).toArray,#[]⟩
def Q8:Obj:=tn ["_law_script","_law_k","_law_many","_law_drawn"] 671
def Xk:Obj:=g (d 61) "_law_pick"
def Q7:Obj:=c "_law_pick" 668 190 3 3 367 true 181 368 (r 369) (r 370) (r 371) 675
def Q6:Obj:=u (d 61) "_law_pick" (s "law_minortables_k40_whole_ways" 658) 372
def Xj:Obj:=g (d 62) "_law_table"
def o377:=c "_law_table" 678 193 4 3 374 true 181 375 z z (r 376) 681
def Xi:Obj:=u (d 62) "_law_table" (s "law_minortables_k40_whole_ways" 658) 377
def Xh:Obj:=tn ["_law_script","_law_at"] 687
def Xg:Obj:=g (d 63) "_law_size"
def Xf:Obj:=c "_law_size" 684 199 2 3 379 true 181 380 (r 381) (r 382) (r 383) 689
def Xe:Obj:=u (d 63) "_law_size" (s "law_minortables_k40_whole_ways" 658) 384
def Xd:Obj:=tn ["_law_one","_law_other","_law_made_here","_law_row","_law_line","_law_column","_law_total","_law_k"] 695
def Xb:Obj:=g (d 64) "_law_times"
def Xa:Obj:=c "_law_times" 692 201 2 3 386 true 181 387 (r 388) (r 389) (r 390) 703
def W9:Obj:=u (d 64) "_law_times" (s "law_minortables_k40_whole_ways" 658) 391
def W8:Obj:=g (d 65) "_law_worth"
def W7:Obj:=c "_law_worth" 706 212 1 3 393 true 181 394 z z (r 395) 709
def W6:Obj:=u (d 65) "_law_worth" (s "law_minortables_k40_whole_ways" 658) 396
def o400:=g (d 66) "_law_some"
def W5:Obj:=c "_law_some" 712 222 2 3 398 true 181 399 z z (r 400) 715
def W4:Obj:=u (d 66) "_law_some" (s "law_minortables_k40_whole_ways" 658) 401
def W3:Obj:=g (d 67) "_law_part"
def W2:Obj:=c "_law_part" 718 230 3 3 403 true 181 404 z z (r 405) 721
def W0:Obj:=u (d 67) "_law_part" (s "law_minortables_k40_whole_ways" 658) 406
def WY:Obj:=tn ["_law_table_here","_law_made_here","_law_size_here","_law_some_here","_law_others"] 727
def WX:Obj:=g (d 68) "_law_minors"
def WW:Obj:=c "_law_minors" 724 232 1 3 408 true 181 409 (r 410) (r 411) (r 412) 732
def WT:Obj:=u (d 68) "_law_minors" (s "law_minortables_k40_whole_ways" 658) 413
def QZ:Obj:=tn ["_law_script","_law_at"] 738
def WR:Obj:=g (d 69) "_law_share"
def QX:Obj:=c "_law_share" 735 239 2 3 415 true 181 416 (r 417) (r 418) (r 419) 740
def QW:Obj:=u (d 69) "_law_share" (s "law_minortables_k40_whole_ways" 658) 420
def QV:Obj:=tn ["_law_script","_law_at","_law_many","_law_most","_law_made_here","_law_k","_law_base","_law_word_here","_law_share_here"] 746
def WQ:Obj:=g (d 70) "_law_steps"
def QT:Obj:=c "_law_steps" 743 241 4 3 422 true 181 423 (r 424) (r 425) (r 426) 755
def QS:Obj:=u (d 70) "_law_steps" (s "law_minortables_k40_whole_ways" 658) 427
def QM:Obj:=tn ["_law_up","_law_down","_law_one","_law_other"] 761
def WM:Obj:=g (d 71) "_law_lowest"
def QL:Obj:=c "_law_lowest" 758 252 2 3 429 true 181 430 (r 431) (r 432) (r 433) 765
def QK:Obj:=u (d 71) "_law_lowest" (s "law_minortables_k40_whole_ways" 658) 434
def QJ:Obj:=tn ["_law_some_here","_law_up","_law_down","_law_one"] 771
def WL:Obj:=g (d 72) "_law_sum"
def QH:Obj:=c "_law_sum" 768 257 1 3 436 true 181 437 (r 438) (r 439) (r 440) 775
def QG:Obj:=u (d 72) "_law_sum" (s "law_minortables_k40_whole_ways" 658) 441
def WK:Obj:=g (d 73) "_law_step_table"
def QF:Obj:=c "_law_step_table" 778 262 2 3 443 true 181 444 z z (r 445) 781
def QD:Obj:=u (d 73) "_law_step_table" (s "law_minortables_k40_whole_ways" 658) 446
def G4(P:Params):Obj:=og 82 82 (s "law_minortables_k40_whole_ways" 658) P
def Dk:Obj:=⟨z,none,.fields (fv.take 207).toArray,#[]⟩
def WD:Obj:=g (d 74) "_law_made"
def Wz:Obj:=c "_law_made" 784 269 2 3 448 true 181 449 z z (r 450) 787
def Wy:Obj:=u (d 74) "_law_made" (s "law_minortables_k40_whole_ways" 658) 451
def QC:Obj:=tn ["_law_kept","_law_kinds"] 793
def Wx:Obj:=g (d 75) "_law_word"
def QB:Obj:=c "_law_word" 790 282 1 3 453 true 181 454 (r 455) (r 456) (r 457) 795
def Qz:Obj:=u (d 75) "_law_word" (s "law_minortables_k40_whole_ways" 658) 458
def Qy:Obj:=tn ["_law_what","_law_many","_law_steps_here","_law_spot","_law_kept","_law_answer","e"] 801
def Ww:Obj:=g (d 76) "_law_do"
def Qx:Obj:=c "_law_do" 798 288 4 3 460 true 181 461 (r 462) (r 463) (r 464) 808
def Qw:Obj:=u (d 76) "_law_do" (s "law_minortables_k40_whole_ways" 658) 465
def Wv:Obj:=g (d 77) "_law_ways"
def Qv:Obj:=c "_law_ways" 811 298 3 3 467 true 181 468 z z (r 469) 814
def Qu:Obj:=u (d 77) "_law_ways" (s "law_minortables_k40_whole_ways" 658) 470
def Qt:Obj:=tn ["_law_some_here","_law_up","_law_down","_law_one"] 820
def Wu:Obj:=g (d 78) "_law_product"
def Qs:Obj:=c "_law_product" 817 308 1 3 472 true 181 473 (r 474) (r 475) (r 476) 824
def Qq:Obj:=u (d 78) "_law_product" (s "law_minortables_k40_whole_ways" 658) 477
def Wt:Obj:=g (d 79) "law"
def Qp:Obj:=c "law" 827 313 1 3 479 true 181 480 z z (r 481) 830
def Qo:Obj:=u (d 79) "law" (s "law_minortables_k40_whole_ways" 658) 482
def Ha(P:Params):Heap:=⟨⟨[boot_o_0 P,boot_o_1 P,boot_o_2 P,boot_o_3 P,boot_o_4 P,boot_o_5 P,boot_o_6 P,boot_o_7 P,boot_o_8 P,boot_o_9 P,boot_o_10 P,y,o12,o13,o14]⟩,{}⟩
def T0(P:Params):BT:=I .nil 0 [boot_o_0 P,boot_o_1 P,boot_o_2 P,boot_o_3 P,boot_o_4 P,boot_o_5 P,boot_o_6 P,boot_o_7 P,boot_o_8 P,boot_o_9 P,boot_o_10 P,y,o12,o13,o14]
def T1(P:Params):BT:=I (T0 P) 15 [o15,o16,o17 P,y,x,o20,o21,y,o23 P,o24,o25,o26,o27] |>.set 3 (fun _=>Zt P) |>.set 12 (fun _=>Vb)
def T2(P:Params):BT:=I (T1 P) 28 [o28,o29,o30 P,y,x,o33,o34,y,o36 P,o37,o38,o39] |>.set 3 (fun _=>Zr P) |>.set 12 (fun _=>Va) |>.set 24 (fun _=>Sy)
def T3(P:Params):BT:=I (T2 P) 40 [o40,o41,o42 P,y,x,o45,o46,y,o48 P,o49,o50,o51] |>.set 3 (fun _=>Zq P) |>.set 12 (fun _=>U9) |>.set 24 (fun _=>Sx)
def T4(P:Params):BT:=I (T3 P) 52 [o52,o53,o54 P,y,x,o57,o58,y,o60 P,o61,o62,o63] |>.set 3 (fun _=>Zo P) |>.set 12 (fun _=>U8) |>.set 24 (fun _=>Sw)
def T5(P:Params):BT:=I (T4 P) 64 [o64,o65,o66 P,y,x,o69,o70,y,o72 P,o73,o74,o75] |>.set 3 (fun _=>Zn P) |>.set 12 (fun _=>U7) |>.set 24 (fun _=>Sv)
def T6(P:Params):BT:=I (T5 P) 76 [o76,o77,o78 P,y,x,o81,o82,y,o84 P,o85,o86,o87] |>.set 3 (fun _=>Zm P) |>.set 12 (fun _=>U4) |>.set 24 (fun _=>Ss)
def T7(P:Params):BT:=I (T6 P) 88 [o88,o89,o90 P,y,x,o93,o94,y,o96 P,o97,o98,o99,y,x,Vn,y,Yp,Vm,Vl,y,x,Vk,y,o111,Vj,Vi,y,x,Vh,y,Yo,Vg,Vf,y,x,Yn,Ve,Vd,y,x,Vc,y,Ym,UJ,UG] |>.set 3 (fun _=>Zk P) |>.set 12 (fun _=>U3) |>.set 24 (fun _=>G5)
def T8(P:Params):BT:=I (T7 P) 133 [y,x,Yl,Uz,Uy,y,x,Ux,y,Yk,Uw,Uv,y,x,Uu,y,Yj,Ut,Us,y,x,Ur,y,Yi,Uq,Uo,y,x,Um,y,Yh,Ul,Uk,y,x,Uj,y,Yg,Ui,Uh,y,x,Ug,y,Ye,Ue,Ud,y,x,Uc,y,Yd,Ub,Ua,y,x,TY,y,Yc,TV,TQ,y,x,TJ,y,Yb,TF,o200,y,x,Tz,y,X8,Tw,Tv,y,x,Tt,y,X7,Tr,Tq,y,x,X6,Tp,Tn] |>.set 3 (fun _=>Zj P) |>.set 12 (fun _=>UW)
def T9(P:Params):BT:=I (T8 P) 220 [y,x,X5,Tj,Ti,y,x,X4,Tg,Tf,y,x,X3,Te,Td,y,x,XS,Tc,SX,y,x,XR,SQ,SN,y,x,XQ,SM,SJ,y,x,Sh,y,XM,Sg,Sd,y,x,R9,y,XJ,R8,R7,y,x,XH,R6,R5,y,x,XF,R4,R3,y,x,XD,R0,RZ,y,x,XC,RX,RW,y,x,Xz,RV,RT] |>.set 3 (fun _=>Zi P) |>.set 12 (fun _=>UL)
def T10(P:Params):BT:=I (T9 P) 289 [y,x,RQ,y,Xy,RP,RN,y,x,Xx,RM,o300,y,x,RL,y,Xw,RK,RJ,y,x,RG,y,Xv,RD,RB,y,x,Rz,y,Xu,Ry,Rx,y,x,Xr,Rw,Rv,y,x,Ru,y,Xq,Rt,Rr,y,x,Rq,y,Xp,Rp,Ro,y,x,Rm,y,Xo,Rk,Rj,y,x,Xn,Ri,Rh,y,x,Rg,y,Xm,Rf,Rc,y,x,Rb,y,Xl,Ra,Q9] |>.set 3 (fun _=>Q5 P) |>.set 12 (fun _=>Lf)
def T11(P:Params):BT:=I (T10 P) 367 [y,x,Q8,y,Xk,Q7,Q6,y,x,Xj,o377,Xi,y,x,Xh,y,Xg,Xf,Xe,y,x,Xd,y,Xb,Xa,W9,y,x,W8,W7,W6,y,x,o400,W5,W4,y,x,W3,W2,W0,y,x,WY,y,WX,WW,WT,y,x,QZ,y,WR,QX,QW,y,x,QV,y,WQ,QT,QS,y,x,QM,y,WM,QL,QK,y,x,QJ,y,WL,QH,QG,y,x,WK,QF,QD] |>.set 3 (fun _=>Q0 P) |>.set 12 (fun _=>Le)
def T12(P:Params):BT:=I (T11 P) 448 [y,x,WD,Wz,Wy,y,x,QC,y,Wx,QB,Qz,y,x,Qy,y,Ww,Qx,Qw,y,x,Wv,Qv,Qu,y,x,Qt,y,Wu,Qs,Qq,y,x,Wt,Qp,Qo] |>.set 3 (fun _=>G4 P) |>.set 12 (fun _=>Dk)
def H1(P:Params):Heap:=⟨⟨[boot_o_0 P,boot_o_1 P,boot_o_2 P,G4 P,boot_o_4 P,boot_o_5 P,boot_o_6 P,boot_o_7 P,boot_o_8 P,boot_o_9 P,boot_o_10 P,y,Dk,o13,o14,o15,o16,o17 P,y,x,o20,o21,y,o23 P,G5,o25,o26,o27,o28,o29,o30 P,y,x,o33,o34,y,o36 P,o37,o38,o39,o40,o41,o42 P,y,x,o45,o46,y,o48 P,o49,o50,o51,o52,o53,o54 P,y,x,o57,o58,y,o60 P,o61,o62,o63,o64,o65,o66 P,y,x,o69,o70,y,o72 P,o73,o74,o75,o76,o77,o78 P,y,x,o81,o82,y,o84 P,o85,o86,o87,o88,o89,o90 P,y,x,o93,o94,y,o96 P,o97,o98,o99,y,x,Vn,y,Yp,Vm,Vl,y,x,Vk,y,o111,Vj,Vi,y,x,Vh,y,Yo,Vg,Vf,y,x,Yn,Ve,Vd,y,x,Vc,y,Ym,UJ,UG,y,x,Yl,Uz,Uy,y,x,Ux,y,Yk,Uw,Uv,y,x,Uu,y,Yj,Ut,Us,y,x,Ur,y,Yi,Uq,Uo,y,x,Um,y,Yh,Ul,Uk,y,x,Uj,y,Yg,Ui,Uh,y,x,Ug,y,Ye,Ue,Ud,y,x,Uc,y,Yd,Ub,Ua,y,x,TY,y,Yc,TV,TQ,y,x,TJ,y,Yb,TF,o200,y,x,Tz,y,X8,Tw,Tv,y,x,Tt,y,X7,Tr,Tq,y,x,X6,Tp,Tn,y,x,X5,Tj,Ti,y,x,X4,Tg,Tf,y,x,X3,Te,Td,y,x,XS,Tc,SX,y,x,XR,SQ,SN,y,x,XQ,SM,SJ,y,x,Sh,y,XM,Sg,Sd,y,x,R9,y,XJ,R8,R7,y,x,XH,R6,R5,y,x,XF,R4,R3,y,x,XD,R0,RZ,y,x,XC,RX,RW,y,x,Xz,RV,RT,y,x,RQ,y,Xy,RP,RN,y,x,Xx,RM,o300,y,x,RL,y,Xw,RK,RJ,y,x,RG,y,Xv,RD,RB,y,x,Rz,y,Xu,Ry,Rx,y,x,Xr,Rw,Rv,y,x,Ru,y,Xq,Rt,Rr,y,x,Rq,y,Xp,Rp,Ro,y,x,Rm,y,Xo,Rk,Rj,y,x,Xn,Ri,Rh,y,x,Rg,y,Xm,Rf,Rc,y,x,Rb,y,Xl,Ra,Q9,y,x,Q8,y,Xk,Q7,Q6,y,x,Xj,o377,Xi,y,x,Xh,y,Xg,Xf,Xe,y,x,Xd,y,Xb,Xa,W9,y,x,W8,W7,W6,y,x,o400,W5,W4,y,x,W3,W2,W0,y,x,WY,y,WX,WW,WT,y,x,QZ,y,WR,QX,QW,y,x,QV,y,WQ,QT,QS,y,x,QM,y,WM,QL,QK,y,x,QJ,y,WL,QH,QG,y,x,WK,QF,QD,y,x,WD,Wz,Wy,y,x,QC,y,Wx,QB,Qz,y,x,Qy,y,Ww,Qx,Qw,y,x,Wv,Qv,Qu,y,x,Qt,y,Wu,Qs,Qq,y,x,Wt,Qp,Qo]⟩,{}⟩
def S0(w:World)(os:OsState):SharedT:=⟨T0 w.params,15,{},⟨[]⟩,{},187,os⟩
def S1(w:World)(os:OsState):SharedT:=⟨T1 w.params,28,{},⟨[]⟩,{},207,os⟩
def S2(w:World)(os:OsState):SharedT:=⟨T2 w.params,40,{},⟨[]⟩,{},223,os⟩
def S3(w:World)(os:OsState):SharedT:=⟨T3 w.params,52,{},⟨[]⟩,{},239,os⟩
def S4(w:World)(os:OsState):SharedT:=⟨T4 w.params,64,{},⟨[]⟩,{},255,os⟩
def S5(w:World)(os:OsState):SharedT:=⟨T5 w.params,76,{},⟨[]⟩,{},271,os⟩
def S6(w:World)(os:OsState):SharedT:=⟨T6 w.params,88,{},⟨[]⟩,{},287,os⟩
def S7(w:World)(os:OsState):SharedT:=⟨T7 w.params,133,{},⟨[]⟩,{},345,os⟩
def S8(w:World)(os:OsState):SharedT:=⟨T8 w.params,220,{},⟨[]⟩,{},447,os⟩
def S9(w:World)(os:OsState):SharedT:=⟨T9 w.params,289,{},⟨[]⟩,{},541,os⟩
def S10(w:World)(os:OsState):SharedT:=⟨T10 w.params,367,{},⟨[]⟩,{},668,os⟩
def S11(w:World)(os:OsState):SharedT:=⟨T11 w.params,448,{},⟨[]⟩,{},784,os⟩
def S12(w:World)(os:OsState):SharedT:=⟨T12 w.params,484,{},⟨[]⟩,{},833,os⟩
def S(w:World)(os:OsState):Shared:=⟨H1 w.params,⟨[]⟩,{},833,os⟩
def E:Env:={ scope:=p.main.scope,locals:=mainNs,globals:=mainNs,cells:=[],code:=(r 13),frame:=some 14 }
abbrev C:Code:=.body (behindTheImports p) E
abbrev B:List Frame:=[topFrame ⟨0,0,0,0⟩]
def l1:List Stmt:=((behindTheImports p).drop 0).take 2
def l2:List Stmt:=((behindTheImports p).drop 2).take 1
def l3:List Stmt:=((behindTheImports p).drop 3).take 1
def l4:List Stmt:=((behindTheImports p).drop 4).take 1
def l5:List Stmt:=((behindTheImports p).drop 5).take 1
def l6:List Stmt:=((behindTheImports p).drop 6).take 1
def l7:List Stmt:=((behindTheImports p).drop 7).take 8
def l8:List Stmt:=((behindTheImports p).drop 15).take 14
def l9:List Stmt:=((behindTheImports p).drop 29).take 18
def l10:List Stmt:=((behindTheImports p).drop 47).take 14
def l11:List Stmt:=((behindTheImports p).drop 61).take 13
def l12:List Stmt:=((behindTheImports p).drop 74).take 6
theorem pre(w:World)(os:OsState):topGo treeTable p w 11 (some (r 6)) 12 ⟨boot_heap w.params,Array.mk [],boot_drawn,boot_toks,os⟩ (topStub p)=some (⟨Ha w.params,⟨[]⟩,{},187,os⟩,⟨denote treeTable C,C,⟨0,0,0,0⟩,B⟩):=goT (by rfl')
theorem blk(w:World)(os:OsState):segRun treeTable p w 11 (some (r 6)) 1 1 ⟨Ha w.params,⟨[]⟩,{},187,os⟩ (blockOf (behindTheImports p) E C ⟨0,0,0,0⟩ B)=some (.next,(S0 w os).abs,C,⟨0,0,0,0⟩):=Zb (by rfl')
theorem p1(w:World)(os:OsState):segRun treeTable p w 11 (some (r 6)) 1 196 (S0 w os).abs (piecesOf l1 E C ⟨0,0,0,0⟩ B)=some (.next,(S1 w os).abs,C,⟨2,0,3,8⟩):=T5z (uV (by rfl'))
theorem p2(w:World)(os:OsState):segRun treeTable p w 11 (some (r 6)) 1 214 (S1 w os).abs (piecesOf l2 E C ⟨2,0,3,8⟩ B)=some (.next,(S2 w os).abs,C,⟨4,0,5,8⟩):=T5z (uV (by rfl'))
theorem p3(w:World)(os:OsState):segRun treeTable p w 11 (some (r 6)) 1 214 (S2 w os).abs (piecesOf l3 E C ⟨4,0,5,8⟩ B)=some (.next,(S3 w os).abs,C,⟨6,0,7,8⟩):=T5z (uV (by rfl'))
theorem p4(w:World)(os:OsState):segRun treeTable p w 11 (some (r 6)) 1 214 (S3 w os).abs (piecesOf l4 E C ⟨6,0,7,8⟩ B)=some (.next,(S4 w os).abs,C,⟨8,0,9,8⟩):=T5z (uV (by rfl'))
theorem p5(w:World)(os:OsState):segRun treeTable p w 11 (some (r 6)) 1 214 (S4 w os).abs (piecesOf l5 E C ⟨8,0,9,8⟩ B)=some (.next,(S5 w os).abs,C,⟨10,0,11,8⟩):=T5z (uV (by rfl'))
theorem p6(w:World)(os:OsState):segRun treeTable p w 11 (some (r 6)) 1 214 (S5 w os).abs (piecesOf l6 E C ⟨10,0,11,8⟩ B)=some (.next,(S6 w os).abs,C,⟨12,0,13,8⟩):=T5z (uV (by rfl'))
theorem p7(w:World)(os:OsState):segRun treeTable p w 11 (some (r 6)) 1 378 (S6 w os).abs (piecesOf l7 E C ⟨12,0,13,8⟩ B)=some (.next,(S7 w os).abs,C,⟨28,0,32,15⟩):=T5z (uV (by rfl'))
theorem p8(w:World)(os:OsState):segRun treeTable p w 11 (some (r 6)) 1 392 (S7 w os).abs (piecesOf l8 E C ⟨28,0,32,15⟩ B)=some (.next,(S8 w os).abs,C,⟨75,0,77,46⟩):=T5z (uV (by rfl'))
theorem p9(w:World)(os:OsState):segRun treeTable p w 11 (some (r 6)) 1 394 (S8 w os).abs (piecesOf l9 E C ⟨75,0,77,46⟩ B)=some (.next,(S9 w os).abs,C,⟨121,0,126,49⟩):=T5z (uV (by rfl'))
theorem p10(w:World)(os:OsState):segRun treeTable p w 11 (some (r 6)) 1 400 (S9 w os).abs (piecesOf l10 E C ⟨121,0,126,49⟩ B)=some (.next,(S10 w os).abs,C,⟨184,0,189,63⟩):=T5z (uV (by rfl'))
theorem p11(w:World)(os:OsState):segRun treeTable p w 11 (some (r 6)) 1 393 (S10 w os).abs (piecesOf l11 E C ⟨184,0,189,63⟩ B)=some (.next,(S11 w os).abs,C,⟨262,0,268,25⟩):=T5z (uV (by rfl'))
theorem p12(w:World)(os:OsState):segRun treeTable p w 11 (some (r 6)) 1 176 (S11 w os).abs (piecesOf l12 E C ⟨262,0,268,25⟩ B)=some (.next,(S12 w os).abs,C,⟨313,0,331,105⟩):=T5z (uV (by rfl'))
theorem fin(w:World)(os:OsState):topRun treeTable p w 11 (some (r 6)) 2 (S12 w os).abs ⟨doneF .next,C,⟨313,0,331,105⟩,B⟩=some (S w os):=YS (by rfl')
abbrev M:Nat:=(12+(1+(196+(214+(214+(214+(214+(214+(378+(392+(394+(400+(393+(176+2))))))))))))))
theorem lst:behindTheImports p=(l1++(l2++(l3++(l4++(l5++(l6++(l7++(l8++(l9++(l10++(l11++(l12++[])))))))))))):=by rfl'
theorem r12(w:World)(os:OsState):topRun treeTable p w 11 (some (r 6)) 2 (S12 w os).abs (restOf [] E C ⟨313,0,331,105⟩ B)=some (S w os):=fin w os
theorem r11(w:World)(os:OsState):topRun treeTable p w 11 (some (r 6)) (176+2) (S11 w os).abs (restOf (l12++[]) E C ⟨262,0,268,25⟩ B)=some (S w os):=U5z (p12 w os) (r12 w os)
theorem r10(w:World)(os:OsState):topRun treeTable p w 11 (some (r 6)) (393+(176+2)) (S10 w os).abs (restOf (l11++(l12++[])) E C ⟨184,0,189,63⟩ B)=some (S w os):=U5z (p11 w os) (r11 w os)
theorem r9(w:World)(os:OsState):topRun treeTable p w 11 (some (r 6)) (400+(393+(176+2))) (S9 w os).abs (restOf (l10++(l11++(l12++[]))) E C ⟨121,0,126,49⟩ B)=some (S w os):=U5z (p10 w os) (r10 w os)
theorem r8(w:World)(os:OsState):topRun treeTable p w 11 (some (r 6)) (394+(400+(393+(176+2)))) (S8 w os).abs (restOf (l9++(l10++(l11++(l12++[])))) E C ⟨75,0,77,46⟩ B)=some (S w os):=U5z (p9 w os) (r9 w os)
theorem r7(w:World)(os:OsState):topRun treeTable p w 11 (some (r 6)) (392+(394+(400+(393+(176+2))))) (S7 w os).abs (restOf (l8++(l9++(l10++(l11++(l12++[]))))) E C ⟨28,0,32,15⟩ B)=some (S w os):=U5z (p8 w os) (r8 w os)
theorem r6(w:World)(os:OsState):topRun treeTable p w 11 (some (r 6)) (378+(392+(394+(400+(393+(176+2)))))) (S6 w os).abs (restOf (l7++(l8++(l9++(l10++(l11++(l12++[])))))) E C ⟨12,0,13,8⟩ B)=some (S w os):=U5z (p7 w os) (r7 w os)
theorem r5(w:World)(os:OsState):topRun treeTable p w 11 (some (r 6)) (214+(378+(392+(394+(400+(393+(176+2))))))) (S5 w os).abs (restOf (l6++(l7++(l8++(l9++(l10++(l11++(l12++[]))))))) E C ⟨10,0,11,8⟩ B)=some (S w os):=U5z (p6 w os) (r6 w os)
theorem r4(w:World)(os:OsState):topRun treeTable p w 11 (some (r 6)) (214+(214+(378+(392+(394+(400+(393+(176+2)))))))) (S4 w os).abs (restOf (l5++(l6++(l7++(l8++(l9++(l10++(l11++(l12++[])))))))) E C ⟨8,0,9,8⟩ B)=some (S w os):=U5z (p5 w os) (r5 w os)
theorem r3(w:World)(os:OsState):topRun treeTable p w 11 (some (r 6)) (214+(214+(214+(378+(392+(394+(400+(393+(176+2))))))))) (S3 w os).abs (restOf (l4++(l5++(l6++(l7++(l8++(l9++(l10++(l11++(l12++[]))))))))) E C ⟨6,0,7,8⟩ B)=some (S w os):=U5z (p4 w os) (r4 w os)
theorem r2(w:World)(os:OsState):topRun treeTable p w 11 (some (r 6)) (214+(214+(214+(214+(378+(392+(394+(400+(393+(176+2)))))))))) (S2 w os).abs (restOf (l3++(l4++(l5++(l6++(l7++(l8++(l9++(l10++(l11++(l12++[])))))))))) E C ⟨4,0,5,8⟩ B)=some (S w os):=U5z (p3 w os) (r3 w os)
theorem r1(w:World)(os:OsState):topRun treeTable p w 11 (some (r 6)) (214+(214+(214+(214+(214+(378+(392+(394+(400+(393+(176+2))))))))))) (S1 w os).abs (restOf (l2++(l3++(l4++(l5++(l6++(l7++(l8++(l9++(l10++(l11++(l12++[]))))))))))) E C ⟨2,0,3,8⟩ B)=some (S w os):=U5z (p2 w os) (r2 w os)
theorem r0(w:World)(os:OsState):topRun treeTable p w 11 (some (r 6)) (196+(214+(214+(214+(214+(214+(378+(392+(394+(400+(393+(176+2)))))))))))) (S0 w os).abs (restOf (l1++(l2++(l3++(l4++(l5++(l6++(l7++(l8++(l9++(l10++(l11++(l12++[])))))))))))) E C ⟨0,0,0,0⟩ B)=some (S w os):=U5z (p1 w os) (r1 w os)
theorem run(w:World)(os:OsState):topRun treeTable p w 11 (some (r 6)) M ⟨boot_heap w.params,Array.mk [],boot_drawn,boot_toks,os⟩ (topStub p)=some (S w os):=go_top (pre w os) (piece_block (blk w os) (Pq lst (r0 w os)))
def K(P:Params):Frag:=[(2,boot_o_2 P),(3,G4 P),(15,o15),(22,y),(23,o23 P),(24,G5),(25,o25),(28,o28),(35,y),(36,o36 P),(37,o37),(40,o40),(47,y),(48,o48 P),(49,o49),(52,o52),(59,y),(60,o60 P),(61,o61),(64,o64),(71,y),(72,o72 P),(73,o73),(76,o76),(83,y),(84,o84 P),(85,o85),(88,o88),(95,y),(96,o96 P),(97,o97),(100,y),(102,Vn),(103,y),(105,Vm),(106,Vl),(107,y),(109,Vk),(110,y),(112,Vj),(113,Vi),(114,y),(116,Vh),(117,y),(119,Vg),(120,Vf),(121,y),(124,Ve),(125,Vd),(126,y),(128,Vc),(129,y),(131,UJ),(132,UG),(133,y),(136,Uz),(137,Uy),(138,y),(140,Ux),(141,y),(143,Uw),(144,Uv),(145,y),(147,Uu),(148,y),(150,Ut),(151,Us),(152,y),(154,Ur),(155,y),(157,Uq),(158,Uo),(159,y),(161,Um),(162,y),(164,Ul),(165,Uk),(166,y),(168,Uj),(169,y),(171,Ui),(172,Uh),(173,y),(175,Ug),(176,y),(178,Ue),(179,Ud),(180,y),(182,Uc),(183,y),(185,Ub),(186,Ua),(187,y),(189,TY),(190,y),(192,TV),(193,TQ),(194,y),(196,TJ),(197,y),(199,TF),(200,o200),(201,y),(203,Tz),(204,y),(206,Tw),(207,Tv),(208,y),(210,Tt),(211,y),(213,Tr),(214,Tq),(215,y),(218,Tp),(219,Tn),(220,y),(223,Tj),(224,Ti),(225,y),(228,Tg),(229,Tf),(230,y),(233,Te),(234,Td),(235,y),(238,Tc),(239,SX),(240,y),(243,SQ),(244,SN),(245,y),(248,SM),(249,SJ),(250,y),(252,Sh),(253,y),(255,Sg),(256,Sd),(257,y),(259,R9),(260,y),(262,R8),(263,R7),(264,y),(267,R6),(268,R5),(269,y),(272,R4),(273,R3),(274,y),(277,R0),(278,RZ),(279,y),(282,RX),(283,RW),(284,y),(287,RV),(288,RT),(289,y),(291,RQ),(292,y),(294,RP),(295,RN),(296,y),(299,RM),(300,o300),(301,y),(303,RL),(304,y),(306,RK),(307,RJ),(308,y),(310,RG),(311,y),(313,RD),(314,RB),(315,y),(317,Rz),(318,y),(320,Ry),(321,Rx),(322,y),(325,Rw),(326,Rv),(327,y),(329,Ru),(330,y),(332,Rt),(333,Rr),(334,y),(336,Rq),(337,y),(339,Rp),(340,Ro),(341,y),(343,Rm),(344,y),(346,Rk),(347,Rj),(348,y),(351,Ri),(352,Rh),(353,y),(355,Rg),(356,y),(358,Rf),(359,Rc),(360,y),(362,Rb),(363,y),(365,Ra),(366,Q9),(367,y),(369,Q8),(370,y),(372,Q7),(373,Q6),(415,y),(417,QZ),(418,y),(420,QX),(421,QW),(422,y),(424,QV),(425,y),(427,QT),(428,QS),(429,y),(431,QM),(432,y),(434,QL),(435,QK),(436,y),(438,QJ),(439,y),(441,QH),(442,QG),(443,y),(446,QF),(447,QD),(453,y),(455,QC),(456,y),(458,QB),(459,Qz),(460,y),(462,Qy),(463,y),(465,Qx),(466,Qw),(467,y),(470,Qv),(471,Qu),(472,y),(474,Qt),(475,y),(477,Qs),(478,Qq),(479,y),(482,Qp),(483,Qo)]
noncomputable abbrev as:List Addr:=[2,3,15,22,23,24,25,28,35,36,37,40,47,48,49,52,59,60,61,64,71,72,73,76,83,84,85,88,95,96,97,100,102,103,105,106,107,109,110,112,113,114,116,117,119,120,121,124,125,126,128,129,131,132,133,136,137,138,140,141,143,144,145,147,148,150,151,152,154,155,157,158,159,161,162,164,165,166,168,169,171,172,173,175,176,178,179,180,182,183,185,186,187,189,190,192,193,194,196,197,199,200,201,203,204,206,207,208,210,211,213,214,215,218,219,220,223,224,225,228,229,230,233,234,235,238,239,240,243,244,245,248,249,250,252,253,255,256,257,259,260,262,263,264,267,268,269,272,273,274,277,278,279,282,283,284,287,288,289,291,292,294,295,296,299,300,301,303,304,306,307,308,310,311,313,314,315,317,318,320,321,322,325,326,327,329,330,332,333,334,336,337,339,340,341,343,344,346,347,348,351,352,353,355,356,358,359,360,362,363,365,366,367,369,370,372,373,415,417,418,420,421,422,424,425,427,428,429,431,432,434,435,436,438,439,441,442,443,446,447,453,455,456,458,459,460,462,463,465,466,467,470,471,472,474,475,477,478,479,482,483]
abbrev m0:Nat:=11
abbrev tk:Nat:=833
abbrev ann:Option Value:=(some (r 6))
def Xt(s:Shared):Bool:=xlAt q [] s&&recOk PySem.Challenge.rw_minortables_k40_whole_ways.row.toRowW.records s
theorem lk0(w:World)(os:OsState):(staticsOk (importedModules p.main.body) (boot_heap w.params) (H1 w.params)&&namesBound p (H1 w.params)&&gensDone (S w os)&&laidKept (boot_heap w.params) (H1 w.params))=true:=by
 rw[Fast.te5923862056798008813];rfl'
theorem lk1(w:World)(os:OsState):PyProof.Rows.seen ((PyProof.Rows.recsOf q).map (·.name)) (PyProof.Rows.ownsOf q) [] { S w os with gens := #[] }=PyProof.Rows.expectedOf q:=by
 rw[Fast.te5160383126252970620,Fast.te3399658132070893891,Fast.te5991557255702980513];rfl'
theorem lk2(w:World)(os:OsState):(S w os).heap.bltView=bltViewBooted:=by rfl'
theorem lk3(w:World)(os:OsState):((S w os).heap.keysOk (looseW q lo) ((PyProof.Rows.recsOf q).map (·.name)) ((PyProof.Rows.litsOf q).map (·.1)) ((PyProof.Rows.clssOf q (looseW q lo)).map (·.name))&&(S w os).heap.accountedOkI (importedModules p.main.body)&&(S w os).heap.isNs mainGlobals&&(S w os).heap.isNs builtinsNs&&PyProof.Rows.tablesOk q (S w os).heap&&Xt (S w os)&&(if true then(S w os).gens.size==0 else !leftWithCleanup (S w os).gens))=true:=by
 rw[Fast.te10880121769531294198,Fast.te821141287760084731,Fast.te3399658132070893891,Fast.te7409074990110511671,Fast.te13664370479719496447,Fast.te14722251495701143533,Fast.te5923862056798008813];rfl'
theorem lk4(w:World)(os:OsState):PyProof.Rows.tabsOk q (S w os)=true:=by rw[Fast.te479339242167458305];rfl'
theorem lk5(w:World)(os:OsState):pinSeenD q (PyProof.Rows.drecsOf q) (S w os)=pinGoodD (PyProof.Rows.drecsOf q):=by rw[Fast.te16090120013241838585,Fast.te3247288618530077131];rfl'
theorem lk6(w:World)(os:OsState):PyProof.Rows.plainSeenE q (looseW q lo) (S w os)=PyProof.Rows.plainGoodE q (looseW q lo):=by rw[Fast.te2386780881361962483,Fast.te821141287760084731];rfl'
theorem lk7(w:World)(os:OsState):PyProof.Rows.plainSeenD q lo (S w os)=PyProof.Rows.plainGoodD q lo:=by rw[Fast.te11698064438423848299];rfl'
theorem lk8(w:World)(os:OsState):wideSeen q (S w os)=wideGood q:=by rw[Fast.te7317090234206586261];rfl'
theorem lk9(w:World)(os:OsState):clsSeenW q lo (S w os)=clsGoodW q lo:=by rw[Fast.te7369524293546568484];rfl'
theorem asK(P:Params):as=(K P).map (·.1):=by rfl'
abbrev H:Hook:=kHook K as asK
theorem lkY(w:World)(os:OsState):H.obs (S w os)=H.val w:=by rfl'
theorem looks(w:World):(fun os=>((staticsOk (importedModules p.main.body) (boot_heap w.params) (H1 w.params)&&namesBound p (H1 w.params)&&gensDone (S w os)&&laidKept (boot_heap w.params) (H1 w.params)),openSeen q lo (importedModules p.main.body) Xt true (S w os),H.obs (S w os)))=fun _=>(true,openGood q lo,H.val w) :=
 funext fun os=>S5z (lk0 w os) (S5z (S5z (lk1 w os) (S5z (lk2 w os) (S5z (lk3 w os) (S5z (lk4 w os) (S5z (lk5 w os) (S5z (lk6 w os) (S5z (lk7 w os) (S5z (lk8 w os) (lk9 w os))))))))) (lkY w os))
theorem size(w:World):((boot_heap w.params).isNs mainGlobals&&(Array.mk ([]:List GenState)).size==0,(boot_heap w.params).objs.size,(boot_heap w.params).nsMap mainGlobals "__annotations__")=(true,m0,ann):=by
 rw[Fast.te8920871248978507458];rfl'
theorem bt(w:World):(fencedOpening treeTable p w N).map (fun s=>(s.heap,s.gens,s.drawn,s.toks))=some (boot_heap w.params,Array.mk [],boot_drawn,boot_toks) :=
 boot_open (p:=p) (N:=N) (by rfl') (by rfl') (fun _=>rfl) w
theorem left:LeftO p q lo Xt H.obs H.val N :=
 LeftO.of_pieces (H₀:=boot_heap) (H₁:=H1) (m₀:=m0) (ann:=ann) (M:=M) (gs₀:=Array.mk []) (gs₁:=⟨[]⟩) (d₀:=boot_drawn) (d₁:={}) (k₀:=boot_toks) (k₁:=tk) bt size run (by rfl') looks
abbrev R:OpenLaw:=PySem.Challenge.rw_minortables_k40_whole_ways
theorem said:R.wellSaid=true:=by rw[Fast.te9446332074065402090];rfl'
def dr:DefRec:=match d 79 with | .FunctionDef n a l _ _ _ sc _ _ o=>⟨n,a,l,sc,o⟩ | _=>⟨"",default,[],default,⟨0,0,0,0⟩⟩
theorem hdef:defOf q R.row.name=some (dr,[]):=by rfl'
theorem hthe:R.row.prog.theDef R.row.name=some (dr.params,dr.body,dr.scope):=by rfl'
theorem hkw:kwWritten? dr.params.kwonlyargs dr.params.kw_defaults=some []:=by rfl'
theorem hok:(chainsOk q&&opensWell R.row.prog&&(frees R.row.toRowW&&R.row.within.isEmpty))=true:=by rfl'
theorem hbare:R.row.prog.bare:=⟨rfl,rfl,rfl,rfl,rfl,by rfl'⟩
theorem ZJ:R.row.toRowW.promised:=⟨[.list []],by rfl',by rfl'⟩
theorem holds(call:WalkO q lo (XL q []) H.says R.row.toRowW dr [] fun f vs=>PySem.call f vs):R.Holds :=
 holds_law said fun k1=>holds_open (r:=R.row) (q:=q) (loose:=lo) (Xt:=Xt) (XP:=XL q []) (Yf:=H.obs) (Ya:=H.val) (YP:=H.says) (N:=N) left H.of H.keeps (fun s e=>xl_of s (Bool.and_eq_true_iff.mp e).1) XL.keeps hdef hthe hkw (fun s e=>recFacts_of (Bool.and_eq_true_iff.mp e).2) rfl k1 hok hbare ZJ call
end H40
end
namespace M40
open PySem PySem.W L2 DE
set_option maxHeartbeats 0 in
theorem txt(w:World){mg:Str->Option Value}{h:Heap}(X:(H40.K w.params).In h)(G:h.Ns mainGlobals mg):Text w (H40.K w.params) mg T :=
  ⟨in_of (l:=cs) (Q:=fun(x:Str) (d:D)=>∃ v u,(∀ H',Rep (H40.K w.params) H' d v)/\mg x=some u/\RelV v u) (aC (cA X G 305 (by rfl')) (aC (cS X G 487 (by rfl')) (aC (cS X G 489 (by rfl')) (aC (cS X G 491 (by rfl')) (aN))))),
    in_of (l:=bl) (Q:=fun x b=>mg x=none/\x=Str.ofString b) (aC (bA X G (by rfl') rfl) (aC (bA X G (by rfl') rfl) (aC (bA X G (by rfl') rfl) (aC (bA X G (by rfl') rfl) (aC (bA X G (by rfl') rfl) (aC (bA X G (by rfl') rfl) (aC (bA X G (by rfl') rfl) (aC (bA X G (by rfl') rfl) (aC (bA X G (by rfl') rfl) (aC (bA X G (by rfl') rfl) (aC (bA X G (by rfl') rfl) (aC (bA X G (by rfl') rfl) (aC (bA X G (by rfl') rfl) (aN)))))))))))))),
    in_of (l:=df) (Q:=fun x fd=>FunAt (H40.K w.params) mg x fd) (
     aC (aQ X G 106 .none (.str "minortables.checks" 303) (.ref 105) b10 (by rfl') (by rfl') (by rfl')) (
     aC (aQ X G 113 .none (.str "minortables.checks" 303) (.ref 112) b11 (by rfl') (by rfl') (by rfl')) (
     aC (aQ X G 120 .none (.str "minortables.checks" 303) (.ref 119) b12 (by rfl') (by rfl') (by rfl')) (
     aC (aQ X G 125 .none (.str "minortables.checks" 303) (.ref 124) b13 (by rfl') (by rfl') (by rfl')) (
     aC (aQ X G 132 .none (.str "minortables.checks" 303) (.ref 131) b14 (by rfl') (by rfl') (by rfl')) (
     aC (aQ X G 137 .none (.str "minortables.checks" 303) (.ref 136) b15 (by rfl') (by rfl') (by rfl')) (
     aC (aQ X G 144 .none (.str "minortables.checks" 303) (.ref 143) b16 (by rfl') (by rfl') (by rfl')) (
     aC (aQ X G 151 .none (.str "minortables.checks" 303) (.ref 150) b17 (by rfl') (by rfl') (by rfl')) (
     aC (aQ X G 158 .none (.str "minortables.checks" 303) (.ref 157) b18 (by rfl') (by rfl') (by rfl')) (
     aC (aQ X G 165 .none (.str "minortables.checks" 303) (.ref 164) b19 (by rfl') (by rfl') (by rfl')) (
     aC (aQ X G 172 .none (.str "minortables.fractions" 382) (.ref 171) b21 (by rfl') (by rfl') (by rfl')) (
     aC (aQ X G 179 .none (.str "minortables.fractions" 382) (.ref 178) b22 (by rfl') (by rfl') (by rfl')) (
     aC (aQ X G 186 .none (.str "minortables.fractions" 382) (.ref 185) b23 (by rfl') (by rfl') (by rfl')) (
     aC (aQ X G 193 .none (.str "minortables.fractions" 382) (.ref 192) b24 (by rfl') (by rfl') (by rfl')) (
     aC (aQ X G 200 .none (.str "minortables.fractions" 382) (.ref 199) b25 (by rfl') (by rfl') (by rfl')) (
     aC (aQ X G 207 .none (.str "minortables.fractions" 382) (.ref 206) b26 (by rfl') (by rfl') (by rfl')) (
     aC (aQ X G 214 .none (.str "minortables.fractions" 382) (.ref 213) b27 (by rfl') (by rfl') (by rfl')) (
     aC (aQ X G 219 .none (.str "minortables.fractions" 382) (.ref 218) b28 (by rfl') (by rfl') (by rfl')) (
     aC (aQ X G 224 .none (.str "minortables.fractions" 382) (.ref 223) b29 (by rfl') (by rfl') (by rfl')) (
     aC (aQ X G 229 .none (.str "minortables.fractions" 382) (.ref 228) b30 (by rfl') (by rfl') (by rfl')) (
     aC (aQ X G 234 .none (.str "minortables.tables" 459) (.ref 233) b32 (by rfl') (by rfl') (by rfl')) (
     aC (aQ X G 239 .none (.str "minortables.tables" 459) (.ref 238) b33 (by rfl') (by rfl') (by rfl')) (
     aC (aQ X G 244 .none (.str "minortables.tables" 459) (.ref 243) b34 (by rfl') (by rfl') (by rfl')) (
     aC (aQ X G 249 .none (.str "minortables.tables" 459) (.ref 248) b35 (by rfl') (by rfl') (by rfl')) (
     aC (aQ X G 256 .none (.str "minortables.steps" 485) (.ref 255) b40 (by rfl') (by rfl') (by rfl')) (
     aC (aQ X G 263 .none (.str "minortables.steps" 485) (.ref 262) b41 (by rfl') (by rfl') (by rfl')) (
     aC (aQ X G 268 .none (.str "minortables.steps" 485) (.ref 267) b42 (by rfl') (by rfl') (by rfl')) (
     aC (aQ X G 273 .none (.str "minortables.steps" 485) (.ref 272) b43 (by rfl') (by rfl') (by rfl')) (
     aC (aQ X G 278 .none (.str "minortables.steps" 485) (.ref 277) b44 (by rfl') (by rfl') (by rfl')) (
     aC (aQ X G 283 .none (.str "minortables.steps" 485) (.ref 282) b45 (by rfl') (by rfl') (by rfl')) (
     aC (aQ X G 288 .none (.str "minortables.steps" 485) (.ref 287) b46 (by rfl') (by rfl') (by rfl')) (
     aC (aQ X G 295 .none (.str "minortables.steps" 485) (.ref 294) b47 (by rfl') (by rfl') (by rfl')) (
     aC (aQ X G 300 .none (.str "minortables.nets" 553) (.ref 299) b49 (by rfl') (by rfl') (by rfl')) (
     aC (aQ X G 307 .none (.str "minortables.nets" 553) (.ref 306) b50 (by rfl') (by rfl') (by rfl')) (
     aC (aQ X G 314 .none (.str "minortables.nets" 553) (.ref 313) b51 (by rfl') (by rfl') (by rfl')) (
     aC (aQ X G 321 .none (.str "minortables.nets" 553) (.ref 320) b52 (by rfl') (by rfl') (by rfl')) (
     aC (aQ X G 326 .none (.str "minortables.nets" 553) (.ref 325) b53 (by rfl') (by rfl') (by rfl')) (
     aC (aQ X G 333 .none (.str "minortables.nets" 553) (.ref 332) b54 (by rfl') (by rfl') (by rfl')) (
     aC (aQ X G 340 .none (.str "minortables.nets" 553) (.ref 339) b55 (by rfl') (by rfl') (by rfl')) (
     aC (aQ X G 347 .none (.str "minortables.nets" 553) (.ref 346) b56 (by rfl') (by rfl') (by rfl')) (
     aC (aQ X G 352 .none (.str "minortables.nets" 553) (.ref 351) b57 (by rfl') (by rfl') (by rfl')) (
     aC (aQ X G 359 .none (.str "minortables.nets" 553) (.ref 358) b58 (by rfl') (by rfl') (by rfl')) (
     aC (aQ X G 366 .none (.str "law_minortables_k40_whole_ways" 658) (.ref 365) b60 (by rfl') (by rfl') (by rfl')) (
     aC (aQ X G 373 .none (.str "law_minortables_k40_whole_ways" 658) (.ref 372) b61 (by rfl') (by rfl') (by rfl')) (
     aC (aQ X G 421 .none (.str "law_minortables_k40_whole_ways" 658) (.ref 420) b69 (by rfl') (by rfl') (by rfl')) (
     aC (aQ X G 428 .none (.str "law_minortables_k40_whole_ways" 658) (.ref 427) b70 (by rfl') (by rfl') (by rfl')) (
     aC (aQ X G 435 .none (.str "law_minortables_k40_whole_ways" 658) (.ref 434) b71 (by rfl') (by rfl') (by rfl')) (
     aC (aQ X G 442 .none (.str "law_minortables_k40_whole_ways" 658) (.ref 441) b72 (by rfl') (by rfl') (by rfl')) (
     aC (aQ X G 447 .none (.str "law_minortables_k40_whole_ways" 658) (.ref 446) b73 (by rfl') (by rfl') (by rfl')) (
     aC (aQ X G 459 .none (.str "law_minortables_k40_whole_ways" 658) (.ref 458) b75 (by rfl') (by rfl') (by rfl')) (
     aC (aQ X G 466 .none (.str "law_minortables_k40_whole_ways" 658) (.ref 465) b76 (by rfl') (by rfl') (by rfl')) (
     aC (aQ X G 471 .none (.str "law_minortables_k40_whole_ways" 658) (.ref 470) b77 (by rfl') (by rfl') (by rfl')) (
     aC (aQ X G 478 .none (.str "law_minortables_k40_whole_ways" 658) (.ref 477) b78 (by rfl') (by rfl') (by rfl')) (
     aC (aQ X G 483 .none (.str "law_minortables_k40_whole_ways" 658) (.ref 482) b79 (by rfl') (by rfl') (by rfl')) (
     aN))))))))))))))))))))))))))))))))))))))))))))))))))))))),XText.of (fun x v h=>S4z X G h) (by rfl'),by show List.map _ _=List.map _ _;rfl'⟩
end M40
open PySem PySem.W PyProof.Rows
set_option maxRecDepth 100000 in
set_option maxHeartbeats 0 in
theorem PySem.Challenge.cw_minortables_k40_whole_ways_holds : PySem.Challenge.rw_minortables_k40_whole_ways.Holds :=
 H40.holds (M40.walk (l := PySem.Challenge.rw_minortables_k40_whole_ways) (K := H40.K) rfl (by rfl') (fun w h Y => PySem.W.kIn_of (e := H40.asK) Y) fun w mg fa h KX G hmg => M40.fin M40.law_true (M40.txt w KX G) KX G hmg 483 .none (.str "law_minortables_k40_whole_ways" 658) (.ref 482) (by rfl') (by rfl') (by rfl') (by rfl'))
#print axioms PySem.Challenge.cw_minortables_k40_whole_ways_holds
