import PyProof.Rows.All
import Wide.All
import OpenK.AllK
import Wide.FinOn
import Lean
import PyProof.EqAt
import PyProof.EqKinds
import PyProof.TupleCall
import PyProof.ListRange
import PySem.Names
import PyProof.NeKinds
import PySem.Challenge.RW_minortables_k32_whole_taken_apart
set_option Elab.async false
set_option linter.all false
set_option maxRecDepth 100000
noncomputable section
namespace Zz
abbrev Z3:=PySem.W.Frag
open PySem
def A0z:=@PyProof.Rows.slot_tuple_getitem
def B0z:=@PyProof.Rows.callWith_type1
def C0z:=@PySem.W.Fast.te14364793385576792824
def D0z:=@List.drop_eq_getElem_cons
def E0z:=@PySem.F.args_tuple_add_2
def F0z:=@PySem.AutoSeq1.wpAny_loadPart'
def G0z:=@PySem.F.entry_tuple_add
def H0z:=@PySem.F.plainAttrs_list
def I0z:=@Nat.le_mul_of_pos_right
def J0z:=@PySem.W.cellsFrom_some
def K0z:=@PySem.F.slot_tuple_add
def L0z:=@Option.map_eq_some_iff
def M0z:=@Nat.le_mul_of_pos_left
def N0z:=@List.filter_eq_nil_iff
def O0z:=@List.mem_append_right
def P0z:=@PySem.F.typeOf_object_class
def Q0z:=@List.mem_cons_of_mem
def R0z:=@List.mem_append_left
def S0z:=@PySem.W.looks_findIn
def T0z:=@List.getElem_toArray
def U0z:=@Bool.or_eq_false_iff
def V0z:=@Nat.mul_le_mul_right
def W0z:=@List.filterMap_cons
def X0z:=@Array.length_toList
def Y0z:=@PySem.mem_of_lookup
def Z0z:=@List.replicate_succ
def A1z:=@beq_eq_false_iff_ne
def B1z:=@List.length_reverse
def C1z:=@List.map_congr_left
def D1z:=@Nat.mul_le_mul_left
def E1z:=@Nat.lt_of_lt_of_le
def F1z:=@List.mem_cons_self
def G1z:=@Bool.false_ne_true
def H1z:=@PySem.wpAny_pyIter_tuple
def I1z:=@PySem.Calls.spliced_cons
def J1z:=@PySem.wpAny_Call_Name_kw
def K1z:=@List.length_append
def L1z:=@Bool.false_eq_true
def M1z:=@PySem.wpAny_setField_rec
def N1z:=@Nat.lt_of_le_of_lt
def O1z:=@Nat.eq_zero_or_pos
def P1z:=@PySem.wpAny_truthy_bool
def Q1z:=@PySem.wpAny_newObj_type
def R1z:=@List.size_toArray
def S1z:=@List.flatten_cons
def T1z:=@List.append_assoc
def U1z:=@Nat.lt_succ_of_lt
def V1z:=@Nat.le_of_succ_le
def W1z:=@decide_eq_true_eq
def X1z:=@Bool.not_eq_true'
def Y1z:=@Option.some.injEq
def Z1z:=@List.all_eq_false
def A2z:=@List.length_take
def B2z:=@List.length_drop
def C2z:=@PySem.wpAny_call_entry
def D2z:=@Bool.and_eq_true
def E2z:=@List.lookup_cons
def F2z:=@Nat.lt_succ_self
def G2z:=@beq_self_eq_true
def H2z:=@Nat.le_add_right
def I2z:=@List.length_cons
def J2z:=@Option.bind_some
def K2z:=@List.any_toArray
def L2z:=@List.filter_cons
def M2z:=@List.all_eq_true
def N2z:=@Option.bind_none
def O2z:=@decide_eq_false
def P2z:=@Option.some.inj
def Q2z:=@PySem.wpAny_execs_nil
def R2z:=@PySem.wpAny_passesOwn
def S2z:=@List.append_nil
def T2z:=@List.of_mem_zip
def U2z:=@List.length_map
def V2z:=@List.length_set
def W2z:=@List.nodup_cons
def X2z:=@Option.map_some
def Y2z:=@PySem.pushCells_keeps
def Z2z:=@Bool.or_eq_true
def A3z:=@PySem.W.kia_one
def B3z:=@List.length_zip
def C3z:=@List.map_append
def D3z:=@List.mem_append
def E3z:=@Option.map_none
def F3z:=@Rat.intCast_mul
def G3z:=@Rat.intCast_add
def H3z:=@Rat.intCast_sub
def I3z:=@Int.emod_nonneg
def J3z:=@Int.mul_ne_zero
def K3z:=@Bool.false_and
def L3z:=@decide_eq_true
def M3z:=@PySem.Heap.size_push
def N3z:=@PySem.wpAny_seqItems
def O3z:=@Bool.and_false
def P3z:=@Int.natAbs_mul
def Q3z:=@Int.natAbs_neg
def R3z:=@Nat.mul_le_mul
def S3z:=@Rat.mul_nonneg
def T3z:=@Nat.lt_irrefl
def U3z:=@PySem.wpAny_holding
def V3z:=@PySem.wpAny_standAt
def W3z:=@List.map_cons
def X3z:=@Bool.and_self
def Y3z:=@List.all_cons
def Z3z:=@List.any_cons
def A4z:=@Bool.true_and
def B4z:=@PySem.W.mg_of
def C4z:=@Bool.and_true
def D4z:=@PySem.Heap.lt_size
def E4z:=@Nat.ne_of_lt
def F4z:=@Nat.le_trans
def G4z:=@Nat.ne_of_gt
def H4z:=@PySem.codeAny_mono
def I4z:=@List.map_nil
def J4z:=@Nat.succ_mul
def K4z:=@Nat.le_of_eq
def L4z:=@Nat.mul_comm
def M4z:=@List.map_map
def N4z:=@Rat.le_of_lt
def O4z:=@Nat.zero_add
def P4z:=@Classical.em
def Q4z:=@Nat.le_refl
def R4z:=@PySem.wpAny_field
def S4z:=@Nat.zero_le
def T4z:=@List.map_id
def U4z:=@Nat.mul_pos
def V4z:=@Rat.mul_pos
def W4z:=@Rat.div_def
def X4z:=@PySem.wpAny_mono
def Y4z:=@PySem.wpAny_bind
def Z4z:=@PySem.wpAny_pure
def A5z:=@PySem.wpAny_rule
def B5z:=@PySem.call_meets
def C5z:=@beq_iff_eq
def D5z:=@bne_iff_ne
def E5z:=@PySem.W.looks_pair
def F5z:=@PySem.W.segRun_of
def G5z:=@PySem.W.piece_app
def H5z:=@if_false
def I5z:=@Ne.symm
def J5z:=@if_true
def K5z:=@if_pos
def L5z:=@if_neg
end Zz
open Zz
local macro_rules|`(tactic|rfl')=>`(tactic|kernel_rfl)
namespace L2
open PySem PySem.Spec PyProof.Rows
abbrev Key:=Sum Int Str
def u9:Key->Value->Bool
 | .inl k,v=>Value.isInt k v
 | .inr x,v=>Value.isStrOf x v
def keyH(w:World):Key->Int
 | .inl k=>hashInt k
 | .inr x=>hashStr w x
theorem bQ:∀ {k:Key} {v:Value},u9 k v=true->(∃ i t,k=Sum.inl i/\v=Value.int i t)\/(∃ x t,k=Sum.inr x/\v=Value.str x t)
 | .inl i,v,h=>by
  obtain⟨t,e⟩:=Value.isInt_shape (k:=i) (v:=v) h;exact .inl ⟨i,t,rfl,e⟩
 | .inr x,v,h=>by
  obtain⟨t,e⟩:=Value.isStrOf_shape (x:=x) (v:=v) h;exact .inr ⟨x,t,rfl,e⟩
theorem yp(i:Int)(t:Tok):u9 (.inl i) (.int i t)=true:=by simp[u9,Value.isInt]
theorem yj(x:Str)(t:Tok):u9 (.inr x) (.str x t)=true:=by simp[u9,Value.isStrOf]
theorem Nf(a b:Int):decide ((Sum.inl a:Key)=Sum.inl b)=(a==b):=by
 by_cases e:a=b
 ·subst e;simp
 ·have h:¬ (Sum.inl a:Key)=Sum.inl b:=fun q=>e (Sum.inl.inj q)
  rw[O2z h];exact(A1z.mpr e).symm
theorem M8(a b:Str):decide ((Sum.inr a:Key)=Sum.inr b)=decide (a=b):=by
 by_cases e:a=b
 ·subst e;simp
 ·have h:¬ (Sum.inr a:Key)=Sum.inr b:=fun q=>e (Sum.inr.inj q)
  rw[O2z h,O2z e]
theorem Nb(a:Int)(b:Str):decide ((Sum.inl a:Key)=Sum.inr b)=false:=O2z (fun q=>nomatch q)
theorem M9(a:Str)(b:Int):decide ((Sum.inr a:Key)=Sum.inl b)=false:=O2z (fun q=>nomatch q)
def dW(prog:Program)(w:World):PySem.KeyKind prog w Key where
 is:=u9
 hash:=keyH w
 inj:=fun v a b ha hb=>by
  rcases bQ ha with⟨i,t,rfl,rfl⟩ | ⟨x,t,rfl,rfl⟩
  ·rcases bQ hb with⟨j,u,rfl,e⟩ | ⟨y,u,rfl,e⟩
   ·injection e with e1 _;rw[e1]
   ·exact nomatch e
  ·rcases bQ hb with⟨j,u,rfl,e⟩ | ⟨y,u,rfl,e⟩
   ·exact nomatch e
   ·injection e with e1 _;rw[e1]
 byValue:=fun k v h=>by
  rcases bQ h with⟨i,t,rfl,rfl⟩ | ⟨x,t,rfl,rfl⟩<;>rfl
 pyHash:=fun hv h=>by
  rcases bQ hv with⟨i,t,rfl,rfl⟩ | ⟨x,t,rfl,rfl⟩
  ·exact wpAny_pyHash_int h
  ·exact wpAny_pyHash_str h
 eqBool:=fun hu hv h=>by
  rcases bQ hu with⟨i,t,rfl,rfl⟩ | ⟨x,t,rfl,rfl⟩
  ·rcases bQ hv with⟨j,u,rfl,rfl⟩ | ⟨y,u,rfl,rfl⟩
   ·rw[Nf] at h;exact wpAny_eqBool_int h
   ·rw[Nb] at h;exact SeqAt.EqAt.int_str i t y u _ _ _ _ h
  ·rcases bQ hv with⟨j,u,rfl,rfl⟩ | ⟨y,u,rfl,rfl⟩
   ·rw[M9] at h;exact SeqAt.EqAt.str_int x t j u _ _ _ _ h
   ·rw[M8] at h;exact wpAny_eqBool_str h
 «strs» :=fun k x t v h=>by
  rcases bQ h with⟨i,u,rfl,e⟩ | ⟨y,u,rfl,e⟩
  ·exact nomatch e
  ·injection e with e1 _
   subst e1
   cases v<;>rfl
theorem qZ(prog:Program)(w:World)(i:Int)(t:Tok):(dW prog w).is (.inl i) (.int i t)=true:=yp i t
theorem qY(prog:Program)(w:World)(x:Str)(t:Tok):(dW prog w).is (.inr x) (.str x t)=true:=yj x t
inductive V where
 | non | bl (b:Bool) | int (i:Int) | str (x:Str) | byt (b:Array UInt8) | flt (b:UInt64) | ref (a:Addr) | ty (n:String)
 deriving DecidableEq
def RelV:V->Value->Prop
 | .non,u=>u=Value.none
 | .bl b,u=>u=Value.bool b
 | .int i,u=>∃ t,u=Value.int i t
 | .str x,u=>∃ t,u=Value.str x t
 | .byt b,u=>∃ t,u=Value.bytes b t
 | .flt b,u=>∃ t,u=Value.float b t
 | .ref a,u=>u=Value.ref a
 | .ty n,u=>u=Value.type n
abbrev Vals:List V->List Value->Prop:=Paired RelV
theorem Vals.length{xs:List V}(r:Vals xs us):xs.length=us.length:=Paired.length r
theorem Vals.get:∀ {xs:List V} {us:List Value} {i:Nat} {x:V},Vals xs us->xs[i]?=some x->∃ u,us[i]?=some u/\RelV x u
 | _,_,_,_,.nil,e=>by simp at e
 | _,_,0,_,.cons r _,e=>by simp at e;subst e;exact⟨_,rfl,r⟩
 | _,_,i+1,x,.cons _ t,e=>by
  obtain⟨u,h1,h2⟩:=Vals.get (i:=i) (x:=x) t (by simpa using e);exact⟨u,by simpa using h1,h2⟩
theorem Vals.set{x:V}{u:Value}(r:RelV x u):∀ {xs:List V} {us:List Value} (i:Nat),Vals xs us->Vals (xs.set i x) (us.set i u)
 | _,_,_,.nil=>.nil
 | _,_,0,.cons _ t=>.cons r t
 | _,_,i+1,.cons q t=>.cons q (Vals.set r i t)
theorem Vals.append:∀ {xs ys:List V} {us ws:List Value},Vals xs us->Vals ys ws->Vals (xs++ys) (us++ws)
 | _,_,_,_,.nil,s=>s
 | _,_,_,_,.cons r t,s=>.cons r (Vals.append t s)
theorem Vals.take:∀ {xs:List V} {us:List Value} (n:Nat),Vals xs us->Vals (xs.take n) (us.take n)
 | _,_,0,_=>.nil
 | _,_,_+1,.nil=>.nil
 | _,_,n+1,.cons r t=>.cons r (Vals.take n t)
theorem Vals.drop:∀ {xs:List V} {us:List Value} (n:Nat),Vals xs us->Vals (xs.drop n) (us.drop n)
 | _,_,0,r=>r
 | _,_,_+1,.nil=>.nil
 | _,_,n+1,.cons _ t=>Vals.drop n t
def JV:Option V->Option Value->Prop
 | some v,some u=>RelV v u
 | none,none=>True
 | _,_=>False
def KV{κ:Type}:List (κ×V)->List (κ×Value)->Prop:=Paired fun(p:κ×V) (q:κ×Value)=>p.1=q.1/\RelV p.2 q.2
def kV:Key->V
 | .inl i=>.int i
 | .inr x=>.str x
inductive HO where
 | lst (xs:List V)
 | tup (xs:List V)
 | dK (kvs:List (Key×V)) | dT (kvs:List (List Key×V))
 | set (S:Int->Bool) (n:Nat)
 | ins (C dx:Addr) (fs:List (Str×V))
 | own (x:Addr)
 | xd (fs:List (Str×V))
 | met (f x:Addr)
 | rng (lo hi:Int)
 | frz (o:Obj) (u:HO)
 | tbl (ps:Array Value)
 | ext (φ:Heap->Prop)
noncomputable abbrev Hp:=Addr->Option HO
def upd(H:Hp)(a:Addr)(o:HO):Hp:=fun b=>if b=a then some o else H b
theorem bh{H:Hp}:upd H a o a=some o:=by unfold upd;rw[K5z rfl]
theorem aY{H:Hp}{a b:Addr}(h:b≠a):upd H a o b=H b:=by unfold upd;rw[L5z h]
theorem aQ{H:Hp}{a b:Addr}(h:H a=some o)(h':H b=none):a≠b:=by
 intro e;subst e;rw[h] at h';cases h'
section
variable (P:Program) (w:World)
def d8(H:Hp)(h:Heap)(a:Addr):HO->Prop
 | .lst xs=>xs.length<=sizeLine/\∃ (its:List Value) (n:Nat),Vals xs its/\h.get? a=some { cls:=.type "list",data:=.seq its.toArray n }
 | .tup xs=>xs.length<=sizeLine/\∃ its:List Value,Vals xs its/\IsTup h a its.toArray
 | .dK kvs=>kvs.length<=sizeLine/\(a==sysModules)=false/\∃ vs,KV kvs vs/\h.DictOf (dW P w) a vs
 | .dT kvs => kvs.length <= sizeLine /\ (a == sysModules) = false /\ ∃ xs : List (List Key × Addr × Value),
   Paired (fun(p:List Key×V) (q:List Key×Addr×Value)=>p.1=q.1/\H q.2.1=some (.tup (p.1.map kV))/\RelV p.2 q.2.2) kvs xs /\
   ∃ o es ep,h.get? a=some o/\o.ExactDict/\o.data=.dict es ep/\es.toList=xs.map (entryOfKey (tupleKind (dW P w)))/\(xs.map (·.1)).Nodup
 | .set S n=>h.SetOf (intKind P w) a S n
 | .ins C dx fs => H dx = some (.own a) /\ fs.length <= 1000 /\ dx ≠ a /\ h.get? a = some (PySem.W.instObj C dx) /\
   ∃ mA,h.Ns1 dx mA/\(∀ f,JV (fs.lookup f) (mA f))/\PySem.Within mA (fs.map (·.1))
 | .own _=>∃ o,h.get? a=some o
 | .xd fs=>∃ mA,h.Ns1 a mA/\∀ f,JV (fs.lookup f) (mA f)
 | .rng lo hi=>∃ t u v,h.get? a=some { cls:=.type "range",data:=.fields #[.int lo t,.int hi u,.int 1 v] }
 | .frz o u=>h.get? a=some o/\d8 H h a u
 | .tbl ps=>h.get? a=some { cls:=.none,data:=.fields ps }
 | .met f x=>h.get? a=some (PySem.W.methodObj (.ref f) (.ref x))
 | .ext φ=>φ h/\(∃ o,h.get? a=some o)/\∀ h1 h2:Heap,φ h1->(∀ o,h1.get? a=some o->h2.get? a=some o)->φ h2
def HOk(H:Hp)(h:Heap):Prop:=∀ a o,H a=some o->d8 P w H h a o
end
section
variable {P:Program} {w:World} {H H':Hp} {h h':Heap} {a:Addr} {o:HO}
theorem d8.lt(x:d8 P w H h a o):a<h.objs.size:=by
 cases o with
 | lst xs=>obtain⟨_,_,_,_,e⟩:=x;exact D4z e
 | tup xs=>obtain⟨_,_,_,p⟩:=x;exact p.lt
 | dK kvs=>obtain⟨_,_,_,_,o,_,_,e,_⟩:=x;exact D4z e
 | dT kvs=>obtain⟨_,_,_,_,o,_,_,e,_⟩:=x;exact D4z e
 | set S n=>obtain⟨o,_,_,_,e,_⟩:=x;exact D4z e
 | ins C dx fs=>obtain⟨_,_,_,e,_⟩:=x;exact D4z e
 | own y=>obtain⟨_,e⟩:=x;exact D4z e
 | xd fs=>obtain⟨_,⟨_,_,_,e,_⟩,_⟩:=x;exact D4z e
 | rng lo hi=>obtain⟨_,_,_,e⟩:=x;exact D4z e
 | frz ob u=>obtain⟨e,_⟩:=x;exact D4z e
 | tbl ps=>exact D4z (show h.get? a=some _ from x)
 | met f y=>exact D4z (show h.get? a=some _ from x)
 | ext φ=>obtain⟨_,⟨_,e⟩,_⟩:=x;exact D4z e
theorem Paired.mapP{α β:Type}{F G:α->β->Prop}:∀ {l₁:List α} {l₂:List β},Paired F l₁ l₂->(∀ a b,F a b->G a b)->Paired G l₁ l₂
 | _,_,.nil,_=>.nil
 | _,_,.cons r t,f=>.cons (f _ _ r) (Paired.mapP t f)
theorem d8.stay(x:d8 P w H h a o)(k:∀ b u,(b=a\/H b=some (.own a))->h.get? b=some u->h'.get? b=some u)
  (ho:∀ b,H b=some (.own a)->H' b=some (.own a)) (ht:∀ b xs,H b=some (.tup xs)->H' b=some (.tup xs)):d8 P w H' h' a o:=by
 induction o with
 | lst xs=>obtain⟨z,its,n,r,e⟩:=x;exact⟨z,its,n,r,k _ _ (.inl rfl) e⟩
 | tup xs=>obtain⟨z,its,r,ob,e,c⟩:=x;exact⟨z,its,r,ob,k _ _ (.inl rfl) e,c⟩
 | dK kvs=>obtain⟨z,y,vs,r,ob,es,ep,e,c⟩:=x;exact⟨z,y,vs,r,ob,es,ep,k _ _ (.inl rfl) e,c⟩
 | dT kvs =>
  obtain⟨z,y,xs,r,ob,es,ep,e,c⟩:=x;exact⟨z,y,xs,Paired.mapP r fun p q z=>⟨z.1,ht _ _ z.2.1,z.2.2⟩,ob,es,ep,k _ _ (.inl rfl) e,c⟩
 | set S n=>obtain⟨ob,es,ep,t,e,c⟩:=x;exact⟨ob,es,ep,t,k _ _ (.inl rfl) e,c⟩
 | ins C dx fs =>
  obtain⟨d,z,ne,e,mA,⟨od,es,ep,e2,c⟩,r⟩:=x;exact⟨ho _ d,z,ne,k _ _ (.inl rfl) e,mA,⟨od,es,ep,k _ _ (.inr d) e2,c⟩,r⟩
 | own y=>obtain⟨ob,e⟩:=x;exact⟨ob,k _ _ (.inl rfl) e⟩
 | xd fs=>obtain⟨mA,⟨od,es,ep,e,c⟩,r⟩:=x;exact⟨mA,⟨od,es,ep,k _ _ (.inl rfl) e,c⟩,r⟩
 | rng lo hi=>obtain⟨t,u,v,e⟩:=x;exact⟨t,u,v,k _ _ (.inl rfl) e⟩
 | frz ob u ih=>obtain⟨e,q⟩:=x;exact⟨k _ _ (.inl rfl) e,ih q⟩
 | tbl ps =>
  have e:h.get? a=some { cls:=.none,data:=.fields ps }:=x;show h'.get? a=some { cls:=.none,data:=.fields ps };exact k a _ (.inl rfl) e
 | met f y =>
  have e:h.get? a=some (PySem.W.methodObj (.ref f) (.ref y)):=x;show h'.get? a=some (PySem.W.methodObj (.ref f) (.ref y));exact k a _ (.inl rfl) e
 | ext φ=>obtain⟨p,⟨o,e⟩,st⟩:=x;exact⟨st _ _ p fun o q=>k _ _ (.inl rfl) q,⟨o,k _ _ (.inl rfl) e⟩,st⟩
theorem HOk.lt(x:HOk P w H h)(e:H a=some o):a<h.objs.size:=(x a o e).lt
theorem HOk.fresh(x:HOk P w H h)(e:h.objs.size<=a):H a=none:=by
 cases q:H a with
 | none=>rfl
 | some u=>exact absurd (E1z (x.lt q) e) (T3z _)
theorem HOk.kept(x:HOk P w H h)(k:∀ b u,h.get? b=some u->h'.get? b=some u):HOk P w H h':=fun a o e =>
 (x a o e).stay (fun b u _ q=>k b u q) (fun _ q=>q) fun _ _ q=>q
theorem HOk.laid(x:HOk P w H h)(k:∀ b u,h.get? b=some u->h'.get? b=some u)(hp:h.objs.size<=a)(new:d8 P w (upd H a o) h' a o):HOk P w (upd H a o) h':=fun b u e=>by
 have hn:=x.fresh hp
 by_cases hb:b=a
 ·subst hb;rw[bh] at e;cases e;exact new
 ·rw[aY hb] at e
  exact(x b u e).stay (fun c v _ q=>k c v q) (fun c q=>by rw[aY (aQ q hn)];exact q) fun c xs q=>by rw[aY (aQ q hn)];exact q
end
def Rd(H:Hp)(a:Addr)(u:HO):Prop:=H a=some u\/∃ o,H a=some (.frz o u)
theorem Rd.ok{H:Hp}{u:HO}(r:Rd H a u)(x:HOk P w H h):d8 P w H h a u:=by
 rcases r with r | ⟨o,r⟩
 ·exact x a u r
 ·obtain⟨_,q⟩:=x a _ r
  exact q
def Mut:Option HO->Prop
 | some (.lst _)=>True
 | some (.dK _)=>True
 | some (.dT _)=>True
 | some (.set _ _)=>True
 | some (.ins _ _ _)=>True
 | some (.ext _)=>True
 | _=>False
section
variable {P:Program} {w:World} {H:Hp} {h h':Heap} {x e:Addr} {o':HO}
theorem HOk.write(ok:HOk P w H h)(mu:Mut (H x))(he:e=x\/H e=some (.own x))(k:∀ b u,b≠e->h.get? b=some u->h'.get? b=some u)(heo:∃ u,h'.get? e=some u)
  (new:d8 P w (upd H x o') h' x o'):HOk P w (upd H x o') h':=fun b u q=>by
 have nown:∀ c y,H c=some (.own y)->c≠x:=fun c y r z=>by subst z;rw[r] at mu;exact mu
 have ntup:∀ c xs,H c=some (.tup xs)->c≠x:=fun c xs r z=>by subst z;rw[r] at mu;exact mu
 by_cases hb:b=x
 ·subst hb;rw[bh] at q;cases q;exact new
 ·rw[aY hb] at q
  by_cases hbe:b=e
  ·have q':H b=some (.own x):=by
    rcases he with z | z
    ·exact absurd (hbe.trans z) hb
    ·rw[hbe];exact z
   rw[q] at q';cases q'
   obtain⟨v,hv⟩:=heo;exact⟨v,by rw[hbe];exact hv⟩
  ·refine(ok b u q).stay (fun c v hc r=>k c v ?_ r) (fun c r=>by rw[aY (nown c b r)];exact r) fun c xs r=>by rw[aY (ntup c xs r)];exact r
   rcases hc with rfl | hc
   ·exact hbe
   ·rintro rfl
    rcases he with z | z
    ·exact nown c b hc z
    ·rw[hc] at z;cases z;exact hb rfl
end
structure Un (fs ex:List Addr) (H H':Hp) (h h':Heap):Prop where
 keep:∀ b o,h.get? b=some o->H b=none->b∉fs->b∉ex->h'.get? b=some o
 slot:∀ b o,h.get? b=some o->H b=none->b∈fs->b∉ex->∃ sl,h'.get? b=some { o with slots:=sl }
 free:∀ b o,h.get? b=some o->H b=none->b∉ex->H' b=none
 there:∀ b o,h.get? b=some o->b∉ex->∃ o',h'.get? b=some o'
 tups:∀ b xs,H b=some (.tup xs)->H' b=some (.tup xs)
 frzs:∀ b o u,H b=some (.frz o u)->H' b=some (.frz o u)
 tbls:∀ b ps,H b=some (.tbl ps)->∃ more,H' b=some (.tbl (ps++more))
section
variable {fs fs' ex ex':List Addr} {H H1 H2:Hp} {h h1 h2 h':Heap} {a x e:Addr} {o:HO}
theorem Un.any(u:Un fs ex H H1 h h1){b:Addr}(q:h.get? b=some ob)(n:H b=none)(hx:b∉ex):∃ sl,h1.get? b=some { ob with slots:=sl }:=by
 by_cases hb:b∈fs
 ·exact u.slot b ob q n hb hx
 ·exact⟨ob.slots,u.keep b ob q n hb hx⟩
theorem Un.trans(a:Un fs ex H H1 h h1)(b:Un fs ex H1 H2 h1 h2):Un fs ex H H2 h h2 where
 keep:=fun c ob q n hc hx=>b.keep c ob (a.keep c ob q n hc hx) (a.free c ob q n hx) hc hx
 slot:=fun c ob q n hc hx=>by
  obtain⟨sl,e1⟩:=a.slot c ob q n hc hx;obtain⟨sl',e2⟩:=b.slot c _ e1 (a.free c ob q n hx) hc hx;exact⟨sl',e2⟩
 free:=fun c ob q n hx=>by
  obtain⟨o',e1⟩:=a.there c ob q hx;exact b.free c o' e1 (a.free c ob q n hx) hx
 there:=fun c ob q hx=>by
  obtain⟨o',e1⟩:=a.there c ob q hx;exact b.there c o' e1 hx
 tups:=fun c xs q=>b.tups c xs (a.tups c xs q)
 frzs:=fun c ob xs q=>b.frzs c ob xs (a.frzs c ob xs q)
 tbls:=fun c ps q=>by
  obtain⟨m1,e1⟩:=a.tbls c ps q;obtain⟨m2,e2⟩:=b.tbls c _ e1;exact⟨m1++m2,by rw[e2,Array.append_assoc]⟩
theorem Un.kept(k:∀ b u,h.get? b=some u->h'.get? b=some u):Un fs ex H H h h' :=
 ⟨fun b ob q _ _ _=>k b ob q,fun b ob q _ _ _=>⟨ob.slots,k b ob q⟩,fun _ _ _ n _=>n,fun b ob q _=>⟨ob,k b ob q⟩,fun _ _ q=>q,fun _ _ _ q=>q,fun _ ps q=>⟨#[],by rw[q];simp⟩⟩
theorem Un.refl:Un fs ex H H h h:=Un.kept fun _ _ q=>q
theorem Un.laid(k:∀ b u,h.get? b=some u->h'.get? b=some u)(hp:h.objs.size<=a)(hn:H a=none):Un fs ex H (upd H a o) h h' where
 keep:=fun b u q _ _ _=>k b u q
 slot:=fun b u q _ _ _=>⟨u.slots,k b u q⟩
 free:=fun b u q n _=>by rw[aY (E4z (E1z (D4z q) hp))];exact n
 there:=fun b u q _=>⟨u,k b u q⟩
 tups:=fun b xs q=>by rw[aY (aQ q hn)];exact q
 frzs:=fun b u xs q=>by rw[aY (aQ q hn)];exact q
 tbls:=fun b ps q=>⟨#[],by rw[aY (aQ q hn),q];simp⟩
theorem Un.write(mu:Mut (H x))(he:e=x\/H e=some (.own x))(k:∀ b u,b≠e->h.get? b=some u->h'.get? b=some u)(heo:∃ u,h'.get? e=some u):Un fs ex H (upd H x o) h h':=by
 have hx:∀ b,H b=none->b≠x:=fun b n z=>by subst z;rw[n] at mu;exact mu
 have hb:∀ b,H b=none->b≠e:=fun b n z=>by
  subst z;rcases he with r | r
  ·exact hx b n r
  ·rw[n] at r;cases r
 have hm:∀ b u,H b=some u->¬ Mut (some u)->b≠x:=fun b u q nm z=>by subst z;rw[q] at mu;exact nm mu
 refine⟨fun b u q n _ _=>k b u (hb b n) q,fun b u q n _ _=>⟨u.slots,k b u (hb b n) q⟩,fun b u q n _=>by rw[aY (hx b n)];exact n,fun b u q _=>?_,
  fun b xs q=>by rw[aY (hm b _ q fun z=>z)];exact q,fun b u xs q=>by rw[aY (hm b _ q fun z=>z)];exact q,fun b ps q=>⟨#[],by rw[aY (hm b _ q fun z=>z),q];simp⟩⟩
 by_cases hbe:b=e
 ·subst hbe;exact heo
 ·exact⟨u,k b u hbe q⟩
theorem Un.mono(u:Un fs ex H H1 h h1)(hs:∀ b∈fs,b∈fs')(hx:∀ b∈ex,b∈ex'):Un fs' ex' H H1 h h1 :=
 ⟨fun b ob q n hb he=>u.keep b ob q n (fun z=>hb (hs b z)) fun z=>he (hx b z),fun _ _ q n _ he=>u.any q n fun z=>he (hx _ z),fun b ob q n he=>u.free b ob q n fun z=>he (hx b z),fun b ob q he=>u.there b ob q fun z=>he (hx b z),u.tups,u.frzs,u.tbls⟩
end
def trk(h:Heap)(H:Hp):List Addr:=(List.range h.objs.size).filter fun a=>(H a).isSome
def BX(h:Heap)(H:Hp):Heap:=PySem.W.hideAll h (trk h H)
theorem yE(h:Heap)(H:Hp):(BX h H).objs.size=h.objs.size:=PySem.W.hideAll_size _ _
theorem BW{H:Hp}{b:Addr}(e:h.get? b=some o)(n:H b=none):(BX h H).get? b=some o :=
 PySem.W.hideAll_get _ e fun hm=>by
  have q:(H b).isSome=true:=(List.mem_filter.mp hm).2;rw[n] at q;simp at q
theorem Hw{H:Hp}{b:Addr}(e:(BX h H).get? b=some o):h.get? b=some o/\H b=none:=by
 have e':h.get? b=some o:=PySem.W.of_hideAll (trk h H) e;refine⟨e',?_⟩
 cases q:H b with
 | none=>rfl
 | some x =>
  have hm:b∈trk h H:=List.mem_filter.mpr ⟨List.mem_range.mpr (D4z e'),by simp[q]⟩;have z:(BX h H).get? b=none:=PySem.W.hideAll_none (trk h H) hm;rw[z] at e;cases e
def Jz(g h:Heap)(L:Addr):List (Addr×Obj):=(List.range h.objs.size).filterMap fun a=>if a=L\/(g.get? a).isSome=true then none else(h.get? a).map fun o=>(a,o)
def rest(g h:Heap)(L d:Addr):List (Addr×Obj):=(Jz g h L).filter fun p=>decide (p.1≠d)
structure Mod (K:Z3) (mg:Str->Option Value) (base:Heap):Prop where
 kin:K.In base
 glob:base.Ns mainGlobals mg
 blt:∃ mb,base.Ns builtinsNs mb/\∀ x:Str,x≠"__name__"->mb x=bootBuiltins x
 nolimit:base.NoLimit
structure Cx where
 prog:Program
 w:World
 K:Z3
 mg:Str->Option Value
 base:Heap
 A:Around
 N:List Str
 s₀:Shared
 H₀:Hp
 env:Env
 outer:List Env
 stack:List Env
 ex:List Addr
 fn:Str->Bool
 calm:Bool
 pn:List (Addr×Obj)
 xe:Value->Shared->Prop
def frs(l:List Env):List Addr:=l.filterMap (·.frame)
abbrev Cx.fs(X:Cx):List Addr:=frs X.outer
def Vis(sc:Scope)(x:Str):Prop:=sc.names.lookup x=some .local\/sc.names.lookup x=some .cell\/sc.names.lookup x=some .free
def Loc(sc:Scope)(x:Str):Prop:=sc.names.lookup x=some .local\/sc.names.lookup x=some .cell
def Look(env:Env)(h:Heap)(m:Str->Option Value)(x:Str)(u:Value):Prop :=
 (env.kindOf x=some .local/\m x=some u)\/((env.kindOf x=some .cell\/env.kindOf x=some .free)/\∃ c,env.cells.lookup x=some c/\h.IsCell c (some u))
structure Cx.Ok (X:Cx):Prop where
 mod:Mod X.K X.mg X.base
 kind:X.env.scope.kind=.function
 glob:X.env.globals=mainGlobals
 blt:X.env.builtins=builtinsNs
 above:X.s₀.heap.objs.size<=X.env.locals
 inj:∀ x y c,X.env.cells.lookup x=some c->X.env.cells.lookup y=some c->x=y
 has:∀ x,(X.env.kindOf x=some .cell\/X.env.kindOf x=some .free)->∃ c,X.env.cells.lookup x=some c
 cab:∀ x c,X.fn x=true->X.env.cells.lookup x=some c->X.s₀.heap.objs.size<=c
 hd:X.calm=true->X.A.handled=none
 frames:X.A.frames=some X.stack
 stk:X.stack=X.outer\/(X.stack=X.env::X.outer/\X.env.frame=some X.env.locals)
 exf:∀ b∈X.ex,b≠X.env.locals/\∀ x c,X.env.cells.lookup x=some c->c≠b
 bs:∀ b o,X.base.get? b=some o->X.s₀.heap.get? b=some o/\X.H₀ b=none
 bsz:X.base.objs.size<=X.s₀.heap.objs.size
 noex:∀ b o,X.base.get? b=some o->b∉X.ex
 exfs:∀ b∈X.ex,b∉X.fs
 funs:X.s₀.heap.FunFrames X.base X.outer
 frf:∀ b∈X.fs,X.H₀ b=none
structure Inv (X:Cx) (z0:List (Addr×Obj)) (σ:List (Option V)) (H:Hp) (s:Shared):Prop where
 ok:X.Ok
 os:s.os=X.s₀.os
 bare:AllBare s.gens
 base:Un X.fs X.ex X.H₀ H X.s₀.heap s.heap
 loc:∃ m,s.heap.Ns X.env.locals m/\∀ (i:Nat) (x:Str) (v:V),X.N[i]?=some x->σ[i]?=some (some v)->Vis X.env.scope x->∃ u,RelV v u/\Look X.env s.heap m x u
 cell:∀ x c,X.env.cells.lookup x=some c->∃ v,s.heap.IsCell c v
 free:H X.env.locals=none
 freeC:∀ x c,X.env.cells.lookup x=some c->H c=none
 pin:∀ p∈X.pn++z0,s.heap.get? p.1=some p.2/\H p.1=none/\p.1≠X.env.locals/\p.1∉X.fs/\∀ v,p.2.data≠.cell v
 hok:HOk X.prog X.w H s.heap
 len:σ.length=X.N.length
section
variable {X:Cx} {z0:List (Addr×Obj)} {σ:List (Option V)} {H H':Hp} {s:Shared} {h':Heap}
theorem Cx.Ok.nofr(ok:X.Ok){b:Addr}(e:X.base.get? b=some o):b∉X.fs:=fun hb=>by
 have:=(ok.funs.mem hb).1;rw[e] at this;cases this
theorem Inv.bs(I:Inv X z0 σ H s):∀ b o,X.base.get? b=some o->s.heap.get? b=some o/\H b=none:=fun b o e =>
 ⟨I.base.keep b o (I.ok.bs b o e).1 (I.ok.bs b o e).2 (I.ok.nofr e) (I.ok.noex b o e),I.base.free b o (I.ok.bs b o e).1 (I.ok.bs b o e).2 (I.ok.noex b o e)⟩
theorem Inv.bk(I:Inv X z0 σ H s):∀ b o,X.base.get? b=some o->s.heap.get? b=some o:=fun b o e=>(I.bs b o e).1
theorem Inv.mod(I:Inv X z0 σ H s):Mod X.K X.mg X.base:=I.ok.mod
theorem Inv.kIn(I:Inv X z0 σ H s):X.K.In s.heap:=I.ok.mod.kin.keeps I.bk
theorem Inv.lt(I:Inv X z0 σ H s):X.env.locals<s.heap.objs.size:=let ⟨_,hn,_⟩:=I.loc;hn.lt
theorem Inv.sz(I:Inv X z0 σ H s):X.s₀.heap.objs.size<=s.heap.objs.size:=F4z I.ok.above (Nat.le_of_lt I.lt)
theorem Inv.nofs(I:Inv X z0 σ H s){a:Addr}(h:s.heap.objs.size<=a):a∉X.fs:=fun hb=>by
 obtain⟨_,o,ho,_⟩:=I.ok.funs.mem hb;exact absurd (E1z (D4z ho) (F4z I.sz h)) (T3z _)
theorem Inv.cne(I:Inv X z0 σ H s):∀ x c,X.env.cells.lookup x=some c->c≠X.env.locals:=fun x c e z=>by
 obtain⟨v,o,ho,hd⟩:=I.cell x c e;obtain⟨m,⟨o',es,ep,ho',hd',_⟩,_⟩:=I.loc;rw[z,ho'] at ho;cases ho;rw[hd'] at hd;cases hd
theorem Inv.funs(I:Inv X z0 σ H s):s.heap.FunFrames X.base X.outer:=by
 have all:∀ (l:List Env),(∀ b∈frs l,b∈X.fs)->X.s₀.heap.FunFrames X.base l->s.heap.FunFrames X.base l:=by
  intro l
  induction l with
  | nil=>intro _ _;trivial
  | cons env r ih =>
   intro hs hl;obtain⟨hk,⟨L,o,hf,hn,ho,hd⟩,hr⟩:=hl;have hL:L∈X.fs:=hs L (by unfold frs;rw[W0z,hf];exact F1z);obtain⟨sl,e⟩:=I.base.slot L o ho (I.ok.frf L hL) hL fun z=>I.ok.exfs L z hL;exact⟨hk,⟨L,_,hf,hn,e,hd⟩,ih (fun b hb=>hs b (by unfold frs;rw[W0z,hf];exact Q0z _ hb)) hr⟩
 exact all X.outer (fun _ hb=>hb) I.ok.funs
theorem Inv.stack(I:Inv X z0 σ H s):s.heap.FunFrames X.base X.stack:=by
 rcases I.ok.stk with e | ⟨e,hf⟩
 ·rw[e];exact I.funs
 ·rw[e]
  obtain⟨m,hn,_⟩:=I.loc;refine .cons (by rw[I.ok.kind];decide) hf hn ?_ I.funs;exact Heap.get?_none_of_le (F4z I.ok.bsz I.ok.above)
theorem Inv.stkSub(I:Inv X z0 σ H s):∀ b∈frs X.stack,b∈X.env.locals::X.fs:=fun b hb=>by
 rcases I.ok.stk with e | ⟨e,hf⟩
 ·rw[e] at hb;exact Q0z _ hb
 ·rw[e] at hb
  unfold frs at hb;rw[W0z,hf] at hb;exact hb
theorem Inv.stkFree(I:Inv X z0 σ H s):∀ b∈frs X.stack,H b=none:=fun b hb=>by
 rcases List.mem_cons.mp (I.stkSub b hb) with e | hb
 ·rw[e];exact I.free
 ·obtain⟨_,o,ho,_⟩:=I.ok.funs.mem hb
  exact I.base.free b o ho (I.ok.frf b hb) fun z=>I.ok.exfs b z hb
theorem Inv.step{g':Array GenState}{t':Nat}{d':Drawn}{ch:List Addr}(I:Inv X z0 σ H s)
  (hch:∀ b∈ch,(b∈X.ex\/X.s₀.heap.objs.size<=b)/\b≠X.env.locals/\(∀ x c,X.env.cells.lookup x=some c->c≠b)/\∀ p∈X.pn++z0,p.1≠b)
  (keep:∀ b o,b≠X.env.locals->b∉X.fs->b∉ch->s.heap.get? b=some o->H b=none->h'.get? b=some o)
  (slot:∀ b o,b≠X.env.locals->b∈X.fs->b∉ch->s.heap.get? b=some o->H b=none->∃ sl,h'.get? b=some { o with slots:=sl }) (free:∀ b o,b∉ch->s.heap.get? b=some o->H b=none->H' b=none)
  (there:∀ b o,b∉ch->s.heap.get? b=some o->∃ o',h'.get? b=some o')
  (tups:∀ b xs,H b=some (.tup xs)->H' b=some (.tup xs)) (frzs:∀ b o u,H b=some (.frz o u)->H' b=some (.frz o u)) (tbls:∀ b ps,H b=some (.tbl ps)->∃ more,H' b=some (.tbl (ps++more)))
  (ns:∀ m,s.heap.Ns X.env.locals m->h'.Ns X.env.locals m) (hok:HOk X.prog X.w H' h') (hg:AllBare g') :
  Inv X z0 σ H' { s with heap:=h',gens:=g',drawn:=d',toks:=t' }:=by
 have neL:∀ b o,X.s₀.heap.get? b=some o->b≠X.env.locals:=fun b o e=>E4z (E1z (D4z e) I.ok.above)
 have neC:∀ b o,X.s₀.heap.get? b=some o->b∉X.ex->b∉ch:=fun b o e hx hb=>by
  rcases(hch b hb).1 with z | z
  ·exact hx z
  ·exact absurd (E1z (D4z e) z) (T3z _)
 have cellK:∀ x c,X.env.cells.lookup x=some c->∀ v,s.heap.IsCell c v->h'.IsCell c v:=fun x c e v ⟨o,ho,hd⟩=>by
  have nch:c∉ch:=fun z=>(hch c z).2.2.1 x c e rfl
  by_cases hc:c∈X.fs
  ·obtain⟨sl,q⟩:=slot c o (I.cne x c e) hc nch ho (I.freeC x c e)
   exact⟨_,q,hd⟩
  ·exact⟨o,keep c o (I.cne x c e) hc nch ho (I.freeC x c e),hd⟩
 refine⟨I.ok,I.os,hg,⟨fun b o e n hb hx=>?_,fun b o e n hb hx=>?_,fun b o e n hx=>?_,fun b o e hx=>?_,fun b xs e=>tups b xs (I.base.tups b xs e),fun b o xs e=>frzs b o xs (I.base.frzs b o xs e),fun b ps e=>?_⟩,?_,fun x c e=>?_,?_,fun x c e=>?_,fun p hp=>?_,hok,I.len⟩
 ·exact keep b o (neL b o e) hb (neC b o e hx) (I.base.keep b o e n hb hx) (I.base.free b o e n hx)
 ·obtain⟨sl,e1⟩:=I.base.slot b o e n hb hx
  obtain⟨sl',e2⟩:=slot b _ (neL b o e) hb (neC b o e hx) e1 (I.base.free b o e n hx);exact⟨sl',e2⟩
 ·obtain⟨o',e1⟩:=I.base.there b o e hx
  exact free b o' (neC b o e hx) e1 (I.base.free b o e n hx)
 ·obtain⟨o',e1⟩:=I.base.there b o e hx
  exact there b o' (neC b o e hx) e1
 ·obtain⟨m1,e1⟩:=I.base.tbls b ps e
  obtain⟨m2,e2⟩:=tbls b _ e1;exact⟨m1++m2,by rw[e2,Array.append_assoc]⟩
 ·obtain⟨m,hn,hl⟩:=I.loc
  refine⟨m,ns m hn,fun i x v e1 e2 e3=>?_⟩;obtain⟨u,r,l⟩:=hl i x v e1 e2 e3;refine⟨u,r,?_⟩;rcases l with l | ⟨k,c,e,z⟩
  ·exact .inl l
  ·exact .inr ⟨k,c,e,cellK x c e _ z⟩
 ·obtain⟨v,z⟩:=I.cell x c e
  exact⟨v,cellK x c e v z⟩
 ·obtain⟨m,⟨o,_,_,ho,_⟩,_⟩:=I.loc
  exact free _ o (fun z=>(hch _ z).2.1 rfl) ho I.free
 ·obtain⟨v,o,ho,hd⟩:=I.cell x c e
  exact free c o (fun z=>(hch c z).2.2.1 x c e rfl) ho (I.freeC x c e)
 ·obtain⟨e,n,ne,nf,d⟩:=I.pin p hp
  have nch:p.1∉ch:=fun z=>(hch p.1 z).2.2.2 p hp rfl;exact⟨keep p.1 p.2 ne nf nch e n,free p.1 p.2 nch e n,ne,nf,d⟩
theorem Inv.un{t':Nat}(I:Inv X z0 σ H s)(u:Un X.fs [] H H' s.heap h')(hok:HOk X.prog X.w H' h'):Inv X z0 σ H' { s with heap:=h',toks:=t' }:=by
 obtain⟨m,⟨o,es,ep,ho,r⟩,_⟩:=id I.loc;obtain⟨sl,hL⟩:=u.any ho I.free (by simp)
 exact I.step (g':=s.gens) (d':=s.drawn) (ch:=[]) (fun _ z=>nomatch z) (fun b o _ hb _ e n=>u.keep b o e n hb (by simp)) (fun b o _ hb _ e n=>u.slot b o e n hb (by simp)) (fun b o _ e n=>u.free b o e n (by simp)) (fun b o _ e=>u.there b o e (by simp)) u.tups u.frzs u.tbls (fun m' hm=>by
  obtain⟨o',es',ep',ho',r'⟩:=hm;rw[ho] at ho';cases ho'
  exact⟨_,es',ep',hL,r'⟩) hok I.bare
theorem Inv.call{g':Array GenState}{t':Nat}{d':Drawn}{ch:List Addr}(I:Inv X z0 σ H s)(u:Un (frs X.stack) ch H H' s.heap h')(hok:HOk X.prog X.w H' h')(hg:AllBare g')
  (hch:∀ b∈ch,(b∈X.ex\/X.s₀.heap.objs.size<=b)/\b≠X.env.locals/\(∀ x c,X.env.cells.lookup x=some c->c≠b)/\∀ p∈X.pn++z0,p.1≠b) :
  Inv X z0 σ H' { s with heap:=h',gens:=g',drawn:=d',toks:=t' }:=by
 obtain⟨m,⟨o,es,ep,ho,r⟩,_⟩:=id I.loc;obtain⟨sl,hL⟩:=u.any ho I.free fun z=>(hch _ z).2.1 rfl
 exact I.step (ch:=ch) hch (fun b o hL hb hc e n=>u.keep b o e n (fun z=>(List.mem_cons.mp (I.stkSub b z)).elim hL hb) hc) (fun b o _ _ hc e n=>u.any e n hc) (fun b o hc e n=>u.free b o e n hc) (fun b o hc e=>u.there b o e hc) u.tups u.frzs u.tbls (fun m' hm=>by
  obtain⟨o',es',ep',ho',r'⟩:=hm;rw[ho] at ho';cases ho'
  exact⟨_,es',ep',hL,r'⟩) hok hg
theorem Inv.turned{t':Nat}{it:Addr}(I:Inv X z0 σ H s)(k:∀ b o,b≠it->s.heap.get? b=some o->h'.get? b=some o)(hn:H it=none)(hL:it≠X.env.locals)
  (h1:it∈X.ex\/X.s₀.heap.objs.size<=it) (h2:∀ x c,X.env.cells.lookup x=some c->c≠it) (h3:∀ p∈X.pn++z0,p.1≠it):Inv X z0 σ H { s with heap:=h',toks:=t' }:=by
 have nit:∀ b u,H b=some u->b≠it:=fun b u e z=>by rw[z,hn] at e;cases e
 refine I.step (g':=s.gens) (d':=s.drawn) (ch:=[it]) (fun b hb=>?_) (fun b o _ _ hc e _=>k b o (fun z=>hc (by simp[z])) e) (fun b o _ _ hc e _=>⟨o.slots,k b o (fun z=>hc (by simp[z])) e⟩) (fun _ _ _ _ n=>n)
  (fun b o hc e=>⟨o,k b o (fun z=>hc (by simp[z])) e⟩) (fun _ _ e=>e) (fun _ _ _ e=>e) (fun b ps e=>⟨#[],by rw[e];simp⟩) (fun m hm=>?_) (fun b u e=>?_) I.bare
 ·have e:b=it:=by simpa using hb
  subst e;exact⟨h1,hL,h2,h3⟩
 ·obtain⟨o,es,ep,ho,r⟩:=hm
  exact⟨o,es,ep,k _ o (I5z hL) ho,r⟩
 ·refine(I.hok b u e).stay (fun c v hc q=>k c v ?_ q) (fun _ q=>q) fun _ _ q=>q
  rcases hc with z | z
  ·rw[z];exact nit b u e
  ·exact nit c _ z
theorem Inv.tok(I:Inv X z0 σ H s)(t:Nat):Inv X z0 σ H { s with toks:=t }:=I.un (h':=s.heap) (t':=t) Un.refl I.hok
theorem Inv.kept{t':Nat}(I:Inv X z0 σ H s)(k:∀ b u,s.heap.get? b=some u->h'.get? b=some u):Inv X z0 σ H { s with heap:=h',toks:=t' }:=I.un (Un.kept k) (I.hok.kept k)
theorem Inv.laid{t':Nat}(I:Inv X z0 σ H s)(k:∀ b u,s.heap.get? b=some u->h'.get? b=some u)(hp:s.heap.objs.size<=a)(new:d8 X.prog X.w (upd H a o) h' a o):
  Inv X z0 σ (upd H a o) { s with heap:=h',toks:=t' }:=I.un (Un.laid k hp (I.hok.fresh hp)) (I.hok.laid k hp new)
theorem Inv.write{x e:Addr}{o:HO}{t':Nat}(I:Inv X z0 σ H s)(mu:Mut (H x))(he:e=x\/H e=some (.own x))(k:∀ b u,b≠e->s.heap.get? b=some u->h'.get? b=some u)(heo:∃ u,h'.get? e=some u)
  (new:d8 X.prog X.w (upd H x o) h' x o):Inv X z0 σ (upd H x o) { s with heap:=h',toks:=t' }:=I.un (Un.write mu he k heo) (I.hok.write mu he k heo new)
theorem Inv.pins_of(I:Inv X z0 σ H s)(h:∀ p∈pins',s.heap.get? p.1=some p.2/\H p.1=none/\p.1≠X.env.locals/\p.1∉X.fs/\∀ v,p.2.data≠.cell v):Inv X pins' σ H s :=
 ⟨I.ok,I.os,I.bare,I.base,I.loc,I.cell,I.free,I.freeC,fun p hp=>(D3z.mp hp).elim (fun z=>I.pin p (R0z _ z)) (h p),I.hok,I.len⟩
theorem mW{N:List Str}(hN:N.Nodup){i j:Nat}{x:Str}(a:N[i]?=some x)(b:N[j]?=some x):i=j:=by
 obtain⟨h1,e1⟩:=List.getElem?_eq_some_iff.mp a;obtain⟨h2,e2⟩:=List.getElem?_eq_some_iff.mp b;exact(List.getElem_inj hN).mp (e1.trans e2.symm)
theorem oG{M:Model}{A:Around}{E:Value->Shared->Prop}{i:Nat}{x:Str}{v:V}{u:Value}{Q:Unit->Shared->Prop}(I:Inv X z0 σ H s)(hN:X.N.Nodup)(hi:X.N[i]?=some x)(hx:Loc X.env.scope x)(r:RelV v u)
  (h:∀ s',Inv X z0 (σ.set i (some v)) H s'->(∃ a,Heap.SameBut a s.heap s'.heap/\(a=X.env.locals\/X.env.cells.lookup x=some a))->Q () s') (hf:X.fn x=true\/X.env.scope.names.lookup x=some .local:=by first | exact .inl rfl | exact .inr rfl | assumption):wpAny M A (storeName X.env x u) Q E s:=by
 obtain⟨m,hn,hl⟩:=id I.loc
 have hcls:(X.env.scope.kind==.class||(X.env.scope.kind==.module&&X.env.locals !=X.env.globals))=false:=by rw[I.ok.kind];rfl
 have hiσ:i<σ.length:=by rw[I.len];exact(List.getElem?_eq_some_iff.mp hi).1
 have cne:=I.cne
 have tracked:∀ {a:Addr} {h':Heap},(∃ o,s.heap.get? a=some o/\H a=none)->Heap.SameBut a s.heap h'->HOk X.prog X.w H h':=fun {a h'} ha hs b ob e=>by
  obtain⟨_,_,hfree⟩:=ha;refine(I.hok b ob e).stay (fun c w' hc q=>(hs.2 c ?_).trans q) (fun _ q=>q) fun _ _ q=>q;rintro rfl;rcases hc with rfl | hc
  ·rw[hfree] at e;cases e
  ·rw[hfree] at hc;cases hc
 rcases hx with hk | hk
 ·refine wpAny_storeName_local hk hn (fun h' hn' hs=>?_) hcls
  obtain⟨oL,_,_,hoL,_⟩:=id hn;refine h _ ⟨I.ok,I.os,I.bare,⟨fun b o e n hb hx=>?_,fun b o e n hb hx=>?_,I.base.free,fun b o e hx=>?_,I.base.tups,I.base.frzs,I.base.tbls⟩,⟨_,hn',fun j y v' e1 e2 e3=>?_⟩,fun y c e=>?_,I.free,I.freeC,fun p hp=>?_,tracked ⟨oL,hoL,I.free⟩ hs,by simpa using I.len⟩ ⟨_,hs,.inl rfl⟩
  ·exact(hs.2 b (E4z (E1z (D4z e) I.ok.above))).trans (I.base.keep b o e n hb hx)
  ·obtain⟨sl,e1⟩:=I.base.slot b o e n hb hx
   exact⟨sl,(hs.2 b (E4z (E1z (D4z e) I.ok.above))).trans e1⟩
  ·obtain⟨o',e1⟩:=I.base.there b o e hx
   exact⟨o',(hs.2 b (E4z (E1z (D4z e) I.ok.above))).trans e1⟩
  ·by_cases hj:j=i
   ·subst hj
    rw[hi] at e1;cases e1
    rw[List.getElem?_set_self hiσ] at e2;cases e2;exact⟨u,r,.inl ⟨hk,by simp⟩⟩
   ·rw[List.getElem?_set_ne (I5z hj)] at e2
    obtain⟨u',r',q⟩:=hl j y v' e1 e2 e3;refine⟨u',r',?_⟩;rcases q with⟨k,e⟩ | ⟨k,c,e,z⟩
    ·refine .inl ⟨k,?_⟩
     have:y≠x:=fun e=>hj (mW hN e1 (e▸hi));simp[this,e]
    ·exact .inr ⟨k,c,e,z.sameBut hs (cne y c e)⟩
  ·obtain⟨w',z⟩:=I.cell y c e
   exact⟨w',z.sameBut hs (cne y c e)⟩
  ·obtain⟨e,n,ne,nf,d⟩:=I.pin p hp
   exact⟨(hs.2 p.1 ne).trans e,n,ne,nf,d⟩
 ·have hfn:X.fn x=true:=by
   rcases hf with z | z
   ·exact z
   ·rw[z] at hk;cases hk
  obtain⟨c,hc⟩:=I.ok.has x (.inl hk);obtain⟨w',z⟩:=I.cell x c hc;refine wpAny_storeName_cell I.ok.kind hk hc z (fun h' hc' hs=>?_);obtain⟨oc,hoc,hocd⟩:=id z;refine h { s with heap:=h' } ⟨I.ok,I.os,I.bare,⟨fun b o e n hb hx=>?_,fun b o e n hb hx=>?_,I.base.free,fun b o e hx=>?_,I.base.tups,I.base.frzs,I.base.tbls⟩,⟨m,hn.sameBut hs (I5z (cne x c hc)),fun j y v' e1 e2 e3=>?_⟩,fun y c' e=>?_,I.free,I.freeC,fun p hp=>?_,tracked ⟨oc,hoc,I.freeC x c hc⟩ hs,by simpa using I.len⟩ ⟨c,hs,.inr hc⟩
  ·exact(hs.2 b (E4z (E1z (D4z e) (I.ok.cab x c hfn hc)))).trans (I.base.keep b o e n hb hx)
  ·obtain⟨sl,e1⟩:=I.base.slot b o e n hb hx
   exact⟨sl,(hs.2 b (E4z (E1z (D4z e) (I.ok.cab x c hfn hc)))).trans e1⟩
  ·obtain⟨o',e1⟩:=I.base.there b o e hx
   exact⟨o',(hs.2 b (E4z (E1z (D4z e) (I.ok.cab x c hfn hc)))).trans e1⟩
  ·by_cases hj:j=i
   ·subst hj
    rw[hi] at e1;cases e1
    rw[List.getElem?_set_self hiσ] at e2;cases e2;exact⟨u,r,.inr ⟨.inl hk,c,hc,hc'⟩⟩
   ·rw[List.getElem?_set_ne (I5z hj)] at e2
    obtain⟨u',r',q⟩:=hl j y v' e1 e2 e3;refine⟨u',r',?_⟩;rcases q with q | ⟨k,c',e,z'⟩
    ·exact .inl q
    ·refine .inr ⟨k,c',e,z'.sameBut hs ?_⟩
     rintro rfl;exact hj (mW hN e1 (I.ok.inj _ _ _ e hc▸hi))
  ·by_cases hcc:c'=c
   ·subst hcc;exact⟨_,hc'⟩
   ·obtain⟨w2,z2⟩:=I.cell y c' e
    exact⟨w2,z2.sameBut hs hcc⟩
  ·obtain⟨e,n,ne,nf,d⟩:=I.pin p hp
   refine⟨(hs.2 p.1 ?_).trans e,n,ne,nf,d⟩;intro q;rw[q,hoc] at e;have q':oc=p.2:=P2z e;exact d w' (by rw[<- q'];exact hocd)
theorem gR{M:Model}{A:Around}{E:Value->Shared->Prop}{i:Nat}{x:Str}{v:V}{u:Value}{Q:Unit->Shared->Prop}(I:Inv X z0 σ H s)(hN:X.N.Nodup)(hi:X.N[i]?=some x)(hx:Loc X.env.scope x)(r:RelV v u)
  (h:∀ s',Inv X z0 (σ.set i (some v)) H s'->Q () s') (hf:X.fn x=true\/X.env.scope.names.lookup x=some .local:=by first | exact .inl rfl | exact .inr rfl | assumption):wpAny M A (storeName X.env x u) Q E s :=
 oG I hN hi hx r (fun s' I' _=>h s' I') hf
theorem Inv.call'{s':Shared}{ch:List Addr}(I:Inv X z0 σ H s)(ho:s'.os=s.os)(u:Un (frs X.stack) ch H H' s.heap s'.heap)(hok:HOk X.prog X.w H' s'.heap)(hg:AllBare s'.gens)
  (hch:∀ b∈ch,(b∈X.ex\/X.s₀.heap.objs.size<=b)/\b≠X.env.locals/\(∀ x c,X.env.cells.lookup x=some c->c≠b)/\∀ p∈X.pn++z0,p.1≠b):Inv X z0 σ H' s':=by
 obtain⟨h',g',d',t',o'⟩:=s';have e:o'=s.os:=ho;subst e;exact I.call (g':=g') (t':=t') (d':=d') u hok hg hch
end
abbrev XK:=Value->Option Addr->Hp->Prop
abbrev St:=List (Option V)
abbrev VK:=V->Hp->Prop
abbrev TE:=St->Hp->VK->Prop
abbrev TT:=St->Hp->(Bool->Hp->Prop)->Prop
abbrev TA:=St->Hp->(List V->Hp->Prop)->Prop
structure Ends where
 nx:St->Hp->Prop
 rt:VK
 bk:St->Hp->Prop:=fun _ _=>False
 ct:St->Hp->Prop:=fun _ _=>False
abbrev TS:=Ends->St->Hp->Prop
def EP(X:Cx)(z0:List (Addr×Obj))(σ:St)(Q:VK)(u:Value)(s':Shared):Prop:=∃ v H',Inv X z0 σ H' s'/\RelV v u/\Q v H'
def TP(X:Cx)(z0:List (Addr×Obj))(σ:St)(Q:Bool->Hp->Prop)(b:Bool)(s':Shared):Prop:=∃ H',Inv X z0 σ H' s'/\Q b H'
def AP(X:Cx)(z0:List (Addr×Obj))(σ:St)(Q:List V->Hp->Prop)(us:List Value)(s':Shared):Prop:=∃ vs H',Inv X z0 σ H' s'/\Vals vs us/\Q vs H'
def SP(X:Cx)(z0:List (Addr×Obj))(D:Ends)(f:Flow)(s':Shared):Prop :=
 match f with
 | .next=>∃ σ' H',Inv X z0 σ' H' s'/\D.nx σ' H'
 | .brk=>∃ σ' H',Inv X z0 σ' H' s'/\D.bk σ' H'
 | .cont=>∃ σ' H',Inv X z0 σ' H' s'/\D.ct σ' H'
 | .ret u=>∃ v σ' H',Inv X z0 σ' H' s'/\RelV v u/\D.rt v H'
def PE(X:Cx)(e:Expr)(t:TE):Prop :=
 ∀ (z0:List (Addr×Obj)) (s:Shared) (σ:St) (H:Hp) (Q:VK),Inv X z0 σ H s->t σ H Q->wpAny (model X.prog X.w) X.A (eval e X.env) (EP X z0 σ Q) X.xe s
def PT(X:Cx)(e:Expr)(t:TT):Prop :=
 ∀ (z0:List (Addr×Obj)) (s:Shared) (σ:St) (H:Hp) (Q:Bool->Hp->Prop),Inv X z0 σ H s->t σ H Q->wpAny (model X.prog X.w) X.A (isTrue e X.env (eval e X.env)) (TP X z0 σ Q) X.xe s
def PW(X:Cx)(e:Expr)(t:TT):Prop :=
 ∀ (whole:Sem Value) (z0:List (Addr×Obj)) (s:Shared) (σ:St) (H:Hp) (Q:Bool->Hp->Prop),Inv X z0 σ H s->t σ H Q->wpAny (model X.prog X.w) X.A (isTrue e X.env whole) (TP X z0 σ Q) X.xe s
def PA(X:Cx)(es:List Expr)(t:TA):Prop :=
 ∀ (pos:Pos) (z0:List (Addr×Obj)) (s:Shared) (σ:St) (H:Hp) (Q:List V->Hp->Prop),Inv X z0 σ H s->t σ H Q->wpAny (model X.prog X.w) X.A (spliced (backTo pos (starEach es X.env))) (AP X z0 σ Q) X.xe s
def PS(X:Cx)(st:Stmt)(t:TS):Prop :=
 ∀ (z0:List (Addr×Obj)) (s:Shared) (σ:St) (H:Hp) (D:Ends),Inv X z0 σ H s->t D σ H->wpAny (model X.prog X.w) X.A (exec st X.env) (SP X z0 D) X.xe s
def PSs(X:Cx)(st:List Stmt)(t:TS):Prop :=
 ∀ (z0:List (Addr×Obj)) (s:Shared) (σ:St) (H:Hp) (D:Ends),Inv X z0 σ H s->t D σ H->wpAny (model X.prog X.w) X.A (execs st X.env) (SP X z0 D) X.xe s
theorem thn{α:Type}{t:Sem α}{Q Q':α->Shared->Prop}{M:Model}{E:Value->Shared->Prop}{s:Shared}(h:wpAny M A t Q E s)(hQ:∀ a s,Q a s->Q' a s):wpAny M A t Q' E s:=X4z h hQ fun _ _ x=>x
section
variable {X:Cx}
def Kh(i:Nat):TE:=fun σ H Q=>∃ v,σ[i]?=some (some v)/\Q v H
def tC(v:V):TE:=fun _ H Q=>Q v H
theorem gY{i:Nat}{x:Str}(hN:X.N[i]?=some x)(hv:Vis X.env.scope x)(hd:(x==("__debug__":Str))=false:=by decide)(hcd:(x==("__classdict__":Str))=false:=by decide):PE X (.Name x pos) (Kh i):=by
 intro z0 s σ H Q I h;obtain⟨v,e,h⟩:=h;obtain⟨m,hn,hl⟩:=I.loc;obtain⟨u,r,l⟩:=hl i x v hN e hv;have fin:EP X z0 σ Q u s:=⟨v,H,I,r,h⟩;rcases l with⟨hk,hm⟩ | ⟨hk,c,hc,hcell⟩
 ·exact wpAny_Name (wpAny_loadName_local I.ok.kind hk hn hm fin) hd
 ·rcases hk with hk | hk
  ·exact wpAny_Name (wpAny_loadName_cell I.ok.kind hk hc hcell fin) hd
  ·exact wpAny_Name (wpAny_loadName_free I.ok.kind hk hc hcell fin hcd) hd
theorem LC{i j pos}:PE X (.Constant (.int i) j pos) (tC (.int i)):=fun _ _ _ H _ I h=>wpAny_Constant_int ⟨.int i,H,I.tok _,⟨_,rfl⟩,h⟩
theorem Q0{b j pos}:PE X (.Constant (.bool b) j pos) (tC (.bl b)):=fun _ _ _ H _ I h=>Constant_bool ⟨.bl b,H,I,rfl,h⟩
theorem Lz{j pos}:PE X (.Constant .none j pos) (tC .non):=fun _ _ _ H _ I h=>Constant_none ⟨.non,H,I,rfl,h⟩
theorem Du{x j pos}:PE X (.Constant (.str x) j pos) (tC (.str x)):=fun _ _ _ H _ I h=>Calls.Constant_str ⟨.str x,H,I.tok _,⟨_,rfl⟩,h⟩
def Gl(X:Cx)(x:Str):Prop:=X.env.kindOf x=some .globalImplicit
theorem jT{E:Value->Shared->Prop}{z0:List (Addr×Obj)}{s:Shared}{σ:St}{H:Hp}{x:Str}{u:Value}{pos:Pos}{Q:Value->Shared->Prop}(I:Inv X z0 σ H s)(hg:Gl X x)(hm:X.mg x=some u)(h:Q u s)
  (hd:(x==("__debug__":Str))=false:=by decide):wpAny (model X.prog X.w) X.A (eval (.Name x pos) X.env) Q E s :=
 Calls.Name_function_global I.ok.kind hg (Calls.loadGlobal_global (by rw[I.ok.glob];exact I.mod.glob.keeps I.bk) hm h) hd
theorem eX{E:Value->Shared->Prop}{z0:List (Addr×Obj)}{s:Shared}{σ:St}{H:Hp}{x:Str}{u:Value}{pos:Pos}{Q:Value->Shared->Prop}(I:Inv X z0 σ H s)(hg:Gl X x)(hm:X.mg x=none)(hv:bootBuiltins x=some u)(h:Q u s)
  (hn:x≠"__name__":=by decide) (hd:(x==("__debug__":Str))=false:=by decide):wpAny (model X.prog X.w) X.A (eval (.Name x pos) X.env) Q E s:=by
 obtain⟨mb,h1,h2⟩:=I.mod.blt;exact Calls.Name_function_global I.ok.kind hg (Calls.loadGlobal_builtin (by rw[I.ok.glob];exact I.mod.glob.keeps I.bk) hm (by rw[I.ok.blt];exact h1.keeps I.bk) ((h2 x hn).trans hv) h) hd
theorem qO{x:Str}{u:Value}(hg:Gl X x)(hm:X.mg x=some u)(r:RelV v u)(hd:(x==("__debug__":Str))=false:=by decide):PE X (.Name x pos) (tC v) :=
 fun _ _ _ H _ I h=>jT I hg hm ⟨v,H,I,r,h⟩ hd
theorem xH{x:Str}{u:Value}(hg:Gl X x)(hm:X.mg x=none)(hv:bootBuiltins x=some u)(r:RelV v u)(hn:x≠"__name__":=by decide)(hd:(x==("__debug__":Str))=false:=by decide):PE X (.Name x pos) (tC v) :=
 fun _ _ _ H _ I h=>eX I hg hm hv ⟨v,H,I,r,h⟩ hn hd
variable {a b:Expr} {ta tb:TE} {pos:Pos}
def tB(t:TE):TT:=fun σ H Q=>t σ H fun x H1=>∃ c,x=.bl c/\Q c H1
theorem Dp{e:Expr}{t:TE}(h:PE X e t)(he:∀ whole,isTrue e X.env whole=(do let v <- whole;standAt e.pos;holding [v] (truthy v)):=by intro _;rfl):PT X e (tB t):=by
 intro z0 s σ H Q I hw;refine isTrue_plain (thn (h z0 s σ H _ I hw) fun v s1 ⟨x,H1,I1,r1,q1⟩=>?_) (he _);obtain⟨d,rfl,q⟩:=q1;cases r1;exact P1z ⟨H1,I1,q⟩
variable {tA tB':TT} {rest:List Expr}
def tAnd(t u:TT):TT:=fun σ H Q=>t σ H fun c H1=>if c=true then u σ H1 Q else Q false H1
def tOr(t u:TT):TT:=fun σ H Q=>t σ H fun c H1=>if c=true then Q true H1 else u σ H1 Q
def tNot(t:TT):TT:=fun σ H Q=>t σ H fun c H1=>Q (!c) H1
theorem Gz(ha:PT X a tA):PW X (.BoolOp .And [a] pos) tA:=by
 intro wh z0 s σ H Q I h;refine isTrue_and (thn (ha z0 s σ H Q I h) fun c s1 e=>?_)
 cases c with
 | true=>exact isTrue_and_nil e
 | false=>exact e
theorem Ld(ha:PT X a tA):PW X (.BoolOp .Or [a] pos) tA:=by
 intro wh z0 s σ H Q I h;refine isTrue_or (thn (ha z0 s σ H Q I h) fun c s1 e=>?_)
 cases c with
 | false=>exact isTrue_or_nil e
 | true=>exact e
theorem Dn(ha:PT X a tA)(hb:PW X (.BoolOp .And (b::rest) pos) tB'):PW X (.BoolOp .And (a::b::rest) pos) (tAnd tA tB'):=by
 intro wh z0 s σ H Q I h;refine isTrue_and (thn (ha z0 s σ H _ I h) fun c s1 ⟨H1,I1,q1⟩=>?_)
 cases c with
 | true=>exact hb wh z0 s1 σ H1 Q I1 q1
 | false=>exact⟨H1,I1,q1⟩
theorem Le(ha:PT X a tA)(hb:PW X (.BoolOp .Or (b::rest) pos) tB'):PW X (.BoolOp .Or (a::b::rest) pos) (tOr tA tB'):=by
 intro wh z0 s σ H Q I h;refine isTrue_or (thn (ha z0 s σ H _ I h) fun c s1 ⟨H1,I1,q1⟩=>?_)
 cases c with
 | true=>exact⟨H1,I1,q1⟩
 | false=>exact hb wh z0 s1 σ H1 Q I1 q1
theorem Dq(ha:PT X a tA):PT X (.UnaryOp .Not a pos) (tNot tA):=by
 intro z0 s σ H Q I h;exact isTrue_not (ha z0 s σ H (fun c H1=>Q (!c) H1) I h)
def Qs(ta tb:TE):TE:=fun σ H Q=>ta σ H fun x H1=>∃ c,x=.bl c/\if c=true then tb σ H1 Q else Q (.bl false) H1
def tOrV(ta tb:TE):TE:=fun σ H Q=>ta σ H fun x H1=>∃ c,x=.bl c/\if c=true then Q (.bl true) H1 else tb σ H1 Q
def Qm(ta:TE):TE:=fun σ H Q=>ta σ H fun x H1=>∃ c,x=.bl c/\Q (.bl (!c)) H1
theorem Lx{op}{t:TE}(h:PE X a t):PE X (.BoolOp op [a] pos) t:=fun z0 s σ H Q I hw=>BoolOp_one (h z0 s σ H Q I hw)
theorem Dw(ha:PE X a ta)(hb:PE X (.BoolOp .And (b::rest) pos) tb):PE X (.BoolOp .And (a::b::rest) pos) (Qs ta tb):=by
 intro z0 s σ H Q I h;refine BoolOp_and (thn (ha z0 s σ H _ I h) fun v s1 ⟨x,H1,I1,r1,q1⟩=>?_);obtain⟨c,rfl,q1⟩:=q1;cases r1;refine P1z ?_
 cases c with
 | true=>exact hb z0 s1 σ H1 Q I1 q1
 | false=>exact⟨.bl false,H1,I1,rfl,q1⟩
theorem Lr(ha:PE X a ta)(hb:PE X (.BoolOp .Or (b::rest) pos) tb):PE X (.BoolOp .Or (a::b::rest) pos) (tOrV ta tb):=by
 intro z0 s σ H Q I h;refine BoolOp_or (thn (ha z0 s σ H _ I h) fun v s1 ⟨x,H1,I1,r1,q1⟩=>?_);obtain⟨c,rfl,q1⟩:=q1;cases r1;refine P1z ?_
 cases c with
 | false=>exact hb z0 s1 σ H1 Q I1 q1
 | true=>exact⟨.bl true,H1,I1,rfl,q1⟩
theorem Ly(ha:PE X a ta):PE X (.UnaryOp .Not a pos) (Qm ta):=by
 intro z0 s σ H Q I h;refine UnaryOp_ (thn (ha z0 s σ H _ I h) fun v s1 ⟨x,H1,I1,r1,q1⟩=>?_);obtain⟨c,rfl,q1⟩:=q1;cases r1;exact not_of (P1z ⟨.bl (!c),H1,I1,rfl,q1⟩)
def tIf(t:TT)(ta tb:TE):TE:=fun σ H Q=>t σ H fun c H1=>if c=true then ta σ H1 Q else tb σ H1 Q
theorem mQ{c:Expr}(hc:PT X c tA)(ha:PE X a ta)(hb:PE X b tb):PE X (.IfExp c a b pos) (tIf tA ta tb):=by
 intro z0 s σ H Q I h;refine wpAny_IfExp (thn (hc z0 s σ H _ I h) fun d s1 ⟨H1,I1,q1⟩=>?_)
 cases d with
 | true=>exact ha z0 s1 σ H1 Q I1 q1
 | false=>exact hb z0 s1 σ H1 Q I1 q1
end
def SqL(K:Z3)(H:Hp)(a:Addr)(xs:List V):Prop :=
 Rd H a (.lst xs) \/
  ∃ (o:Obj) (its:Array Value) (n:Nat),K.lookup a=some o/\o.cls=.type "list"/\o.dict=none/\o.data=.seq its n/\its.size<=sizeLine/\Vals xs its.toList
def SqT(K:Z3)(H:Hp)(a:Addr)(xs:List V):Prop :=
 Rd H a (.tup xs) \/
  ∃ (o:Obj) (its:Array Value) (n:Nat),K.lookup a=some o/\o.cls=.type "tuple"/\o.data=.seq its n/\its.size<=sizeLine/\Vals xs its.toList
def absV:Value->Option V
 | .none=>some .non
 | .bool b=>some (.bl b)
 | .int i _=>some (.int i)
 | .str x _=>some (.str x)
 | .bytes b _=>some (.byt b)
 | .float b _=>some (.flt b)
 | .ref a=>some (.ref a)
 | .type n=>some (.ty n)
 | _=>none
theorem RelV.abs{x:V}{u:Value}(r:RelV x u):absV u=some x:=by
 cases x with
 | non=>cases r;rfl
 | bl _=>cases r;rfl
 | int _=>obtain⟨t,rfl⟩:=r;rfl
 | str _=>obtain⟨t,rfl⟩:=r;rfl
 | byt _=>obtain⟨t,rfl⟩:=r;rfl
 | flt _=>obtain⟨t,rfl⟩:=r;rfl
 | ref _=>cases r;rfl
 | ty _=>cases r;rfl
theorem RelV.inj{x y:V}{u:Value}(r:RelV x u)(q:RelV y u):x=y:=P2z (r.abs.symm.trans q.abs)
theorem Vals.inj:∀ {xs ys:List V} {us:List Value},Vals xs us->Vals ys us->xs=ys
 | _,_,_,.nil,.nil=>rfl
 | _,_,_,.cons r t,.cons r' t'=>by rw[r.inj r',Vals.inj t t']
section
variable {X:Cx} {z0:List (Addr×Obj)} {σ:St} {H:Hp} {s:Shared} {a:Addr} {xs ys:List V}
theorem SqL.of{K:Z3}(h:H a=some (.lst xs)):SqL K H a xs:=.inl (.inl h)
theorem SqT.of{K:Z3}(h:H a=some (.tup xs)):SqT K H a xs:=.inl (.inl h)
theorem Inv.list(I:Inv X z0 σ H s)(h:SqL X.K H a xs):∃ its:List Value,Vals xs its/\PlainL s.heap a its.toArray/\xs.length<=sizeLine:=by
 rcases h with h | ⟨o,its,n,hk,hc,hd,hs,hz,r⟩
 ·obtain⟨z,its,n,r,e⟩:=h.ok I.hok
  exact⟨its,r,⟨_,n,e,rfl,rfl,rfl⟩,z⟩
 ·refine⟨its.toList,r,⟨o,n,I.kIn a o hk,hc,hd,by simpa using hs⟩,?_⟩
  have e:=r.length;simp only[X0z] at e;omega
theorem Inv.tuple(I:Inv X z0 σ H s)(h:SqT X.K H a xs):∃ its:List Value,Vals xs its/\IsTup s.heap a its.toArray/\xs.length<=sizeLine:=by
 rcases h with h | ⟨o,its,n,hk,hc,hs,hz,r⟩
 ·obtain⟨z,its,r,p⟩:=h.ok I.hok
  exact⟨its,r,p,z⟩
 ·refine⟨its.toList,r,⟨o,I.kIn a o hk,hc,n,by simpa using hs⟩,?_⟩
  have e:=r.length;simp only[X0z] at e;omega
theorem Inv.list_inj(I:Inv X z0 σ H s)(h:SqL X.K H a xs)(h':SqL X.K H a ys):xs=ys:=by
 obtain⟨its,r,⟨o,n,e,_,_,d⟩,_⟩:=I.list h;obtain⟨its',r',⟨o',n',e',_,_,d'⟩,_⟩:=I.list h';rw[e] at e';cases e';rw[d] at d';injection d' with d1 _
 have:its=its':=by simpa using congrArg Array.toList d1
 subst this;exact r.inj r'
theorem Inv.tuple_inj(I:Inv X z0 σ H s)(h:SqT X.K H a xs)(h':SqT X.K H a ys):xs=ys:=by
 obtain⟨its,r,⟨o,e,_,n,d⟩,_⟩:=I.tuple h;obtain⟨its',r',⟨o',e',_,n',d'⟩,_⟩:=I.tuple h';rw[e] at e';cases e';rw[d] at d';injection d' with d1 _
 have:its=its':=by simpa using congrArg Array.toList d1
 subst this;exact r.inj r'
end
abbrev Cx.wish(X:Cx)(E:Value->Shared->Prop):Cx:={ X with xe:=E }
abbrev Cx.nox(X:Cx):Cx:=X.wish fun _ _=>False
theorem Cx.Ok.wish{X:Cx}(ok:X.Ok)(E:Value->Shared->Prop):(X.wish E).Ok :=
 ⟨ok.mod,ok.kind,ok.glob,ok.blt,ok.above,ok.inj,ok.has,ok.cab,ok.hd,ok.frames,ok.stk,ok.exf,ok.bs,ok.bsz,ok.noex,ok.exfs,ok.funs,ok.frf⟩
theorem Cx.Ok.unwish{X:Cx}{E:Value->Shared->Prop}(ok:(X.wish E).Ok):X.Ok :=
 ⟨ok.mod,ok.kind,ok.glob,ok.blt,ok.above,ok.inj,ok.has,ok.cab,ok.hd,ok.frames,ok.stk,ok.exf,ok.bs,ok.bsz,ok.noex,ok.exfs,ok.funs,ok.frf⟩
section
variable {X:Cx} {z0:List (Addr×Obj)} {σ:St} {H:Hp} {s:Shared} {E:Value->Shared->Prop}
theorem Inv.wish(I:Inv X z0 σ H s)(E:Value->Shared->Prop):Inv (X.wish E) z0 σ H s:=⟨I.ok.wish E,I.os,I.bare,I.base,I.loc,I.cell,I.free,I.freeC,I.pin,I.hok,I.len⟩
theorem Inv.unwish(I:Inv (X.wish E) z0 σ H s):Inv X z0 σ H s:=⟨I.ok.unwish,I.os,I.bare,I.base,I.loc,I.cell,I.free,I.freeC,I.pin,I.hok,I.len⟩
theorem SP.unwish{D:Ends}{f:Flow}(h:SP (X.wish E) z0 D f s'):SP X z0 D f s':=by
 cases f with
 | next=>obtain⟨σ',H',I,q⟩:=h;exact⟨σ',H',I.unwish,q⟩
 | brk=>obtain⟨σ',H',I,q⟩:=h;exact⟨σ',H',I.unwish,q⟩
 | cont=>obtain⟨σ',H',I,q⟩:=h;exact⟨σ',H',I.unwish,q⟩
 | ret u=>obtain⟨v,σ',H',I,r,q⟩:=h;exact⟨v,σ',H',I.unwish,r,q⟩
end
section
variable {X:Cx} {st:Stmt} {rest:List Stmt} {t u:TS} {e:Expr} {te:TE} {pos:Pos}
def FZ:TS:=fun D σ H=>D.nx σ H
def Yy(t u:TS):TS:=fun D σ H=>t { D with nx:=u D } σ H
theorem wY:PSs X [] FZ:=fun _ _ σ H _ I h=>Q2z ⟨σ,H,I,h⟩
theorem mK(h1:PS X st t)(h2:PSs X rest u):PSs X (st::rest) (Yy t u):=by
 intro z0 s σ H D I h;refine wpAny_execs_cons (thn (h1 z0 s σ H { D with nx:=u D } I h) fun f s1 q=>?_)
 cases f with
 | next =>
  obtain⟨σ',H',I',q⟩:=q;exact h2 z0 s1 σ' H' D I' q
 | ret v=>exact q
 | brk=>exact q
 | cont=>exact q
theorem GJ:PS X (.Pass pos) FZ:=fun _ _ σ H _ I h=>wpAny_Pass ⟨σ,H,I,h⟩
theorem Inv.quiet{H:Hp}{s:Shared}(I:Inv X z0 σ H s):interactive X.env=false:=by simp[interactive,I.ok.kind]
def Qp(te:TE):TS:=fun D σ H=>te σ H fun _ H1=>D.nx σ H1
theorem iI(he:PE X e te)(hs:swapsWith e none pos.line X.env=pure false:=by rfl):PS X (.Expr e pos) (Qp te):=by
 intro z0 s σ H D I h;exact wpAny_Expr_any (thn (he z0 s σ H _ I h) fun v s1 ⟨x,H1,I1,r1,q1⟩=>⟨σ,H1,I1,q1⟩) I.quiet hs
def tRet(te:TE):TS:=fun D σ H=>te σ H D.rt
theorem Lf(he:PE X e te):PS X (.Return (some e) pos) (tRet te):=by
 intro z0 s σ H D I h;exact wpAny_Return_some (thn (he z0 s σ H _ I h) fun v s1 ⟨x,H1,I1,r1,q1⟩=>⟨x,σ,H1,I1,r1,q1⟩)
def Qk:TS:=fun D _ H=>D.rt .non H
theorem GF:PS X (.Return none pos) Qk:=fun _ _ σ H _ I h=>wpAny_Return_none ⟨.non,σ,H,I,rfl,h⟩
def tIfS(c:TT)(t u:TS):TS:=fun D σ H=>c σ H fun b H1=>if b=true then t D σ H1 else u D σ H1
theorem GK{c:Expr}{a b:List Stmt}{tc:TT}(hc:PT X c tc)(ha:PSs X a t)(hb:PSs X b u):PS X (.If c a b pos) (tIfS tc t u):=by
 intro z0 s σ H D I h;refine wpAny_If (thn (hc z0 s σ H _ I h) fun d s1 ⟨H1,I1,q1⟩=>?_)
 cases d with
 | true=>exact ha z0 s1 σ H1 D I1 q1
 | false=>exact hb z0 s1 σ H1 D I1 q1
end
abbrev TG:=V->St->Hp->(St->Hp->Prop)->Prop
abbrev TGs:=List V->St->Hp->(St->Hp->Prop)->Prop
def PG(X:Cx)(target:Expr)(t:TG):Prop :=
  ∀ (z0 : List (Addr × Obj)) (s : Shared) (σ : St) (H : Hp) (v : V) (u : Value) (Q : St -> Hp -> Prop), Inv X z0 σ H s -> RelV v u -> t v σ H Q ->
    wpAny (model X.prog X.w) X.A (assign target X.env u) (fun _ s'=>∃ σ' H',Inv X z0 σ' H' s'/\Q σ' H') X.xe s
def PGs(X:Cx)(ts:List Expr)(t:TGs):Prop :=
  ∀ (z0 : List (Addr × Obj)) (s : Shared) (σ : St) (H : Hp) (vs : List V) (us : List Value) (Q : St -> Hp -> Prop), Inv X z0 σ H s -> Vals vs us -> t vs σ H Q ->
    wpAny (model X.prog X.w) X.A (assignInOrder ((assignEach ts X.env).map (·.2)) us) (fun _ s'=>∃ σ' H',Inv X z0 σ' H' s'/\Q σ' H') X.xe s
abbrev Yq:=V->V->V->Hp->(Hp->Prop)->Prop
def aaU(X:Cx)(t:Yq):Prop :=
  ∀ (z0 : List (Addr × Obj)) (s : Shared) (σ : St) (H : Hp) (o i v : V) (ov iv u : Value) (Q : Hp -> Prop), Inv X z0 σ H s -> RelV o ov -> RelV i iv -> RelV v u -> t o i v H Q ->
    wpAny (model X.prog X.w) X.A (setItem ov iv u) (fun _ s'=>∃ H',Inv X z0 σ H' s'/\Q H') X.xe s
section
variable {X:Cx} {pos:Pos}
def Ce(i:Nat):TG:=fun v σ H Q=>Q (σ.set i (some v)) H
theorem G5{i:Nat}{x:Str}(hN:X.N.Nodup)(hi:X.N[i]?=some x)(hx:Loc X.env.scope x)(hf:X.fn x=true\/X.env.scope.names.lookup x=some .local:=by first | exact .inl rfl | exact .inr rfl | assumption):PG X (.Name x pos) (Ce i):=by
 intro z0 s σ H v u Q I r h;exact wpAny_assign_Name (gR I hN hi hx r (fun s' I'=>⟨_,H,I',h⟩) hf)
def gNil:TGs:=fun vs σ H Q=>vs=[]/\Q σ H
def X6(t:TG)(u:TGs):TGs:=fun vs σ H Q=>∃ v r,vs=v::r/\t v σ H fun σ' H'=>u r σ' H' Q
theorem G4:PGs X [] gNil:=by
 intro z0 s σ H vs us Q I r h;obtain⟨e,h⟩:=h;subst e;cases r;exact assignInOrder_nil ⟨σ,H,I,h⟩
theorem Bm{e:Expr}{es:List Expr}{t:TG}{u:TGs}(h1:PG X e t)(h2:PGs X es u)
  (hs:(assignEach (e::es) X.env).map (·.2)=assign e X.env::(assignEach es X.env).map (·.2):=by rfl):PGs X (e::es) (X6 t u):=by
 intro z0 s σ H vs us Q I r h;obtain⟨v,vr,e1,h⟩:=h;subst e1
 cases r with
 | cons r rr =>
  rw[hs];refine assignInOrder_cons (thn (h1 z0 s σ H _ _ _ I r h) fun _ s1 ⟨σ1,H1,I1,q1⟩=>?_);exact h2 z0 s1 σ1 H1 _ _ Q I1 rr q1
def gTup(K:Z3)(n:Nat)(t:TGs):TG:=fun v σ H Q=>∃ a xs,v=.ref a/\SqT K H a xs/\xs.length=n/\t xs σ H Q
theorem Dt{es:List Expr}{k:Nat}{t:TGs}{n:Nat}(hc:X.calm=true)(h:PGs X es t)
  (hn:(assignEach es X.env).length=n:=by rfl) (hst:(assignEach es X.env).findIdx? (·.1)=none:=by rfl):PG X (.Tuple es k pos) (gTup X.K n t):=by
 intro z0 s σ H v u Q I r hw;obtain⟨a,xs,e1,hq,hl,hw⟩:=hw;subst e1;cases r;obtain⟨its,rv,ht,hz⟩:=I.tuple hq;refine assign_Tuple_tuple (I.ok.hd hc) ht (by simp[hn,<- hl,rv.length]) hst fun h' hx=>?_;have I1:Inv X z0 σ H { s with heap:=h' }:=I.kept (t':=s.toks) fun b o e=>hx b o (E4z (D4z e)) e;exact h z0 _ σ H xs _ Q I1 (by simpa using rv) hw
def gSub(to ti:TE)(t:Yq):TG:=fun v σ H Q=>to σ H fun o H1=>ti σ H1 fun i H2=>t o i v H2 fun H3=>Q σ H3
theorem xG{o i:Expr}{to ti:TE}{t:Yq}(ho:PE X o to)(hi:PE X i ti)(hs:aaU X t)
  (ha:∀ v,assign (.Subscript o i pos) X.env v=(do
   let ov <- holding [v] (eval o X.env)
   let iv <- holding [v,ov] (eval i X.env)
   standAt pos
   holding [v,ov,iv] (setItem ov iv v)
   release [v,ov,iv] []):=by intro _;rfl):PG X (.Subscript o i pos) (gSub to ti t):=by
 intro z0 s σ H v u Q I r h;rw[ha];refine Y4z (U3z (thn (ho z0 s σ H _ I h) fun ov s1 ⟨x,H1,I1,r1,q1⟩=>?_));refine Y4z (U3z (thn (hi z0 s1 σ H1 _ I1 q1) fun iv s2 ⟨y,H2,I2,r2,q2⟩=>?_));refine Y4z (V3z (Y4z (U3z (thn (hs z0 s2 σ H2 x y v ov iv u _ I2 r1 r2 r q2) fun _ s3 ⟨H3,I3,q3⟩=>?_))));exact wpAny_release ⟨σ,H3,I3,q3⟩
def OJ(te:TE)(g:TG):TS:=fun D σ H=>te σ H fun x H1=>g x σ H1 D.nx
theorem sX{tg e:Expr}{te:TE}{g:TG}(he:PE X e te)(hg:PG X tg g)(hs:swapsWithSole [tg] e pos.line X.env=pure false:=by rfl)(hw:swappedStores [tg] e X.env=pure none:=by rfl)
  (h1:(assignEach [tg] X.env).map (·.2)=[assign tg X.env]:=by rfl):PS X (.Assign [tg] e pos) (OJ te g):=by
 intro z0 s σ H D I h;refine wpAny_Assign_stores (thn (he z0 s σ H _ I h) fun v s1 ⟨x,H1,I1,r1,q1⟩=>?_) hs hw;rw[h1];exact thn (hg z0 s1 σ H1 x v _ I1 r1 q1) fun _ s2 q=>q
theorem jd{i:Nat}{x:Str}{e:Expr}(hN:X.N.Nodup)(hi:X.N[i]?=some x)(hx:Loc X.env.scope x)(he:PE X e te)(hs:swapsWith e (some (.Name x pos')) pos.line X.env=pure false:=by rfl)(hf:X.fn x=true\/X.env.scope.names.lookup x=some .local:=by first | exact .inl rfl | exact .inr rfl | assumption):
  PS X (.Assign [.Name x pos'] e pos) (OJ te (Ce i)):=by
 intro z0 s σ H D I h;refine wpAny_Assign_Name (thn (he z0 s σ H _ I h) fun v s1 ⟨y,H1,I1,r1,q1⟩=>?_) hs;exact gR I1 hN hi hx r1 (fun s2 I2=>⟨_,H1,I2,q1⟩) hf
def tPar(i j:Nat)(ta:TA):TS:=fun D σ H=>ta σ H fun vs H1=>∃ v w,vs=[v,w]/\D.nx ((σ.set i (some v)).set j (some w)) H1
theorem Lg{i j:Nat}{x y:Str}{a b:Expr}{ta:TA}{px py pt:Pos}{kt k2 pt2}(hc:X.calm=true)(hN:X.N.Nodup)(hi:X.N[i]?=some x)(hj:X.N[j]?=some y)(hij:i≠j)
  (hx:X.env.scope.names.lookup x=some .local) (hy:X.env.scope.names.lookup y=some .local) (ha:PA X [a,b] ta)
  (hw:swappedStores [.Tuple [.Name x px,.Name y py] kt pt] (.Tuple [a,b] k2 pt2) X.env=pure (some [x,y]))
  (hs:swapsWithSole [.Tuple [.Name x px,.Name y py] kt pt] (.Tuple [a,b] k2 pt2) pos.line X.env=pure false:=by rfl) :
  PS X (.Assign [.Tuple [.Name x px,.Name y py] kt pt] (.Tuple [a,b] k2 pt2) pos) (tPar i j ta):=by
 intro z0 s σ H D I h;rw[exec_Assign_arm];refine Y4z (V3z ?_);rw[hs];refine Y4z (Z4z ?_);rw[L5z (by decide)];refine Y4z (Tuple_ (thn (ha _ z0 s σ H _ I h) fun us s1 ⟨vs,H1,I1,r1,q1⟩=>?_));obtain⟨v,w,e1,q1⟩:=q1;subst e1
 obtain⟨u1,u2,rfl,rv,rw'⟩:∃ u1 u2,us=[u1,u2]/\RelV v u1/\RelV w u2:=by
  cases r1 with
  | cons p q =>
   cases q with
   | cons p' q' =>
    cases q';exact⟨_,_,rfl,p,p'⟩
 refine Q1z ?_ (by show 2<=sizeLine;decide)
 have I2:Inv X z0 σ H1 { s1 with heap:=s1.heap.push { cls:=.type "tuple",data:=.seq [u1,u2].toArray } }:=I1.kept (t':=s1.toks) fun b o e=>Heap.get?_push_of_some _ e;rw[hw];refine Y4z (Z4z ?_);show wpAny (model X.prog X.w) X.A (do rule "assign.swapped-stores";let items <- unpackItems (.ref s1.heap.objs.size) 2 none;assignInOrder [fun v=>bindName X.env y v,fun v=>bindName X.env x v] items.reverse;pure Flow.next) _ _ _;refine Y4z (A5z (Y4z (unpackItems_tuple (items := #[u1,u2]) (I.ok.hd hc) (IsTup.new s1.heap _) fun h' hx'=>?_)));have I3:=I2.kept (h':=h') (t':=s1.toks) fun b o e=>hx' b o (E4z (D4z e)) e;show wpAny _ _ (assignInOrder [fun v=>bindName X.env y v,fun v=>bindName X.env x v] [u2,u1] >>=fun _=>pure Flow.next) _ _ _;refine Y4z (assignInOrder_cons (wpAny_bindName (gR I3 hN hj (.inl hy) rw' (fun s2 I4=>?_) (.inr hy))));refine assignInOrder_cons (wpAny_bindName (gR I4 hN hi (.inl hx) rv (fun s3 I5=>assignInOrder_nil (Z4z ?_)) (.inr hx)));rw[List.set_comm _ _ (I5z hij)] at I5;exact⟨_,H1,I5,q1⟩
end
section
variable {X:Cx} {pos:Pos}
def Kg(c:TT)(tb:TS):TS:=fun D σ H=>∃ W:Nat->St->Hp->Prop,(∃ m,W m σ H)/\∀ m σ H,W m σ H ->
 c σ H fun b H1=>if b=true then ∃ N:St->Hp->Prop,(∀ σ' H',N σ' H'->∃ m',m'<m/\W m' σ' H')/\tb { D with nx:=N,ct:=N,bk:=D.nx } σ H1 else D.nx σ H1
theorem Bg{c:Expr}{tc:TT}{tb:TS}(hp:PassesOwn (model X.prog X.w) X.A X.env X.xe)(hc:PT X c tc)(hb:PSs X body tb):PS X (.While c body [] pos) (Kg tc tb):=by
 intro z0 s σ H D I h;obtain⟨W,⟨m0,w0⟩,turn⟩:=h;refine wpAny_While (codeAny_whileLoop (fun n s'=>∃ σ' H',Inv X z0 σ' H' s'/\W n σ' H') ?_ m0 ⟨σ,H,I,w0⟩);rintro n s1 ⟨σ1,H1,I1,w1⟩;refine R2z hp (thn (hc z0 s1 σ1 H1 _ I1 (turn n σ1 H1 w1)) fun b s2 ⟨H2,I2,q2⟩=>?_)
 cases b with
 | true =>
  obtain⟨N,hN,q2⟩:=q2;rw[K5z rfl];refine R2z hp (thn (hb z0 s2 σ1 H2 _ I2 q2) fun f s3 q3=>?_)
  cases f with
  | next =>
   obtain⟨σ3,H3,I3,n3⟩:=q3;obtain⟨m',hm,w3⟩:=hN σ3 H3 n3;exact⟨m',hm,σ3,H3,I3,w3⟩
  | cont =>
   obtain⟨σ3,H3,I3,n3⟩:=q3;obtain⟨m',hm,w3⟩:=hN σ3 H3 n3;exact⟨m',hm,σ3,H3,I3,w3⟩
  | brk=>exact q3
  | ret v=>exact q3
 | false =>
  rw[L5z G1z];exact Q2z ⟨σ1,H2,I2,q2⟩
end
structure It where
 go:Nat->Hp->Prop
 yld:Nat->Hp->V->Hp->Prop
 stop:Nat->Hp->Prop
def vJ(X:Cx)(z0:List (Addr×Obj))(H:Hp)(b:Addr):Prop :=
 H b=none/\b≠X.env.locals/\b∉X.fs/\(b∈X.ex\/X.s₀.heap.objs.size<=b)/\(∀ x c,X.env.cells.lookup x=some c->c≠b)/\∀ p∈X.pn++z0,p.1≠b
theorem Inv.fpOk{H H':Hp}{s:Shared}{b:Addr}(I:Inv X z0 σ H s)(hb:s.heap.objs.size<=b)(hn:H' b=none):vJ X z0 H' b:=by
 refine⟨hn,G4z (E1z I.lt hb),I.nofs hb,.inr (F4z I.sz hb),fun x c e z=>?_,fun p hp z=>?_⟩
 ·obtain⟨v,q⟩:=I.cell x c e
  exact absurd (E1z q.lt (by rw[z];exact hb)) (T3z _)
 ·exact absurd (E1z (D4z (I.pin p hp).1) (by rw[z];exact hb)) (T3z _)
structure Turn (P:Program) (w:World) (K:Z3) (tg:Expr) (J:It) (fp:List Addr) (it:Addr) (tn:Nat->Heap->Prop):Prop where
 mem:it∈fp
 obj:∀ i h,tn i h->∀ b∈fp,∃ o,h.get? b=some o/\∀ v,o.data≠.cell v
 keep:∀ i h h',tn i h->(∀ b∈fp,∀ o,h.get? b=some o->h'.get? b=some o)->tn i h'
 item:∀ (X:Cx),X.prog=P->X.w=w->X.K=K->X.calm=true->∀ (i:Nat) (z0:List (Addr×Obj)) (s:Shared) (σ:St) (H:Hp) (E:Value->Shared->Prop),Inv X z0 σ H s->(∀ b∈fp,vJ X z0 H b)->tn i s.heap->J.go i H ->
  wpAny (model P w) X.A (pyNext (.ref it)) (fun r s1=>∃ u,r=some u /\
   wpAny (model P w) X.A (letOwnedTupleGo tg (.ref it) u) (fun _ s2=>∃ x H',Inv X z0 σ H' s2/\RelV x u/\J.yld i H x H'/\tn (i+1) s2.heap/\∀ b∈fp,H' b=none) E s1) E s
 done:∀ (X:Cx),X.prog=P->X.w=w->X.K=K->X.calm=true->∀ (i:Nat) (z0:List (Addr×Obj)) (s:Shared) (σ:St) (H:Hp) (E:Value->Shared->Prop),Inv X z0 σ H s->(∀ b∈fp,vJ X z0 H b)->tn i s.heap->J.stop i H ->
  wpAny (model P w) X.A (pyNext (.ref it)) (fun r s1=>r=none/\Inv X z0 σ H s1) E s
 self:∀ (A:Around) (i:Nat) (s:Shared) (Q:Value->Shared->Prop) (E:Value->Shared->Prop),tn i s.heap->Q (.ref it) s->wpAny (model P w) A (pyIter (.ref it)) Q E s
abbrev TI:=St->Hp->(It->Hp->Prop)->Prop
def PIE(X:Cx)(z0:List (Addr×Obj))(σ:St)(tg:Expr)(R:It->Hp->Prop)(itv:Value)(s2:Shared):Prop :=
 ∃ (it:Addr) (fp:List Addr) (tn:Nat->Heap->Prop) (J:It) (H':Hp),itv=.ref it/\Inv X z0 σ H' s2/\Turn X.prog X.w X.K tg J fp it tn/\tn 0 s2.heap/\(∀ b∈fp,vJ X z0 H' b)/\R J H'
def PI(X:Cx)(tg iter:Expr)(wi:TI):Prop :=
  ∀ (z0 : List (Addr × Obj)) (s : Shared) (σ : St) (H : Hp) (R : It -> Hp -> Prop), Inv X z0 σ H s -> wi σ H R ->
    wpAny (model X.prog X.w) X.A (eval iter X.env) (fun v s1=>wpAny (model X.prog X.w) X.A (pyIter v) (PIE X z0 σ tg R) X.xe s1) X.xe s
theorem yG{M:Model}{A:Around}{E:Value->Shared->Prop}{s:Shared}{tg:Expr}{it:Addr}{u:Value}{o:Obj}{n:String}{vs:Array Value}{Q:Unit->Shared->Prop}(ho:s.heap.get? it=some o)(hc:o.cls=.type n)(hd:o.data=.fields vs)
    (hn:["enumerate","zip","dict_itemiterator","dict_reverseitemiterator","odict_iterator","itertools.zip_longest","itertools.pairwise"].contains n=false) (hQ:Q () s):wpAny M A (letOwnedTupleGo tg (.ref it) u) Q E s:=by
  unfold letOwnedTupleGo
  cases tg<;>first
    | exact Z4z hQ
    | (cases u<;>first
        | exact Z4z hQ
        | (refine Y4z (wpAny_load ho ?_)
           rw[hc,hd]
           show wpAny M A (if(["enumerate","zip","dict_itemiterator","dict_reverseitemiterator","odict_iterator","itertools.zip_longest","itertools.pairwise"].contains n&&vs[0]?==some (rawInt _))=true then _ else _) Q E s
           rw[L5z (by intro h;rw[hn,K3z] at h;cases h)]
           exact Z4z hQ))
def Itl(K:Z3)(a:Addr):It :=
 ⟨fun i H=>∃ xs x,SqL K H a xs/\xs[i]?=some x,fun i H x H'=>H'=H/\∀ xs,SqL K H a xs->xs[i]?=some x,fun i H=>∃ xs,SqL K H a xs/\xs.length<=i⟩
def Itt(K:Z3)(a:Addr):It :=
 ⟨fun i H=>∃ xs x,SqT K H a xs/\xs[i]?=some x,fun i H x H'=>H'=H/\∀ xs,SqT K H a xs->xs[i]?=some x,fun i H=>∃ xs,SqT K H a xs/\xs.length<=i⟩
def Itr(lo:Int)(n:Nat):It:=⟨fun i _=>i<n,fun i H x H'=>H'=H/\x=.int (lo+i),fun i _=>n<=i⟩
theorem v7{K:Z3}(a it:Addr):Turn P w K tg (Itl K a) [it] it (fun i h=>h.IsListIter it a i) where
 mem:=by simp
 obj:=fun i h st b hb=>by
  have e:b=it:=by simpa using hb
  subst e;obtain⟨o,e,c,d⟩:=st;exact⟨o,e,fun v z=>by rw[d] at z;cases z⟩
 keep:=fun i h h' st k=>st.at fun o e=>k it (by simp) o e
 item:=by
  intro X hP hw hK hc i z0 s σ H E I hf st hg;subst hP hw hK;obtain⟨xs,x,hq,hx⟩:=hg;obtain⟨its,rv,p,hz⟩:=I.list hq;obtain⟨u,hu,ru⟩:=rv.get hx;obtain⟨f0,f1,f2,f3,f4,f5⟩:=hf it (by simp);refine wpAny_pyNext_list_item st p.isList (x:=u) (by simpa using hu) fun h' st' sb=>?_;have I1:Inv X z0 σ H { s with heap:=h' }:=I.turned (t':=s.toks) (fun b o hb e=>(sb.2 b hb).trans e) f0 f1 f3 f4 f5;obtain⟨o,e,c,d⟩:=id st';exact⟨u,rfl,yG (s:={ s with heap:=h' }) e c d (by decide) ⟨x,H,I1,ru,⟨rfl,fun ys hy=>by rw[I.list_inj hy hq];exact hx⟩,st',fun b hb=>(hf b hb).1⟩⟩
 done:=by
  intro X hP hw hK hc i z0 s σ H E I hf st hg;subst hP hw hK;obtain⟨xs,hq,hx⟩:=hg;obtain⟨its,rv,p,hz⟩:=I.list hq;obtain⟨f0,f1,f2,f3,f4,f5⟩:=hf it (by simp);have hl:=rv.length;exact wpAny_pyNext_list_end (I.ok.hd hc) st p.isList (by simp;omega) fun h' eb=>⟨rfl,I.turned (t':=s.toks) (fun b o hb e=>eb b o hb e) f0 f1 f3 f4 f5⟩
 self:=fun _ _ _ _ _ st h=>wpAny_pyIter_listiter st h
theorem uI{K:Z3}(a it:Addr):Turn P w K tg (Itt K a) [it] it (fun i h=>h.IsTupleIter it a i) where
 mem:=by simp
 obj:=fun i h st b hb=>by
  have e:b=it:=by simpa using hb
  subst e;obtain⟨o,e,c,d⟩:=st;exact⟨o,e,fun v z=>by rw[d] at z;cases z⟩
 keep:=fun i h h' st k=>st.at fun o e=>k it (by simp) o e
 item:=by
  intro X hP hw hK hc i z0 s σ H E I hf st hg;subst hP hw hK;obtain⟨xs,x,hq,hx⟩:=hg;obtain⟨its,rv,p,hz⟩:=I.tuple hq;obtain⟨u,hu,ru⟩:=rv.get hx;obtain⟨f0,f1,f2,f3,f4,f5⟩:=hf it (by simp);refine wpAny_pyNext_tuple_item st (show s.heap.IsTuple a its.toArray from p) (x:=u) (by simpa using hu) fun h' st' sb=>?_;have I1:Inv X z0 σ H { s with heap:=h' }:=I.turned (t':=s.toks) (fun b o hb e=>(sb.2 b hb).trans e) f0 f1 f3 f4 f5;obtain⟨o,e,c,d⟩:=id st';exact⟨u,rfl,yG (s:={ s with heap:=h' }) e c d (by decide) ⟨x,H,I1,ru,⟨rfl,fun ys hy=>by rw[I.tuple_inj hy hq];exact hx⟩,st',fun b hb=>(hf b hb).1⟩⟩
 done:=by
  intro X hP hw hK hc i z0 s σ H E I hf st hg;subst hP hw hK;obtain⟨xs,hq,hx⟩:=hg;obtain⟨its,rv,p,hz⟩:=I.tuple hq;obtain⟨f0,f1,f2,f3,f4,f5⟩:=hf it (by simp);have hl:=rv.length;exact wpAny_pyNext_tuple_end (I.ok.hd hc) st (show s.heap.IsTuple a its.toArray from p) (by simp;omega) fun h' eb=>⟨rfl,I.turned (t':=s.toks) (fun b o hb e=>eb b o hb e) f0 f1 f3 f4 f5⟩
 self:=fun _ _ _ _ _ st h=>wpAny_pyIter_tupleiter st h
theorem uJ{K:Z3}(it:Addr)(lo:Int)(n:Nat):Turn P w K tg (Itr lo n) [it] it (fun i h=>IsRangeIter h it (lo+(i:Nat)*1) ((n:Int)-(i:Nat)) 1) where
 mem:=by simp
 obj:=fun i h st b hb=>by
  have e:b=it:=by simpa using hb
  subst e
  exact⟨_,st,fun v z=>by
   have z':Data.fields _=Data.cell v:=z
   cases z'⟩
 keep:=fun i h h' st k=>k it (by simp) _ st
 item:=by
  intro X hP hw hK hc i z0 s σ H E I hf st hg;subst hP hw hK;obtain⟨f0,f1,f2,f3,f4,f5⟩:=hf it (by simp);have W:=Walks.range (prog:=X.prog) (w:=X.w) (I.ok.hd hc) it lo 1 n;refine W.item i s _ _ hg st fun v h' tk hv st' kk=>?_;obtain⟨t,rfl⟩:=hv;have I1:Inv X z0 σ H { s with heap:=h',toks:=tk }:=I.turned (fun b o hb e=>kk b o (by simpa using hb) e) f0 f1 f3 f4 f5;refine⟨_,rfl,yG (s:={ s with heap:=h',toks:=tk }) (n:="range_iterator") st' rfl rfl (by decide) ⟨.int (lo+i),H,I1,⟨t,?_⟩,⟨rfl,rfl⟩,st',fun b hb=>(hf b hb).1⟩⟩;rw[Int.mul_one]
 done:=by
  intro X hP hw hK hc i z0 s σ H E I hf st hg;subst hP hw hK;obtain⟨f0,f1,f2,f3,f4,f5⟩:=hf it (by simp);exact wpAny_pyNext_range_end (I.ok.hd hc) st (by have:n<=i:=hg;omega) fun h' eb=>⟨rfl,I.turned (t':=s.toks) (fun b o hb e=>eb b o hb e) f0 f1 f3 f4 f5⟩
 self:=fun _ _ _ _ _ st h=>wpAny_pyIter_rangeiter st h
section
variable {X:Cx} {tg:Expr}
def XC(K:Z3)(tl:TE):TI:=fun σ H R=>tl σ H fun x H1=>∃ a,x=.ref a/\(∃ xs,SqL K H1 a xs)/\R (Itl K a) H1
def iTup(K:Z3)(tl:TE):TI:=fun σ H R=>tl σ H fun x H1=>∃ a,x=.ref a/\(∃ xs,SqT K H1 a xs)/\R (Itt K a) H1
theorem GZ(hl:PE X l tl):PI X tg l (XC X.K tl):=by
 intro z0 s σ H R I h;refine thn (hl z0 s σ H _ I h) fun v s1 ⟨x,H1,I1,r1,q1⟩=>?_;obtain⟨a,e,⟨xs,hq⟩,q⟩:=q1;subst e;cases r1;obtain⟨its,rv,p,hz⟩:=I1.list hq;refine wpAny_pyIter_list p.isList ?_;refine⟨s1.heap.objs.size,[s1.heap.objs.size],_,_,H1,rfl,I1.kept (t':=s1.toks) fun b o e=>Heap.get?_push_of_some _ e,v7 a _,⟨_,Heap.get?_push_size _ rfl,rfl,rfl⟩,fun b hb=>?_,q⟩
 have e:b=s1.heap.objs.size:=by simpa using hb
 subst e;exact I1.fpOk (Q4z _) (I1.hok.fresh (Q4z _))
theorem Ln(hl:PE X l tl):PI X tg l (iTup X.K tl):=by
 intro z0 s σ H R I h;refine thn (hl z0 s σ H _ I h) fun v s1 ⟨x,H1,I1,r1,q1⟩=>?_;obtain⟨a,e,⟨xs,hq⟩,q⟩:=q1;subst e;cases r1;obtain⟨its,rv,p,hz⟩:=I1.tuple hq;refine H1z (show s1.heap.IsTuple a its.toArray from p) ?_;refine⟨s1.heap.objs.size,[s1.heap.objs.size],_,_,H1,rfl,I1.kept (t':=s1.toks) fun b o e=>Heap.get?_push_of_some _ e,uI a _,⟨_,Heap.get?_push_size _ rfl,rfl,rfl⟩,fun b hb=>?_,q⟩
 have e:b=s1.heap.objs.size:=by simpa using hb
 subst e;exact I1.fpOk (Q4z _) (I1.hok.fresh (Q4z _))
theorem sV{z0:List (Addr×Obj)}{σ:St}{H:Hp}{s:Shared}{R:It->Hp->Prop}{E:Value->Shared->Prop}{lo hi:Int}{t u v:Tok}{tk:Nat}(I:Inv X z0 σ H s)(h1:-(2^62)<=lo)(h2:lo<2^62)(h3:-(2^62)<=hi)(h4:hi<2^62)
  (q:R (Itr lo (hi-lo).toNat) H):wpAny (model X.prog X.w) X.A (pyIter (.ref s.heap.objs.size)) (PIE X z0 σ tg R) E { s with heap:=s.heap.push { cls:=.type "range",data:=.fields #[.int lo t,.int hi u,.int 1 v] },toks:=tk }:=by
 refine wpAny_pyIter_range (IsRange.new ..) (small_one h1 h2 h3 h4) ?_;have I1:Inv X z0 σ H { s with heap:=s.heap.push { cls:=.type "range",data:=.fields #[.int lo t,.int hi u,.int 1 v] },toks:=tk }:=I.kept fun b o e=>Heap.get?_push_of_some _ e
 refine⟨(s.heap.push { cls:=.type "range",data:=.fields #[.int lo t,.int hi u,.int 1 v] }).objs.size,[(s.heap.push { cls:=.type "range",data:=.fields #[.int lo t,.int hi u,.int 1 v] }).objs.size],_,_,H,rfl,
  I1.kept (t':=tk) fun b o e=>Heap.get?_push_of_some _ e,uJ _ lo (hi-lo).toNat,?_,fun b hb=>?_,q⟩
 ·have e1:lo+((0:Nat):Int)*1=lo:=by simp
  have e2:(((hi-lo).toNat:Nat):Int)-((0:Nat):Int)=Builtin.Range.rangeSize lo hi 1:=by rw[rangeSize_one];split<;>omega
  show IsRangeIter _ _ (lo+((0:Nat):Int)*1) ((((hi-lo).toNat:Nat):Int)-((0:Nat):Int)) 1;rw[e1,e2];exact Heap.get?_push_size _ rfl
 ·have e:b=(s.heap.push { cls:=.type "range",data:=.fields #[.int lo t,.int hi u,.int 1 v] }).objs.size:=by simpa using hb
  subst e;exact I1.fpOk (Q4z _) (I1.hok.fresh (Q4z _))
def Xy(ta:TA):TI:=fun σ H R=>ta σ H fun vs H1=>∃ j:Int,vs=[.int j] /\ -(2^62)<=j/\j<2^62/\R (Itr 0 j.toNat) H1
def Xx(ta:TA):TI:=fun σ H R=>ta σ H fun vs H1=>∃ i j:Int,vs=[.int i,.int j]/\(-(2^62)<=i/\i<2^62 /\ -(2^62)<=j/\j<2^62)/\R (Itr i (j-i).toNat) H1
theorem xu{p pos:Pos}(hg:Gl X "range")(hm:X.mg "range"=none)(ha:PA X [a] ta)(hs:starEach [a] X.env=[(false,eval a X.env)]:=by rfl):PI X tg (.Call (.Name "range" p) [a] [] pos) (Xy ta):=by
 intro z0 s σ H R I h;refine Call_ (eX I hg hm boot_range (B0z (thn (ha pos z0 s σ H _ I h) fun us s1 ⟨vs,H1,I1,r1,q1⟩=>?_) hs rfl));obtain⟨j,e,q1,q2,q⟩:=q1;subst e
 cases r1 with
 | cons r rr =>
  cases rr;obtain⟨t,rfl⟩:=r;exact call_range_1 (sV I1 (by omega) (by omega) q1 q2 (by simpa using q))
theorem xr{a b:Expr}{p pos:Pos}(hg:Gl X "range")(hm:X.mg "range"=none)(ha:PA X [a,b] ta)(hs:starEach [a,b] X.env=[(false,eval a X.env),(false,eval b X.env)]:=by rfl)(hs2:starEach [b] X.env=[(false,eval b X.env)]:=by rfl):
  PI X tg (.Call (.Name "range" p) [a,b] [] pos) (Xx ta):=by
 intro z0 s σ H R I h;refine Call_ (eX I hg hm boot_range (B0z (thn (ha pos z0 s σ H _ I h) fun us s1 ⟨vs,H1,I1,r1,q1⟩=>?_) (by rw[hs,hs2]) (by rw[hs2];rfl)));obtain⟨i,j,e,⟨q1,q2,q3,q4⟩,q⟩:=q1;subst e
 cases r1 with
 | cons r rr =>
  cases rr with
  | cons r' rr =>
   cases rr;obtain⟨t,rfl⟩:=r;obtain⟨t',rfl⟩:=r';exact call_range_2 (sV I1 q1 q2 q3 q4 q)
def tFor(wi:TI)(g:TG)(tb:TS):TS:=fun D σ H=>wi σ H fun J H1=>∃ W:Nat->Nat->St->Hp->Prop,(∃ m,W 0 m σ H1)/\∀ i m σ H,W i m σ H ->
 (J.stop i H/\D.nx σ H)\/(J.go i H/\∃ N:St->Hp->Prop,(∀ σ' H',N σ' H'->∃ m',m'<m/\W (i+1) m' σ' H')/\∀ x H',J.yld i H x H'->g x σ H' fun σ2 H2=>tb { D with nx:=N,ct:=N,bk:=D.nx } σ2 H2)
def oW(fp:List Addr)(h:Heap):List (Addr×Obj):=fp.filterMap fun b=>(h.get? b).map fun o=>(b,o)
theorem fY{b:Addr}(hb:b∈fp)(e:h.get? b=some o):(b,o)∈oW fp h:=List.mem_filterMap.mpr ⟨b,hb,by rw[e];rfl⟩
theorem xO{p:Addr×Obj}(hp:p∈oW fp h):p.1∈fp/\h.get? p.1=some p.2:=by
 obtain⟨b,hb,e⟩:=List.mem_filterMap.mp hp
 cases q:h.get? b with
 | none=>rw[q] at e;cases e
 | some o =>
  rw[q] at e;have e':(b,o)=p:=P2z e;subst e';exact⟨hb,q⟩
theorem Inv.pinned{H:Hp}{s:Shared}(I:Inv X z0 σ H s)(hf:∀ b∈fp,vJ X z0 H b)(ho:∀ b∈fp,∃ o,s.heap.get? b=some o/\∀ v,o.data≠.cell v):Inv X (z0++oW fp s.heap) σ H s :=
 I.pins_of fun p hp=>(D3z.mp hp).elim (fun z=>I.pin p (O0z _ z)) fun z=>by
  obtain⟨hb,e⟩:=xO z;obtain⟨f0,f1,f2,_⟩:=hf p.1 hb;obtain⟨o,e',d⟩:=ho p.1 hb;rw[e] at e';cases e';exact⟨e,f0,f1,f2,d⟩
theorem Inv.unpinned{z0 pl:List (Addr×Obj)}{H:Hp}{s:Shared}(I:Inv X (z0++pl) σ H s):Inv X z0 σ H s:=I.pins_of fun p hp=>I.pin p (O0z _ (R0z _ hp))
theorem Lh{iter:Expr}{body:List Stmt}{wi:TI}{g:TG}{tb:TS}{pos:Pos}(hp:PassesOwn (model X.prog X.w) X.A X.env X.xe)(hc:X.calm=true)(hi:PI X tg iter wi)(hg:PG X tg g)(hb:PSs X body tb)
  (hs:∀ x,foldedSetIterable iter X.env x=pure x:=by intro _;rfl):PS X (.For tg iter body [] pos) (tFor wi g tb):=by
 intro z0 s σ H D I h;refine wpAny_For (thn (hi z0 s σ H _ I h) fun v s1 h1=>thn h1 fun itv s2 h2=>?_) hs;obtain⟨it,fp,tn,J,H2,e,I2,T,st2,f2,W,⟨m0,w0⟩,turn⟩:=h2;subst e;have stat:∀ {H':Hp},(∀ b∈fp,H' b=none)->∀ b∈fp,vJ X z0 H' b:=fun hn b hb=>⟨hn b hb,(f2 b hb).2⟩;refine codeAny_forLoop_any (fun n s'=>∃ i σ' H',Inv X z0 σ' H' s'/\tn i s'.heap/\(∀ b∈fp,H' b=none)/\W i n σ' H') ?_ m0 ⟨0,σ,H2,I2,st2,fun b hb=>(f2 b hb).1,w0⟩;rintro n s3 ⟨i,σ3,H3,I3,st3,fr3,w3⟩;rcases turn i n σ3 H3 w3 with⟨stop,qn⟩ | ⟨go,N,hN,step⟩
 ·refine R2z hp (thn (T.done X rfl rfl rfl hc i z0 s3 σ3 H3 X.xe I3 (stat fr3) st3 stop) fun r s4 ⟨hr,I4⟩=>?_)
  subst hr;exact Q2z ⟨σ3,H3,I4,qn⟩
 ·refine R2z hp (thn (T.item X rfl rfl rfl hc i z0 s3 σ3 H3 X.xe I3 (stat fr3) st3 go) fun r s4 ⟨u,hr,h4⟩=>?_)
  subst hr;refine R2z hp (thn h4 fun _ s5 ⟨x,H5,I5,r5,y5,st5,fr5⟩=>?_);have I5':=I5.pinned (stat fr5) (T.obj _ _ st5);refine R2z hp (thn (hg _ s5 σ3 H5 x u _ I5' r5 (step x H5 y5)) fun _ s6 ⟨σ6,H6,I6,q6⟩=>?_);refine R2z hp (thn (hb _ s6 σ6 H6 _ I6 q6) fun f s7 q7=>?_)
  have again:∀ {σ7:St} {H7:Hp},Inv X (z0++oW fp s5.heap) σ7 H7 s7->N σ7 H7->∃ m,m<n/\∃ i σ' H',Inv X z0 σ' H' s7/\tn i s7.heap/\(∀ b∈fp,H' b=none)/\W i m σ' H':=fun {σ7 H7} I7 n7=>by
   obtain⟨m',hm,w7⟩:=hN σ7 H7 n7;refine⟨m',hm,i+1,σ7,H7,I7.unpinned,T.keep _ _ _ st5 fun b hb o e=>(I7.pin (b,o) (O0z _ (O0z _ (fY hb e)))).1,fun b hb=>?_,w7⟩;obtain⟨o,e,d⟩:=T.obj _ _ st5 b hb;exact(I7.pin (b,o) (O0z _ (O0z _ (fY hb e)))).2.1
  cases f with
  | next=>obtain⟨σ7,H7,I7,n7⟩:=q7;exact again I7 n7
  | cont=>obtain⟨σ7,H7,I7,n7⟩:=q7;exact again I7 n7
  | brk=>obtain⟨σ7,H7,I7,q7⟩:=q7;exact⟨σ7,H7,I7.unpinned,q7⟩
  | ret v=>obtain⟨x7,σ7,H7,I7,r7,q7⟩:=q7;exact⟨x7,σ7,H7,I7.unpinned,r7,q7⟩
end
abbrev R2:=V->V->Hp->VK->Prop
def OpR(X:Cx)(f:Value->Value->Sem Value)(r:R2):Prop :=
  ∀ (z0 : List (Addr × Obj)) (s : Shared) (σ : St) (H : Hp) (x y : V) (v u : Value) (Q : VK), Inv X z0 σ H s -> RelV x v -> RelV y u -> r x y H Q ->
    wpAny (model X.prog X.w) X.A (f v u) (EP X z0 σ Q) X.xe s
def UnR(X:Cx)(f:Value->Sem Value)(r:V->Hp->VK->Prop):Prop :=
  ∀ (z0 : List (Addr × Obj)) (s : Shared) (σ : St) (H : Hp) (x : V) (v : Value) (Q : VK), Inv X z0 σ H s -> RelV x v -> r x H Q ->
    wpAny (model X.prog X.w) X.A (f v) (EP X z0 σ Q) X.xe s
def dw(X:Cx)(f:Value)(r:List V->Hp->VK->Prop):Prop :=
  ∀ (z0 : List (Addr × Obj)) (s : Shared) (σ : St) (H : Hp) (xs : List V) (us : List Value) (Q : VK), Inv X z0 σ H s -> Vals xs us -> r xs H Q ->
    wpAny (model X.prog X.w) X.A (call f us) (EP X z0 σ Q) X.xe s
def tOp(r:R2)(ta tb:TE):TE:=fun σ H Q=>ta σ H fun x H1=>tb σ H1 fun y H2=>r x y H2 Q
def tUn(r:V->Hp->VK->Prop)(ta:TE):TE:=fun σ H Q=>ta σ H fun x H1=>r x H1 Q
def rI(C:Int->Int->Prop)(g:Int->Int->V):R2:=fun x y H Q=>∃ i j,x=.int i/\y=.int j/\C i j/\Q (g i j) H
def rI0(g:Int->Int->V):R2:=fun x y H Q=>∃ i j,x=.int i/\y=.int j/\Q (g i j) H
def rU(g:Int->V):V->Hp->VK->Prop:=fun x H Q=>∃ i,x=.int i/\Q (g i) H
section
variable {X:Cx} {a b c:Expr} {ta tb tc:TE} {pos:Pos}
theorem Yn(ha:PE X a ta)(hb:PE X b tb){z0:List (Addr×Obj)}{s:Shared}{σ:St}{H:Hp}{R:V->V->Hp->Prop}(I:Inv X z0 σ H s)
  (h:ta σ H fun x H1=>tb σ H1 fun y H2=>R x y H2) {Q:Value->Shared->Prop} {f:Value->Value->Sem Value}
  (hf:∀ v u s2 x y H2,Inv X z0 σ H2 s2->RelV x v->RelV y u->R x y H2->wpAny (model X.prog X.w) X.A (f v u) Q X.xe s2) :
  wpAny (model X.prog X.w) X.A (eval a X.env) (fun v s₁=>wpAny (model X.prog X.w) X.A (eval b X.env) (fun u s₂=>wpAny (model X.prog X.w) X.A (f v u) Q X.xe s₂) X.xe s₁) X.xe s:=by
 refine thn (ha z0 s σ H _ I h) fun v s1 ⟨x,H1,I1,r1,q1⟩=>?_;refine thn (hb z0 s1 σ H1 _ I1 q1) fun u s2 ⟨y,H2,I2,r2,q2⟩=>?_;exact hf v u s2 x y H2 I2 r1 r2 q2
theorem ju{r:R2}(ho:OpR X (binaryOp op) r)(ha:PE X a ta)(hb:PE X b tb):PE X (.BinOp a op b pos) (tOp r ta tb):=by
 intro z0 s σ H Q I h;exact wpAny_BinOp (Yn ha hb I h fun v u s2 x y H2 I2 rx ry q=>ho z0 s2 σ H2 x y v u Q I2 rx ry q)
theorem QZ{op:UnaryOp}{r:V->Hp->VK->Prop}(ho:UnR X (unaryOp op) r)(ha:PE X a ta):PE X (.UnaryOp op a pos) (tUn r ta):=by
 intro z0 s σ H Q I h;exact UnaryOp_ (thn (ha z0 s σ H _ I h) fun v s1 ⟨x,H1,I1,r1,q1⟩=>ho z0 s1 σ H1 x v Q I1 r1 q1)
theorem opI{f:Value->Value->Sem Value}{C:Int->Int->Prop}{g:Int->Int->Int}
  (rule:∀ (i j:Int) (t u:Tok) (s:Shared) (Q:Value->Shared->Prop) (E:Value->Shared->Prop),C i j->Q (.int (g i j) s.toks) { s with toks:=s.toks+1 }->wpAny (model X.prog X.w) X.A (f (.int i t) (.int j u)) Q E s) :
  OpR X f (rI C fun i j=>.int (g i j)):=by
 intro z0 s σ H x y v u Q I rx ry h;obtain⟨i,j,rfl,rfl,hc,q⟩:=h;obtain⟨t,rfl⟩:=rx;obtain⟨t',rfl⟩:=ry;exact rule i j t t' s _ _ hc ⟨.int (g i j),H,I.tok _,⟨_,rfl⟩,q⟩
theorem YK{f:Value->Value->Sem Value}{g:Int->Int->Int}
  (rule:∀ (i j:Int) (t u:Tok) (s:Shared) (Q:Value->Shared->Prop) (E:Value->Shared->Prop),Q (.int (g i j) s.toks) { s with toks:=s.toks+1 }->wpAny (model X.prog X.w) X.A (f (.int i t) (.int j u)) Q E s) :
  OpR X f (rI0 fun i j=>.int (g i j)):=by
 intro z0 s σ H x y v u Q I rx ry h;obtain⟨i,j,rfl,rfl,q⟩:=h;obtain⟨t,rfl⟩:=rx;obtain⟨t',rfl⟩:=ry;exact rule i j t t' s _ _ ⟨.int (g i j),H,I.tok _,⟨_,rfl⟩,q⟩
theorem O5{f:Value->Value->Sem Value}{g:Int->Int->Bool}
  (rule:∀ (i j:Int) (t u:Tok) (s:Shared) (Q:Value->Shared->Prop) (E:Value->Shared->Prop),Q (.bool (g i j)) s->wpAny (model X.prog X.w) X.A (f (.int i t) (.int j u)) Q E s) :
  OpR X f (rI0 fun i j=>.bl (g i j)):=by
 intro z0 s σ H x y v u Q I rx ry h;obtain⟨i,j,rfl,rfl,q⟩:=h;obtain⟨t,rfl⟩:=rx;obtain⟨t',rfl⟩:=ry;exact rule i j t t' s _ _ ⟨.bl (g i j),H,I,rfl,q⟩
def CDiv(i j:Int):Prop:=0<j/\j<1073741824
def Yt(i j:Int):Prop:=(-(2^64)<i/\i<2^64)\/(-(2^64)<j/\j<2^64)
theorem Yt.ok{i j:Int}(h:Yt i j):IntMulOk i j:=by
 rcases h with⟨h1,h2⟩ | ⟨h1,h2⟩
 ·exact .of_left (intBits_le_64 h1 h2)
 ·exact .of_right (intBits_le_64 h1 h2)
theorem Mg:OpR X (binaryOp .Add) (rI0 fun i j=>.int (i+j)):=YK fun _ _ _ _ _ _ _ q=>add_int q
theorem LQ:OpR X (binaryOp .Sub) (rI0 fun i j=>.int (i-j)):=YK fun _ _ _ _ _ _ _ q=>sub_int q
theorem Hr:OpR X (binaryOp .FloorDiv) (rI CDiv fun i j=>.int (i / j)):=opI fun i j _ _ _ _ _ hc q=>by
 have h1:(0:Int)<j:=hc.1;have h2:j<1073741824:=hc.2;exact floordiv_int (by omega) (by rw[Int.fdiv_eq_ediv_of_nonneg i (by omega)];exact q) (.inl (PyProof.noPylong_small (by omega)))
theorem LR:OpR X (binaryOp .Mod) (rI (fun _ j=>0<j) fun i j=>.int (i%j)):=opI fun i j _ _ _ _ _ hc q=>by
 have h1:(0:Int)<j:=hc;exact mod_int' (by omega) (by rw[Int.fmod_eq_emod_of_nonneg i (by omega)];exact q)
theorem Hq:OpR X (binaryOp .Mod) (rI (fun _ j=>j≠0) fun i j=>.int (i.fmod j)):=opI fun _ _ _ _ _ _ _ hc q=>mod_int' hc q
theorem unI{f:Value->Sem Value}{g:Int->Int}
  (rule:∀ (i:Int) (t:Tok) (s:Shared) (Q:Value->Shared->Prop) (E:Value->Shared->Prop),Q (.int (g i) s.toks) { s with toks:=s.toks+1 }->wpAny (model X.prog X.w) X.A (f (.int i t)) Q E s) :
  UnR X f (rU fun i=>.int (g i)):=by
 intro z0 s σ H x v Q I rx h;obtain⟨i,rfl,q⟩:=h;obtain⟨t,rfl⟩:=rx;exact rule i t s _ _ ⟨.int (g i),H,I.tok _,⟨_,rfl⟩,q⟩
theorem Ka:UnR X (unaryOp .USub) (rU fun i=>.int (-i)):=unI fun _ _ _ _ _ q=>neg_int q
end
section
variable {X:Cx} {a b c:Expr} {ta tb tc:TE} {pos:Pos}
theorem Ej{H:Hp}{s:Shared}{k k':Bool}(I:Inv X z0 σ H s)(q:Q (.bl k) H)(e:k=k'):EP X z0 σ Q (.bool k') s:=by
 subst e;exact⟨.bl k,H,I,rfl,q⟩
theorem Q6:OpR X (compareOp .Lt) (rI0 fun i j=>.bl (decide (i<j))):=O5 fun _ _ _ _ _ _ _ q=>lt_int q
theorem Q7:OpR X (compareOp .LtE) (rI0 fun i j=>.bl (decide (i<=j))):=O5 fun _ _ _ _ _ _ _ q=>le_int q
theorem Q8:OpR X (compareOp .Gt) (rI0 fun i j=>.bl (decide (j<i))):=O5 fun _ _ _ _ _ _ _ q=>gt_int q
theorem Q9:OpR X (compareOp .GtE) (rI0 fun i j=>.bl (decide (j<=i))):=O5 fun _ _ _ _ _ _ _ q=>ge_int q
theorem Ma:OpR X (compareOp .Is) (fun x y H Q=>y=.non/\Q (.bl (decide (x=.non))) H):=by
 intro z0 s σ H x y v u Q I rx ry h;obtain⟨rfl,q⟩:=h;cases ry;refine is_none_gen (Ej I q ?_)
 cases x<;>first
  | (cases rx;rfl)
  | (obtain⟨t,rfl⟩:=rx;rfl)
theorem Hj:OpR X (compareOp .IsNot) (fun x y H Q=>y=.non/\Q (.bl (!decide (x=.non))) H):=by
 intro z0 s σ H x y v u Q I rx ry h;obtain⟨rfl,q⟩:=h;cases ry;refine isnot_none_gen (Ej I q ?_)
 cases x<;>first
  | (cases rx;rfl)
  | (obtain⟨t,rfl⟩:=rx;rfl)
theorem G8{r:R2}(ho:OpR X (compareOp op) r)(ha:PE X a ta)(hb:PE X b tb)(hm:behindInMarks op b=false):PE X (.Compare a [op] [b] pos) (tOp r ta tb):=by
 intro z0 s σ H Q I h;exact wpAny_Compare1 (Yn ha hb I h fun v u s2 x y H2 I2 rx ry q=>ho z0 s2 σ H2 x y v u Q I2 rx ry q) hm
def Kl(t:TE):TT:=fun σ H Q=>t σ H fun x H'=>∃ k,x=.bl k/\Q k H'
theorem GD{r:R2}(ho:OpR X (compareOp op) r)(ha:PE X a ta)(hb:PE X b tb)(hm:behindInMarks op b=false):PT X (.Compare a [op] [b] pos) (Kl (tOp r ta tb)):=by
 intro z0 s σ H Q I h
 refine wpAny_isTrue_Compare1 (thn (ha z0 s σ H _ I h) fun v s1 ⟨x,H1,I1,r1,q1⟩=>thn (hb z0 s1 σ H1 _ I1 q1) fun u s2 ⟨y,H2,I2,r2,q2⟩ =>
  thn (ho z0 s2 σ H2 x y v u _ I2 r1 r2 q2) fun c s3 ⟨z,H3,I3,r3,k,e,q3⟩=>?_) hm
 subst e;cases r3;exact P1z ⟨H3,I3,q3⟩
def wk(r r':R2)(ta tb tc:TE):TE:=fun σ H Q=>ta σ H fun x H1=>tb σ H1 fun y H2=>r x y H2 fun z H3=>∃ k,z=.bl k /\
 (if k=true then tc σ H3 fun w' H4=>r' y w' H4 Q else Q (.bl false) H3)
theorem Bo{op op':CmpOp}{r r':R2}(ho:OpR X (compareOp op) r)(ho':OpR X (compareOp op') r')(ha:PE X a ta)(hb:PE X b tb)(hc:PE X c tc)
  (hm:lastMarks [op,op'] [b,c]=false:=by with_unfolding_all rfl):PE X (.Compare a [op,op'] [b,c] pos) (wk r r' ta tb tc):=by
 intro z0 s σ H Q I h
 refine Compare_chain (thn (ha z0 s σ H _ I h) fun v s1 ⟨x,H1,I1,r1,q1⟩=>chain_link (thn (hb z0 s1 σ H1 _ I1 q1) fun u s2 ⟨y,H2,I2,r2,q2⟩ =>
  thn (ho z0 s2 σ H2 x y v u _ I2 r1 r2 q2) fun d s3 ⟨z,H3,I3,r3,k,e,q3⟩=>?_)) hm
 subst e;cases r3;refine P1z ?_
 cases k with
 | false=>exact ite_ff ⟨.bl false,H3,I3,rfl,q3⟩
 | true=>exact ite_tt (chain_last (thn (hc z0 s3 σ H3 _ I3 q3) fun w' s4 ⟨z',H4,I4,r4,q4⟩=>ho' z0 s4 σ H4 y z' u w' Q I4 r2 r4 q4))
theorem Bf{op op':CmpOp}{r r':R2}(ho:OpR X (compareOp op) r)(ho':OpR X (compareOp op') r')(ha:PE X a ta)(hb:PE X b tb)(hc:PE X c tc)
  (hm:lastMarks [op,op'] [b,c]=false:=by with_unfolding_all rfl):PT X (.Compare a [op,op'] [b,c] pos) (Kl (wk r r' ta tb tc)):=by
 intro z0 s σ H Q I h
 refine isTrue_chain (thn (ha z0 s σ H _ I h) fun v s1 ⟨x,H1,I1,r1,q1⟩=>test_link (thn (hb z0 s1 σ H1 _ I1 q1) fun u s2 ⟨y,H2,I2,r2,q2⟩ =>
  thn (ho z0 s2 σ H2 x y v u _ I2 r1 r2 q2) fun d s3 ⟨z,H3,I3,r3,k,e,q3⟩=>?_)) hm
 subst e;cases r3;refine P1z ?_
 cases k with
 | false =>
  obtain⟨k',e',q'⟩:=q3;cases e';exact ite_ff ⟨H3,I3,q'⟩
 | true =>
  refine ite_tt (test_last (thn (hc z0 s3 σ H3 _ I3 q3) fun w' s4 ⟨z',H4,I4,r4,q4⟩=>thn (ho' z0 s4 σ H4 y z' u w' _ I4 r2 r4 q4) fun d' s5 ⟨z2,H5,I5,r5,k2,e2,q5⟩=>?_));subst e2;cases r5;exact P1z ⟨H5,I5,q5⟩
theorem lH:(sizeLine:Nat)<2^63:=by rw[sizeLine_eq];decide
theorem vals1{x:V}(r:Vals [x] us):∃ u,us=[u]/\RelV x u:=by
 cases r with
 | cons r1 r2=>cases r2;exact⟨_,rfl,r1⟩
theorem vals2{x y:V}(r:Vals [x,y] us):∃ u w',us=[u,w']/\RelV x u/\RelV y w':=by
 cases r with
 | cons r1 r2 =>
  cases r2 with
  | cons r3 r4=>cases r4;exact⟨_,_,rfl,r1,r3⟩
theorem CV:dw X (.builtin "abs") (fun xs H Q=>∃ i,xs=[.int i]/\Q (.int (if i<0 then -i else i)) H):=by
 intro z0 s σ H xs us Q I r h;obtain⟨i,rfl,q⟩:=h;obtain⟨u,rfl,t,rfl⟩:=vals1 r;exact call_abs_int fun u tk=>⟨.int (if i<0 then -i else i),H,I.tok _,⟨_,rfl⟩,q⟩
theorem zM(hc:X.calm=true):dw X (.builtin "max") (fun xs H Q=>∃ i j,xs=[.int i,.int j]/\Q (.int (if j>i then j else i)) H):=by
 intro z0 s σ H xs us Q I r h;obtain⟨i,j,rfl,q⟩:=h;obtain⟨u,w',rfl,⟨t,rfl⟩,⟨t',rfl⟩⟩:=vals2 r;refine max_two_ints (I.ok.hd hc) fun h' tk k=>⟨_,H,I.kept k,?_,q⟩
 by_cases hj:j>i
 ·rw[K5z hj,K5z hj];exact⟨_,rfl⟩
 ·rw[L5z hj,L5z hj];exact⟨_,rfl⟩
theorem zL(hc:X.calm=true):dw X (.builtin "min") (fun xs H Q=>∃ i j,xs=[.int i,.int j]/\Q (.int (if j<i then j else i)) H):=by
 intro z0 s σ H xs us Q I r h;obtain⟨i,j,rfl,q⟩:=h;obtain⟨u,w',rfl,⟨t,rfl⟩,⟨t',rfl⟩⟩:=vals2 r;refine min_two_ints (I.ok.hd hc) fun h' tk k=>⟨_,H,I.kept k,?_,q⟩
 by_cases hj:j<i
 ·rw[K5z hj,K5z hj];exact⟨_,rfl⟩
 ·rw[L5z hj,L5z hj];exact⟨_,rfl⟩
theorem pR:dw X (.type "int") (fun xs H Q=>(∃ i,xs=[.int i]/\Q (.int i) H)\/∃ k,xs=[.bl k]/\Q (.int (if k then 1 else 0)) H):=by
 intro z0 s σ H xs us Q I r h;rcases h with⟨i,rfl,q⟩ | ⟨k,rfl,q⟩
 ·obtain⟨u,rfl,t,rfl⟩:=vals1 r
  exact call_int_int ⟨.int i,H,I,⟨_,rfl⟩,q⟩
 ·obtain⟨u,rfl,r1⟩:=vals1 r
  cases r1;exact call_int_bool ⟨.int (if k then 1 else 0),H,I.tok _,⟨_,rfl⟩,q⟩
end
section
variable {prog:Program} {w:World} {A:Around} {E:Value->Shared->Prop} {s:Shared} {K:Z3} {x dx C f:Addr} {mA:Str->Option Value} {name:Str} {v:Value}
end
theorem JV.some_of{o:Option Value}(r:JV (some v) o):∃ u,o=some u/\RelV v u:=by
 cases o with
 | none=>exact(show False from r).elim
 | some u=>exact⟨u,rfl,r⟩
section
variable {P:Program} {w:World} {H H':Hp} {h h':Heap} {a C dx:Addr} {fs fs':List (Str×V)}
end
section
variable {X:Cx} {z0:List (Addr×Obj)} {σ:St} {H:Hp} {s:Shared} {a C dx:Addr} {fs:List (Str×V)} {f:Str} {v:V} {A:Around} {E:Value->Shared->Prop}
end
section
variable {X:Cx} {o e value:Expr} {f:Str} {pos pos' tpos:Pos} {ta tv:TE}
end
section
variable {X:Cx} {z0:List (Addr×Obj)} {σ:St} {H:Hp} {s:Shared} {A:Around} {E:Value->Shared->Prop} {Q:Value->Shared->Prop} {c:Value} {b:Bool}
end
structure Room (k:Nat) (A:Around):Prop where
 hd:A.handled=none
 dp:A.depth+3*k+5<recursionLimit
 un:A.units+16*k+200<cLine
theorem Room.deeper{k:Nat}(r:Room (k+1) A)(env:Env):Room k (A.deeper env) :=
 ⟨r.hd,by have:=r.dp;show A.depth+1+3*k+5<_;omega,by have:=r.un;show A.units+3+16*k+200<_;omega⟩
theorem Room.depth{k:Nat}(r:Room k A):A.depth<recursionLimit:=by have:=r.dp;omega
def Yz:TA:=fun _ H Q=>Q [] H
def Km(ta:TE)(tr:TA):TA:=fun σ H Q=>ta σ H fun x H1=>tr σ H1 fun xs H2=>Q (x::xs) H2
section
variable {X:Cx} {e:Expr} {es:List Expr} {te:TE} {t:TA} {pos:Pos}
theorem cV:PA X [] Yz:=fun _ _ _ _ H Q I h=>Calls.spliced_nil ⟨[],H,I,.nil,h⟩
theorem bw(ha:PE X e te)(hr:PA X es t)(hs:starEach (e::es) X.env=(false,eval e X.env)::starEach es X.env:=by rfl):PA X (e::es) (Km te t):=by
 intro pos z0 s σ H Q I h;rw[hs];show wpAny _ _ (spliced ((false,eval e X.env)::backTo pos (starEach es X.env))) _ _ s;refine I1z (thn (ha z0 s σ H _ I h) fun u s1 ⟨x,H1,I1,r1,q1⟩=>?_);exact thn (hr pos z0 s1 σ H1 _ I1 q1) fun us s2 ⟨xs,H2,I2,r2,q2⟩=>⟨x::xs,H2,I2,.cons r1 r2,q2⟩
def tTup(t:TA):TE:=fun σ H Q=>t σ H fun xs H1=>xs.length<=sizeLine/\∀ p,H1 p=none->Q (.ref p) (upd H1 p (.tup xs))
def tLst(t:TA):TE:=fun σ H Q=>t σ H fun xs H1=>xs.length<=sizeLine/\∀ p,H1 p=none->Q (.ref p) (upd H1 p (.lst xs))
theorem Lq{x1}(h:PA X es t):PE X (.Tuple es x1 pos) (tTup t):=by
 intro z0 s σ H Q I hq;refine wpAny_Tuple_spliced (thn (h pos z0 s σ H _ I hq) fun us s1 ⟨xs,H1,I1,r,z,q⟩=>⟨by rw[<- r.length];exact z,?_⟩);have hf:H1 s1.heap.objs.size=none:=I1.hok.fresh (Q4z _);refine⟨.ref s1.heap.objs.size,upd H1 s1.heap.objs.size (.tup xs),I1.laid (t':=s1.toks) (fun b u e=>Heap.get?_push_of_some _ e) (Q4z _) ?_,rfl,q _ hf⟩;exact⟨z,us,r,⟨_,Heap.get?_push_size _ rfl,rfl,_,rfl⟩⟩
theorem Dv(h:PA X es t):PE X (.List es pos) (tLst t):=by
 intro z0 s σ H Q I hq;refine wpAny_List_spliced (thn (h pos z0 s σ H _ I hq) fun us s1 ⟨xs,H1,I1,r,z,q⟩=>⟨by rw[<- r.length];exact z,?_⟩);have hf:H1 s1.heap.objs.size=none:=I1.hok.fresh (Q4z _);refine⟨.ref s1.heap.objs.size,upd H1 s1.heap.objs.size (.lst xs),I1.laid (t':=s1.toks) (fun b u e=>Heap.get?_push_of_some _ e) (Q4z _) ?_,rfl,q _ hf⟩;exact⟨z,us,0,r,Heap.get?_push_size _ rfl⟩
end
abbrev Sp:=List V->Hp->VK->XK->Prop
abbrev CXT:=List Env->Hp->Shared->XK->Value->Shared->Prop
structure Env0 (P:Program) (w:World) (K:Z3) (mg:Str->Option Value) (base:Heap) (A:Around) (outer:List Env) (s:Shared) (H:Hp):Prop where
 frames:A.frames=some outer
 mod:Mod K mg base
 bs:∀ b o,base.get? b=some o->s.heap.get? b=some o/\H b=none
 bsz:base.objs.size<=s.heap.objs.size
 funs:s.heap.FunFrames base outer
 frf:∀ b∈frs outer,H b=none
 hok:HOk P w H s.heap
 bare:AllBare s.gens
def CE(outer:List Env)(P:Program)(w:World)(H:Hp)(s:Shared)(Q:VK)(u:Value)(s':Shared):Prop :=
 ∃ v H',s'.os=s.os/\AllBare s'.gens/\Un (frs outer) [] H H' s.heap s'.heap/\HOk P w H' s'.heap/\RelV v u/\Q v H'
def CR(CX:CXT)(outer:List Env)(P:Program)(w:World)(H:Hp)(s:Shared)(Q:VK)(E:XK)(r:Result)(s':Shared):Prop :=
 match r with
 | .ok (.ret u)=>CE outer P w H s Q u s'
 | .ok _=>False
 | .error e=>CX outer H s E e s'
structure FnOk (P:Program) (w:World) (K:Z3) (mg:Str->Option Value) (base:Heap) (CX:CXT) (k:Nat) (f:Addr) (fd:FuncData) (ps:List Str) (sp:Sp):Prop where
 len:∀ vs H Q E,sp vs H Q E->vs.length=ps.length
 run:∀ (A:Around) (outer:List Env) (s:Shared) (H:Hp) (args:Args) (us:List Value) (vs:List V) (Q:VK) (E:XK),Room k A->Env0 P w K mg base A outer s H->BindsTo s fd args (ps.zip us)->Vals vs us->sp vs H Q E ->
  codeAny (model P w) A (.call (.ref f) args) (CR CX outer P w H s Q E) s
theorem FnOk.imp{P:Program}{w:World}{K:Z3}{mg:Str->Option Value}{base:Heap}{CX:CXT}{k:Nat}{f:Addr}{fd:FuncData}{ps:List Str}{sp sp':Sp}(F:FnOk P w K mg base CX k f fd ps sp)
  (h:∀ vs H Q E,sp' vs H Q E->sp vs H Q E):FnOk P w K mg base CX k f fd ps sp' :=
 ⟨fun vs H Q E q=>F.len vs H Q E (h _ _ _ _ q),fun A outer s H args us vs Q E hr he hb hv hs=>F.run A outer s H args us vs Q E hr he hb hv (h _ _ _ _ hs)⟩
section
variable {X:Cx} {z0:List (Addr×Obj)} {σ:St} {H:Hp} {s s':Shared}
theorem Inv.env0(I:Inv X z0 σ H s):Env0 X.prog X.w X.K X.mg X.base X.A X.stack s H :=
 ⟨I.ok.frames,I.ok.mod,I.bs,F4z I.ok.bsz I.sz,I.stack,I.stkFree,I.hok,I.bare⟩
theorem Inv.after{u:Value}(I:Inv X z0 σ H s)(h:CE X.stack X.prog X.w H s Q u s'):EP X z0 σ Q u s':=by
 obtain⟨v,H',os,bare,un,hok,r,q⟩:=h;obtain⟨hh,g,d,t,os'⟩:=s';obtain rfl:os'=s.os:=os;exact⟨v,H',I.call (h':=hh) (g':=g) (d':=d) (t':=t) (ch:=[]) un hok bare (fun b z=>absurd z (by simp)),r,q⟩
end
def Qq(sp:Sp)(dvs:List V)(E:XK)(t:TA):TE:=fun σ H Q=>t σ H fun vs H1=>sp (vs++dvs) H1 Q E
def Binds(K:Z3)(fd:FuncData)(ps:List Str)(ds:List Value):Prop :=
 ∀ (s:Shared) (us:List Value),K.In s.heap->(us++ds).length=ps.length->BindsTo s fd ⟨us,[]⟩ (ps.zip (us++ds))
theorem Binds.all{K:Z3}{fd:FuncData}(h:∀ us:List Value,us.length=ps.length->bindArgs fd ⟨us,[]⟩=pure (ps.zip us)):Binds K fd ps []:=fun s us _ hl=>by
 rw[S2z] at hl ⊢;exact .of_eq (h us hl)
def Passes(CX:CXT)(X:Cx)(E:XK):Prop:=∀ (z0:List (Addr×Obj)) (σ:St) (H:Hp) (s:Shared) (e:Value) (s':Shared),Inv X z0 σ H s->CX X.stack H s E e s'->X.xe e s'
section
variable {X:Cx} {CX:CXT} {k:Nat} {f C:Addr} {fd:FuncData} {ps:List Str} {sp:Sp} {dvs:List V} {ds:List Value} {E:XK} {x m:Str} {p pos apos:Pos} {e o:Expr} {es:List Expr} {ta:TE} {t:TA}
theorem KR{z0:List (Addr×Obj)}{σ:St}{H:Hp}{s:Shared}{Q:VK}{us:List Value}{vs:List V}(F:FnOk X.prog X.w X.K X.mg X.base CX k f fd ps sp)(hr:Room k X.A)(hb:Binds X.K fd ps ds)(hd:Vals dvs ds)(hx:Passes CX X E)
  (I:Inv X z0 σ H s) (r:Vals vs us) (h:sp (vs++dvs) H Q E):wpAny (model X.prog X.w) X.A (call (.ref f) us) (EP X z0 σ Q) X.xe s:=by
 have r2:Vals (vs++dvs) (us++ds):=r.append hd
 have hl:(us++ds).length=ps.length:=by rw[<- r2.length];exact F.len _ _ _ _ h
 refine wpAny_call (H4z (F.run X.A X.stack s H ⟨us,[]⟩ (us++ds) (vs++dvs) Q E hr I.env0 (hb s us I.kIn hl) r2 h) fun r s' hq=>?_)
 cases r with
 | error e=>exact hx z0 σ H s e s' I hq
 | ok fl =>
  cases fl with
  | ret u=>exact I.after hq
  | next=>exact False.elim hq
  | brk=>exact False.elim hq
  | cont=>exact False.elim hq
theorem G9(F:FnOk X.prog X.w X.K X.mg X.base CX k f fd ps sp)(hr:Room k X.A)(hg:Gl X x)(hm:X.mg x=some (.ref f))(hk:PySem.W.keepIn X.K (.ref f)=true)(hb:Binds X.K fd ps ds)(hd:Vals dvs ds)(hx:Passes CX X E)
  (ha:PA X (e::es) t) (hdb:(x==("__debug__":Str))=false:=by decide) (he:starEach (e::es) X.env=(false,eval e X.env)::starEach es X.env:=by rfl) (hpl:(backTo pos (starEach es X.env)).any (·.1)=false:=by rfl) :
  PE X (.Call (.Name x p) (e::es) [] pos) (Qq sp dvs E t):=by
 intro z0 s σ H Q I h;refine J1z (jT I hg hm ?_ hdb);refine PySem.W.callWith_K (h₀:=X.base) I.ok.mod.kin hk (thn (ha pos z0 s σ H _ I h) fun us s1 ⟨vs,H1,I1,r,q⟩=>⟨I1.kIn,?_⟩) he hpl;exact KR F hr hb hd hx I1 r q
end
section
variable {X:Cx} {CX:CXT} {k:Nat} {f C:Addr} {fd:FuncData} {ps ks:List Str} {sp:Sp} {E:XK} {x m:Str} {p pos apos kpos:Pos} {e o:Expr} {es:List Expr} {kws:List Keyword} {te ta:TE} {t tk:TA} {nm:Option Str}
variable {g:List Value->List Value->List Value} {gV:List V->List V->List V}
end
structure FnScope (N P:List Str) (sc:Scope):Prop where
 kind:sc.kind=.function
 co:sc.isCoroutine=false
 gen:sc.isGenerator=false
 nd:N.Nodup
 pre:N.take P.length=P
 par:∀ x∈P,sc.names.lookup x=some .local\/sc.names.lookup x=some .cell
 nofree:∀ y∈sc.names,y.2≠.free
theorem pY{kindOf:Str->Option NameKind}{x:Str}:∀ {binds:List (Str×Value)} {m:Str->Option Value},(∀ v,(x,v)∉binds)->bindL kindOf binds m x=m x
 | [],_,_=>rfl
 | (n,v)::r,m,h=>by
  unfold bindL;rw[pY fun w hw=>h w (Q0z _ hw)];split
  ·have:x≠n:=by rintro rfl;exact h v F1z
   simp[this]
  ·rfl
theorem qb{kindOf:Str->Option NameKind}{x:Str}:∀ {binds:List (Str×Value)} {m:Str->Option Value},(∀ v,(x,v)∉binds)->bindC kindOf binds m x=m x
 | [],_,_=>rfl
 | (n,v)::r,m,h=>by
  unfold bindC;rw[qb fun w hw=>h w (Q0z _ hw)];split
  ·rfl
  ·have:x≠n:=by rintro rfl;exact h v F1z
   simp[this]
theorem pZ{kindOf:Str->Option NameKind}{x:Str}{v:Value}:∀ {P:List Str} {vs:List Value} {i:Nat} {m:Str->Option Value},P.Nodup->P[i]?=some x->vs[i]?=some v->kindOf x=some .local ->
  bindL kindOf (P.zip vs) m x=some v
 | [],_,_,_,_,h,_,_=>by simp at h
 | _::_,[],_,_,_,_,h,_=>by simp at h
 | p::P,w::vs,0,m,nd,h1,h2,hk=>by
  simp at h1 h2;subst h1;subst h2
  show bindL kindOf ((p,w)::P.zip vs) m p=_;unfold bindL;rw[pY fun v hv=>(W2z.mp nd).1 (T2z hv).1,K5z hk];simp
 | p::P,w::vs,i+1,m,nd,h1,h2,hk=>by
  show bindL kindOf ((p,w)::P.zip vs) m x=_;unfold bindL;exact pZ (i:=i) (W2z.mp nd).2 (by simpa using h1) (by simpa using h2) hk
theorem qd{kindOf:Str->Option NameKind}{x:Str}{v:Value}:∀ {P:List Str} {vs:List Value} {i:Nat} {m:Str->Option Value},P.Nodup->P[i]?=some x->vs[i]?=some v->kindOf x≠some .local ->
  bindC kindOf (P.zip vs) m x=some v
 | [],_,_,_,_,h,_,_=>by simp at h
 | _::_,[],_,_,_,_,h,_=>by simp at h
 | p::P,w::vs,0,m,nd,h1,h2,hk=>by
  simp at h1 h2;subst h1;subst h2
  show bindC kindOf ((p,w)::P.zip vs) m p=_;unfold bindC;rw[qb fun v hv=>(W2z.mp nd).1 (T2z hv).1,L5z hk];simp
 | p::P,w::vs,i+1,m,nd,h1,h2,hk=>by
  show bindC kindOf ((p,w)::P.zip vs) m x=_;unfold bindC;exact qd (i:=i) (W2z.mp nd).2 (by simpa using h1) (by simpa using h2) hk
def start(N:List Str)(vs:List V):St:=vs.map some++List.replicate (N.length-vs.length) none
def iT(CX:CXT)(P:Program)(w:World)(K:Z3)(mg:Str->Option Value)(base:Heap)(N:List Str)(qual:Str)(scope:Scope)(f:Addr)(cd:Value)(A:Around)(outer:List Env)(s:Shared)(H:Hp)(E:XK):Cx where
 prog:=P
 w:=w
 K:=K
 mg:=mg
 base:=base
 A:=A.deeper (envOfC qual scope s.heap.objs.size f cd)
 N:=N
 s₀:=s
 H₀:=H
 env:=envOfC qual scope s.heap.objs.size f cd
 outer:=outer
 stack:=envOfC qual scope s.heap.objs.size f cd::outer
 ex:=[]
 calm:=true
 fn:=fun _=>true
 pn:=[]
 xe:=fun e s'=>wpAny (model P w) (A.deeper (envOfC qual scope s.heap.objs.size f cd)) (leaving (envOfC qual scope s.heap.objs.size f cd) e) (fun _ s''=>CX outer H s E e s'') (fun e' s''=>CX outer H s E e' s'') s'
theorem uq{sc:Scope}{n:Nat}{x:Str}(h:sc.names.lookup x=some .cell):∃ c,(cellsFrom n sc.names []).lookup x=some c:=by
 have q:=J0z sc.names n [] (.inl h);exact Option.isSome_iff_exists.mp q
theorem yC{CX:CXT}{P:Program}{w:World}{K:Z3}{mg:Str->Option Value}{base:Heap}{N ps:List Str}{qual:Str}{scope:Scope}{f:Addr}{cd:Value}{A:Around}{outer:List Env}{s s1:Shared}{H:Hp}{E:XK}{us:List Value}{vs:List V}
  (S:FnScope N ps scope) (hd:A.handled=none) (e0:Env0 P w K mg base A outer s H) (hl:vs.length=ps.length) (r:Vals vs us)
  (x:InCallC s s.heap.objs.size (bindL (envOfC qual scope s.heap.objs.size f cd).kindOf (ps.zip us) fun _=>none) (cellsFrom (s.heap.objs.size+1) scope.names []) (bindC (envOfC qual scope s.heap.objs.size f cd).kindOf (ps.zip us) fun _=>none) s1) :
  Inv (iT CX P w K mg base N qual scope f cd A outer s H E) [] (start N vs) H s1:=by
 have hpl:ps.length<=N.length:=by have:=congrArg List.length S.pre;rw[A2z] at this;omega
 obtain⟨h1,tk,rfl,hk⟩:=x.done;have noA:∀ b:Addr,b∉(iT CX P w K mg base N qual scope f cd A outer s H E).ex:=fun b z=>absurd (show b∈([]:List Addr) from z) (by simp)
 refine⟨⟨e0.mod,S.kind,rfl,rfl,Q4z _,fun y z c h1 h2=>?_,fun y hy=>?_,fun y c _ h=>?_,fun _=>hd,Around.frames_deeper e0.frames,.inr ⟨rfl,rfl⟩,fun b z=>absurd z (noA b),e0.bs,e0.bsz,fun b _ _=>noA b,fun b z=>absurd z (noA b),e0.funs,e0.frf⟩,
  rfl,e0.bare,Un.kept hk,⟨_,x.toInCall.ns,fun i y v h1 h2 h3=>?_⟩,fun y c h=>⟨_,x.cell y c h⟩,e0.hok.fresh (Q4z _),fun y c h=>?_,fun p hp=>absurd (show p∈([]:List (Addr×Obj)) from hp) (by simp),e0.hok.kept hk,?_⟩
 ·exact name_of_addr x.apart (Y0z h1) (Y0z h2)
 ·have hy:scope.names.lookup y=some .cell\/scope.names.lookup y=some .free:=hy
  rcases hy with hy | hy
  ·exact uq hy
  ·exact absurd rfl (S.nofree _ (Y0z hy))
 ·exact Nat.le_of_lt (x.above y c (Y0z h))
 ·have hi:i<vs.length:=by
   unfold start at h2
   by_cases hi:i<vs.length
   ·exact hi
   ·rw[List.getElem?_append_right (by simpa using hi)] at h2
    rw[List.getElem?_replicate] at h2
    split at h2<;>cases h2
  have ha:vs[i]?=some v:=by
   unfold start at h2;rw[List.getElem?_append_left (by simpa using hi),List.getElem?_map] at h2
   cases e:vs[i]? with
   | none=>rw[e] at h2;cases h2
   | some a=>rw[e] at h2;cases h2;rfl
  obtain⟨u,hu,rv⟩:=r.get ha
  have hp:ps[i]?=some y:=by
   rw[<- S.pre,List.getElem?_take_of_lt (by omega)];exact h1
  have ndP:ps.Nodup:=by rw[<- S.pre];exact S.nd.sublist (List.take_sublist _ _)
  refine⟨u,rv,?_⟩;rcases S.par y (List.mem_of_getElem? hp) with k | k
  ·exact .inl ⟨k,pZ ndP hp hu k⟩
  ·obtain⟨c,e⟩:=uq (n:=s.heap.objs.size+1) k
   refine .inr ⟨.inl k,c,e,?_⟩;have q:=x.cell y c e;rw[qd ndP hp hu (by show scope.names.lookup y≠_;rw[k];decide)] at q;exact q
 ·exact e0.hok.fresh (Nat.le_of_lt (x.above y c (Y0z h)))
 ·unfold start
  show _=N.length;rw[K1z,U2z,List.length_replicate];omega
theorem Yb{CX:CXT}{P:Program}{w:World}{K:Z3}{mg:Str->Option Value}{base:Heap}{k:Nat}{f:Addr}{name qual:Str}{params:Arguments}{body:List Stmt}{scope:Scope}{dV kV doc pm cdv ct oc:Value}{an od:Option Addr}
  {osl:Array (Option Value)} {N ps:List Str} {sp:Sp} (lk:K.lookup f=some ⟨oc,od,.func (PySem.W.fnOf name qual params body scope dV kV doc pm an cdv ct),osl⟩) (hcd:PySem.W.codeIn K cdv qual=true) (S:FnScope N ps scope)
  (len:∀ vs H Q E,sp vs H Q E->vs.length=ps.length)
  (hbody : ∀ (A : Around) (outer : List Env) (s : Shared) (H : Hp) (vs : List V) (Q : VK) (E : XK), Room k (A.deeper (envOfC qual scope s.heap.objs.size f cdv)) -> sp vs H Q E ->
   ∃ t,PSs (iT CX P w K mg base N qual scope f cdv A outer s H E) body t/\t { nx:=fun _ H'=>Q .non H',rt:=Q } (start N vs) H) :
  FnOk P w K mg base CX (k+1) f (PySem.W.fnOf name qual params body scope dV kV doc pm an cdv ct) ps sp:=by
 refine⟨len,fun A outer s H args us vs Q E hr e0 hb r hsp=>?_⟩;have hl:=len _ _ _ _ hsp;have KX:K.In s.heap:=e0.mod.kin.keeps fun b o e=>(e0.bs b o e).1;have lim:s.heap.NoLimit:=e0.mod.nolimit.keeps fun b o e=>(e0.bs b o e).1
 have hkind:∀ y∈ps.zip us,scope.names.lookup y.1=some .local\/(scope.names.lookup y.1=some .cell/\((cellsFrom (s.heap.objs.size+1) scope.names []).lookup y.1).isSome=true):=fun⟨n,v⟩ hy=>by
  rcases S.par n (T2z hy).1 with q | q
  ·exact .inl q
  ·exact .inr ⟨q,J0z _ _ _ (.inl q)⟩
 refine codeAny_call_function hr.depth (KX _ _ lk) rfl S.co S.gen rfl (PySem.W.codeRec_of KX hcd) (hb _ _ _ _ ?_);refine wpAny_newFunctionEnv_cells S.kind hkind fun env he s1 x=>?_;subst he;refine⟨lim.keeps x.toInCall.keep,codeAny_func ?_⟩;obtain⟨t,ht,hq⟩:=hbody A outer s H vs Q E (hr.deeper _) hsp;have I:Inv (iT CX P w K mg base N qual scope f cdv A outer s H E) [] (start N vs) H s1:=yC S hr.hd e0 hl r x;refine X4z (ht [] s1 (start N vs) H _ I hq) (fun fl s' hs=>?_) fun e s' hs=>hs
 have fin:∀ {σ':St} {H':Hp} {v:V} {u:Value},Inv (iT CX P w K mg base N qual scope f cdv A outer s H E) [] σ' H' s'->RelV v u->Q v H'->CE outer P w H s Q u s' :=
  fun {σ' H' v u} J rv q=>⟨v,H',J.os,J.bare,J.base,J.hok,rv,q⟩
 cases fl with
 | ret u =>
  obtain⟨v,σ',H',J,rv,q⟩:=hs;exact fin J rv q
 | next =>
  obtain⟨σ',H',J,q⟩:=hs;exact fin (v:=V.non) (u:=Value.none) J rfl q
 | brk =>
  obtain⟨_,_,_,q⟩:=hs;exact False.elim q
 | cont =>
  obtain⟨_,_,_,q⟩:=hs;exact False.elim q
section
variable {X:Cx} {x:Str} {p pos:Pos} {e:Expr} {es:List Expr} {t:TA} {id T:String} {r:List V->Hp->VK->Prop}
def tCB(r:List V->Hp->VK->Prop)(t:TA):TE:=fun σ H Q=>t σ H fun vs H1=>r vs H1 Q
theorem mU(hc:dw X (.builtin id) r)(hg:Gl X x)(hm:X.mg x=none)(hv:bootBuiltins x=some (.builtin id))(ha:PA X (e::es) t)(hn:x≠"__name__":=by decide)(hdb:(x==("__debug__":Str))=false:=by decide)
  (he:starEach (e::es) X.env=(false,eval e X.env)::starEach es X.env:=by rfl) (hpl:(backTo pos (starEach es X.env)).any (·.1)=false:=by rfl):PE X (.Call (.Name x p) (e::es) [] pos) (tCB r t):=by
 intro z0 s σ H Q I h;refine J1z (eX I hg hm hv ?_ hn hdb);exact PyProof.Rows.callWith_builtin1 (thn (ha pos z0 s σ H _ I h) fun us s1 ⟨vs,H1,I1,r1,q1⟩=>hc z0 s1 σ H1 vs us Q I1 r1 q1) he hpl
theorem oX(hc:dw X (.type T) r)(hg:Gl X x)(hm:X.mg x=none)(hv:bootBuiltins x=some (.type T))(ha:PA X (e::es) t)(hn:x≠"__name__":=by decide)(hdb:(x==("__debug__":Str))=false:=by decide)
  (he:starEach (e::es) X.env=(false,eval e X.env)::starEach es X.env:=by rfl) (hpl:(backTo pos (starEach es X.env)).any (·.1)=false:=by rfl):PE X (.Call (.Name x p) (e::es) [] pos) (tCB r t):=by
 intro z0 s σ H Q I h;refine J1z (eX I hg hm hv ?_ hn hdb);exact B0z (thn (ha pos z0 s σ H _ I h) fun us s1 ⟨vs,H1,I1,r1,q1⟩=>hc z0 s1 σ H1 vs us Q I1 r1 q1) he hpl
end
end L2
namespace HT
open PySem PyProof.Rows
section
open PySem.SeqAt
open PySem.AutoSeq1 (wpAny_loadPart')
open PySem.MeetsSeq PySem.MeetsSeq2 PySem.MeetsSeq3
end
section
variable {prog:Program} {w:World} {A:Around} {E:Value->Shared->Prop} {s:Shared}
theorem Jv{t b:Addr}{vs ws:List Value}{Q:Value->Shared->Prop}(ht:IsTup s.heap t vs.toArray)(hb:IsTup s.heap b ws.toArray)(hv:vs≠[])
  (h1:ws=[]->Q (.ref t) s) (h2:ws≠[]->Q (.ref s.heap.objs.size) { s with heap:=s.heap.push { cls:=.type "tuple",data:=.seq (vs++ws).toArray } })
  (hsz:vs.length+ws.length<=sizeLine):wpAny (model prog w) A (binaryOp .Add (.ref t) (.ref b)) Q E s:=by
 obtain⟨⟨cls,dd,data,sl⟩,ho,hc,n,hd⟩:=id ht;obtain⟨⟨cls2,dd2,data2,sl2⟩,ho2,hc2,n2,hd2⟩:=id hb;simp only at hc hd hc2 hd2;subst hc hd hc2 hd2
 have e:vs.toArray++ws.toArray=(vs++ws).toArray:=by simp
 by_cases hw:ws=[]
 ·exact concat_meets ⟨_,ho,rfl⟩ ⟨_,ho2,rfl⟩ noFill_tuple_add seq_tuple_add K0z G0z (E0z _ _)
   (tuple_addW1 t b vs.toArray ws.toArray n n2 dd dd2 sl sl2 (by simpa using hv) (by simp[hw])) ⟨ho,ho2,h1 hw⟩
 ·refine concat_meets ⟨_,ho,rfl⟩ ⟨_,ho2,rfl⟩ noFill_tuple_add seq_tuple_add K0z G0z (E0z _ _)
   (tuple_addW2 t b vs.toArray ws.toArray n n2 dd dd2 sl sl2 (by simpa using hv) (by simpa using hw) (by rw[R1z,R1z];exact hsz)) ⟨ho,ho2,?_⟩
  rw[e];exact h2 hw
def sIx(n d:Nat):Option Int->Nat
 | none=>d
 | some v=>if v<0 then(v+(n:Int)).toNat else min v.toNat n
theorem KJ(n d:Nat)(hd:d<=n)(o:Option Int):sIx n d o<=n:=by
 cases o with
 | none=>exact hd
 | some v =>
  show(if v<0 then(v+(n:Int)).toNat else min v.toNat n)<=n
  by_cases hv:v<0
  ·rw[K5z hv];omega
  ·rw[L5z hv];exact Nat.min_le_right _ _
theorem zE(v:Int)(n d:Nat):(if v<0 then max (v+(n:Int)) 0 else min v (n:Int))=((sIx n d (some v):Nat):Int):=by
 show(if v<0 then max (v+(n:Int)) 0 else min v (n:Int))=(((if v<0 then(v+(n:Int)).toNat else min v.toNat n):Nat):Int)
 by_cases hv:v<0
 ·simp only[K5z hv];omega
 ·simp only[L5z hv];omega
theorem vI(lo hi:Option Int)(n:Nat):Builtin.Slice.sliceAdjust lo hi 1 (n:Int)=(((sIx n 0 lo:Nat):Int),((sIx n n hi:Nat):Int)):=by
 have h1:¬ ((1:Int)<0):=by omega
 unfold Builtin.Slice.sliceAdjust;simp only[h1,H5z];refine Prod.ext ?_ ?_
 ·cases lo with
  | none=>rfl
  | some v=>exact zE v n 0
 ·cases hi with
  | none=>rfl
  | some v=>exact zE v n n
theorem uU(i j:Nat):Builtin.Slice.slicePlaces (i:Int) (j:Int) 1=j-i:=by
 unfold Builtin.Slice.slicePlaces
 have h1:(1:Int)>0:=by omega
 simp only[h1,J5z,Int.ediv_one]
 split<;>omega
theorem lD{v:Value}{o:Option Int}{Q:Option Int->Shared->Prop}(p:IsPart v o)(h:Q o s):wpAny (model prog w) A (Builtin.Slice.slicePartIndex v) Q E s:=by
 cases p with
 | none=>exact slicePart_none h
 | int i t=>exact slicePart_int h
theorem fC{sl:Addr}{vl vu:Value}{lo hi:Option Int}{n:Nat}{Q:Int×Int×Nat->Shared->Prop}(hs:s.heap.IsSliceOf sl vl vu .none)(pl:IsPart vl lo)(pu:IsPart vu hi)
  (h:Q (((sIx n 0 lo:Nat):Int),1,sIx n n hi-sIx n 0 lo) s):wpAny (model prog w) A (Builtin.Slice.sliceApplied (.ref sl) (pure (n:Int))) Q E s:=by
 obtain⟨os,hos,hcs,hds⟩:=id hs;unfold Builtin.Slice.sliceApplied Builtin.Slice.sliceFields;refine Y4z (Y4z (R4z hos hds (x:=vl) rfl (Y4z (R4z hos hds (x:=vu) rfl (Y4z (R4z hos hds (x:=.none) rfl (Z4z ?_)))))));refine Y4z (slicePart_none ?_);show wpAny _ _ (if((1:Int)==0)=true then _ else _) _ _ s;rw[L5z (by decide)];refine Y4z (lD pl (Y4z (lD pu (Y4z (Z4z ?_)))));show wpAny _ _ (match Builtin.Slice.sliceAdjust lo hi 1 (n:Int) with | (lo,hi)=>pure (lo,(1:Int),Builtin.Slice.slicePlaces lo hi 1)) _ _ s;rw[vI lo hi n];show wpAny _ _ (pure (((sIx n 0 lo:Nat):Int),(1:Int),Builtin.Slice.slicePlaces ((sIx n 0 lo:Nat):Int) ((sIx n n hi:Nat):Int) 1)) _ _ s;rw[uU];exact Z4z h
theorem Bk(xs:Array Value)(i k:Nat):((List.range k).filterMap fun(m:Nat)=>xs[((i:Int)+(m:Int)*1).toNat]?).toArray=((xs.toList.drop i).take k).toArray:=by
 have e:(fun(m:Nat)=>xs[((i:Int)+(m:Int)*1).toNat]?)=fun m=>xs[i+m]?:=by
  funext m
  have:((i:Int)+(m:Int)*1).toNat=i+m:=by omega
  rw[this]
 rw[e];have:=pick_run xs i k;rw[List.filterMap_map] at this;have e2:((fun x=>xs[x]?)∘fun x=>i+x)=fun m=>xs[i+m]?:=rfl;rw[e2] at this;rw[this]
theorem iM{t sl:Addr}{items:Array Value}{vl vu:Value}{lo hi:Option Int}{Q:Value->Shared->Prop}(ht:IsTup s.heap t items)(hs:s.heap.IsSliceOf sl vl vu .none)(pl:IsPart vl lo)(pu:IsPart vu hi)
  (hw:¬ (sIx items.size 0 lo=0/\sIx items.size items.size hi=items.size))
  (h:Q (.ref s.heap.objs.size) { s with heap:=s.heap.push { cls:=.type "tuple",data:=.seq ((items.toList.drop (sIx items.size 0 lo)).take (sIx items.size items.size hi-sIx items.size 0 lo)).toArray } })
  (hsz:items.size<=sizeLine):wpAny (model prog w) A (getItem (.ref t) (.ref sl)) Q E s:=by
 have htake:sizeOk (.seq ((items.toList.drop (sIx items.size 0 lo)).take (sIx items.size items.size hi-sIx items.size 0 lo)).toArray):=by
  show((items.toList.drop (sIx items.size 0 lo)).take (sIx items.size items.size hi-sIx items.size 0 lo)).toArray.size<=sizeLine;rw[R1z,A2z,B2z,X0z];omega
 have hj:sIx items.size items.size hi<=items.size:=KJ _ _ (Q4z _) hi;obtain⟨os,hos,hcs,hds⟩:=id hs;have hTs:s.TypeIs (.ref sl) "slice":=⟨os,hos,hcs⟩;unfold getItem
 try with_reducible refine U3z ?_
 first | refine Y4z (Z4z ?_) | skip
 refine Y4z (wpAny_sequenceKey ht.typeIs (by decide) ?_)
 refine Y4z (wpAny_callSpecial?_slot (name:=Str.ofString "__getitem__") ht.typeIs A0z
  (C2z A0z ht.typeIs entry_tuple_getitem ?_ (args_tuple_getitem _ _)))
 show wpAny _ _ (Builtin.Tuple.tupleItemsOf (.ref t) >>=_) _ _ s;refine Y4z (tupleItemsOf_ ht ?_);refine Y4z (wpAny_typeOf hTs ?_);rw[K5z (by decide)];refine Y4z (fC hs pl pu ?_)
 have hno:¬ ((((sIx items.size 0 lo:Nat):Int)==0&&(1:Int)==1&&(sIx items.size items.size hi-sIx items.size 0 lo)==items.size)=true):=by
  intro q;rw[D2z,D2z] at q;have q1:((sIx items.size 0 lo:Nat):Int)=0:=eq_of_beq q.1.1;have q2:sIx items.size items.size hi-sIx items.size 0 lo=items.size:=eq_of_beq q.2;exact hw ⟨by omega,by omega⟩
 show wpAny _ _ (if(((sIx items.size 0 lo:Nat):Int)==0&&(1:Int)==1&&(sIx items.size items.size hi-sIx items.size 0 lo)==items.size)=true then _ else _) _ _ s;rw[L5z hno,Bk]
 first
  | exact Y4z (m:=Builtin.Tuple.tupleExact _) (Q1z (Z4z ⟨_,rfl,Z4z h⟩) htake)
  | exact Y4z (m:=Builtin.Tuple.tupleExact _) (Q1z (Y4z (Z4z (Z4z ⟨_,rfl,Z4z h⟩))) htake)
  | exact Y4z (Y4z (m:=Builtin.Tuple.tupleExact _) (Q1z (Z4z (Z4z ⟨_,rfl,Z4z h⟩)) htake))
  | exact Y4z (Y4z (m:=Builtin.Tuple.tupleExact _) (Q1z (Z4z ⟨_,rfl,Z4z h⟩) htake))
end
end HT
namespace L2
open PySem PySem.Spec PyProof.Rows
abbrev TO:=St->Hp->(Option Int->Hp->Prop)->Prop
def PO(X:Cx)(e:Option Expr)(t:TO):Prop :=
  ∀ (z0 : List (Addr × Obj)) (s : Shared) (σ : St) (H : Hp) (Q : Option Int -> Hp -> Prop), Inv X z0 σ H s -> t σ H Q ->
    wpAny (model X.prog X.w) X.A (evalPart e X.env) (fun u s'=>∃ o H',Inv X z0 σ H' s'/\IsPart u o/\Q o H') X.xe s
def FW:TO:=fun _ H Q=>Q none H
def Ql(t:TE):TO:=fun σ H Q=>t σ H fun x H1=>∃ i,x=.int i/\Q (some i) H1
theorem intsAre_of{ns:List Int}:∀ {us:List Value},Vals (ns.map V.int) us->IntsAre us ns:=by
 induction ns with
 | nil=>intro us r;rw[I4z] at r;cases r;exact .nil
 | cons n ns ih =>
  intro us r;rw[W3z] at r
  cases r with
  | cons r1 r2 =>
   obtain⟨t,e⟩:=r1;subst e;exact .cons n t (ih r2)
section
variable {X:Cx} {e:Expr} {te:TE} {lo hi:Option Expr} {tl th:TO} {pos p2:Pos}
theorem GR:PO X none FW:=by
 intro z0 s σ H Q I h;rw[evalPart_none];exact Z4z ⟨none,H,I,.none,h⟩
theorem GQ(h:PE X e te):PO X (some e) (Ql te):=by
 intro z0 s σ H Q I hw;rw[evalPart_some];refine thn (h z0 s σ H _ I hw) fun u s1 ⟨x,H1,I1,r1,q1⟩=>?_;obtain⟨i,rfl,q⟩:=q1;obtain⟨t,rfl⟩:=r1;exact⟨some i,H1,I1,.int i t,q⟩
def SlR(X:Cx)(r:V->Option Int->Option Int->Hp->VK->Prop):Prop :=
  ∀ (z0 : List (Addr × Obj)) (s : Shared) (σ : St) (H : Hp) (x : V) (v vl vu : Value) (lo hi : Option Int) (sl : Addr) (Q : VK), Inv X z0 σ H s -> RelV x v -> s.heap.IsSliceOf sl vl vu .none -> IsPart vl lo -> IsPart vu hi -> r x lo hi H Q ->
    ∃ T id,typeLookup (.type T) "__getitem__"=pure (some (.builtin id))/\s.TypeIs v T/\wpAny (model X.prog X.w) X.A (getItem v (.ref sl)) (EP X z0 σ Q) X.xe s
def tSl(r:V->Option Int->Option Int->Hp->VK->Prop)(te:TE)(tl th:TO):TE:=fun σ H Q=>te σ H fun x H1=>tl σ H1 fun l H2=>th σ H2 fun u H3=>r x l u H3 Q
theorem mO{r:V->Option Int->Option Int->Hp->VK->Prop}(hr:SlR X r)(he:PE X e te)(hl:PO X lo tl)(hu:PO X hi th):PE X (.Subscript e (.Slice lo hi none p2) pos) (tSl r te tl th):=by
 intro z0 s σ H Q I h;refine Subscript_ (thn (he z0 s σ H _ I h) fun v s1 ⟨x,H1,I1,r1,q1⟩=>?_);refine wpAny_Slice (thn (hl z0 s1 σ H1 _ I1 q1) fun vl s2 ⟨l,H2,I2,pl,q2⟩=>thn (hu z0 s2 σ H2 _ I2 q2) fun vu s3 ⟨u,H3,I3,pu,q3⟩=>?_);rw[evalPart_none];refine Z4z ?_;have I4:Inv X z0 σ H3 { s3 with heap:=s3.heap.push { cls:=.type "slice",data:=.fields #[vl,vu,.none] } }:=I3.kept (t':=s3.toks) fun b ob q=>Heap.get?_push_of_some _ q;obtain⟨T,id,hT,ht,hg⟩:=hr z0 { s3 with heap:=s3.heap.push { cls:=.type "slice",data:=.fields #[vl,vu,.none] } } σ H3 x v vl vu l u s3.heap.objs.size Q I4 r1 (Heap.IsSliceOf.new ..) pl pu q3;show wpAny (model X.prog X.w) X.A (subscriptTail e (.Slice lo hi none p2) v (.ref s3.heap.objs.size)) (EP X z0 σ Q) X.xe { s3 with heap:=s3.heap.push { cls:=.type "slice",data:=.fields #[vl,vu,.none] } };exact tail_any (ops:=[.ref s3.heap.objs.size,v]) ht hT hg (by with_unfolding_all rfl)
def Ew(xs:List V)(lo hi:Option Int):List V:=(xs.drop (HT.sIx xs.length 0 lo)).take (HT.sIx xs.length xs.length hi-HT.sIx xs.length 0 lo)
theorem jZ(xs:List V)(lo hi:Option Int):(Ew xs lo hi).length<=xs.length:=by
 unfold Ew;rw[A2z,B2z];omega
def rSlT(K:Z3):V->Option Int->Option Int->Hp->VK->Prop:=fun x lo hi H Q=>∃ a xs,x=.ref a/\SqT K H a xs /\
 ¬ (HT.sIx xs.length 0 lo=0/\HT.sIx xs.length xs.length hi=xs.length)/\∀ p,H p=none->Q (.ref p) (upd H p (.tup (Ew xs lo hi)))
theorem KC:SlR X (rSlT X.K):=by
 intro z0 s σ H x v vl vu lo hi sl Q I rx hs pl pu h;obtain⟨a,xs,rfl,hx,hw,q⟩:=h;cases rx;obtain⟨its,r,ht,hz⟩:=I.tuple hx
 have hlen:its.toArray.size=xs.length:=by rw[R1z];exact r.length.symm
 refine⟨"tuple",_,A0z.lookup,ht.typeIs,?_⟩;refine HT.iM ht hs pl pu (by rw[hlen];exact hw) ?_ (by rw[hlen];exact hz);rw[hlen];refine⟨.ref s.heap.objs.size,_,I.laid (t':=s.toks) (o:=.tup (Ew xs lo hi)) (fun b ob q=>Heap.get?_push_of_some _ q) (Q4z _) ?_,rfl,q _ (I.hok.fresh (Q4z _))⟩;exact⟨F4z (jZ xs lo hi) hz,_,(r.drop (HT.sIx xs.length 0 lo)).take (HT.sIx xs.length xs.length hi-HT.sIx xs.length 0 lo),IsTup.new _ _⟩
def QT(K:Z3):R2:=fun x y H Q=>∃ a b xs ys,x=.ref a/\y=.ref b/\SqT K H a xs/\SqT K H b ys/\xs≠[]/\xs.length+ys.length<=sizeLine /\
 (ys=[]->Q (.ref a) H)/\(ys≠[]->∀ p,H p=none->Q (.ref p) (upd H p (.tup (xs++ys))))
theorem Vals.nil_iff{xs:List V}(r:Vals xs us):us=[]↔xs=[]:=by
 cases r with
 | nil=>simp
 | cons _ _=>simp
theorem Ht:OpR X (binaryOp .Add) (QT X.K):=by
 intro z0 s σ H x y v u Q I rx ry h;obtain⟨a,b,xs,ys,rfl,rfl,ha,hb,hx,hz,q1,q2⟩:=h;cases rx;cases ry;obtain⟨its,r1,p1,_⟩:=I.tuple ha;obtain⟨its2,r2,p2,_⟩:=I.tuple hb;refine HT.Jv p1 p2 (fun z=>hx (r1.nil_iff.mp z)) (fun z=>⟨.ref a,H,I,rfl,q1 (r2.nil_iff.mp z)⟩) (fun z=>?_) (by rw[<- r1.length,<- r2.length];exact hz);refine⟨.ref s.heap.objs.size,_,I.laid (t':=s.toks) (o:=.tup (xs++ys)) (fun b ob q=>Heap.get?_push_of_some _ q) (Q4z _) ?_,rfl,q2 (fun w=>z (r2.nil_iff.mpr w)) _ (I.hok.fresh (Q4z _))⟩;exact⟨by rw[K1z];exact hz,_,r1.append r2,IsTup.new _ _⟩
end
def ixN(n:Nat)(i:Int):Option Nat:=if 0<=i then(if i<n then some i.toNat else none) else if -(n:Int)<=i then some (i+n).toNat else none
def atI{α:Type}(xs:List α)(i:Int):Option α:=(ixN xs.length i).bind fun j=>xs[j]?
theorem yu{n:Nat}{i:Int}{j:Nat}(h:ixN n i=some j):seqIndex? i n=some j/\j<n /\ -(n:Int)<=i/\i<n:=by
 unfold ixN at h
 by_cases h0:0<=i
 ·rw[K5z h0] at h
  by_cases h1:i<n
  ·rw[K5z h1] at h
   have e:i.toNat=j:=P2z h;exact⟨by rw[seqIndex_of h0 h1,e],by omega,by omega,h1⟩
  ·rw[L5z h1] at h;cases h
 ·rw[L5z h0] at h
  by_cases h1:-(n:Int)<=i
  ·rw[K5z h1] at h
   have e:(i+n).toNat=j:=P2z h;exact⟨by rw[seqIndex_neg (by omega) h1,e],by omega,h1,by omega⟩
  ·rw[L5z h1] at h;cases h
theorem zR{α:Type}{xs:List α}{i:Int}{v:α}(h:atI xs i=some v):∃ j,seqIndex? i xs.length=some j/\xs[j]?=some v/\j<xs.length /\ -(xs.length:Int)<=i/\i<xs.length:=by
 unfold atI at h
 cases e:ixN xs.length i with
 | none=>rw[e] at h;cases h
 | some j =>
  rw[e] at h;obtain⟨h1,h2,h3,h4⟩:=yu e;exact⟨j,h1,h,h2,h3,h4⟩
def zZ(b:Expr):Prop:=∀ o i,subscripted b false o i=operate [o,i] (getItem o i)
def IxR(X:Cx)(r:R2):Prop :=
  ∀ (value slice : Expr) (z0 : List (Addr × Obj)) (s : Shared) (σ : St) (H : Hp) (x y : V) (v u : Value) (Q : VK), Inv X z0 σ H s -> RelV x v -> RelV y u -> r x y H Q ->
    subscripted slice false v u=operate [v,u] (getItem v u)->wpAny (model X.prog X.w) X.A (subscriptTail value slice v u) (EP X z0 σ Q) X.xe s
def MtR(X:Cx)(id:String)(r:V->List V->Hp->VK->Prop):Prop :=
  ∀ (z0 : List (Addr × Obj)) (s : Shared) (σ : St) (H : Hp) (x : V) (xs : List V) (v : Value) (us : List Value) (Q : VK), Inv X z0 σ H s -> RelV x v -> Vals xs us -> r x xs H Q ->
    wpAny (model X.prog X.w) X.A (call (.builtin id) (v::us)) (EP X z0 σ Q) X.xe s
section
variable {X:Cx} {a b:Expr} {ta tb:TE} {pos:Pos}
theorem G7{r:R2}(hr:IxR X r)(ha:PE X a ta)(hb:PE X b tb)(hs:zZ b):PE X (.Subscript a b pos) (tOp r ta tb):=by
 intro z0 s σ H Q I h;exact Subscript_ (Yn ha hb I h fun v u s2 x y H2 I2 rx ry q=>hr a b z0 s2 σ H2 x y v u Q I2 rx ry q (hs _ _))
def rIxL(K:Z3):R2:=fun x y H Q=>∃ p xs i v,x=.ref p/\y=.int i/\SqL K H p xs/\atI xs i=some v/\Q v H
def rIxT(K:Z3):R2:=fun x y H Q=>∃ p xs i v,x=.ref p/\y=.int i/\SqT K H p xs/\atI xs i=some v/\Q v H
theorem yt:IxR X (rIxL X.K):=by
 intro value slice z0 s σ H x y v u Q I rx ry h hs;obtain⟨p,xs,i,z,rfl,rfl,hq,he,q⟩:=h;cases rx;obtain⟨t,rfl⟩:=ry;obtain⟨its,r,pl,hz⟩:=I.list hq;obtain⟨j,h1,h2,h3,h4,h5⟩:=zR he;obtain⟨w,ew,rw'⟩:=r.get h2;have hl:=r.length;have hn:=lH;have fin:EP X z0 σ Q w s:=⟨z,H,I,rw',q⟩
 by_cases h0:0<=i
 ·have hj:i.toNat=j:=by
   rw[seqIndex_of h0 h5] at h1;exact P2z h1
  exact item_listR pl.isList h0 (by omega) (by rw[hj];simpa using ew) fin hs
 ·have hj:(i+(its.toArray.size:Int)).toNat=j:=by
   rw[seqIndex_neg (by omega) h4] at h1;rw[R1z,<- hl];exact P2z h1
  exact subscriptTail_builtinR (x:=w) pl.isList.typeIs slot_list_getitem.lookup
   (wpAny_getItem_list_neg (Q:=fun r s'=>r=w/\EP X z0 σ Q r s') pl.isList (by omega) (by rw[R1z]<;>omega) (by omega) (by rw[hj];simpa using ew) ⟨rfl,fin⟩) hs
theorem Ng:IxR X (rIxT X.K):=by
 intro value slice z0 s σ H x y v u Q I rx ry h hs;obtain⟨p,xs,i,z,rfl,rfl,hq,he,q⟩:=h;cases rx;obtain⟨t,rfl⟩:=ry;obtain⟨its,r,pl,hz⟩:=I.tuple hq;obtain⟨j,h1,h2,h3,h4,h5⟩:=zR he;obtain⟨w,ew,rw'⟩:=r.get h2;have hl:=r.length;have hn:=lH;have fin:EP X z0 σ Q w s:=⟨z,H,I,rw',q⟩
 exact subscriptTail_builtinR (x:=w) pl.typeIs slot_tuple_getitem.lookup
  (getItem_tuple (j:=j) (Q:=fun r s'=>r=w/\EP X z0 σ Q r s') pl (by omega) (by omega) (by rw[R1z,<- hl];exact h1) (by simpa using ew) ⟨rfl,fin⟩) hs
theorem uY(its:List Value)(n j:Nat)(u:Value):Obj.mapSeq (·.setIfInBounds j u) { cls:=.type "list",data:=.seq its.toArray n }={ cls:=.type "list",data:=.seq (its.set j u).toArray n }:=by
 simp[Obj.mapSeq]
theorem Inv.lst{H:Hp}{s:Shared}{p:Addr}{xs:List V}(I:Inv X z0 σ H s)(h:H p=some (.lst xs)):
  ∃ (its:List Value) (n:Nat),Vals xs its/\s.heap.get? p=some { cls:=.type "list",data:=.seq its.toArray n }/\xs.length<=sizeLine:=by
 obtain⟨z,its,n,r,e⟩:=I.hok p _ h;exact⟨its,n,r,e,z⟩
theorem Inv.lstUpd{z0:List (Addr×Obj)}{σ:St}{H:Hp}{s:Shared}{p:Addr}{xs ys:List V}{its its':List Value}{n n':Nat}{f:Obj->Obj}(I:Inv X z0 σ H s)(h:H p=some (.lst xs))
  (ho:s.heap.get? p=some { cls:=.type "list",data:=.seq its.toArray n }) (hf:f { cls:=.type "list",data:=.seq its.toArray n }={ cls:=.type "list",data:=.seq its'.toArray n' }) (r:Vals ys its') (hz:ys.length<=sizeLine) (t:Nat) :
  Inv X z0 σ (upd H p (.lst ys)) { s with heap:=s.heap.update p f,toks:=t }:=by
 have e:(s.heap.update p f).get? p=some { cls:=.type "list",data:=.seq its'.toArray n' }:=by
  rw[Heap.get?_update_self f ho (by rw[hf]<;>rfl),hf]
 refine I.write (x:=p) (e:=p) (by rw[h];trivial) (.inl rfl) (fun b u hb q=>(Heap.get?_update_other _ _ (I5z hb)).trans q) ⟨_,e⟩ ?_
 exact⟨hz,its',n',r,e⟩
def QH:V->V->V->Hp->(Hp->Prop)->Prop:=fun o i v H Q=>∃ p xs k j,o=.ref p/\i=.int k/\H p=some (.lst xs)/\ixN xs.length k=some j/\Q (upd H p (.lst (xs.set j v)))
theorem set_list:aaU X QH:=by
 intro z0 s σ H o i v ov iv u Q I ro ri rv h;obtain⟨p,xs,k,j,rfl,rfl,hp,hj,q⟩:=h;cases ro;obtain⟨t,rfl⟩:=ri;obtain⟨its,n,r,ho,hz⟩:=I.lst hp;obtain⟨h1,h2,h3,h4⟩:=yu hj;have hl:=r.length;have hn:=lH
 have I':Inv X z0 σ (upd H p (.lst (xs.set j v))) { s with heap:=s.heap.update p (Obj.mapSeq (·.setIfInBounds j u)) } :=
  I.lstUpd hp ho (uY its n j u) (r.set rv j) (by rw[V2z];exact hz) s.toks
 by_cases h0:0<=k
 ·have hk:k.toNat=j:=by
   rw[seqIndex_of h0 h4] at h1;exact P2z h1
  exact PySem.W.ki_setAt ho h0 (by omega) (by rw[R1z,<- hl];exact h4) (by rw[hk];exact⟨_,I',q⟩)
 ·have hk:(k+(its.toArray.size:Int)).toNat=j:=by
   rw[seqIndex_neg (by omega) h3] at h1;rw[R1z,<- hl];exact P2z h1
  exact PySem.W.ki_setBack ho (by omega) (by rw[R1z,<- hl];exact h3) (by omega) (by rw[hk];exact⟨_,I',q⟩)
theorem oH(lo hi:Option Int)(n:Nat):(sliceBounds lo hi none n).1=((HT.sIx n 0 lo:Nat):Int)/\(sliceBounds lo hi none n).2.1=((HT.sIx n n hi:Nat):Int)/\(sliceBounds lo hi none n).2.2=1:=by
 refine⟨?_,?_,rfl⟩
 ·cases lo with
  | none=>simp[sliceBounds,HT.sIx]
  | some i =>
   simp only[sliceBounds,HT.sIx,Option.getD_none,show(1:Int)>0 by decide,J5z]
   by_cases h:i<0
   ·simp only[h,J5z]<;>omega
   ·simp only[h,H5z]<;>omega
 ·cases hi with
  | none=>simp[sliceBounds,HT.sIx]
  | some i =>
   simp only[sliceBounds,HT.sIx,Option.getD_none,show(1:Int)>0 by decide,J5z]
   by_cases h:i<0
   ·simp only[h,J5z]<;>omega
   ·simp only[h,H5z]<;>omega
theorem mz(its:List Value)(lo hi:Option Int):slicePick its.toArray lo hi none=((its.drop (HT.sIx its.length 0 lo)).take (HT.sIx its.length its.length hi-HT.sIx its.length 0 lo)).toArray:=by
 obtain⟨h1,h2,h3⟩:=oH lo hi its.toArray.size;unfold slicePick;rw[h1,h2,h3]
 simp only[sliceRange_one,pick_run,R1z]<;>rfl
def rSlL(K:Z3):V->Option Int->Option Int->Hp->VK->Prop:=fun x lo hi H Q=>∃ a xs,x=.ref a/\SqL K H a xs/\∀ p,H p=none->Q (.ref p) (upd H p (.lst (Ew xs lo hi)))
theorem Gi:SlR X (rSlL X.K):=by
 intro z0 s σ H x v vl vu lo hi sl Q I rx hs pl pu h;obtain⟨a,xs,rfl,hx,q⟩:=h;cases rx;obtain⟨its,r,ht,hz⟩:=I.list hx;have hlen:=r.length;refine⟨"list",_,slot_list_getitem.lookup,ht.isList.typeIs,?_⟩;refine wpAny_getItem_list_slice ht.isList hs pl pu .none (by simp) ?_ (by rw[R1z]<;>omega);rw[mz,<- hlen];refine⟨.ref s.heap.objs.size,_,I.laid (t':=s.toks) (o:=.lst (Ew xs lo hi)) (fun b ob q=>Heap.get?_push_of_some _ q) (Q4z _) ?_,rfl,q _ (I.hok.fresh (Q4z _))⟩;exact⟨F4z (jZ xs lo hi) hz,_,0,(r.drop (HT.sIx xs.length 0 lo)).take (HT.sIx xs.length xs.length hi-HT.sIx xs.length 0 lo),Heap.get?_push_size _ rfl⟩
theorem pQ:dw X (.builtin "len") (fun xs H Q=>∃ p ys,xs=[.ref p]/\(SqL X.K H p ys\/SqT X.K H p ys)/\Q (.int ys.length) H):=by
 intro z0 s σ H xs us Q I r h;obtain⟨p,ys,rfl,hq,q⟩:=h;obtain⟨u,rfl,rx⟩:=vals1 r;cases rx;have hn:=lH;rcases hq with hq | hq
 ·obtain⟨its,r',pl,hz⟩:=I.list hq
  have hlen:=r'.length;exact Calls.call_len_list pl.isList (by simp only[R1z]<;>omega) ⟨.int ys.length,H,I.tok _,⟨s.toks+1,by rw[R1z,hlen]⟩,q⟩
 ·obtain⟨its,r',pl,hz⟩:=I.tuple hq
  have hlen:=r'.length;exact len_tuple pl (by simp only[R1z]<;>omega) ⟨.int ys.length,H,I.tok _,⟨s.toks+1,by rw[R1z,hlen]⟩,q⟩
theorem jh:dw X (.type "list") (fun xs H Q=>∃ p ys,xs=[.ref p]/\(SqL X.K H p ys\/SqT X.K H p ys)/\∀ l,H l=none->Q (.ref l) (upd H l (.lst ys))):=by
 intro z0 s σ H xs us Q I r h;obtain⟨p,ys,rfl,hq,q⟩:=h;obtain⟨u,rfl,rx⟩:=vals1 r;cases rx
 have fin:∀ (its:List Value),Vals ys its->ys.length<=sizeLine->∀ (h':Heap) (c':Nat),(∀ b o',s.heap.get? b=some o'->h'.get? b=some o') ->
   h'.get? s.heap.objs.size=some { cls:=.type "list",dict:=none,data:=.seq its.toArray c',slots := #[] }->EP X z0 σ Q (.ref s.heap.objs.size) { s with heap:=h' }:=fun its r' hz h' c' kp e =>
  ⟨.ref s.heap.objs.size,_,I.laid (t':=s.toks) kp (Q4z _) (show d8 X.prog X.w _ h' _ (.lst ys) from⟨hz,its,c',r',e⟩),rfl,q _ (I.hok.fresh (Q4z _))⟩
 rcases hq with hq | hq
 ·obtain⟨its,r',pl,hz⟩:=I.list hq
  have hlen:=r'.length;obtain⟨o,ho,hc,n,hd⟩:=pl.isList;exact call_list_seq p (.inl rfl) ho hc hd (fun h' c' kp e=>fin its r' hz h' c' kp e) (by simp only[R1z]<;>omega)
 ·obtain⟨its,r',pl,hz⟩:=I.tuple hq
  have hlen:=r'.length;obtain⟨o,ho,hc,n,hd⟩:=pl;exact call_list_seq p (.inr rfl) ho hc hd (fun h' c' kp e=>fin its r' hz h' c' kp e) (by simp only[R1z]<;>omega)
theorem nO:dw X (.type "tuple") (fun xs H Q=>∃ p ys,xs=[.ref p]/\((SqL X.K H p ys/\∀ l,H l=none->Q (.ref l) (upd H l (.tup ys)))\/(SqT X.K H p ys/\Q (.ref p) H))):=by
 intro z0 s σ H xs us Q I r h;obtain⟨p,ys,rfl,h⟩:=h;obtain⟨u,rfl,rx⟩:=vals1 r;cases rx;rcases h with⟨hq,q⟩ | ⟨hq,q⟩
 ·obtain⟨its,r',pl,hz⟩:=I.list hq
  have hlen:=r'.length;refine call_tuple_list pl.isList (fun h' kp=>?_) (by simp only[R1z]<;>omega);have I1:Inv X z0 σ H { s with heap:=h' }:=I.kept (t':=s.toks) kp
  have I2:Inv X z0 σ (upd H h'.objs.size (.tup ys)) { s with heap:=h'.push { cls:=.type "tuple",data:=.seq its.toArray } } :=
   I1.laid (t':=s.toks) (fun b o e=>Heap.get?_push_of_some _ e) (Q4z _) (show d8 X.prog X.w _ _ _ (.tup ys) from⟨hz,its,r',IsTup.new _ _⟩)
  exact⟨.ref h'.objs.size,_,I2,rfl,q _ (I1.hok.fresh (Q4z _))⟩
 ·obtain⟨its,r',pl,hz⟩:=I.tuple hq
  exact call_tuple_same pl ⟨.ref p,H,I,rfl,q⟩
def tyV(K:Z3)(T:String)(x:V)(H:Hp):Prop:=match x with
 | .str _=>T="str"
 | .int _=>T="int"
 | .ref p => (T = "list" /\ ∃ xs, SqL K H p xs) \/ (T = "tuple" /\ ∃ o, K.lookup p = some o /\ o.cls = .type "tuple" /\ o.dict = none) \/
   (T="dict"/\((∃ kvs,H p=some (.dK kvs))\/∃ kvs,H p=some (.dT kvs)))\/(T="set"/\∃ S n,H p=some (.set S n))
 | _=>False
theorem Kc{H:Hp}{s:Shared}{T:String}{x:V}{v:Value}(I:Inv X z0 σ H s)(r:RelV x v)(ty:tyV X.K T x H):
  s.TypeIs v T/\∀ a,v=.ref a->∃ ob,s.heap.get? a=some ob/\ob.dict=none:=by
 cases x with
 | str z =>
  obtain⟨t,rfl⟩:=r;cases (show T="str" from ty);exact⟨typeIs_str s z t,fun _ e=>nomatch e⟩
 | int i =>
  obtain⟨t,rfl⟩:=r;cases (show T="int" from ty);exact⟨typeIs_int s i t,fun _ e=>nomatch e⟩
 | ref p =>
  cases r;rcases ty with⟨rfl,xs,hq⟩ | ⟨rfl,o,hk,hc,hd⟩ | ⟨rfl,hk⟩ | ⟨rfl,S,n,hk⟩
  ·obtain⟨its,_,pl,_⟩:=I.list hq
   refine⟨pl.isList.typeIs,fun a e=>?_⟩;cases e;obtain⟨o,n,e,c,hd,_⟩:=pl;exact⟨o,e,hd⟩
  ·refine⟨⟨o,I.kIn p o hk,hc⟩,fun a e=>?_⟩
   cases e;exact⟨o,I.kIn _ o hk,hd⟩
  ·have z:∃ o,s.heap.get? p=some o/\o.ExactDict:=by
    rcases hk with⟨kvs,hk⟩ | ⟨kvs,hk⟩
    ·obtain⟨_,_,_,_,o,_,_,e,ex,_⟩:=I.hok p _ hk
     exact⟨o,e,ex⟩
    ·obtain⟨_,_,_,_,o,_,_,e,ex,_⟩:=I.hok p _ hk
     exact⟨o,e,ex⟩
   obtain⟨o,e,ex⟩:=z;refine⟨⟨o,e,ex.1⟩,fun a e2=>?_⟩;cases e2;exact⟨o,e,ex.2.1⟩
  ·obtain⟨o,_,_,_,e,ex,_⟩:=I.hok p _ hk
   refine⟨⟨o,e,ex.1⟩,fun a e2=>?_⟩;cases e2;exact⟨o,e,ex.2.1⟩
 | _=>exact False.elim ty
def tBM(K:Z3)(T:String)(r:V->List V->Hp->VK->Prop)(to:TE)(t:TA):TE:=fun σ H Q=>to σ H fun x H1=>tyV K T x H1/\t σ H1 fun xs H2=>r x xs H2 Q
variable {o e:Expr} {es:List Expr} {to:TE} {t:TA} {name:Str} {apos cpos:Pos} {T id:String} {r:V->List V->Hp->VK->Prop}
theorem qP(pa:PlainAttrs T)(slot:Slot T name id)(hty:typeOf (.builtin id)=pure (.type "method_descriptor"))(hm:MtR X id r)(ho:PE X o to)(ha:PA X (e::es) t)
  (hbase:attributeBase o name X.env (eval o X.env)=eval o X.env:=by rfl)
  (hfew : ((backTo cpos (starEach (e :: es) X.env)).all (fun x => !x.1) && (backToKw cpos (keywordEach [] X.env)).all (fun x => x.1.isSome)
   && decide ((e::es).length+([]:List Keyword).length+(if([]:List Keyword).isEmpty then 0 else 1)<30))=true:=by rfl)
  (hline:(apos.endLine==cpos.line)=true:=by rfl) (hs:starEach (e::es) X.env=(false,eval e X.env)::starEach es X.env:=by rfl) (hplain:(backTo cpos (starEach es X.env)).any (·.1)=false:=by rfl) :
  PE X (.Call (.Attribute o name apos) (e::es) [] cpos) (tBM X.K T r to t):=by
 intro z0 s σ H Q I h;refine wpAny_Call_method_late hbase hfew hline rfl (thn (ho z0 s σ H _ I h) fun v s1 ⟨x,H1,I1,r1,ty,q1⟩=>?_);obtain⟨h1,h2⟩:=Kc I1 r1 ty;refine⟨T,id,pa,slot,hty,h1,h2,?_⟩;have hA:=ha cpos z0 s1 σ H1 _ I1 q1;rw[hs] at hA ⊢;refine Calls.callWith_builtin (by show(false||(backTo cpos (starEach es X.env)).any (·.1))=false;rw[hplain]<;>rfl) (Calls.evalArgs_plain ?_);exact thn hA fun us s2 ⟨vs,H2,I2,r2,q2⟩=>hm z0 s2 σ H2 x vs v us Q I2 r1 r2 q2
end
def MtM(X:Cx)(id:String)(r:V->List V->Hp->VK->Prop):Prop :=
  ∀ (z0 : List (Addr × Obj)) (s : Shared) (σ : St) (H : Hp) (x : V) (xs : List V) (v : Value) (us : List Value) (Q : VK), Inv X z0 σ H s -> RelV x v -> Vals xs us -> r x xs H Q ->
    wpAny (model X.prog X.w) X.A (call (.builtin id) (v::us)) (EP X z0 σ Q) X.xe s
theorem Vals.one:∀ {x:V} {us:List Value},Vals [x] us->∃ u,us=[u]/\RelV x u
 | _,_,.cons r .nil=>⟨_,rfl,r⟩
theorem Vals.rep{xs:List V}(h:Vals xs us):∀ k:Nat,Vals (List.replicate k xs).flatten (List.replicate k us).flatten
 | 0=>.nil
 | k+1=>by
  rw[Z0z,Z0z,S1z,S1z];exact Vals.append h (Vals.rep h k)
theorem foldl_rep(its:List Value):∀ (k:Nat) (acc:List Value),
  List.foldl (fun x1 x2=>x1++x2) acc.toArray (List.replicate k its.toArray)=(acc++(List.replicate k its).flatten).toArray
 | 0,acc=>by simp
 | k+1,acc=>by
  have e:acc.toArray++its.toArray=(acc++its).toArray:=by simp
  have e2:(acc++its)++(List.replicate k its).flatten=acc++(List.replicate (k+1) its).flatten:=by
   rw[Z0z,S1z,T1z]
  rw[<- e2,<- foldl_rep its k (acc++its),<- e,Z0z,List.foldl_cons]
section
variable {X:Cx} {z0:List (Addr×Obj)} {σ:St} {H:Hp} {s:Shared} {l b:Addr} {xs ys zs:List V}
theorem Inv.lset{its its':List Value}{n:Nat}{f:Array Value->Array Value}{t':Nat}(I:Inv X z0 σ H s)(hH:H l=some (.lst xs))
  (e:s.heap.get? l=some { cls:=.type "list",data:=.seq its.toArray n }) (hf:f its.toArray=its'.toArray) (hv:Vals ys its') (hz:ys.length<=sizeLine) :
  Inv X z0 σ (upd H l (.lst ys)) { s with heap:=s.heap.update l (Obj.mapSeq f),toks:=t' }:=by
 have q:=PySem.IsL.update e f;rw[hf] at q;refine I.write (x:=l) (e:=l) (by rw[hH];exact trivial) (.inl rfl) (fun b' u hb hu=>(Heap.get?_update_other s.heap (Obj.mapSeq f) (I5z hb)).trans hu) ⟨_,q⟩ ?_;exact⟨hz,its',_,hv,q⟩
theorem Inv.lnew{t':Nat}(I:Inv X z0 σ H s)(hv:Vals ys its)(hz:ys.length<=sizeLine):
  Inv X z0 σ (upd H s.heap.objs.size (.lst ys)) { s with heap:=s.heap.push { cls:=.type "list",data:=.seq its.toArray },toks:=t' } :=
 I.laid (fun _ _ q=>Heap.get?_push_of_some _ q) (Q4z _) ⟨hz,its,0,hv,Heap.get?_push_size _ rfl⟩
theorem Inv.fresh(I:Inv X z0 σ H s):H s.heap.objs.size=none:=I.hok.fresh (Q4z _)
theorem Inv.lstM(I:Inv X z0 σ H s)(hH:H l=some (.lst xs)):xs.length<=sizeLine/\∃ (its:List Value) (n:Nat),Vals xs its/\xs.length=its.length/\s.heap.get? l=some { cls:=.type "list",data:=.seq its.toArray n }:=by
 obtain⟨z,its,n,r,e⟩:=I.hok l _ hH;exact⟨z,its,n,r,r.length,e⟩
theorem mV{n:Nat}(h:n<=sizeLine):Builtin.List.listTooLong n=false:=by
 unfold Builtin.List.listTooLong;exact O2z (by omega)
end
section
variable {X:Cx}
def Gx:V->List V->Hp->VK->Prop:=fun x vs H Q=>∃ l xs y,x=.ref l/\vs=[y]/\H l=some (.lst xs)/\xs.length<sizeLine/\Q .non (upd H l (.lst (xs++[y])))
theorem jR:MtM X "list.append" Gx:=by
 intro z0 s σ H x vs v us Q I rx rv h;obtain⟨l,xs,y,rfl,rfl,hH,hz,q⟩:=h;cases rx;obtain⟨u,rfl,ru⟩:=rv.one;obtain⟨z,its,n,r,hl,e⟩:=I.lstM hH;refine B5z F.slot_list_append ⟨_,e,rfl⟩ F.entry_list_append (F.args_list_append_2 _ _) (PySem.list_append l its.toArray n u (by rw[R1z];omega)) ⟨e,?_⟩;refine⟨.non,_,I.lset (its':=its++[u]) hH e (by simp) (r.append (.cons ru .nil)) ?_,rfl,q⟩;rw[K1z,List.length_singleton];omega
theorem len_rep{α:Type}(xs:List α)(k:Nat):(List.replicate k xs).flatten.length=k*xs.length:=by
 induction k with
 | zero=>simp
 | succ k ih=>rw[Z0z,S1z,K1z,ih,J4z,Nat.add_comm]
end
section
variable {prog:Program} {w:World} {A:Around} {E:Value->Shared->Prop} {s:Shared}
set_option maxRecDepth 100000 in
end
section
variable {X:Cx}
end
end L2
namespace Att
open PySem PySem.W PySem.Calls PyProof.Rows
theorem jW{P:Params}:∀ (ns:List Int) (vs:List Value),WellAll P h vs (ns.map WData.int)->IntsAre vs ns:=by
 intro ns
 induction ns with
 | nil =>
  intro vs w;rw[I4z] at w;cases w;exact .nil
 | cons n ns ih =>
  intro vs w;rw[W3z] at w
  cases w with
  | cons a b =>
   cases a;exact .cons _ _ (ih _ b)
theorem wO{l:OpenLaw}{n:Nat}(hn:l.most=some n){P:Params}{h:Heap}{args:List WData}{vals:List Value}
  (hpre:l.row.toRowW.claim.pre args=true) (hwl:WellAll P h vals args) :
  ∃ a vs ns,vals=[Value.ref a]/\args=[WData.list (ns.map WData.int)]/\h.get? a=some { cls:=.type "list",data:=.seq vs.toArray }/\IntsAre vs ns/\ns.length<=n:=by
 have hsh:WShape.hasAll [] args [.list .int]=true:=(pre_splitW hpre).1;have hc:l.pre.holds [] { args:=args }=true:=(pre_splitW hpre).2;obtain⟨d,r,rfl,h1,h2⟩:=hasAllW_cons hsh;obtain rfl:=hasAllW_nil h2;obtain⟨xs,rfl,h3⟩:=hasW_list h1;obtain⟨ns,rfl⟩:=items_int h3
 have hlen:ns.length<=n:=by
  unfold OpenLaw.pre at hc
  have h4:(WTm.not (.lt (.lit (.int n)) (.len (.arg 0)))).holds [] { args:=[.list (ns.map .int)] }=true:=by
   have h4:=(holds_andW hc).1;rw[hn] at h4;exact h4
  have h5:=condW_of h4 (w_not (w_lt w_lit (w_len_list (w_arg rfl))));rw[U2z] at h5;refine Nat.le_of_not_lt fun q=>?_
  have q':(n:Int)<((ns.length:Nat):Int):=by omega
  first
   | (rw[L3z q'] at h5;exact absurd h5 (by decide))
   | (simp at h5;omega)
 cases hwl with
 | cons w1 w2 =>
  cases w2
  cases w1 with
  | list ho hall=>exact⟨_,_,ns,rfl,rfl,ho,jW ns _ hall,hlen⟩
theorem w6(l:OpenLaw)(args:List WData):l.row.toRowW.claim.post args (.bool true) args=true :=
 postW_of (r:=l.row.toRowW) (X:=(true==true))
  (show WShape.has [] (.bool true) .bool=true by first | rfl | decide | simp[WShape.has,WShape.arms,WShape.armsAll])
  (show(WTm.eq .res (.lit (.bool true))).value [] { args:=args,res:=some (.bool true),after:=args }=some (.bool (true==true)) from w_eq_bool (w_res rfl) w_lit) rfl
theorem rM{l:OpenLaw}{n:Nat}{q:Program}{loose:List Str}{XP:(Str->Option Value)->Heap->Prop}{YP:World->Heap->Prop}{d:DefRec}
  (hn:l.most=some n) (hdf:d.params.defaults=[])
  (call : ∀ (w : World) (s₀ s₁ : Shared) (mg mb : Str -> Option Value) (fa : Addr) (o : Obj) (pm cd doc : Value) (a : Addr) (vs : List Value) (ns : List Int),
   Ground q loose [] XP w s₀ mg mb s₁.heap->YP w s₁.heap ->
   s₁.heap.get? fa=some o->o.data=.func (docDef d.name d.params d.body d.scope pm cd doc)->s₁.heap.CodeRec cd d.name->mg d.name=some (.ref fa) ->
   s₁.heap.get? a=some { cls:=.type "list",data:=.seq vs.toArray }->IntsAre vs ns->ns.length<=n->s₁.gens = #[] ->
   codeAny (model l.prog w) callerA (.call (.ref fa) ⟨[.ref a],[]⟩) (fun r s'=>r=.ok (.ret (.bool true))/\OldK s₁.heap s'.heap/\s'.os=s₁.os/\AllBare s'.gens) s₁) :
  WalkO q loose XP YP l.row.toRowW d [] (fun f vs=>PySem.call f vs):=by
 intro w s₀ s₁ mg mb G Y fa o pm cd doc dV kV ho hd hcd hD hmg hg args vals as hpre hlay hrd hwl hlo;obtain rfl:dV=.none:=Dflts.none hD hdf;obtain rfl:kV=.none:=Dflts.noKw hD;obtain⟨a,vs,ns,rfl,rfl,hobj,hints,hlen⟩:=wO hn hpre hwl;refine enter_call (H4z (call w s₀ s₁ mg mb fa o pm cd doc a vs ns G Y ho (fd_plain hd) hcd hmg hobj hints hlen hg) fun r s' hq=>?_);obtain⟨rfl,h2,h3,h4⟩:=hq;exact⟨.inl ⟨.bool true,.bool true,[],rfl,fun _=>rfl,.bool true,w6 l _,fun _=>⟨List.Pairwise.nil,fun _ hm=>(nomatch hm)⟩⟩,h2,h3,h4⟩
section
variable {prog:Program} {w:World} {A:Around} {E:Value->Shared->Prop} {s:Shared} {K:Frag}
def ledger(h:Heap)(L d:Addr):List (Addr×Obj):=(List.range h.objs.size).filterMap fun a=>if a=L\/a=d then none else(h.get? a).map fun o=>(a,o)
end
end Att
namespace L2
open PySem PySem.Spec PyProof.Rows
theorem jH:∀ {vs:List Value} {ns:List Int},IntsAre vs ns->Vals (ns.map V.int) vs
 | _,_,.nil=>.nil
 | _,_,.cons n t h=>.cons ⟨t,rfl⟩ (jH h)
def Only(H:Hp):Prop:=∀ b,H b=none\/∃ o xs,H b=some (.frz o (.lst xs))
theorem BJ{P:Program}{w:World}{K:Z3}{mg mb:Str->Option Value}{CX:CXT}{k:Nat}{fa a:Addr}{fd:FuncData}{x:Str}{sp:Sp}{s₁:Shared}{vs:List Value}{ns:List Int}
  (KX:K.In s₁.heap) (hns:s₁.heap.Ns mainGlobals mg) (hb:s₁.heap.Ns builtinsNs mb) (hbb:∀ x:Str,x≠"__name__"->mb x=bootBuiltins x) (hlim:s₁.heap.NoLimit) (hg:s₁.gens = #[])
  (ha:s₁.heap.get? a=some { cls:=.type "list",data:=.seq vs.toArray }) (hi:IntsAre vs ns) (hl:ns.length<=sizeLine) (hr:Room k callerA)
  (F:∀ base:Heap,K.In base->base.Ns mainGlobals mg->FnOk P w K mg base CX k fa fd [x] sp) (hbind:∀ (s:Shared) (u:Value),BindsTo s fd ⟨[u],[]⟩ [(x,u)])
  (hsp:∀ H:Hp,Only H->SqL K H a (ns.map V.int)->sp [.ref a] H (fun v _=>v=.bl true) fun _ _ _=>False)
  (hCX:∀ H e s',CX [] H s₁ (fun _ _ _=>False) e s'->False) :
  codeAny (model P w) callerA (.call (.ref fa) ⟨[.ref a],[]⟩) (fun r s'=>r=.ok (.ret (.bool true))/\OldK s₁.heap s'.heap/\s'.os=s₁.os/\AllBare s'.gens) s₁:=by
 have rv:=jH hi;have lenV:=hi.length
 have core:∀ H:Hp,Only H->SqL K H a (ns.map V.int)->HOk P w H s₁.heap->(∀ b,H b≠none->b=a)->(H a≠none->K.lookup a=none) ->
   codeAny (model P w) callerA (.call (.ref fa) ⟨[.ref a],[]⟩) (fun r s'=>r=.ok (.ret (.bool true))/\OldK s₁.heap s'.heap/\s'.os=s₁.os/\AllBare s'.gens) s₁:=by
  intro H hO hS hok hA hK;have base_of:∀ {b:Addr} {o:Obj},s₁.heap.get? b=some o->H b=none->(BX s₁.heap H).get? b=some o:=fun e n=>BW e n
  have noA:∀ {b:Addr} {o:Obj} {es:Array DictEntry} {ep:Nat},s₁.heap.get? b=some o->o.data=.dict es ep->H b=none:=fun {b o es ep} e d=>by
   cases q:H b with
   | none=>rfl
   | some u =>
    have e':b=a:=hA b (by rw[q];simp)
    subst e';rw[ha] at e;cases e;have d':Data.seq vs.toArray _=Data.dict es ep:=d;cases d'
  have nsK:∀ {b:Addr} {m:Str->Option Value},s₁.heap.Ns b m->(BX s₁.heap H).Ns b m:=fun {b m} ⟨o,es,ep,e,d,r⟩=>⟨o,es,ep,base_of e (noA e d),d,r⟩
  have hKb:K.In (BX s₁.heap H):=fun b o e=>base_of (KX b o e) (by
   cases q:H b with
   | none=>rfl
   | some u =>
    have e':b=a:=hA b (by rw[q];simp)
    subst e'
    rw[hK (by rw[q];simp)] at e;cases e)
  have hM:Mod K mg (BX s₁.heap H):=⟨hKb,nsK hns,⟨mb,nsK hb,hbb⟩,let ⟨mc,h1,h2⟩:=hlim;⟨mc,nsK h1,h2⟩⟩
  have e0:Env0 P w K mg (BX s₁.heap H) callerA [] s₁ H:=⟨rfl,hM,fun b o e=>Hw e,K4z (yE _ _),trivial,fun b hb=>absurd (show b∈([]:List Addr) from hb) (by simp),hok,.of_eq hg⟩;refine H4z ((F _ hKb (nsK hns)).run callerA [] s₁ H ⟨[.ref a],[]⟩ [.ref a] [.ref a] _ _ hr e0 (hbind s₁ (.ref a)) (.cons rfl .nil) (hsp H hO hS)) fun r s' h=>?_
  cases r with
  | error e=>exact(hCX H e s' h).elim
  | ok fl =>
   cases fl with
   | next=>exact False.elim h
   | brk=>exact False.elim h
   | cont=>exact False.elim h
   | ret u =>
    obtain⟨v,H',os,bare,un,hok',r',q⟩:=h;have q':v=.bl true:=q;subst q';obtain rfl:u=Value.bool true:=r';refine⟨rfl,OldK.of_keep fun b o e=>?_,os,bare⟩
    cases q:H b with
    | none=>exact un.keep b o e q (by intro z;exact absurd (show b∈([]:List Addr) from z) (by simp)) (by simp)
    | some u =>
     rcases hO b with z | ⟨ob,xs,z⟩
     ·rw[q] at z;cases z
     ·have z2:=un.frzs b ob _ z
      obtain⟨e1,_⟩:=hok b _ z;obtain⟨e2,_⟩:=hok' b _ z2;rw[e] at e1;cases e1;exact e2
 cases hk:K.lookup a with
 | some o =>
  have e:=KX a o hk;rw[ha] at e;cases e;refine core (fun _=>none) (fun _=>.inl rfl) (.inr ⟨_,vs.toArray,_,hk,rfl,rfl,rfl,by rw[R1z,lenV];exact hl,by simpa using rv⟩) (fun b u z=>by have z':(none:Option HO)=some u:=z;cases z') (fun b z=>absurd rfl z) fun z=>absurd rfl z
 | none =>
  refine core (fun b=>if b=a then some (.frz { cls:=.type "list",data:=.seq vs.toArray } (.lst (ns.map V.int))) else none) (fun b=>?_) (.inl (.inr ⟨{ cls:=.type "list",data:=.seq vs.toArray },K5z rfl⟩)) (fun b u z=>?_) (fun b z=>?_) fun _=>hk
  ·by_cases hb:b=a
   ·exact .inr ⟨_,_,K5z hb⟩
   ·exact .inl (L5z hb)
  ·by_cases hb:b=a
   ·have z':=(K5z hb).symm.trans z
    cases z';subst hb;exact⟨ha,by rw[U2z];exact hl,vs,_,rv,ha⟩
   ·have z':=(L5z hb).symm.trans z
    cases z'
  ·by_cases hb:b=a
   ·exact hb
   ·exact absurd (L5z hb) z
theorem FN{l:PySem.W.OpenLaw}{n k:Nat}{q:Program}{loose:List Str}{XP:(Str->Option Value)->Heap->Prop}{YP:World->Heap->Prop}{d:DefRec}{K:Params->Z3}{CX:World->CXT}{sp:World->Sp}{x:Str}
    (hn:l.most=some n) (hn2:n<=sizeLine) (hdf:d.params.defaults=[]) (hr:Room k callerA)
    (hY:∀ (w:World) (h:Heap),YP w h->(K w.params).In h)
    (F:∀ (w:World) (mg:Str->Option Value) (fa:Addr) (h:Heap),(K w.params).In h->h.Ns mainGlobals mg->mg d.name=some (.ref fa) ->
      ∃ fd : FuncData, (∀ (s : Shared) (u : Value), BindsTo s fd ⟨[u], []⟩ [(x, u)]) /\
        ∀ base:Heap,(K w.params).In base->base.Ns mainGlobals mg->FnOk l.prog w (K w.params) mg base (CX w) k fa fd [x] (sp w))
    (hsp:∀ (w:World) (H:Hp) (a:Addr) (ns:List Int),ns.length<=n->Only H->SqL (K w.params) H a (ns.map V.int)->sp w [.ref a] H (fun v _=>v=.bl true) fun _ _ _=>False)
    (hCX:∀ (w:World) (H:Hp) (s:Shared) (e:Value) (s':Shared),CX w [] H s (fun _ _ _=>False) e s'->False) :
    PySem.W.WalkO q loose XP YP l.row.toRowW d [] (fun f vs=>PySem.call f vs):=by
  refine Att.rM hn hdf fun w s₀ s₁ mg mb fa o pm cd doc a vs ns G Y ho hd hcd hmg hobj hints hlen hg=>?_
  have KX:=hY w _ Y
  obtain⟨fd,hb,hF⟩:=F w mg fa _ KX G.T.g hmg
  exact BJ KX G.T.g G.T.b G.T.builtins G.T.nolimit hg hobj hints (F4z hlen hn2) hr hF hb (fun H hO hS=>hsp w H a ns hlen hO hS) fun H e s'=>hCX w H s₁ e s'
def eN(s:Stmt):Arguments:=match s with
 | .FunctionDef _ a _ _ _ _ _ _ _ _=>a
 | _=>{ posonlyargs:=[],args:=[],vararg:=none,kwonlyargs:=[],kw_defaults:=[],kwarg:=none,defaults:=[] }
def cu(s:Stmt):List Stmt:=match s with
 | .FunctionDef _ _ b _ _ _ _ _ _ _=>b
 | _=>[]
def bx(s:Stmt):Scope:=match s with
 | .FunctionDef _ _ _ _ _ _ sc _ _ _=>sc
 | _=>{ kind:=.function,names:=[],isGenerator:=false,isCoroutine:=false }
abbrev CX0:CXT:=fun _ _ _ _ _ _=>False
abbrev E0:XK:=fun _ _ _=>False
structure Fun (K:Z3) (x qual:Str) (st:Stmt) (f:Addr) (fd:FuncData):Prop where
 ex:∃ (oc:Value) (od:Option Addr) (kV doc pm:Value) (an:Option Addr) (cdv ct:Value) (osl:Array (Option Value)),
  fd=PySem.W.fnOf x qual (eN st) (cu st) (bx st) .none kV doc pm an cdv ct/\K.lookup f=some ⟨oc,od,.func fd,osl⟩/\PySem.W.codeIn K cdv qual=true
 kp:PySem.W.keepIn K (.ref f)=true
section
variable {P:Program} {w:World} {K:Z3} {mg:Str->Option Value} {base:Heap}
theorem Fun.binds{x qual:Str}{st:Stmt}{f:Addr}{fd:FuncData}{ps:List Str}(F:Fun K x qual st f fd)
  (h:∀ (kV doc pm:Value) (an:Option Addr) (cdv ct:Value) (us:List Value),us.length=ps.length->bindArgs (PySem.W.fnOf x qual (eN st) (cu st) (bx st) .none kV doc pm an cdv ct) ⟨us,[]⟩=pure (ps.zip us)):Binds K fd ps []:=by
 obtain⟨oc,od,kV,doc,pm,an,cdv,ct,osl,rfl,lk,hcd⟩:=F.ex;exact .all (h kV doc pm an cdv ct)
theorem yL{x qual:Str}{st:Stmt}{f:Addr}{oc:Value}{od an:Option Addr}{osl:Array (Option Value)}{kV doc pm cdv ct:Value}(l:K.lookup f=some ⟨oc,od,.func (PySem.W.fnOf x qual (eN st) (cu st) (bx st) .none kV doc pm an cdv ct),osl⟩)
  (c:PySem.W.codeIn K cdv qual=true) (k:PySem.W.keepIn K (.ref f)=true):Fun K x qual st f (PySem.W.fnOf x qual (eN st) (cu st) (bx st) .none kV doc pm an cdv ct):=⟨⟨oc,od,kV,doc,pm,an,cdv,ct,osl,rfl,l,c⟩,k⟩
end
section
variable {X:Cx}
end
theorem yw{A B:Prop}(h:B):if false=true then A else B:=by
 rw[L5z G1z];exact h
theorem vM{A B:Prop}(h:A):if true=true then A else B:=by
 rw[K5z rfl];exact h
def Same(H H':Hp):Prop:=∀ b o,H b=some o->H' b=some o
theorem Same.refl(H:Hp):Same H H:=fun _ _ h=>h
theorem Same.trans{H H1 H2:Hp}(a:Same H H1)(b:Same H1 H2):Same H H2:=fun c o h=>b c o (a c o h)
theorem Same.free{H H':Hp}(e:Same H H')(h:H' l=Option.none):H l=Option.none:=by
 cases q:H l with
 | none=>rfl
 | some o =>
  rw[e l o q] at h;cases h
theorem Same.seq{K:Z3}{H H':Hp}{xs:List V}(e:Same H H')(h:SqL K H a xs):SqL K H' a xs:=by
 rcases h with(h | ⟨o,h⟩) | h
 ·exact .inl (.inl (e _ _ h))
 ·exact .inl (.inr ⟨o,e _ _ h⟩)
 ·exact .inr h
def jg(cells:List (Str×Addr)):List (Str×NameKind)->List (Str×Addr)->List (Str×Addr)
 | [],acc=>acc
 | (x,k)::r,acc=>if k==.free then jg cells r ((x,(cells.lookup x).getD 0)::acc) else jg cells r acc
theorem m9{env:Env}(f:Str×NameKind->List (Str×Addr)->Sem (ForInStep (List (Str×Addr))))
  (hf:∀ name kind cs,f (name,kind) cs=if kind==.free then(do let a <- cellOf env name;pure (.yield ((name,a)::cs))) else pure (.yield cs)) :
  ∀ (l:List (Str×NameKind)) (acc:List (Str×Addr)),(∀ x,(x,NameKind.free)∈l->∃ c,env.cells.lookup x=some c)->(forIn l acc f:Sem (List (Str×Addr)))=pure (jg env.cells l acc)
 | [],acc,_=>by rw[List.forIn_nil];rfl
 | (x,k)::r,acc,h=>by
  rw[List.forIn_cons,hf];unfold jg
  cases hk:k==NameKind.free with
  | false =>
   simp only[L1z,H5z];show(forIn r acc f:Sem _)=_;exact m9 f hf r acc fun y hy=>h y (Q0z _ hy)
  | true =>
   simp only[J5z]
   have ek:k=.free:=by simpa using hk
   obtain⟨c,hc⟩:=h x (by rw[ek];exact F1z)
   have e1:cellOf env x=pure c:=by unfold cellOf;rw[hc]
   rw[e1,hc];show(forIn r ((x,c)::acc) f:Sem _)=_;exact m9 f hf r _ fun y hy=>h y (Q0z _ hy)
theorem fU(h:∀ x,(x,NameKind.free)∈scope.names->∃ c,env.cells.lookup x=some c):closureFor scope env=pure (jg env.cells scope.names []):=by
 simp only[closureFor];rw[m9 (env:=env) _ (fun name kind cs=>by cases hk:kind==NameKind.free<;>simp[hk]) scope.names [] h];rfl
theorem qT{M:Model}{A:Around}{E:Value->Shared->Prop}{s:Shared}{scope:Scope}{globals:Addr}{closure:List (Str×Addr)}{qual:Str}{outer:Env}{Q:Env->Shared->Prop}
  (hQ:Q (newEnv scope s.heap.objs.size globals (cellsFrom (s.heap.objs.size+1) scope.names closure) qual none .none (some outer) builtinsNs) { s with heap:=pushCells (s.heap.push { cls:=.type "dict",data:=.dict #[] }) scope.names }) :
  wpAny M A (newFunctionEnv scope globals closure [] qual none .none (some outer)) Q E s:=by
 simp only[newFunctionEnv,Option.isSome_some,J5z];refine Y4z (wpAny_alloc ?_);refine Y4z (wpAny_layCells _ (fun name kind cells=>by cases hkc:kind==NameKind.cell<;>simp[hkc]) _ _ _ _ ?_);rw[show({ s with heap:=s.heap.push { cls:=.type "dict",data:=.dict #[] } }:Shared).heap.objs.size=s.heap.objs.size+1 from M3z ..];rw[List.forIn_nil];exact Y4z (Z4z (Z4z hQ))
theorem g8{α:Type}:∀ {l:List (Str×α)} {x:Str} {c:α},(x,c)∈l->∃ d,l.lookup x=some d
 | (y,d)::r,x,c,h=>by
  rw[E2z]
  cases hb:x==y with
  | true=>exact⟨d,rfl⟩
  | false =>
   rcases List.mem_cons.mp h with e | h
   ·cases e;simp at hb
   ·exact g8 h
theorem cg{α:Type}:∀ {l:List (Str×α)} {x:Str} {c:α},(l.map (·.1)).Nodup->(x,c)∈l->l.lookup x=some c
 | (y,d)::r,x,c,hn,h=>by
  rw[W3z,W2z] at hn;rw[E2z];rcases List.mem_cons.mp h with e | h'
  ·cases e;simp
  ·have hne:(x==y)=false:=by
    rw[A1z];intro exy;exact hn.1 (List.mem_map.mpr ⟨(x,c),h',exy⟩)
   rw[hne];exact cg hn.2 h'
theorem dJ{x:Str}{c:Addr}:∀ (names:List (Str×NameKind)) (n:Nat) (acc:List (Str×Addr)),(cellsFrom n names acc).lookup x=some c ->
  ((x,NameKind.cell)∈names/\n<=c)\/((x,NameKind.cell)∉names/\acc.lookup x=some c)
 | [],_,_,h=>.inr ⟨by simp,h⟩
 | (y,k)::r,n,acc,h=>by
  unfold cellsFrom at h
  cases hk:k==NameKind.cell with
  | true =>
   have ek:k=.cell:=by simpa using hk
   subst ek;rw[K5z (show(NameKind.cell==NameKind.cell)=true from rfl)] at h;rcases dJ r _ _ h with⟨h1,h2⟩ | ⟨h1,h2⟩
   ·exact .inl ⟨Q0z _ h1,by omega⟩
   ·rw[E2z] at h2
    cases hb:x==y with
    | true =>
     rw[hb] at h2;cases h2
     have:x=y:=by simpa using hb
     subst this;exact .inl ⟨F1z,Q4z _⟩
    | false =>
     rw[hb] at h2;refine .inr ⟨fun hm=>?_,h2⟩;rcases List.mem_cons.mp hm with e | hm
     ·cases e;simp at hb
     ·exact h1 hm
  | false =>
   rw[hk] at h;simp only[L1z,H5z] at h;rcases dJ r _ _ h with⟨h1,h2⟩ | ⟨h1,h2⟩
   ·exact .inl ⟨Q0z _ h1,h2⟩
   ·refine .inr ⟨fun hm=>?_,h2⟩
    rcases List.mem_cons.mp hm with e | hm
    ·cases e;simp at hk
    ·exact h1 hm
theorem d7:∀ (names:List (Str×NameKind)) (n:Nat) (acc:List (Str×Addr)),(acc.Pairwise fun x y=>x.2≠y.2)->(∀ p∈acc,p.2<n)->(cellsFrom n names acc).Pairwise fun x y=>x.2≠y.2
 | [],_,_,h,_=>h
 | (y,k)::r,n,acc,h,hl=>by
  unfold cellsFrom;split
  ·refine d7 r _ _ (List.pairwise_cons.mpr ⟨fun p hp e=>?_,h⟩) fun p hp=>?_
   ·have e':n=p.2:=e
    have q:=hl p hp;rw[<- e'] at q;exact T3z _ q
   ·rcases List.mem_cons.mp hp with e | hp
    ·subst e;exact F2z _
    ·exact U1z (hl p hp)
  ·exact d7 r _ _ h hl
theorem rG{cells:List (Str×Addr)}(inj:∀ x y c,cells.lookup x=some c->cells.lookup y=some c->x=y):∀ (names:List (Str×NameKind)) (acc:List (Str×Addr)),(names.map (·.1)).Nodup->(∀ x,(x,NameKind.free)∈names->∃ c,cells.lookup x=some c) ->
  (acc.Pairwise fun x y=>x.2≠y.2)->(∀ p∈acc,cells.lookup p.1=some p.2/\p.1∉names.map (·.1))->((jg cells names acc).Pairwise fun x y=>x.2≠y.2)/\∀ p∈jg cells names acc,cells.lookup p.1=some p.2
 | [],acc,_,_,h1,h2=>⟨h1,fun p hp=>(h2 p hp).1⟩
 | (y,k)::r,acc,hn,hf,h1,h2=>by
  rw[W3z,W2z] at hn;have hf':∀ x,(x,NameKind.free)∈r->∃ c,cells.lookup x=some c:=fun x hx=>hf x (Q0z _ hx);unfold jg;split
  ·rename_i hk
   have ek:k=.free:=by simpa using hk
   subst ek;obtain⟨c,hc⟩:=hf y F1z;rw[hc];refine rG inj r _ hn.2 hf' (List.pairwise_cons.mpr ⟨fun p hp e=>?_,h1⟩) fun p hp=>?_
   ·have e':c=p.2:=e
    obtain⟨a1,a2⟩:=h2 p hp;rw[<- e'] at a1;have:=inj _ _ _ a1 hc;exact a2 (by rw[this];simp)
   ·rcases List.mem_cons.mp hp with e | hp
    ·subst e;exact⟨hc,hn.1⟩
    ·exact⟨(h2 p hp).1,fun z=>(h2 p hp).2 (Q0z _ z)⟩
  ·exact rG inj r _ hn.2 hf' h1 fun p hp=>⟨(h2 p hp).1,fun z=>(h2 p hp).2 (Q0z _ z)⟩
theorem nM{cells:List (Str×Addr)}{p:Str×Addr}:∀ (names:List (Str×NameKind)) (acc:List (Str×Addr)),p∈acc->p∈jg cells names acc
 | [],_,h=>h
 | (y,k)::r,acc,h=>by
  unfold jg;split
  ·exact nM r _ (Q0z _ h)
  ·exact nM r _ h
theorem nJ{cells:List (Str×Addr)}{x:Str}:∀ (names:List (Str×NameKind)) (acc:List (Str×Addr)),(x,NameKind.free)∈names->∃ c,(x,c)∈jg cells names acc
 | (y,k)::r,acc,h=>by
  unfold jg;rcases List.mem_cons.mp h with e | h
  ·cases e
   rw[K5z (show(NameKind.free==NameKind.free)=true from rfl)];exact⟨_,nM r _ F1z⟩
  ·split
   ·exact nJ r _ h
   ·exact nJ r _ h
theorem eG{env:Env}{x:Str}:∀ (names:List (Str×NameKind)),
  (names.map fun (n, k) => if (k == NameKind.free && env.scope.kind == .function && env.kindOf n == some .cell) then (n, NameKind.cell) else (n, k)).lookup x =
   (names.lookup x).map fun k=>if(k==NameKind.free&&env.scope.kind==.function&&env.kindOf x==some .cell) then NameKind.cell else k
 | []=>rfl
 | (y,k)::r=>by
  have ih:=eG (x:=x) (env:=env) r
  by_cases hx:x=y
  ·subst hx
   cases hc:(k==NameKind.free&&env.scope.kind==.function&&env.kindOf x==some .cell)<;>simp only[W3z,hc,E2z,G2z,X2z,J5z,H5z,L1z]
  ·have hb:(x==y)=false:=by simpa using hx
   cases hc:(k==NameKind.free&&env.scope.kind==.function&&env.kindOf y==some .cell)<;>simp only[W3z,hc,E2z,hb,J5z,H5z,L1z]<;>exact ih
def su(N:List Str)(σ:St)(x:Str):Option V:=match N.idxOf? x with
 | some j=>(σ[j]?).getD none
 | none=>none
def qW(N:List Str)(names:List (Str×NameKind))(σ:St):St:=names.map fun p=>if p.2==.free then su N σ p.1 else none
def um(scope:Scope)(cells:List (Str×Addr))(C:Addr)(env:Env):Env :=
 { scope:=relabel scope env,locals:=C,globals:=env.globals,cells:=cells,qual:=env.qual,func:=none,code:=env.code,frame:=env.frame,builtins:=env.builtins }
structure CompOf (X:Cx) (scope:Scope) (Xc:Cx):Prop where
 prog:Xc.prog=X.prog
 w:Xc.w=X.w
 K:Xc.K=X.K
 mg:Xc.mg=X.mg
 base:Xc.base=X.base
 A:Xc.A=X.A
 N:Xc.N=scope.names.map (·.1)
 sc:Xc.env.scope=relabel scope X.env
 calm:Xc.calm=true
 fn:Xc.fn=fun x=>scope.names.lookup x==some .cell
 xe:Xc.xe=fun _ _=>False
def pL(X:Cx)(scope:Scope)(cells:List (Str×Addr))(C:Addr)(s:Shared)(H:Hp)(fp:List Addr):Cx where
 prog:=X.prog
 w:=X.w
 K:=X.K
 mg:=X.mg
 base:=X.base
 A:=X.A
 N:=scope.names.map (·.1)
 s₀:=s
 H₀:=H
 env:=um scope cells C X.env
 outer:=X.stack
 stack:=X.stack
 ex:=fp
 fn:=fun x=>scope.names.lookup x==some .cell
 calm:=true
 pn:=[]
 xe:=fun _ _=>False
def Ah(X:Cx)(ifs:List Expr)(t:TT):Prop :=
  ∀ (z0 : List (Addr × Obj)) (s : Shared) (σ : St) (H : Hp) (Q : Bool -> Hp -> Prop), Inv X z0 σ H s -> t σ H Q ->
    wpAny (model X.prog X.w) X.A (forIn ifs true fun c r=>if r=true then do let ok <- isTrue c X.env (eval c X.env);pure (ForInStep.yield ok) else pure (ForInStep.yield r)) (TP X z0 σ Q) X.xe s
theorem Bj:Ah X [] (fun _ H Q=>Q true H):=fun _ _ _ H _ I h=>wpAny_tests_nil ⟨H,I,h⟩
theorem Bh{c:Expr}{t:TT}(h:PT X c t):Ah X [c] t:=fun z0 s σ H Q I hw=>wpAny_tests_one (h z0 s σ H Q I hw)
def qG(X:Cx)(scope:Scope)(wi:TI)(mk:St->St)(g:Cx->TG)(tc:Cx->TT)(te:Cx->TE):TE:=fun σ H Q=>wi σ H fun J H1=>∀ acc,H1 acc=none->∀ Xc,CompOf X scope Xc ->
  ∃ W : Nat -> Nat -> St -> Hp -> Prop, (∃ m, W 0 m (mk σ) (upd H1 acc (.lst []))) /\ ∀ i m σc H, W i m σc H ->
    (J.stop i H/\Q (.ref acc) H)\/(J.go i H/\∃ N:St->Hp->Prop,(∀ σ' H',N σ' H'->∃ m',m'<m/\W (i+1) m' σ' H')/\∀ x H',J.yld i H x H' ->
      g Xc x σc H' fun σ2 H2=>tc Xc σ2 H2 fun b H3=>if b=true then te Xc σ2 H3 fun v H4=>∃ ys,H4 acc=some (.lst ys)/\ys.length<sizeLine/\N σ2 (upd H4 acc (.lst (ys++[v]))) else N σ2 H3)
theorem gq{prog:Program}{w:World}{A:Around}{R:Result->Shared->Prop}{s:Shared}{elt target iter:Expr}{ifs:List Expr}{scope:Scope}{pos:Pos}{it acc:Value}{env:Env}(I:Nat->Shared->Prop)
  (turn:∀ n s,I n s->wpAny (model prog w) A (pyNext it) (fun r s₁=>match r with
   | none=>R (.ok .next) s₁
   | some v=>wpAny (model prog w) A (letOwnedTupleGo target it v) (fun _ s₁'=>wpAny (model prog w) A (assign target env v) (fun _ s₂ =>
     wpAny (model prog w) A (forIn ifs true fun c r=>if r=true then do let ok <- isTrue c env (eval c env);pure (ForInStep.yield ok) else pure (ForInStep.yield r)) (fun ok s₃ =>
      if ok=true then wpAny (model prog w) A (eval elt env) (fun x s₄ =>
       wpAny (model prog w) A (call (.builtin "list.append") [acc,x]) (fun _ s₅=>∃ m,m<n/\I m s₅) (fun _ _=>False) s₄) (fun _ _=>False) s₃
      else ∃ m,m<n/\I m s₃) (fun _ _=>False) s₂) (fun _ _=>False) s₁') (fun _ _=>False) s₁) (fun _ _=>False) s)
  (n:Nat) (h:I n s) :
  codeAny (model prog w) A (.compLoop (.ListComp elt [⟨target,iter,ifs,0⟩] scope pos) 0 it acc env) R s:=by
 refine codeAny_loop rfl I (fun n s hI=>?_) n h;show wpAny _ A ((compTurn (.ListComp elt [⟨target,iter,ifs,0⟩] scope pos) 0 it acc env).onRaise (fun x=>do noteFrame x env;theTreesLotGoes x)) _ _ s;refine wpAny_noted ?_;rw[compTurn_list];refine Y4z (V3z (Y4z (X4z (turn n s hI) (fun r s₁ h₁=>?_) fun _ _ h'=>h'.elim)))
 cases r with
 | none=>exact Z4z h₁
 | some v =>
  refine Y4z (X4z h₁ (fun _ s₁' h₁'=>?_) fun _ _ h'=>h'.elim);refine Y4z (X4z h₁' (fun _ s₂ h₂=>Y4z (X4z h₂ (fun ok s₃ h₃=>?_) fun _ _ h'=>h'.elim)) fun _ _ h'=>h'.elim)
  cases ok with
  | false=>exact Z4z ⟨rfl,h₃⟩
  | true =>
   exact Y4z (Y4z (X4z h₃ (fun x s₄ h₄=>Y4z (X4z h₄ (fun _ s₅ h₅=>Z4z (Z4z ⟨rfl,h₅⟩)) fun _ _ h'=>h'.elim)) fun _ _ h'=>h'.elim))
section
variable {X:Cx}
theorem iU{z0:List (Addr×Obj)}{σ:St}{H:Hp}{s:Shared}{scope:Scope}(I:Inv X z0 σ H s)(hnd:(scope.names.map (·.1)).Nodup)
  (hcap:∀ x,(x,NameKind.free)∈scope.names->X.env.kindOf x=some .cell\/X.env.kindOf x=some .free) :
  (∀ x,(x,NameKind.free)∈scope.names->∃ c,X.env.cells.lookup x=some c) /\
  ((cellsFrom (s.heap.objs.size+1) scope.names (jg X.env.cells scope.names [])).Pairwise fun x y=>x.2≠y.2) /\
  (∀ x c,(cellsFrom (s.heap.objs.size+1) scope.names (jg X.env.cells scope.names [])).lookup x=some c->((x,NameKind.cell)∈scope.names/\s.heap.objs.size+1<=c)\/((x,NameKind.cell)∉scope.names/\X.env.cells.lookup x=some c/\c<s.heap.objs.size)) /\
  (∀ x,(x,NameKind.free)∈scope.names->(cellsFrom (s.heap.objs.size+1) scope.names (jg X.env.cells scope.names [])).lookup x=X.env.cells.lookup x):=by
 have hf:∀ x,(x,NameKind.free)∈scope.names->∃ c,X.env.cells.lookup x=some c:=fun x hx=>I.ok.has x (hcap x hx);have ok:=rG I.ok.inj scope.names [] hnd hf List.Pairwise.nil (fun p hp=>absurd hp (by simp))
 have small:∀ x c,X.env.cells.lookup x=some c->c<s.heap.objs.size:=fun x c e=>by
  obtain⟨v,z⟩:=I.cell x c e;exact z.lt
 refine⟨hf,d7 _ _ _ ok.1 fun p hp=>U1z (small p.1 p.2 (ok.2 p hp)),fun x c e=>?_,fun x hx=>?_⟩
 ·rcases dJ _ _ _ e with h | ⟨h1,h2⟩
  ·exact .inl h
  ·have h3:=ok.2 _ (Y0z h2)
   exact .inr ⟨h1,h3,small _ _ h3⟩
 ·obtain⟨c,hc⟩:=hf x hx
  have nc:(x,NameKind.cell)∉scope.names:=fun z=>by
   have e1:=cg hnd z;rw[cg hnd hx] at e1;cases e1
  obtain⟨d,hd⟩:=nJ (cells:=X.env.cells) scope.names [] hx;obtain⟨d',hd'⟩:=g8 hd;have hs:((cellsFrom (s.heap.objs.size+1) scope.names (jg X.env.cells scope.names [])).lookup x).isSome=true:=J0z _ _ _ (.inr (by rw[hd'];rfl));obtain⟨c',hc'⟩:=Option.isSome_iff_exists.mp hs;rcases dJ _ _ _ hc' with⟨h,_⟩ | ⟨_,h2⟩
  ·exact absurd h nc
  ·rw[hc',ok.2 _ (Y0z h2)]
theorem Hg:∀ (names:List (Str×NameKind)) (h:Heap) (acc:List (Str×Addr)) {x:Str} {c:Addr},(cellsFrom h.objs.size names acc).lookup x=some c->(x,NameKind.cell)∈names->(pushCells h names).IsCell c none:=by
 intro names
 induction names with
 | nil=>intro h acc x c e hx;cases hx
 | cons p r ih =>
  obtain⟨y,k⟩:=p;intro h acc x c e hx;unfold cellsFrom at e;unfold pushCells
  by_cases hin:(x,NameKind.cell)∈r
  ·split at e
   ·rename_i hk
    rw[K5z hk];refine ih (h.push { cls:=.type "cell",data:=.cell none }) ((y,h.objs.size)::acc) ?_ hin;rw[M3z];exact e
   ·rename_i hk
    rw[L5z hk];exact ih h acc e hin
  ·rcases List.mem_cons.mp hx with ex | hx
   ·cases ex
    rw[K5z (show(NameKind.cell==NameKind.cell)=true from rfl)] at e ⊢;rcases dJ _ _ _ e with⟨h1,_⟩ | ⟨_,h2⟩
    ·exact absurd h1 hin
    ·rw[E2z] at h2
     simp at h2;subst h2;exact⟨_,Y2z _ _ _ _ (Heap.get?_push_size _ rfl),rfl⟩
   ·exact absurd hx hin
theorem CP{z0:List (Addr×Obj)}{σ:St}{H:Hp}{s:Shared}{scope:Scope}{fp:List Addr}(I:Inv X z0 σ H s)(hc:X.calm=true)(hk:scope.kind=.function)(hnd:(scope.names.map (·.1)).Nodup)
  (hcap:∀ x,(x,NameKind.free)∈scope.names->X.env.kindOf x=some .cell\/X.env.kindOf x=some .free) (hfp:∀ b∈fp,vJ X z0 H b) (hlt:∀ b∈fp,b<s.heap.objs.size) :
  Inv (pL X scope (cellsFrom (s.heap.objs.size+1) scope.names (jg X.env.cells scope.names [])) s.heap.objs.size s H fp) [] (qW X.N scope.names σ) H { s with heap:=pushCells (s.heap.push { cls:=.type "dict",data:=.dict #[] }) scope.names }:=by
 obtain⟨hf,apart,look,same⟩:=iU I hnd hcap;have keep:∀ b o,s.heap.get? b=some o->(pushCells (s.heap.push { cls:=.type "dict",data:=.dict #[] }) scope.names).get? b=some o:=fun b o e=>Y2z _ _ b o (Heap.get?_push_of_some _ e);have ckd:=cellsFrom_ok scope.names (s.heap.push { cls:=.type "dict",data:=.dict #[] }) (s.heap.objs.size+1) [] ⟨fun _ _ hm=>(nomatch hm),List.Pairwise.nil⟩ (by rw[M3z];exact Q4z _);rw[M3z] at ckd;have own:∀ x c,(cellsFrom (s.heap.objs.size+1) scope.names (jg X.env.cells scope.names [])).lookup x=some c->(x,NameKind.cell)∈scope.names->(pushCells (s.heap.push { cls:=.type "dict",data:=.dict #[] }) scope.names).IsCell c none:=fun x c e hx=>Hg scope.names (s.heap.push { cls:=.type "dict",data:=.dict #[] }) _ (by rw[M3z];exact e) hx;have kinds:∀ x,(pL X scope (cellsFrom (s.heap.objs.size+1) scope.names (jg X.env.cells scope.names [])) s.heap.objs.size s H fp).env.kindOf x=(scope.names.lookup x).map fun k=>if(k==NameKind.free&&X.env.scope.kind==.function&&X.env.kindOf x==some .cell) then NameKind.cell else k:=fun x=>eG scope.names;have fresh:∀ {b:Addr},s.heap.objs.size<=b->H b=none:=fun hb=>I.hok.fresh hb
 refine⟨⟨I.ok.mod,hk,I.ok.glob,I.ok.blt,Q4z _,fun x y c e1 e2=>name_of_addr apart (Y0z e1) (Y0z e2),fun x hx=>?_,fun x c hx e=>?_,fun _=>I.ok.hd hc,I.ok.frames,.inl rfl,fun b hb=>⟨E4z (hlt b hb),fun x c e=>?_⟩,I.bs,F4z I.ok.bsz I.sz,fun b o e hb=>?_,fun b hb z=>?_,I.stack,I.stkFree⟩,
  rfl,I.bare,Un.kept keep,⟨fun _=>none,?_,fun i x v e1 e2 e3=>?_⟩,fun x c e=>?_,fresh (Q4z _),fun x c e=>?_,fun p hp=>absurd (show p∈([]:List (Addr×Obj)) from hp) (by simp),I.hok.kept keep,?_⟩
 ·
  rw[kinds x] at hx
  cases hl:scope.names.lookup x with
  | none=>rw[hl] at hx;rcases hx with h | h<;>cases h
  | some k =>
   rw[hl] at hx;have hm:=Y0z hl
   cases k with
   | cell=>exact Option.isSome_iff_exists.mp (J0z _ _ _ (.inl hl))
   | free =>
    obtain⟨c,h⟩:=hf x hm;exact⟨c,(same x hm).trans h⟩
   | _=>simp at hx
 ·have hm:(x,NameKind.cell)∈scope.names:=Y0z (by simpa[pL] using hx)
  rcases look x c e with⟨_,h⟩ | ⟨h,_⟩
  ·exact V1z h
  ·exact absurd hm h
 ·rcases look x c e with⟨_,h⟩ | ⟨_,h,_⟩
  ·exact G4z (E1z (hlt b hb) (V1z h))
  ·exact(hfp b hb).2.2.2.2.1 x c h
 ·rcases(hfp b hb).2.2.2.1 with z | z
  ·exact I.ok.noex b o e z
  ·exact absurd (E1z (D4z e) (F4z I.ok.bsz z)) (T3z _)
 ·rcases List.mem_cons.mp (I.stkSub b z) with h | h
  ·exact(hfp b hb).2.1 h
  ·exact(hfp b hb).2.2.1 h
 ·exact(Heap.Ns.new s.heap (.type "dict")).keeps (Y2z _ _)
 ·
  have e1':(scope.names.map (·.1))[i]?=some x:=e1;rw[List.getElem?_map] at e1';unfold qW at e2;rw[List.getElem?_map] at e2
  cases hp:scope.names[i]? with
  | none=>rw[hp] at e2;cases e2
  | some p =>
   rw[hp] at e1' e2;have ex:p.1=x:=P2z e1';have e2':(if p.2==.free then su X.N σ p.1 else none)=some v:=P2z e2
   cases hk2:p.2==NameKind.free with
   | false=>rw[hk2] at e2';simp at e2'
   | true =>
    rw[hk2] at e2';simp only[J5z] at e2'
    have ek:p.2=.free:=by simpa using hk2
    have hm:(x,NameKind.free)∈scope.names:=by
     have:=List.mem_of_getElem? hp;rw[<- ex,<- ek];exact this
    unfold su at e2';rw[ex] at e2'
    cases hj:X.N.idxOf? x with
    | none=>rw[hj] at e2';cases e2'
    | some j =>
     rw[hj] at e2';have e3:(σ[j]?).getD none=some v:=e2'
     have hσ:σ[j]?=some (some v):=by
      cases q:σ[j]? with
      | none=>rw[q] at e3;simp at e3
      | some o=>rw[q] at e3;simp at e3;rw[e3]
     have hN:X.N[j]?=some x:=by
      rw[List.idxOf?,List.findIdx?_eq_some_iff_getElem] at hj;obtain⟨h1,h2,_⟩:=hj;rw[List.getElem?_eq_getElem h1];simpa using h2
     obtain⟨m,hn,hl⟩:=I.loc;have kx:=hcap x hm;obtain⟨u,r,l⟩:=hl j x v hN hσ (by rcases kx with k | k;exact .inr (.inl k);exact .inr (.inr k));refine⟨u,r,.inr ⟨?_,?_⟩⟩
     ·rw[kinds x,cg hnd hm]
      simp only[X2z];split
      ·exact .inl rfl
      ·exact .inr rfl
     ·rcases l with⟨k,_⟩ | ⟨_,c,hc',z⟩
      ·rcases kx with k' | k'<;>(rw[k'] at k;cases k)
      ·exact⟨c,(same x hm).trans hc',z.keeps keep⟩
 ·rcases look x c e with⟨h,_⟩ | ⟨_,h,_⟩
  ·exact⟨_,own x c e h⟩
  ·obtain⟨v,z⟩:=I.cell x c h
   exact⟨v,z.keeps keep⟩
 ·rcases look x c e with⟨_,h⟩ | ⟨_,h,_⟩
  ·exact fresh (V1z h)
  ·exact I.freeC x c h
 ·show(qW X.N scope.names σ).length=(scope.names.map (·.1)).length
  unfold qW;rw[U2z,U2z]
structure Blk (X:Cx) (z0:List (Addr×Obj)) (H:Hp) (s:Shared) (C:Addr):Prop where
 ns:∃ m,s.heap.Ns C m
 free:H C=none
 loc:C≠X.env.locals
 abv:X.s₀.heap.objs.size<=C
 cel:∀ x c,X.env.cells.lookup x=some c->c≠C
 pin:∀ p∈X.pn++z0,p.1≠C
theorem pN{elt tg iter:Expr}{ifs:List Expr}{scope:Scope}{pos:Pos}{wi:TI}{g:Cx->TG}{tc:Cx->TT}{te:Cx->TE}(hc:X.calm=true)(hk:scope.kind=.function)(hnd:(scope.names.map (·.1)).Nodup)
  (hcap:∀ x,(x,NameKind.free)∈scope.names->X.env.kindOf x=some .cell\/X.env.kindOf x=some .free) (hi:PI X tg iter wi)
  (hin:∀ Xc:Cx,CompOf X scope Xc->PG Xc tg (g Xc)/\Ah Xc ifs (tc Xc)/\PE Xc elt (te Xc)) {z0:List (Addr×Obj)} {s:Shared} {σ:St} {H:Hp} {Q:VK} (I:Inv X z0 σ H s) (h:qG X scope wi (qW X.N scope.names) g tc te σ H Q) {R:Value->Addr->Result->Shared->Prop}
  (fin:∀ acc C H' s',Inv X z0 σ H' s'->Blk X z0 H' s' C->Q (.ref acc) H'->R (.ref acc) C (.ok .next) s') :
  wpAny (model X.prog X.w) X.A (eval iter X.env) (fun x s₁=>wpAny (model X.prog X.w) X.A (pyIter x) (fun it s₂=>wpAny (model X.prog X.w) X.A (newList []) (fun acc s₃ =>
   wpAny (model X.prog X.w) X.A (newFunctionEnv scope X.env.globals (jg X.env.cells scope.names []) [] X.env.qual none .none (some X.env)) (fun cenv s₄ =>
    codeAny (model X.prog X.w) X.A (.compStart (.ListComp elt [⟨tg,iter,ifs,0⟩] scope pos) 0 it acc { cenv with scope:=relabel scope X.env }) (R acc cenv.locals) s₄) X.xe s₃) X.xe s₂) X.xe s₁) X.xe s:=by
 refine thn (hi z0 s σ H _ I h) fun v s1 h1=>thn h1 fun itv s2 h2=>?_;obtain⟨it,fp,tn,J,H2,rfl,I2,T,st2,f2,q2⟩:=h2;refine Q1z ?_;have hf:H2 s2.heap.objs.size=none:=I2.hok.fresh (Q4z _);have I3:=I2.lnew (ys:=[]) (its:=[]) (t':=s2.toks) .nil (S4z _);generalize hs3:({ s2 with heap:=s2.heap.push { cls:=.type "list",data:=.seq ([]:List Value).toArray },toks:=s2.toks }:Shared)=s3 at I3
 have lt2:∀ b∈fp,b<s2.heap.objs.size:=fun b hb=>by
  obtain⟨o,e,_⟩:=T.obj _ _ st2 b hb;exact D4z e
 have f3:∀ b∈fp,vJ X z0 (upd H2 s2.heap.objs.size (.lst [])) b:=fun b hb=>⟨by rw[aY (E4z (lt2 b hb))];exact(f2 b hb).1,(f2 b hb).2⟩
 have sz3:s3.heap.objs.size=s2.heap.objs.size+1:=by rw[<- hs3];exact M3z ..
 have lt3:∀ b∈fp,b<s3.heap.objs.size:=fun b hb=>by rw[sz3];exact U1z (lt2 b hb)
 have st3:tn 0 s3.heap:=T.keep _ _ _ st2 fun b hb o e=>by rw[<- hs3];exact Heap.get?_push_of_some _ e
 have J0:=CP I3 hc hk hnd hcap f3 lt3;have cO:CompOf X scope (pL X scope (cellsFrom (s3.heap.objs.size+1) scope.names (jg X.env.cells scope.names [])) s3.heap.objs.size s3 (upd H2 s2.heap.objs.size (.lst [])) fp):=⟨rfl,rfl,rfl,rfl,rfl,rfl,rfl,rfl,rfl,rfl,rfl⟩;obtain⟨hg,hif,he⟩:=hin _ cO;obtain⟨W,⟨m0,w0⟩,turn⟩:=q2 s2.heap.objs.size hf _ cO;refine qT ?_;have st4:tn 0 (pushCells (s3.heap.push { cls:=.type "dict",data:=.dict #[] }) scope.names):=T.keep _ _ _ st3 fun b _ o e=>Y2z _ _ b o (Heap.get?_push_of_some _ e);generalize hXc:pL X scope (cellsFrom (s3.heap.objs.size+1) scope.names (jg X.env.cells scope.names [])) s3.heap.objs.size s3 (upd H2 s2.heap.objs.size (.lst [])) fp=Xc at J0 hg hif he turn
 have hprog:Xc.prog=X.prog:=by rw[<- hXc];rfl
 have hw:Xc.w=X.w:=by rw[<- hXc];rfl
 have hK:Xc.K=X.K:=by rw[<- hXc];rfl
 have hA:Xc.A=X.A:=by rw[<- hXc];rfl
 have hcm:Xc.calm=true:=by rw[<- hXc];rfl
 have hxe:Xc.xe=fun _ _=>False:=by rw[<- hXc];rfl
 have hen:Xc.env=um scope (cellsFrom (s3.heap.objs.size+1) scope.names (jg X.env.cells scope.names [])) s3.heap.objs.size X.env:=by rw[<- hXc];rfl
 have hex:Xc.ex=fp:=by rw[<- hXc];rfl
 have hfs:Xc.fs=frs X.stack:=by rw[<- hXc];rfl
 have hs0:Xc.s₀=s3:=by rw[<- hXc];rfl
 have hH0:Xc.H₀=upd H2 s2.heap.objs.size (.lst []):=by rw[<- hXc];rfl
 have hpn:Xc.pn=[]:=by rw[<- hXc];rfl
 have stat:∀ {H':Hp},(∀ b∈fp,H' b=none)->∀ b∈fp,vJ Xc [] H' b:=fun {H'} hn b hb=>by
  refine⟨hn b hb,(J0.ok.exf b (by rw[hex];exact hb)).1,fun z=>J0.ok.exfs b (by rw[hex];exact hb) z,.inl (by rw[hex];exact hb),(J0.ok.exf b (by rw[hex];exact hb)).2,fun p hp=>?_⟩
  rw[hpn] at hp;exact absurd hp (by simp)
 have loop:codeAny (model X.prog X.w) X.A (.compLoop (.ListComp elt [⟨tg,iter,ifs,0⟩] scope pos) 0 (.ref it) (.ref s2.heap.objs.size) Xc.env)
   (R (.ref s2.heap.objs.size) s3.heap.objs.size) { s3 with heap:=pushCells (s3.heap.push { cls:=.type "dict",data:=.dict #[] }) scope.names }:=by
  refine gq (fun n s'=>∃ i σ' H',Inv Xc [] σ' H' s'/\tn i s'.heap/\(∀ b∈fp,H' b=none)/\W i n σ' H') ?_ m0 ⟨0,_,_,J0,st4,fun b hb=>(f3 b hb).1,w0⟩;rintro n s5 ⟨i,σ5,H5,I5,st5,fr5,w5⟩;rcases turn i n σ5 H5 w5 with⟨stop,qn⟩ | ⟨go,N,hN,step⟩
  ·have q:=T.done Xc hprog hw hK hcm i [] s5 σ5 H5 (fun _ _=>False) I5 (stat fr5) st5 stop
   rw[hA] at q;refine thn q fun r s6 ⟨hr,I6⟩=>?_;subst hr
   have hL:Xc.env.locals=s3.heap.objs.size:=by rw[hen];rfl
   have ub:=I6.base;rw[hfs,hex,hH0,hs0] at ub
   have IX:Inv X z0 σ H5 s6:=by
    refine I3.call' (ch:=fp) ?_ ub ?_ I6.bare fun b hb=>⟨(f3 b hb).2.2.2.1,(f3 b hb).2.1,(f3 b hb).2.2.2.2.1,(f3 b hb).2.2.2.2.2⟩
    ·have:=I6.os
     rw[hs0] at this;exact this
    ·have hok:=I6.hok
     rw[hprog,hw] at hok;exact hok
   refine fin _ _ _ _ IX ⟨?_,?_,G4z I3.lt,I3.sz,fun x c e=>?_,fun p hp=>?_⟩ qn
   ·obtain⟨m,hn,_⟩:=I6.loc
    rw[hL] at hn;exact⟨m,hn⟩
   ·have:=I6.free
    rw[hL] at this;exact this
   ·obtain⟨v,z⟩:=I3.cell x c e
    exact E4z z.lt
   ·exact E4z (D4z (I3.pin p hp).1)
  ·have q:=T.item Xc hprog hw hK hcm i [] s5 σ5 H5 (fun _ _=>False) I5 (stat fr5) st5 go
   rw[hA] at q;refine thn q fun r s6 ⟨u,hr,h6⟩=>?_;subst hr;refine thn h6 fun _ s7 ⟨x,H7,I7,r7,y7,st7,fr7⟩=>?_;have I7':=I7.pinned (stat fr7) (T.obj _ _ st7);have q8:=hg _ s7 σ5 H7 x u _ I7' r7 (step x H7 y7);rw[hprog,hw,hA,hxe] at q8;refine thn q8 fun _ s8 ⟨σ8,H8,I8,z8⟩=>?_;have q9:=hif _ s8 σ8 H8 _ I8 z8;rw[hprog,hw,hA,hxe] at q9;refine thn q9 fun ok s9 ⟨H9,I9,z9⟩=>?_
   have again:∀ {s':Shared} {σ':St} {H':Hp},Inv Xc ([]++oW fp s7.heap) σ' H' s'->N σ' H'->∃ m,m<n/\∃ i σ' H',Inv Xc [] σ' H' s'/\tn i s'.heap/\(∀ b∈fp,H' b=none)/\W i m σ' H':=fun {s' σ' H'} I' n'=>by
    obtain⟨m',hm,w'⟩:=hN σ' H' n';refine⟨m',hm,i+1,σ',H',I'.unpinned,T.keep _ _ _ st7 fun b hb o e=>(I'.pin (b,o) (O0z _ (O0z _ (fY hb e)))).1,fun b hb=>?_,w'⟩;obtain⟨o,e,d⟩:=T.obj _ _ st7 b hb;exact(I'.pin (b,o) (O0z _ (O0z _ (fY hb e)))).2.1
   cases ok with
   | false =>
    rw[L5z G1z] at z9 ⊢;exact again I9 z9
   | true =>
    rw[K5z rfl] at z9 ⊢;have q10:=he _ s9 σ8 H9 _ I9 z9;rw[hprog,hw,hA,hxe] at q10;refine thn q10 fun uv s10 ⟨v,H10,I10,r10,ys,hy,hz,z10⟩=>?_;have q11:=jR (X:=Xc) _ s10 σ8 H10 (.ref s2.heap.objs.size) [v] (.ref s2.heap.objs.size) [uv] (fun _ H'=>N σ8 H') I10 rfl (.cons r10 .nil) ⟨_,ys,v,rfl,rfl,hy,hz,z10⟩;rw[hprog,hw,hA,hxe] at q11;exact thn q11 fun _ s11 ⟨_,H11,I11,_,z11⟩=>again I11 z11
 have eenv:({ (newEnv scope s3.heap.objs.size X.env.globals (cellsFrom (s3.heap.objs.size+1) scope.names (jg X.env.cells scope.names [])) X.env.qual none .none (some X.env) builtinsNs) with scope:=relabel scope X.env }:Env)=Xc.env:=by rw[hen];rfl
 rw[eenv];exact codeAny_compStart_list loop (T.self X.A 0 _ _ _ st4 loop)
theorem Blk.gone{H:Hp}{s:Shared}{C:Addr}(b:Blk X z0 H s C)(I:Inv X z0 σ H s)(hs:Heap.SameBut C s.heap h'):Inv X z0 σ H { s with heap:=h' } :=
 I.turned (t':=s.toks) (fun c o hc e=>(hs.2 c hc).trans e) b.free b.loc (.inr b.abv) b.cel b.pin
theorem mR{elt tg iter:Expr}{ifs:List Expr}{scope:Scope}{pos:Pos}{wi:TI}{g:Cx->TG}{tc:Cx->TT}{te:Cx->TE}(hc:X.calm=true)(hk:scope.kind=.function)(hnd:(scope.names.map (·.1)).Nodup)
  (hcap:∀ x,(x,NameKind.free)∈scope.names->X.env.kindOf x=some .cell\/X.env.kindOf x=some .free) (hi:PI X tg iter wi)
  (hin:∀ Xc:Cx,CompOf X scope Xc->PG Xc tg (g Xc)/\Ah Xc ifs (tc Xc)/\PE Xc elt (te Xc)) (hs:∀ x,foldedSetIterable iter X.env x=pure x) :
  PE X (.ListComp elt [⟨tg,iter,ifs,0⟩] scope pos) (qG X scope wi (qW X.N scope.names) g tc te):=by
 intro z0 s σ H Q I h;rw[eval_ListComp];refine wpAny_comprehension_free (use:=none) (cl:=jg X.env.cells scope.names []) rfl hs (fU (iU I hnd hcap).1) hk (fun x hx hl=>cg hnd (by rw[<- hl];exact hx)) ?_;refine pN hc hk hnd hcap hi hin I h fun acc C H' s' I' b q=>?_;obtain⟨m,hn⟩:=b.ns;exact⟨m,hn,fun h' hsb=>⟨.ref acc,H',b.gone I' hsb,rfl,q⟩⟩
theorem wZ{i:Nat}{x:Str}{elt tg iter:Expr}{ifs:List Expr}{scope:Scope}{pos pos' spos:Pos}{wi:TI}{g:Cx->TG}{tc:Cx->TT}{te:Cx->TE}(hN:X.N.Nodup)(hix:X.N[i]?=some x)(hx:X.env.scope.names.lookup x=some .local)
  (hc:X.calm=true) (hk:scope.kind=.function) (hnd:(scope.names.map (·.1)).Nodup)
  (hcap:∀ x,(x,NameKind.free)∈scope.names->X.env.kindOf x=some .cell\/X.env.kindOf x=some .free) (hi:PI X tg iter wi)
  (hin:∀ Xc:Cx,CompOf X scope Xc->PG Xc tg (g Xc)/\Ah Xc ifs (tc Xc)/\PE Xc elt (te Xc)) (hs:∀ x,foldedSetIterable iter X.env x=pure x)
  (hsw:swapsWith (.ListComp elt [⟨tg,iter,ifs,0⟩] scope pos) (some (.Name x pos')) spos.line X.env=pure true) :
  PS X (.Assign [.Name x pos'] (.ListComp elt [⟨tg,iter,ifs,0⟩] scope pos) spos) (OJ (qG X scope wi (qW X.N scope.names) g tc te) (Ce i)):=by
 intro z0 s σ H D I h;rw[exec_Assign_Name_used _ _ _ _ hsw];refine Y4z (V3z (Y4z ?_));show wpAny _ X.A (do let _ <- comprehension (.ListComp elt [⟨tg,iter,ifs,0⟩] scope pos) scope X.env _ (newList []) false (eval iter X.env) (some (assign (.Name x pos') X.env))) _ _ s
 refine Y4z (thn (wpAny_comprehension_free (use:=some (assign (.Name x pos') X.env)) (Q:=fun _ s'=>SP X z0 D .next s') (cl:=jg X.env.cells scope.names []) rfl hs (fU (iU I hnd hcap).1) hk (fun x hx hl=>cg hnd (by rw[<- hl];exact hx))
  (pN hc hk hnd hcap hi hin I h fun acc C H' s' I' b q=>?_)) fun _ s' hq=>Z4z (Z4z hq))
 show wpAny _ X.A (assign (.Name x pos') X.env (.ref acc)) _ _ s';refine wpAny_assign_Name (oG I' hN hix (.inl hx) (v:=.ref acc) rfl (fun s'' I'' ⟨a,hsb,ha⟩=>?_) (.inr hx));obtain⟨m,hn⟩:=b.ns
 have hCa:C≠a:=by
  rcases ha with ha | ha
  ·rw[ha];exact b.loc
  ·exact(b.cel x a ha).symm
 have b2:Blk X z0 H' s'' C:=⟨⟨m,hn.sameBut hsb hCa⟩,b.free,b.loc,b.abv,b.cel,b.pin⟩;exact⟨m,hn.sameBut hsb hCa,fun h' hsb'=>⟨_,H',b2.gone I'' hsb',q⟩⟩
end
section
variable {prog:Program} {w:World} {A:Around} {E:Value->Shared->Prop} {s:Shared}
theorem CG{it t:Addr}{i:Nat}{its:Array Value}{Q:Value->Shared->Prop}(hh:A.handled=none)(hit:s.heap.IsTupleIter it t i)(ht:s.heap.IsTuple t its)
  (hs:∀ x h',its[i]?=some x->h'.IsTupleIter it t (i+1)->Heap.SameBut it s.heap h'->Q x { s with heap:=h' })
  (he:∀ h' e,its[i]?=none->Heap.ExtBut it s.heap h'->(∃ o,h'.get? e=some o/\o.cls=.type "StopIteration")->E (.ref e) { s with heap:=h' }) :
  wpAny (model prog w) A (Builtin.SmallTypes.nextOf (.ref it)) Q E s:=by
 obtain⟨oi,hoi,hci,hdi⟩:=id hit;obtain⟨ot,hot,_,nt,hdt⟩:=ht;unfold Builtin.SmallTypes.nextOf;refine Y4z (wpAny_callSpecial?_slot (name:=Str.ofString "__next__") hit.typeIs F.slot_tuple_iterator_next (C2z F.slot_tuple_iterator_next hit.typeIs F.entry_tuple_iterator_next ?_ (F.args_tuple_iterator_next_1 _)));show wpAny _ _ (field (.ref it) 0 >>=_) _ _ s;refine Y4z (R4z hoi hdi (x:=.ref t) rfl ?_);have nn:¬ ((Value.ref t==Value.none)=true):=G1z;show wpAny _ _ (if(Value.ref t==Value.none)=true then _ else _) _ _ s;rw[L5z nn];show wpAny _ _ (field (.ref it) 1 >>=_) _ _ s;refine Y4z (R4z hoi hdi (x:=.int i 0) rfl ?_);show wpAny _ _ (seqItems? (.ref t) >>=_) _ _ s;refine Y4z (N3z hot hdt ?_)
 cases hx:its[i]? with
 | some x =>
  simp only[Int.toNat_natCast,hx];have fin:(s.heap.update it fun o=>o.mapFields (·.setIfInBounds 1 (rawInt ((i:Int)+1)))).IsTupleIter it t (i+1):=⟨_,Heap.get?_update_self _ hoi (Obj.isFreed_of_fields (Obj.data_mapFields hdi _)),(Obj.cls_mapFields ..).trans hci,by rw[Obj.data_mapFields hdi];simp[rawInt]⟩;exact Y4z (wpAny_setField hoi hdi (by simp) (Z4z ⟨x,rfl,Z4z (hs x _ hx fin (Heap.SameBut.update ..))⟩))
 | none =>
  simp only[Int.toNat_natCast,hx];refine Y4z (A5z (Y4z (wpAny_setField hoi hdi (by simp) (Y4z (m:=newExc (.type "StopIteration") []) ?_))));simp only[newExc,newTuple];refine Y4z (Q1z (Y4z (m:=firstArgMember _ _) (wpAny_of_eq (a:=Value.none) (by first | rfl | (simp only[firstArgMember];rfl)) (Q1z ?_ (by size_fits)))) (by size_fits));simp only[raiseNew];refine Y4z (wpAny_handled ?_)
  first | rw[show A.in1.handled=none from hh] | rw[hh]
  exact Y4z (Z4z (wpAny_throw (he _ _ hx (((Heap.SameBut.update ..).extBut.push _).push _) ⟨_,Heap.get?_push_size _ rfl,rfl⟩)))
structure ZT (h:Heap) (z ti to i1 i2 t1 t2:Addr) (k:Nat) (f:Value):Prop where
 hz:IsZip h z ti to f
 hi:IsPair h ti (.ref i1) (.ref i2)
 ho:∃ a b,IsPair h to a b
 h1:h.IsTupleIter i1 t1 k
 h2:h.IsTupleIter i2 t2 k
theorem ZT.keep{z ti to i1 i2 t1 t2:Addr}{k:Nat}{f:Value}(x:ZT h z ti to i1 i2 t1 t2 k f)(kp:∀ b∈[z,ti,to,i1,i2],∀ o,h.get? b=some o->h'.get? b=some o):ZT h' z ti to i1 i2 t1 t2 k f :=
 ⟨kp z (by simp) _ x.hz,kp ti (by simp) _ x.hi,let ⟨a,b,e⟩:=x.ho;⟨a,b,kp to (by simp) _ e⟩,x.h1.at fun o e=>kp i1 (by simp) o e,x.h2.at fun o e=>kp i2 (by simp) o e⟩
theorem vN{z ti to i1 i2 t1 t2:Addr}{k:Nat}{xs ys:Array Value}{Q:Fin->Shared->Prop}(hh:A.handled=none)(D:ZipApart z ti to i1 i2 t1 t2)(hZ:ZT s.heap z ti to i1 i2 t1 t2 k .none)
  (ht1:s.heap.IsTuple t1 xs) (ht2:s.heap.IsTuple t2 ys)
  (hs : ∀ x y h', xs[k]? = some x -> ys[k]? = some y -> ZT h' z ti to i1 i2 t1 t2 (k + 1) (rawInt s.heap.objs.size) -> IsPair h' s.heap.objs.size x y -> h'.objs.size = s.heap.objs.size + 1 ->
   (∀ c o,c∉[z,to,i1,i2]->s.heap.get? c=some o->h'.get? c=some o)->Q (.done (.ret (.ref s.heap.objs.size))) { s with heap:=h' })
  (he:∀ h' e,(xs[k]?=none\/ys[k]?=none)->(∀ c o,c∉[z,to,i1,i2]->s.heap.get? c=some o->h'.get? c=some o)->(∃ o,h'.get? e=some o/\o.cls=.type "StopIteration")->E (.ref e) { s with heap:=h' }) :
  wpAny (model prog w) A (Builtin.«zip.__next__» ⟨[.ref z],[]⟩) Q E s:=by
 obtain⟨hz,hi,⟨a,b,ho⟩,h1,h2⟩:=hZ;show wpAny _ _ (field (.ref z) 2 >>=_) _ _ _;refine Y4z (R4z hz rfl (x:=.bool false) rfl ?_);show wpAny _ _ (field (.ref z) 3 >>=_) _ _ _;refine Y4z (R4z hz rfl (x:=.ref ti) rfl (Y4z (N3z hi rfl ?_)));show wpAny _ _ (Builtin.SmallTypes.ownedTupleIsFree (.ref z) >>=_) _ _ _;unfold Builtin.SmallTypes.ownedTupleIsFree;refine Y4z (Y4z (R4z hz rfl (x:=.none) rfl (Z4z ?_)));simp only[J5z];refine Y4z (A5z (Y4z (R4z hz rfl (x:=.ref to) rfl (Y4z (M1z hz (by simp) fun ha za sa=>?_)))))
 replace za:IsZip ha z ti to .ellipsis:=za
 refine Y4z ?_;simp only[List.zipIdx_cons,List.zipIdx_nil,List.forIn_cons,List.forIn_nil];refine Y4z (Y4z (wpAny_onRaise ?_))
 have ne4:∀ {c:Addr},c∉[z,to,i1,i2]->c≠z/\c≠to/\c≠i1/\c≠i2:=fun hc=>by simpa using hc
 show wpAny _ _ (Builtin.SmallTypes.nextOf (.ref i1) >>=_) _ _ _;refine Y4z (CG hh (h1.extBut sa.extBut D.i1z) (ht1.extBut sa.extBut D.l1z) (fun x hb hx itb sb=>Z4z ?_) fun hb e hx eb ⟨oe,oe1,oe2⟩=>?_)
 ·have tob:IsPair hb to a b:=sb.extBut _ _ D.TOi1 (sa.extBut _ _ D.TOz ho)
  refine Y4z (N3z tob rfl (Y4z (wpAny_updateSeq_pair tob fun hc toc sc=>Y4z (wpAny_letGo (Z4z ?_)))))
  replace toc:IsPair hc to x b:=toc
  refine Y4z (Y4z (wpAny_onRaise ?_));have h2c:hc.IsTupleIter i2 t2 k:=((h2.extBut sa.extBut D.i2z).extBut sb.extBut D.i12.symm).extBut sc.extBut D.TOi2.symm;have t2c:hc.IsTuple t2 ys:=((ht2.extBut sa.extBut D.l2z).extBut sb.extBut D.l2i1).extBut sc.extBut D.l2TO;show wpAny _ _ (Builtin.SmallTypes.nextOf (.ref i2) >>=_) _ _ _;refine Y4z (CG hh h2c t2c (fun y hd hy itd sd=>Z4z ?_) fun hd e hy ed ⟨oe,oe1,oe2⟩=>?_)
  ·have tod:IsPair hd to x b:=sd.extBut _ _ D.TOi2 toc
   refine Y4z (N3z tod rfl (Y4z (wpAny_updateSeq_pair tod fun hf tof sf=>Y4z (wpAny_letGo (Z4z (Z4z ?_))))))
   replace tof:IsPair hf to x y:=tof
   refine Y4z (N3z tof rfl (Y4z (wpAny_newTuple ?_)))
   have szf:hf.objs.size=s.heap.objs.size:=by rw[sf.1,sd.1,sc.1,sb.1,sa.1]
   have zf:IsZip hf z ti to .ellipsis:=sf.extBut _ _ D.TOz.symm (sd.extBut _ _ D.i2z.symm (sc.extBut _ _ D.TOz.symm (sb.extBut _ _ D.i1z.symm za)))
   have kf:∀ c o,c∉[z,to,i1,i2]->s.heap.get? c=some o->hf.get? c=some o:=fun c o hc' e=>by
    obtain⟨c1,c2,c3,c4⟩:=ne4 hc';exact sf.extBut _ _ c2 (sd.extBut _ _ c4 (sc.extBut _ _ c2 (sb.extBut _ _ c3 (sa.extBut _ _ c1 e))))
   have i1f:hf.IsTupleIter i1 t1 (k+1):=((itb.extBut sc.extBut D.TOi1.symm).extBut sd.extBut D.i12).extBut sf.extBut D.TOi1.symm;have i2f:hf.IsTupleIter i2 t2 (k+1):=itd.extBut sf.extBut D.TOi2.symm;have tif:IsPair hf ti (.ref i1) (.ref i2):=sf.extBut _ _ D.TITO (sd.extBut _ _ D.TIi2 (sc.extBut _ _ D.TITO (sb.extBut _ _ D.TIi1 (sa.extBut _ _ D.TIz hi))));have zlt:z<hf.objs.size:=D4z zf;show wpAny _ _ (Builtin.SmallTypes.ownedTupleHandOut (.ref z) (.ref hf.objs.size) >>=_) _ _ _;unfold Builtin.SmallTypes.ownedTupleHandOut;have zg:IsZip (hf.push { cls:=.type "tuple",data:=.seq #[x,y] }) z ti to .ellipsis:=Heap.get?_push_of_some _ zf;refine Y4z (Y4z (M1z zg (by simp) fun hk zk sk=>M1z (show IsZip hk z ti to (rawInt hf.objs.size) from zk) (by simp) fun hm zm sm=>Z4z ?_))
   replace zm:IsZip hm z ti to (rawInt hf.objs.size):=zm
   have up:∀ c o,c≠z->hf.get? c=some o->hm.get? c=some o:=fun c o c1 e=>sm.extBut _ _ c1 (sk.extBut _ _ c1 (Heap.get?_push_of_some _ e));have new:IsPair hm hf.objs.size x y:=sm.extBut _ _ (G4z zlt) (sk.extBut _ _ (G4z zlt) (Heap.get?_push_size _ rfl))
   have szm:hm.objs.size=hf.objs.size+1:=by rw[sm.1,sk.1,M3z]
   have q:=hs x y hm hx hy ⟨by rw[<- szf];exact zm,up _ _ D.TIz tif,⟨x,y,up _ _ D.TOz tof⟩,i1f.at fun o e=>up _ o D.i1z e,i2f.at fun o e=>up _ o D.i2z e⟩ (by rw[<- szf];exact new) (by rw[szm,szf]) fun c o hc' e=>up c o (ne4 hc').1 (kf c o hc' e)
   rw[<- szf] at q;exact q
  ·have zd:IsZip hd z ti to .ellipsis:=ed _ _ D.i2z.symm (sc.extBut _ _ D.TOz.symm (sb.extBut _ _ D.i1z.symm za))
   have ez:e≠z:=fun q=>by subst q;rw[zd] at oe1;cases oe1;simp at oe2
   refine M1z zd (by simp) fun hf _ sf=>he hf e (.inr hy) (fun c o hc' q=>?_) ⟨oe,sf.extBut _ _ ez oe1,oe2⟩;obtain⟨c1,c2,c3,c4⟩:=ne4 hc';exact sf.extBut _ _ c1 (ed _ _ c4 (sc.extBut _ _ c2 (sb.extBut _ _ c3 (sa.extBut _ _ c1 q))))
 ·have zb:IsZip hb z ti to .ellipsis:=eb _ _ D.i1z.symm za
  have ez:e≠z:=fun q=>by subst q;rw[zb] at oe1;cases oe1;simp at oe2
  refine M1z zb (by simp) fun hf _ sf=>he hf e (.inl hx) (fun c o hc' q=>?_) ⟨oe,sf.extBut _ _ ez oe1,oe2⟩;obtain⟨c1,c2,c3,c4⟩:=ne4 hc';exact sf.extBut _ _ c1 (eb _ _ c3 (sa.extBut _ _ c1 q))
theorem jM{z ti to i1 i2 t1 t2:Addr}{k:Nat}{xs ys:Array Value}{Q:Option Value->Shared->Prop}(hh:A.handled=none)(D:ZipApart z ti to i1 i2 t1 t2)(hZ:ZT s.heap z ti to i1 i2 t1 t2 k .none)
  (ht1:s.heap.IsTuple t1 xs) (ht2:s.heap.IsTuple t2 ys)
  (hs : ∀ x y h', xs[k]? = some x -> ys[k]? = some y -> ZT h' z ti to i1 i2 t1 t2 (k + 1) (rawInt s.heap.objs.size) -> IsPair h' s.heap.objs.size x y -> h'.objs.size = s.heap.objs.size + 1 ->
   (∀ c o,c∉[z,to,i1,i2]->s.heap.get? c=some o->h'.get? c=some o)->Q (some (.ref s.heap.objs.size)) { s with heap:=h' })
  (he:∀ h',(xs[k]?=none\/ys[k]?=none)->(∀ c o,c∉[z,to,i1,i2]->s.heap.get? c=some o->h'.get? c=some o)->Q none { s with heap:=h' }) :
  wpAny (model prog w) A (pyNext (.ref z)) Q E s:=by
 have hT:s.TypeIs (.ref z) "zip":=⟨_,hZ.hz,rfl⟩;unfold pyNext
 refine Y4z (wpAny_attempt (wpAny_callSpecial?_slot (name:=Str.ofString "__next__") hT F.slot_zip_next (C2z F.slot_zip_next hT F.entry_zip_next
  (vN hh D hZ ht1 ht2 (fun x y h' a1 a2 a3 a4 a5 a6=>⟨_,rfl,Z4z (hs x y h' a1 a2 a3 a4 a5 a6)⟩) fun h' e a1 a2 ⟨o,e1,e2⟩=>?_) (F.args_zip_next_1 _))))
 exact Y4z (wpAny_isInstance (T:="StopIteration") (b:=true) ⟨o,e1,e2⟩ isSubtype_stop (Z4z (he h' a1 a2)))
abbrev itT(t:Addr):Obj:={ cls:=.type "tuple_iterator",data:=.fields #[.ref t,.int 0 0] }
theorem Fx(hp H1 H2 H3 H4 H5:Heap)(t1 t2:Addr)(e1:H1=hp.push (itT t1))(e2:H2=H1.push (itT t2))(e3:H3=H2.push { cls:=.type "tuple",data:=.seq #[.ref hp.objs.size,.ref H1.objs.size] })(e4:H4=H3.push { cls:=.type "tuple",data:=.seq #[.none,.none] })
  (e5:H5=H4.push { cls:=.type "zip",data:=.fields #[.none,.bool false,.bool false,.ref H2.objs.size,.ref H3.objs.size] }) :
  H4.objs.size=hp.objs.size+4/\H5.objs.size=hp.objs.size+5/\(∀ c o,hp.get? c=some o->H5.get? c=some o)/\ZT H5 (hp.objs.size+4) (hp.objs.size+2) (hp.objs.size+3) hp.objs.size (hp.objs.size+1) t1 t2 0 .none:=by
 have z1:H1.objs.size=hp.objs.size+1:=by rw[e1,M3z]
 have z2:H2.objs.size=hp.objs.size+2:=by rw[e2,M3z,z1]
 have z3:H3.objs.size=hp.objs.size+3:=by rw[e3,M3z,z2]
 have z4:H4.objs.size=hp.objs.size+4:=by rw[e4,M3z,z3]
 have z5:H5.objs.size=hp.objs.size+5:=by rw[e5,M3z,z4]
 have k5:∀ c o,H4.get? c=some o->H5.get? c=some o:=fun c o e=>by rw[e5];exact Heap.get?_push_of_some _ e
 have k4:∀ c o,H3.get? c=some o->H5.get? c=some o:=fun c o e=>k5 c o (by rw[e4];exact Heap.get?_push_of_some _ e)
 have k3:∀ c o,H2.get? c=some o->H5.get? c=some o:=fun c o e=>k4 c o (by rw[e3];exact Heap.get?_push_of_some _ e)
 have k2:∀ c o,H1.get? c=some o->H5.get? c=some o:=fun c o e=>k3 c o (by rw[e2];exact Heap.get?_push_of_some _ e)
 have k1:∀ c o,hp.get? c=some o->H5.get? c=some o:=fun c o e=>k2 c o (by rw[e1];exact Heap.get?_push_of_some _ e)
 refine⟨z4,z5,k1,?_,?_,⟨.none,.none,?_⟩,⟨_,k2 _ _ (by rw[e1];exact Heap.get?_push_size _ rfl),rfl,rfl⟩,⟨_,k3 _ _ (by rw[e2,<- z1];exact Heap.get?_push_size _ rfl),rfl,rfl⟩⟩
 ·have q:H5.get? H4.objs.size=some { cls:=.type "zip",data:=.fields #[.none,.bool false,.bool false,.ref H2.objs.size,.ref H3.objs.size] }:=by rw[e5];exact Heap.get?_push_size _ rfl
  rw[z2,z3,z4] at q;exact q
 ·have q:H5.get? H2.objs.size=some { cls:=.type "tuple",data:=.seq #[.ref hp.objs.size,.ref H1.objs.size] }:=k4 _ _ (by rw[e3];exact Heap.get?_push_size _ rfl)
  rw[z1,z2] at q;exact q
 ·have q:H5.get? H3.objs.size=some { cls:=.type "tuple",data:=.seq #[.none,.none] }:=k5 _ _ (by rw[e4];exact Heap.get?_push_size _ rfl)
  rw[z3] at q;exact q
theorem Ai(t1 t2:Addr)(xs ys:Array Value):
    Meets (Builtin.«zip.__new__» ⟨[.type "zip",.ref t1,.ref t2],[]⟩) (fun _ R s=>s.heap.IsTuple t1 xs/\s.heap.IsTuple t2 ys /\
      ∀ h', (∀ c o, s.heap.get? c = some o -> h'.get? c = some o) -> h'.objs.size = s.heap.objs.size + 5 -> ZT h' (s.heap.objs.size + 4) (s.heap.objs.size + 2) (s.heap.objs.size + 3) s.heap.objs.size (s.heap.objs.size + 1) t1 t2 0 .none ->
        R (.ok (.ret (.ref (s.heap.objs.size+4)))) { s with heap:=h' }) :=
  .of_wp fun prog w A R s h=>by
    obtain⟨hp,g,d,tk,os⟩:=s;obtain⟨hl1,hl2,h⟩:=h
    have hsub:=sub_zip
    have hL1:Heap.IsTuple (Shared.heap ⟨hp,g,d,tk,os⟩) t1 xs:=hl1
    have hL2:Heap.IsTuple (Shared.heap ⟨hp.push (itT t1),g,d,tk,os⟩) t2 ys:=let ⟨o,e,r⟩:=hl2;⟨o,Heap.get?_push_of_some _ e,r⟩
    wp_walk using H1z hL1,H1z hL2
    refine⟨_,rfl,?_⟩
    obtain⟨z4,z5,kp,Z⟩:=Fx hp _ _ _ _ _ t1 t2 rfl rfl rfl rfl rfl
    have q:=h _ kp z5 Z
    rw[<- z4] at q
    exact q
theorem zJ{t1 t2:Addr}{xs ys:Array Value}{Q:Value->Shared->Prop}(hl1:s.heap.IsTuple t1 xs)(hl2:s.heap.IsTuple t2 ys)
  (h : ∀ h', (∀ c o, s.heap.get? c = some o -> h'.get? c = some o) -> h'.objs.size = s.heap.objs.size + 5 -> ZT h' (s.heap.objs.size + 4) (s.heap.objs.size + 2) (s.heap.objs.size + 3) s.heap.objs.size (s.heap.objs.size + 1) t1 t2 0 .none ->
   Q (.ref (s.heap.objs.size+4)) { s with heap:=h' }):wpAny (model prog w) A (call (.type "zip") [.ref t1,.ref t2]) Q E s:=by
 refine callType_new F.called_zip (by decide) (F.typeCall_zip_2 _ _) (F.newCall_zip_2 _ _) (fun obj=>F.args_object_init_3 obj _ _) F.entry_zip_new (Ai t1 t2 xs ys) ⟨hl1,hl2,fun h' kp z5 Z=>?_⟩;exact⟨⟨_,Z.hz,rfl⟩,h h' kp z5 Z⟩
end
namespace RF
end RF
section
variable {prog:Program} {w:World} {A:Around} {E:Value->Shared->Prop} {s:Shared}
end
end L2
namespace L2
open PySem PySem.Spec PyProof.Rows PySem.SeqAt
section
variable {prog:Program} {w:World} {A:Around} {E:Value->Shared->Prop} {s:Shared}
end
end L2
namespace L2
open PySem PySem.Spec PyProof.Rows
def Itz(K:Z3)(t1 t2:Addr):It :=
  ⟨fun i H=>∃ xs ys x y,SqT K H t1 xs/\SqT K H t2 ys/\xs[i]?=some x/\ys[i]?=some y,
   fun i H v H'=>∃ p,H p=none/\v=.ref p/\∀ xs ys x y,SqT K H t1 xs->SqT K H t2 ys->xs[i]?=some x->ys[i]?=some y->H'=upd H p (.tup [x,y]),
   fun i H=>∃ xs ys,SqT K H t1 xs/\SqT K H t2 ys/\(xs.length<=i\/ys.length<=i)⟩
theorem Inv.turnedNew{X:Cx}{z0:List (Addr×Obj)}{σ:St}{H:Hp}{s:Shared}{h':Heap}{ch:List Addr}{o:HO}{t':Nat}(I:Inv X z0 σ H s)(hf:∀ b∈ch,vJ X z0 H b)(k:∀ b u,b∉ch->s.heap.get? b=some u->h'.get? b=some u)
  (new:d8 X.prog X.w (upd H s.heap.objs.size o) h' s.heap.objs.size o):Inv X z0 σ (upd H s.heap.objs.size o) { s with heap:=h',toks:=t' }:=by
 have hn:H s.heap.objs.size=none:=I.hok.fresh (Q4z _);refine I.call' (s':={ s with heap:=h',toks:=t' }) (ch:=ch) rfl ?_ ?_ I.bare fun b hb=>⟨(hf b hb).2.2.2.1,(hf b hb).2.1,(hf b hb).2.2.2.2.1,(hf b hb).2.2.2.2.2⟩
 ·refine⟨fun b u e _ _ hc=>k b u hc e,fun b u e _ _ hc=>⟨u.slots,k b u hc e⟩,fun b u e n hc=>?_,fun b u e hc=>⟨u,k b u hc e⟩,fun b xs e=>?_,fun b u xs e=>?_,fun b ps e=>⟨#[],?_⟩⟩
  ·rw[aY (E4z (D4z e))];exact n
  ·rw[aY (aQ e hn)];exact e
  ·rw[aY (aQ e hn)];exact e
  ·rw[aY (aQ e hn),e];simp
 ·intro b u e
  by_cases hb:b=s.heap.objs.size
  ·subst hb;rw[bh] at e;cases e;exact new
  ·rw[aY hb] at e
   refine(I.hok b u e).stay (fun c v hc q=>k c v (fun z=>?_) q) (fun c q=>by rw[aY (aQ q hn)];exact q) fun c xs q=>by rw[aY (aQ q hn)];exact q
   have zn:=(hf c z).1;rcases hc with rfl | hc
   ·rw[zn] at e;cases e
   ·rw[zn] at hc;cases hc
theorem Inv.turnedAll{H:Hp}{s:Shared}{h':Heap}{ch:List Addr}{t':Nat}(I:Inv X z0 σ H s)(hf:∀ b∈ch,vJ X z0 H b)(k:∀ b u,b∉ch->s.heap.get? b=some u->h'.get? b=some u):
  Inv X z0 σ H { s with heap:=h',toks:=t' }:=by
 refine I.call' (s':={ s with heap:=h',toks:=t' }) (ch:=ch) rfl ?_ ?_ I.bare fun b hb=>⟨(hf b hb).2.2.2.1,(hf b hb).2.1,(hf b hb).2.2.2.2.1,(hf b hb).2.2.2.2.2⟩
 ·exact⟨fun b u e _ _ hc=>k b u hc e,fun b u e _ _ hc=>⟨u.slots,k b u hc e⟩,fun b u e n hc=>n,fun b u e hc=>⟨u,k b u hc e⟩,fun b xs e=>e,fun b u xs e=>e,fun b ps e=>⟨#[],by rw[e];simp⟩⟩
 ·intro b u e
  refine(I.hok b u e).stay (fun c v hc q=>k c v (fun z=>?_) q) (fun c q=>q) fun c xs q=>q;have zn:=(hf c z).1;rcases hc with rfl | hc
  ·rw[zn] at e;cases e
  ·rw[zn] at hc;cases hc
theorem Ao{P:Program}{w:World}{K:Z3}{es:List Expr}{kt:Nat}{pt:Pos}{z ti to i1 i2 t1 t2:Addr}(D:ZipApart z ti to i1 i2 t1 t2):
    Turn P w K (.Tuple es kt pt) (Itz K t1 t2) [z,ti,to,i1,i2] z (fun i h=>ZT h z ti to i1 i2 t1 t2 i .none) where
  mem:=by simp
  obj:=fun i h st b hb=>by
    simp at hb
    rcases hb with rfl | rfl | rfl | rfl | rfl
    · exact⟨_,st.hz,fun v q=>by have q':Data.fields _=Data.cell v:=q;cases q'⟩
    · exact⟨_,st.hi,fun v q=>by have q':Data.seq _ _=Data.cell v:=q;cases q'⟩
    · obtain⟨a,c,e⟩:=st.ho
      exact⟨_,e,fun v q=>by have q':Data.seq _ _=Data.cell v:=q;cases q'⟩
    · obtain⟨o,e,_,d⟩:=st.h1
      exact⟨o,e,fun v q=>by rw[d] at q;cases q⟩
    · obtain⟨o,e,_,d⟩:=st.h2
      exact⟨o,e,fun v q=>by rw[d] at q;cases q⟩
  keep:=fun i h h' st k=>st.keep k
  item:=by
    intro X hP hw hK hc i z0 s σ H E I hf st hg
    subst hP hw hK
    obtain⟨xs,ys,x,y,hq1,hq2,hx,hy⟩:=hg
    obtain⟨its1,rv1,p1,_⟩:=I.tuple hq1
    obtain⟨its2,rv2,p2,_⟩:=I.tuple hq2
    obtain⟨u1,hu1,ru1⟩:=rv1.get hx
    obtain⟨u2,hu2,ru2⟩:=rv2.get hy
    refine jM (I.ok.hd hc) D st (show s.heap.IsTuple t1 its1.toArray from p1) (show s.heap.IsTuple t2 its2.toArray from p2) (fun a b h' ha hb Z pr sz kp=>?_) fun h' hn _=>?_
    · have ea : a = u1 := by have : its1[i]? = some a := by simpa using ha
                             rw[hu1] at this;exact(P2z this).symm
      have eb : b = u2 := by have : its2[i]? = some b := by simpa using hb
                             rw[hu2] at this;exact(P2z this).symm
      subst ea eb
      have szl:2<=sizeLine:=by decide
      have hf4:∀ c∈[z,to,i1,i2],vJ X z0 H c:=fun c hc'=>hf c (by simp at hc' ⊢;rcases hc' with h | h | h | h<;>simp[h])
      have I1:Inv X z0 σ (upd H s.heap.objs.size (.tup [x,y])) { s with heap:=h',toks:=s.toks }:=I.turnedNew hf4 kp ⟨szl,[a,b],.cons ru1 (.cons ru2 .nil),⟨_,pr,rfl,_,rfl⟩⟩
      have fresh:H s.heap.objs.size=none:=I.hok.fresh (Q4z _)
      have ltf:∀ c∈[z,ti,to,i1,i2],c≠s.heap.objs.size:=fun c hc' e=>by
        have:H c=none:=(hf c hc').1
        simp at hc'
        have lt:c<s.heap.objs.size:=by
          rcases hc' with rfl | rfl | rfl | rfl | rfl
          · exact D4z st.hz
          · exact D4z st.hi
          · obtain⟨_,_,e'⟩:=st.ho;exact D4z e'
          · obtain⟨o,e',_⟩:=st.h1;exact D4z e'
          · obtain⟨o,e',_⟩:=st.h2;exact D4z e'
        exact E4z lt e
      refine⟨_,rfl,wpAny_letOwnedTupleGo_zip (s:={ s with heap:=h' }) Z.hz fun h2 z2 sb=>?_⟩
      have fz:=hf z (by simp)
      have I2:Inv X z0 σ (upd H s.heap.objs.size (.tup [x,y])) { s with heap:=h2 }:=I1.turned (t':=s.toks) (fun c o hc' e=>(sb.2 c hc').trans e) (by rw[aY (ltf z (by simp))];exact fz.1) fz.2.1 fz.2.2.2.1 fz.2.2.2.2.1 fz.2.2.2.2.2
      refine⟨.ref s.heap.objs.size,_,I2,rfl,⟨_,fresh,rfl,fun xs' ys' x' y' a1 a2 a3 a4=>?_⟩,?_,fun c hc'=>by rw[aY (ltf c hc')];exact(hf c hc').1⟩
      · have e1:=I.tuple_inj a1 hq1
        have e2:=I.tuple_inj a2 hq2
        subst e1 e2
        rw[hx] at a3;rw[hy] at a4
        cases a3;cases a4
        rfl
      · obtain⟨a',b',e'⟩:=Z.ho
        exact⟨z2,(sb.2 ti D.TIz).trans Z.hi,⟨a',b',(sb.2 to D.TOz).trans e'⟩,Z.h1.at fun o e=>(sb.2 i1 D.i1z).trans e,Z.h2.at fun o e=>(sb.2 i2 D.i2z).trans e⟩
    · rcases hn with hn | hn
      · have:its1[i]?=none:=by simpa using hn
        rw[hu1] at this;cases this
      · have:its2[i]?=none:=by simpa using hn
        rw[hu2] at this;cases this
  done:=by
    intro X hP hw hK hc i z0 s σ H E I hf st hg
    subst hP hw hK
    obtain⟨xs,ys,hq1,hq2,hl⟩:=hg
    obtain⟨its1,rv1,p1,_⟩:=I.tuple hq1
    obtain⟨its2,rv2,p2,_⟩:=I.tuple hq2
    have l1:=rv1.length
    have l2:=rv2.length
    refine jM (I.ok.hd hc) D st (show s.heap.IsTuple t1 its1.toArray from p1) (show s.heap.IsTuple t2 its2.toArray from p2) (fun a b h' ha hb Z pr sz kp=>?_) fun h' _ kp=>⟨rfl,?_⟩
    · exfalso
      have h1 : i < its1.length := by have : its1[i]? = some a := by simpa using ha
                                      exact(List.getElem?_eq_some_iff.mp this).1
      have h2 : i < its2.length := by have : its2[i]? = some b := by simpa using hb
                                      exact(List.getElem?_eq_some_iff.mp this).1
      omega
    · have hf4:∀ c∈[z,to,i1,i2],vJ X z0 H c:=fun c hc'=>hf c (by simp at hc' ⊢;rcases hc' with h | h | h | h<;>simp[h])
      exact I.turnedAll (t':=s.toks) hf4 kp
  self:=fun _ _ _ _ _ st h=>wpAny_pyIter_zip st.hz h
section
variable {X:Cx}
def iZip(K:Z3)(ta:TA):TI:=fun σ H R=>ta σ H fun vs H1=>∃ a b,vs=[.ref a,.ref b]/\(∃ xs,SqT K H1 a xs)/\(∃ ys,SqT K H1 b ys)/\R (Itz K a b) H1
theorem Lk{a b:Expr}{p pos pt:Pos}{es:List Expr}{kt:Nat}(hg:Gl X "zip")(hm:X.mg "zip"=none)(ha:PA X [a,b] ta)(hs:starEach [a,b] X.env=[(false,eval a X.env),(false,eval b X.env)])(hs2:starEach [b] X.env=[(false,eval b X.env)]):
  PI X (.Tuple es kt pt) (.Call (.Name "zip" p) [a,b] [] pos) (iZip X.K ta):=by
 intro z0 s σ H R I h;refine Call_ (eX I hg hm boot_zip (B0z (thn (ha pos z0 s σ H _ I h) fun us s1 ⟨vs,H1,I1,r1,q1⟩=>?_) (by rw[hs,hs2]) (by rw[hs2];rfl)));obtain⟨a1,b1,e,⟨xs,hx⟩,⟨ys,hy⟩,q⟩:=q1;subst e
 cases r1 with
 | cons r rr =>
  cases rr with
  | cons r' rr =>
   cases rr;cases (show _=Value.ref a1 from r);cases (show _=Value.ref b1 from r');obtain⟨its1,_,p1,_⟩:=I1.tuple hx;obtain⟨its2,_,p2,_⟩:=I1.tuple hy;refine zJ (show s1.heap.IsTuple a1 its1.toArray from p1) (show s1.heap.IsTuple b1 its2.toArray from p2) fun h' kp sz Z=>?_;refine wpAny_pyIter_zip (s:={ s1 with heap:=h' }) Z.hz ?_;have I2:Inv X z0 σ H1 { s1 with heap:=h' }:=I1.kept (t':=s1.toks) kp;refine⟨s1.heap.objs.size+4,_,_,_,H1,rfl,I2,Ao (zipApart_new p1.lt p2.lt),Z,fun c hc=>?_,q⟩
   have hc':s1.heap.objs.size<=c:=by
    simp at hc
    rcases hc with h | h | h | h | h<;>rw[h]<;>first | exact Q4z _ | exact H2z _ _
   exact I1.fpOk hc' (I1.hok.fresh hc')
end
def aaW(K:Z3)(t:Addr)(n:Nat):It :=
 ⟨fun i H=>∃ ys,SqL K H t ys/\ys.length=n/\i<n,fun i H x H'=>H'=H/\∀ ys,SqL K H t ys->ys[n-1-i]?=some x,fun i _=>i=n⟩
theorem vZ{K:Z3}(t r:Addr)(n:Nat):Turn P w K tg (aaW K t n) [r] r (fun i h=>h.IsRevIter r t ((n:Int)-1-(i:Int))) where
 mem:=by simp
 obj:=fun i h st b hb=>by
  have e:b=r:=by simpa using hb
  subst e;obtain⟨o,h1,h2,h3⟩:=st;exact⟨o,h1,fun v z=>by rw[h3] at z;cases z⟩
 keep:=fun i h h' st k=>st.at fun o e=>k r (by simp) o e
 item:=by
  intro X hP hw hK hc i z0 s σ H E I hf st hg;subst hP hw hK;obtain⟨ys,hq,hl,hi⟩:=hg;obtain⟨its,rv,p0,_⟩:=I.list hq;have p:=p0.isList
  have hn:its.length=n:=by rw[<- rv.length,hl]
  obtain⟨f0,f1,f2,f3,f4,f5⟩:=hf r (by simp)
  have e1:(n:Int)-1-(i:Int)=((n-1-i:Nat):Int):=by omega
  have st':=st;rw[e1] at st'
  have hlt:n-1-i<its.length:=by omega
  obtain⟨x,hx,rx⟩:∃ x,ys[n-1-i]?=some x/\RelV x its[n-1-i]:=by
   have hly:n-1-i<ys.length:=by omega
   obtain⟨u,hu,ru⟩:=rv.get (i:=n-1-i) (x:=ys[n-1-i]) (by simp);rw[List.getElem?_eq_getElem hlt] at hu;cases hu;exact⟨_,by simp,ru⟩
  refine wpAny_pyNext_rev_item st' p (x:=its[n-1-i]) (by simp[hlt]) fun h' st2 sb=>?_;have I1:Inv X z0 σ H { s with heap:=h' }:=I.turned (t':=s.toks) (fun b o hb e=>(sb.2 b hb).trans e) f0 f1 f3 f4 f5
  have e2:((n-1-i:Nat):Int)-1=(n:Int)-1-((i+1:Nat):Int):=by omega
  rw[e2] at st2;obtain⟨o,g1,g2,g3⟩:=st2;exact⟨_,rfl,yG (s:={ s with heap:=h' }) (n:="list_reverseiterator") g1 g2 g3 (by decide) ⟨x,H,I1,rx,⟨rfl,fun zs hy=>by rw[I.list_inj hy hq];exact hx⟩,⟨o,g1,g2,g3⟩,fun b hb=>(hf b hb).1⟩⟩
 done:=by
  intro X hP hw hK hc i z0 s σ H E I hf st hg;subst hP hw hK;obtain⟨f0,f1,f2,f3,f4,f5⟩:=hf r (by simp);have hg':i=n:=hg
  have e1:(n:Int)-1-(i:Int)=-1:=by omega
  rw[e1] at st;exact wpAny_pyNext_rev_end (I.ok.hd hc) st fun h' eb=>⟨rfl,I.turned (t':=s.toks) (fun b o hb e=>eb b o hb e) f0 f1 f3 f4 f5⟩
 self:=fun _ _ _ _ _ st h=>wpAny_pyIter_revIter st h
section
variable {X:Cx}
def Xz(K:Z3)(ta:TA):TI:=fun σ H R=>ta σ H fun vs H1=>∃ a xs,vs=[.ref a]/\SqL K H1 a xs/\R (aaW K a xs.length) H1
theorem Bl{p pos:Pos}{tg:Expr}(hg:Gl X "reversed")(hm:X.mg "reversed"=none)(ha:PA X [a] ta)(hs:starEach [a] X.env=[(false,eval a X.env)]):
  PI X tg (.Call (.Name "reversed" p) [a] [] pos) (Xz X.K ta):=by
 intro z0 s σ H R I h;refine Call_ (eX I hg hm boot_reversed (B0z (thn (ha pos z0 s σ H _ I h) fun us s1 ⟨vs,H1,I1,r1,q1⟩=>?_) hs rfl));obtain⟨a1,xs,e,hx,q⟩:=q1;subst e
 cases r1 with
 | cons r rr =>
  cases rr;cases (show _=Value.ref a1 from r);obtain⟨its1,rv,p0,_⟩:=I1.list hx;have p1:=p0.isList;have hl:=rv.length;refine call_reversed_list p1 ?_
  have st:(s1.heap.push (revObj a1 ((its1.toArray.size:Int)-1))).IsRevIter s1.heap.objs.size a1 ((xs.length:Int)-1-((0:Nat):Int)):=by
   have e0:((xs.length:Int)-1-((0:Nat):Int))=(its1.toArray.size:Int)-1:=by rw[R1z];omega
   rw[e0];exact⟨_,Heap.get?_push_size _ rfl,rfl,rfl⟩
  refine wpAny_pyIter_revIter (s:={ s1 with heap:=s1.heap.push (revObj a1 ((its1.toArray.size:Int)-1)) }) st ?_;refine⟨s1.heap.objs.size,_,_,_,H1,rfl,I1.kept (t':=s1.toks) fun b o e=>Heap.get?_push_of_some _ e,vZ a1 _ xs.length,st,fun c hc=>?_,q⟩
  have hc':c=s1.heap.objs.size:=by simpa using hc
  subst hc';exact I1.fpOk (Q4z _) (I1.hok.fresh (Q4z _))
end
def Pr(hi:Int)(n:Nat):It:=⟨fun i _=>i<n,fun i H x H'=>H'=H/\x=.int (hi-i),fun i _=>n<=i⟩
theorem qz{K:Z3}(it:Addr)(hi:Int)(n:Nat):Turn P w K tg (Pr hi n) [it] it (fun i h=>IsRangeIter h it (hi+(i:Nat)*(-1)) ((n:Int)-(i:Nat)) (-1)) where
 mem:=by simp
 obj:=fun i h st b hb=>by
  have e:b=it:=by simpa using hb
  subst e
  exact⟨_,st,fun v z=>by
   have z':Data.fields _=Data.cell v:=z
   cases z'⟩
 keep:=fun i h h' st k=>k it (by simp) _ st
 item:=by
  intro X hP hw hK hc i z0 s σ H E I hf st hg;subst hP hw hK;obtain⟨f0,f1,f2,f3,f4,f5⟩:=hf it (by simp);have W:=Walks.range (prog:=X.prog) (w:=X.w) (I.ok.hd hc) it hi (-1) n;refine W.item i s _ _ hg st fun v h' tk hv st' kk=>?_;obtain⟨t,rfl⟩:=hv;have I1:Inv X z0 σ H { s with heap:=h',toks:=tk }:=I.turned (fun b o hb e=>kk b o (by simpa using hb) e) f0 f1 f3 f4 f5;refine⟨_,rfl,yG (s:={ s with heap:=h',toks:=tk }) (n:="range_iterator") st' rfl rfl (by decide) ⟨.int (hi-i),H,I1,⟨t,?_⟩,⟨rfl,rfl⟩,st',fun b hb=>(hf b hb).1⟩⟩;rw[show hi+(i:Int)*(-1)=hi-i by omega]
 done:=by
  intro X hP hw hK hc i z0 s σ H E I hf st hg;subst hP hw hK;obtain⟨f0,f1,f2,f3,f4,f5⟩:=hf it (by simp);exact wpAny_pyNext_range_end (I.ok.hd hc) st (by have:n<=i:=hg;omega) fun h' eb=>⟨rfl,I.turned (t':=s.toks) (fun b o hb e=>eb b o hb e) f0 f1 f3 f4 f5⟩
 self:=fun _ _ _ _ _ st h=>wpAny_pyIter_rangeiter st h
theorem jc(a b:Int):Builtin.Range.rangeSize a b (-1)=if b<a then a-b else 0:=by
 unfold Builtin.Range.rangeSize;simp only[show ¬ (-1:Int)>0 by decide,H5z,show -(-1:Int)=1 by decide,Int.ediv_one]
 split<;>omega
theorem Az{a b:Int}(ha:-(2^62)<=a)(ha':a<2^62)(hb:-(2^62)<=b)(hb':b<2^62):Builtin.Range.small a b (-1)=true:=by
 unfold Builtin.Range.small;rw[jc];simp only[Builtin.Range.rangeFitsLong,D2z,Z2z,W1z,C5z,show ¬ (-1:Int)>0 by decide,H5z]
 split<;>omega
section
variable {X:Cx} {tg:Expr}
theorem wR{z0:List (Addr×Obj)}{σ:St}{H:Hp}{s:Shared}{R:It->Hp->Prop}{E:Value->Shared->Prop}{hi lo:Int}{t u v:Tok}{tk:Nat}(I:Inv X z0 σ H s)(h1:-(2^62)<=hi)(h2:hi<2^62)(h3:-(2^62)<=lo)(h4:lo<2^62)
  (q:R (Pr hi (hi-lo).toNat) H):wpAny (model X.prog X.w) X.A (pyIter (.ref s.heap.objs.size)) (PIE X z0 σ tg R) E { s with heap:=s.heap.push { cls:=.type "range",data:=.fields #[.int hi t,.int lo u,.int (-1) v] },toks:=tk }:=by
 refine wpAny_pyIter_range (IsRange.new ..) (Az h1 h2 h3 h4) ?_;have I1:Inv X z0 σ H { s with heap:=s.heap.push { cls:=.type "range",data:=.fields #[.int hi t,.int lo u,.int (-1) v] },toks:=tk }:=I.kept fun b o e=>Heap.get?_push_of_some _ e
 refine⟨(s.heap.push { cls:=.type "range",data:=.fields #[.int hi t,.int lo u,.int (-1) v] }).objs.size,[(s.heap.push { cls:=.type "range",data:=.fields #[.int hi t,.int lo u,.int (-1) v] }).objs.size],_,_,H,rfl,
  I1.kept (t':=tk) fun b o e=>Heap.get?_push_of_some _ e,qz _ hi (hi-lo).toNat,?_,fun b hb=>?_,q⟩
 ·have e1:hi+((0:Nat):Int)*(-1)=hi:=by simp
  have e2:(((hi-lo).toNat:Nat):Int)-((0:Nat):Int)=Builtin.Range.rangeSize hi lo (-1):=by rw[jc];split<;>omega
  show IsRangeIter _ _ (hi+((0:Nat):Int)*(-1)) ((((hi-lo).toNat:Nat):Int)-((0:Nat):Int)) (-1);rw[e1,e2];exact Heap.get?_push_size _ rfl
 ·have e:b=(s.heap.push { cls:=.type "range",data:=.fields #[.int hi t,.int lo u,.int (-1) v] }).objs.size:=by simpa using hb
  subst e;exact I1.fpOk (Q4z _) (I1.hok.fresh (Q4z _))
def Xw(ta:TA):TI:=fun σ H R=>ta σ H fun vs H1=>∃ i j:Int,vs=[.int i,.int j,.int (-1)]/\(-(2^62)<=i/\i<2^62 /\ -(2^62)<=j/\j<2^62)/\R (Pr i (i-j).toNat) H1
theorem xq{a b c:Expr}{p pos:Pos}(hg:Gl X "range")(hm:X.mg "range"=none)(ha:PA X [a,b,c] ta)(hs:starEach [a,b,c] X.env=[(false,eval a X.env),(false,eval b X.env),(false,eval c X.env)])(hs2:starEach [b,c] X.env=[(false,eval b X.env),(false,eval c X.env)]):
  PI X tg (.Call (.Name "range" p) [a,b,c] [] pos) (Xw ta):=by
 intro z0 s σ H R I h;refine Call_ (eX I hg hm boot_range (B0z (thn (ha pos z0 s σ H _ I h) fun us s1 ⟨vs,H1,I1,r1,q1⟩=>?_) (by rw[hs,hs2]) (by rw[hs2];rfl)));obtain⟨i,j,e,⟨q1,q2,q3,q4⟩,q⟩:=q1;subst e
 cases r1 with
 | cons r rr =>
  cases rr with
  | cons r' rr =>
   cases rr with
   | cons r'' rr =>
    cases rr;obtain⟨t,rfl⟩:=r;obtain⟨t',rfl⟩:=r';obtain⟨t'',rfl⟩:=r'';exact call_range_3 (by decide) (wR I1 q1 q2 q3 q4 q) (Or.inl (PyProof.noPylong_small (by omega)))
end
section
variable {prog:Program} {w:World} {A:Around} {E:Value->Shared->Prop} {s:Shared}
theorem Ep(hh:A.handled=none)(it t:Addr)(ap:t≠it)(its:Array Value):Draws prog w A it [it,t] its.size (fun k v=>its[k]?=some v) (fun k h=>h.IsTupleIter it t k/\h.IsTuple t its) where
 live:=fun _ _ q=>by obtain⟨⟨o,e,_⟩,_⟩:=q;exact⟨o,e⟩
 frame:=fun _ _ _ q kp=>by
  obtain⟨⟨o,e,r⟩,⟨o2,e2,r2⟩⟩:=q;exact⟨⟨o,kp it (by simp) o e,r⟩,⟨o2,kp t (by simp) o2 e2,r2⟩⟩
 item:=fun k s Q E lt q fin=>CG hh q.1 q.2 (fun x h' hx a sb=>fin x h' s.toks hx ⟨a,by obtain⟨o2,e2,r2⟩:=q.2;exact⟨o2,(sb.2 t ap).trans e2,r2⟩⟩ sb) fun h' e hx _ _=>by
  have:its[k]?=some its[k]:=by simp[lt]
  rw[this] at hx;cases hx
 done:=fun s Q E q fin=>CG hh q.1 q.2 (fun x h' hx _ _=>by simp at hx) fun h' e _ a b=>fin h' e a b
set_option maxHeartbeats 1000000 in
theorem yV(t:Addr)(its:Array Value)(n:Nat)(dd:Option Addr)(sl:Array (Option Value)):
  Meets (Builtin.«enumerate.__new__» ⟨[.type "enumerate",.ref t],[]⟩) (fun _ R s=>s.heap.get? t=some { cls:=.type "tuple",dict:=dd,data:=.seq its n,slots:=sl } /\
   R (.ok (.ret (.ref (s.heap.push (itT t)).objs.size))) { s with heap:=(s.heap.push (itT t)).push { cls:=.type "enumerate",data:=.fields #[.none,.bool false,.ref s.heap.objs.size,rawInt 0,.none,.none] } }) :=
 .of_wp fun prog w A R s h=>by
  obtain⟨hp,g,d,tk,os⟩:=s;obtain⟨hl,h⟩:=h
  have hsub:=sub_enumerate;have hL:Heap.IsTuple (Shared.heap ⟨hp,g,d,tk,os⟩) t its:=⟨_,hl,rfl,n,rfl⟩
  wp_walk using F0z hl
  refine wpAny_stack_any fun fr=>Z4z ?_;split
  ·rename_i c _ _ _ _ _
   cases (c==Value.type "enumerate")<;>(wp_walk using F0z hl,H1z hL;exact⟨_,rfl,h⟩)
  ·wp_walk using F0z hl,H1z hL;exact⟨_,rfl,h⟩
theorem vG{t:Addr}{its:Array Value}{Q:Value->Shared->Prop}(ht:s.heap.IsTuple t its)
  (q:∀ h',IsEnum h' (s.heap.objs.size+1) s.heap.objs.size 0 .none->h'.IsTupleIter s.heap.objs.size t 0->(∀ b o,s.heap.get? b=some o->h'.get? b=some o)->Q (.ref (s.heap.objs.size+1)) { s with heap:=h' }) :
  wpAny (model prog w) A (call (.type "enumerate") [.ref t]) Q E s:=by
 obtain⟨⟨c,dd,dt,sl⟩,e,hc,n,hd⟩:=ht;cases (show c=.type "tuple" from hc);cases (show dt=.seq its n from hd);refine callType_new F.called_enumerate (by decide) (F.typeCall_enumerate_1 _) (F.newCall_enumerate_1 _) (fun obj=>F.args_object_init_2 obj _) F.entry_enumerate_new (yV t its n dd sl) ⟨e,?_⟩;have z:(s.heap.push (itT t)).objs.size=s.heap.objs.size+1:=M3z ..;have en:=Heap.get?_push_size (s.heap.push (itT t)) (o:={ cls:=.type "enumerate",data:=.fields #[.none,.bool false,.ref s.heap.objs.size,rawInt 0,.none,.none] }) rfl;rw[z] at en;show _/\_;rw[z];exact⟨⟨_,en,rfl⟩,q _ en ⟨_,Heap.get?_push_of_some _ (Heap.get?_push_size _ rfl),rfl,rfl⟩ fun b o x=>Heap.get?_push_of_some _ (Heap.get?_push_of_some _ x)⟩
end
def Ite(K:Z3)(t:Addr):It :=
 ⟨fun i H=>∃ xs x,SqT K H t xs/\xs[i]?=some x,fun i H v H'=>∃ p,H p=none/\v=.ref p/\∀ xs x,SqT K H t xs->xs[i]?=some x->H'=upd H p (.tup [.int i,x]),fun i H=>∃ xs,SqT K H t xs/\xs.length=i⟩
theorem v8{P:Program}{w:World}{K:Z3}{es:List Expr}{kt:Nat}{pt:Pos}{e it t:Addr}(d1:e≠it)(d2:e≠t)(d3:t≠it):
  Turn P w K (.Tuple es kt pt) (Ite K t) [e,it] e (fun i h=>(∃ old,IsEnum h e it (i:Int) old)/\h.IsTupleIter it t i) where
 mem:=by simp
 obj:=fun i h q b hb=>by
  obtain⟨⟨old,q1⟩,o2,q2,_,q3⟩:=q;simp at hb;rcases hb with rfl | rfl
  ·exact⟨_,q1,fun v z=>by have z':Data.fields _=Data.cell v:=z;cases z'⟩
  ·exact⟨o2,q2,fun v z=>by rw[q3] at z;cases z⟩
 keep:=fun i h h' q kp=>by
  obtain⟨⟨old,q1⟩,o2,q2,q3⟩:=q;exact⟨⟨old,kp e (by simp) _ q1⟩,o2,kp it (by simp) _ q2,q3⟩
 item:=by
  intro X hP hw hK hc i z0 s σ H E I hf q hg;subst hP hw hK;obtain⟨xs,x,hq,hx⟩:=hg;obtain⟨⟨old,q1⟩,q2⟩:=q;obtain⟨its,rv,p,hz⟩:=I.tuple hq;obtain⟨u,hu,ru⟩:=rv.get hx
  have hi:i<its.toArray.size:=by simpa using(List.getElem?_eq_some_iff.mp hu).1
  have D:=Ep (prog:=X.prog) (w:=X.w) (A:=X.A.in1) (I.ok.hd hc) it t d3 its.toArray;refine wpAny_pyNext_enum_itemD D q1 ⟨q2,(show s.heap.IsTuple t its.toArray from p)⟩ hi d1 (by simp;exact⟨d1,d2⟩) fun y h' tk hy eo st' new sz kp=>?_
  have ey:y=u:=by
   have:its[i]?=some y:=by simpa using hy
   rw[hu] at this;exact(P2z this).symm
  subst ey
  have szl:2<=sizeLine:=by decide
  have hlt:∀ c∈[e,it],c<s.heap.objs.size:=fun c hc'=>by
   simp at hc';rcases hc' with rfl | rfl
   ·exact D4z q1
   ·obtain⟨o2,q2,_⟩:=q2;exact D4z q2
  have I1:Inv X z0 σ (upd H s.heap.objs.size (.tup [.int i,x])) { s with heap:=h',toks:=tk+1 }:=I.turnedNew (ch:=[e,it]) hf (fun b o hb z=>kp b o (fun q=>hb (by simp[q])) (fun q=>hb (by simp[q])) z) ⟨szl,[.int i tk,y],.cons ⟨tk,rfl⟩ (.cons ru .nil),⟨_,new,rfl,_,rfl⟩⟩;refine⟨_,rfl,wpAny_letOwnedTupleGo_enum (s:={ s with heap:=h',toks:=tk+1 }) eo fun h2 e2 sb=>?_⟩;obtain⟨f0,f1,f2,f3,f4,f5⟩:=hf e (by simp);have I2:Inv X z0 σ (upd H s.heap.objs.size (.tup [.int i,x])) { s with heap:=h2,toks:=tk+1 }:=I1.turned (t':=tk+1) (fun c o hc' z=>(sb.2 c hc').trans z) (by rw[aY (E4z (hlt e (by simp)))];exact f0) f1 f3 f4 f5;refine⟨.ref s.heap.objs.size,_,I2,rfl,⟨_,I.hok.fresh (Q4z _),rfl,fun xs' x' a1 a2=>?_⟩,⟨⟨y,by simpa using e2⟩,?_⟩,fun b hb=>by rw[aY (E4z (hlt b hb))];exact(hf b hb).1⟩
  ·have e1:=I.tuple_inj a1 hq
   subst e1;rw[hx] at a2;cases a2;rfl
  ·obtain⟨o3,g1,g2⟩:=st'.1
   exact⟨o3,(sb.2 it d1.symm).trans g1,g2⟩
 done:=by
  intro X hP hw hK hc i z0 s σ H E I hf q hg;subst hP hw hK;obtain⟨xs,hq,hl⟩:=hg;obtain⟨⟨old,q1⟩,q2⟩:=q;obtain⟨its,rv,p,hz⟩:=I.tuple hq
  have hn:its.toArray.size=i:=by rw[R1z,<- rv.length,hl]
  have D:=Ep (prog:=X.prog) (w:=X.w) (A:=X.A.in1) (I.ok.hd hc) it t d3 its.toArray;refine wpAny_pyNext_enum_endD D q1 ⟨by rw[hn];exact q2,(show s.heap.IsTuple t its.toArray from p)⟩ fun h' eb=>⟨rfl,?_⟩;obtain⟨f0,f1,f2,f3,f4,f5⟩:=hf it (by simp);exact I.turned (t':=s.toks) (fun b o hb z=>eb b o hb z) f0 f1 f3 f4 f5
 self:=fun _ _ _ _ _ q h=>by obtain⟨⟨old,q1⟩,_⟩:=q;exact wpAny_pyIter_enum q1 h
section
variable {X:Cx}
def XD(K:Z3)(ta:TA):TI:=fun σ H R=>ta σ H fun vs H1=>∃ a,vs=[.ref a]/\(∃ xs,SqT K H1 a xs)/\R (Ite K a) H1
theorem G3{p pos pt:Pos}{es:List Expr}{kt:Nat}(hg:Gl X "enumerate")(hm:X.mg "enumerate"=none)(ha:PA X [a] ta)(hs:starEach [a] X.env=[(false,eval a X.env)]):
  PI X (.Tuple es kt pt) (.Call (.Name "enumerate" p) [a] [] pos) (XD X.K ta):=by
 intro z0 s σ H R I h;refine Call_ (eX I hg hm (show bootBuiltins "enumerate"=some (.type "enumerate") by decide +kernel) (B0z (thn (ha pos z0 s σ H _ I h) fun us s1 ⟨vs,H1,I1,r1,q1⟩=>?_) hs rfl));obtain⟨a1,e,⟨xs,hx⟩,q⟩:=q1;subst e
 cases r1 with
 | cons r rr =>
  cases rr;cases (show _=Value.ref a1 from r);obtain⟨its1,rv,p1,hz⟩:=I1.tuple hx;refine vG (show s1.heap.IsTuple a1 its1.toArray from p1) fun h' en ti kp=>?_;refine wpAny_pyIter_enum (s:={ s1 with heap:=h' }) en ?_;have I2:Inv X z0 σ H1 { s1 with heap:=h' }:=I1.kept (t':=s1.toks) kp;have lt1:a1<s1.heap.objs.size:=p1.lt;refine⟨s1.heap.objs.size+1,_,_,_,H1,rfl,I2,v8 (Nat.succ_ne_self _) (G4z (U1z lt1)) (E4z lt1),⟨⟨_,en⟩,ti⟩,fun c hc=>?_,q⟩
  have hc':s1.heap.objs.size<=c:=by
   simp at hc
   rcases hc with h | h<;>rw[h]<;>first | exact Q4z _ | exact H2z _ _
  exact I1.fpOk hc' (I1.hok.fresh hc')
end
section
variable {X:Cx}
end
section
variable {prog:Program} {w:World} {A:Around} {E:Value->Shared->Prop} {s:Shared}
end
section
variable {X:Cx}
end
section
variable {prog:Program} {w:World} {A:Around} {E:Value->Shared->Prop} {s:Shared}
end
section
variable {X:Cx}
end
section
variable {X:Cx}
end
end L2
namespace L2
open PySem PySem.Spec PyProof.Rows PySem.SeqAt
section
variable {X:Cx}
def QV(K:Z3):R2:=fun x y H Q=>∃ l b us zs,x=.ref l/\y=.ref b/\SqL K H l us/\SqL K H b zs/\us.length+zs.length<=sizeLine/\∀ p,H p=none->Q (.ref p) (upd H p (.lst (us++zs)))
theorem xM:OpR X (binaryOp .Add) (QV X.K):=by
 intro z0 s σ H x y v u Q I rx ry h;obtain⟨l,b,us,zs,rfl,rfl,hH,hB,hz,q⟩:=h;cases (show v=Value.ref l from rx);cases (show u=Value.ref b from ry);obtain⟨its,r,pl,z1⟩:=I.list hH;obtain⟨its2,r2,pl2,z2⟩:=I.list hB;have e1:=r.length;have e2:=r2.length;obtain⟨⟨c1,d1,w1,t1⟩,n1,o1,hc1,hd1,hs1⟩:=pl;obtain⟨⟨c2,d2,w2,t2⟩,n2,o2,hc2,hd2,hs2⟩:=pl2;simp only at hc1 hs1 hc2 hs2;subst hc1 hs1 hc2 hs2;refine concat_meets ⟨_,o1,rfl⟩ ⟨_,o2,rfl⟩ noFill_list_add seq_list_add PySem.F.slot_list_add PySem.F.entry_list_add (PySem.F.args_list_add_2 _ _) (list_addW l b its.toArray its2.toArray n1 n2 d1 d2 t1 t2 (by rw[R1z,R1z];omega)) ⟨o1,o2,?_⟩;rw[show its.toArray++its2.toArray=(its++its2).toArray by simp];exact⟨.ref _,_,I.lnew (t':=s.toks) (r.append r2) (by rw[K1z];omega),rfl,q _ I.fresh⟩
def QJ(K:Z3):R2:=fun x y H Q=>∃ l k us,x=.ref l/\y=.int k/\SqL K H l us /\ -(2^63)<=k/\k<2^63/\us.length*k.toNat<=sizeLine /\
 ∀ p,H p=none->Q (.ref p) (upd H p (.lst (List.replicate k.toNat us).flatten))
theorem xK:OpR X (binaryOp .Mult) (QJ X.K):=by
 intro z0 s σ H x y v u Q I rx ry h;obtain⟨l,k,us,rfl,rfl,hH,h1,h2,hz,q⟩:=h;cases (show v=Value.ref l from rx);obtain⟨t,rfl⟩:=ry;obtain⟨its,r,pl,z1⟩:=I.list hH;have hl:=r.length;obtain⟨⟨c1,d1,w1,t1⟩,n1,e,hc1,hd1,hs1⟩:=pl;simp only at hc1 hs1;subst hc1 hs1
 have a1:its.toArray.size*k.toNat<=sizeLine:=by rw[R1z,<- hl];exact hz
 have a2:¬ its.toArray.size*k.toNat>(2^63-1) / 8:=by
  have:(sizeLine:Nat)<=(2^63-1) / 8:=by decide
  omega
 have a3:¬ (!Builtin.List.listFitsIndex k)=true:=by rw[fitsIndex_both h1 h2];exact G1z
 have a4:¬ Builtin.List.listTooLong (its.toArray.size*k.toNat)=true:=by rw[mV a1];exact G1z
 have a5:List.foldl (fun x1 x2=>x1++x2) #[] (List.replicate (if its.toArray.isEmpty=true then 0 else k.toNat) its.toArray)=(List.replicate k.toNat its).flatten.toArray:=by
  have f0:∀ m:Nat,List.foldl (fun x1 x2=>x1++x2) #[] (List.replicate m its.toArray)=(List.replicate m its).flatten.toArray:=fun m=>(foldl_rep its m []).trans (by rw[List.nil_append]);rw[f0]
  cases its with
  | nil=>simp
  | cons a r'=>rw[L5z (by simp)]
 refine wpAny_binaryOp_repeat_ref (T:="list") (U:="int") (by decide) ⟨_,e,rfl⟩ (fun s'=>typeIs_int s' k t) noFill_list_mul F.fills_int_mul F.slot_int_rmul repeat_list F.slot_int_index.lookup ?_;refine B5z F.slot_int_rmul (typeIs_int s k t) F.entry_int_rmul (F.args_int_rmul_2 _ _) (lm_int_rmul_list_any k t l its.toArray n1 d1 t1) ⟨e,rfl,⟨_,e,rfl⟩,?_⟩;refine B5z F.slot_list_mul ⟨_,e,rfl⟩ F.entry_list_mul (F.args_list_mul_2 _ _) (lm_list_mul_any l its.toArray n1 d1 t1 k t a3 a2 a4) ⟨e,?_⟩;rw[a5];exact⟨.ref _,_,I.lnew (t':=s.toks) (r.rep k.toNat) (by rw[len_rep,L4z];exact hz),rfl,q _ I.fresh⟩
end
section
variable {X:Cx}
end
section
variable {prog:Program} {w:World} {A:Around} {E:Value->Shared->Prop} {s:Shared}
end
section
variable {X:Cx}
end
end L2
namespace HT
open PySem PySem.Spec PyProof.Rows PySem.SeqAt L2
section
variable {prog:Program} {w:World} {A:Around} {E:Value->Shared->Prop} {s:Shared}
theorem gH{t sl:Addr}{items:Array Value}{vl vu:Value}{lo hi:Option Int}{Q:Value->Shared->Prop}(ht:IsTup s.heap t items)(hs:s.heap.IsSliceOf sl vl vu .none)(pl:IsPart vl lo)(pu:IsPart vu hi)
  (hw:sIx items.size 0 lo=0/\sIx items.size items.size hi=items.size) (h:Q (.ref t) s):wpAny (model prog w) A (getItem (.ref t) (.ref sl)) Q E s:=by
 obtain⟨os,hos,hcs,hds⟩:=id hs;have hTs:s.TypeIs (.ref sl) "slice":=⟨os,hos,hcs⟩;unfold getItem
 try with_reducible refine U3z ?_
 first | refine Y4z (Z4z ?_) | skip
 refine Y4z (wpAny_sequenceKey ht.typeIs (by decide) ?_)
 refine Y4z (wpAny_callSpecial?_slot (name:=Str.ofString "__getitem__") ht.typeIs A0z
  (C2z A0z ht.typeIs entry_tuple_getitem ?_ (args_tuple_getitem _ _)))
 show wpAny _ _ (Builtin.Tuple.tupleItemsOf (.ref t) >>=_) _ _ s;refine Y4z (tupleItemsOf_ ht ?_);refine Y4z (wpAny_typeOf hTs ?_);rw[K5z (by decide)];refine Y4z (fC hs pl pu ?_)
 have hyes:(((sIx items.size 0 lo:Nat):Int)==0&&(1:Int)==1&&(sIx items.size items.size hi-sIx items.size 0 lo)==items.size)=true:=by
  rw[hw.1,hw.2];simp
 show wpAny _ _ (if(((sIx items.size 0 lo:Nat):Int)==0&&(1:Int)==1&&(sIx items.size items.size hi-sIx items.size 0 lo)==items.size)=true then _ else _) _ _ s;rw[K5z hyes];refine Y4z (Y4z (wpAny_typeOf ht.typeIs (Z4z ?_)));rw[K5z (by decide)]
 first
  | exact Y4z (A5z (Y4z (Z4z (Z4z ⟨_,rfl,Z4z h⟩))))
  | exact Y4z (A5z (Y4z (Z4z ⟨_,rfl,Z4z h⟩)))
  | exact Y4z (A5z (Z4z ⟨_,rfl,Z4z h⟩))
end
end HT
namespace L2
open PySem PyProof.Rows
section
variable {X:Cx}
def rSlW(K:Z3):V->Option Int->Option Int->Hp->VK->Prop:=fun x lo hi H Q=>∃ a xs,x=.ref a/\SqT K H a xs /\
 (HT.sIx xs.length 0 lo=0/\HT.sIx xs.length xs.length hi=xs.length)/\Q (.ref a) H
theorem Gh:SlR X (rSlW X.K):=by
 intro z0 s σ H x v vl vu lo hi sl Q I rx hs pl pu h;obtain⟨a,xs,rfl,hx,hw,q⟩:=h;cases rx;obtain⟨its,r,ht,hz⟩:=I.tuple hx
 have hlen:its.toArray.size=xs.length:=by rw[R1z];exact r.length.symm
 refine⟨"tuple",_,A0z.lookup,ht.typeIs,?_⟩;exact HT.gH ht hs pl pu (by rw[hlen];exact hw) ⟨.ref a,H,I,rfl,q⟩
end
end L2
namespace DE
open PySem
inductive D where
 | non | bl (b:Bool) | int (i:Int) | str (x:Str) | tup (xs:List D) | lst (xs:List D)
 | exc (c:Str)
 | dic (ks:List (Sum Int Str)) (xs:List D)
 deriving Inhabited
inductive Sl where
 | no | sh (d:D) | ow (ds:List D) | oo (dss:List (List D))
 deriving Inhabited
abbrev Rho:=List (Str×Sl)
inductive Fl where
 | nxt (ρ:Rho) | ret (d:D)
 deriving Inhabited
def b2i(b:Bool):Int:=if b then 1 else 0
mutual
def deq:D->D->Bool
 | .non,.non=>true
 | .bl a,.bl b=>a==b
 | .bl a,.int j=>b2i a==j
 | .int i,.bl b=>i==b2i b
 | .int i,.int j=>i==j
 | .str x,.str y=>x==y
 | .tup xs,.tup ys=>nZ xs ys
 | .lst xs,.lst ys=>nZ xs ys
 | _,_=>false
def nZ:List D->List D->Bool
 | [],[]=>true
 | x::xs,y::ys=>deq x y&&nZ xs ys
 | _,_=>false
end
mutual
def dep:D->Nat
 | .tup xs=>deps xs+1
 | .lst xs=>deps xs+1
 | .exc _=>1000
 | .dic _ _=>1000
 | _=>0
def deps:List D->Nat
 | []=>0
 | x::xs=>max (dep x) (deps xs)
end
def asB:D->Option Bool
 | .bl b=>some b
 | _=>none
def asI:D->Option Int
 | .int i=>some i
 | _=>none
def items:D->Option (List D)
 | .tup xs=>some xs
 | .lst xs=>some xs
 | _=>none
def Ia:D->Option (List D)
 | .lst xs=>some xs
 | _=>none
def tupI:D->Option (List D)
 | .tup xs=>some xs
 | _=>none
def jy:List D->Option (List Int)
 | []=>some []
 | .int i::r=>(jy r).map (i::·)
 | _=>none
def Fq:List Int->Bool
 | x::y::r=>decide (x<=y)&&Fq (y::r)
 | _=>true
def whF:Nat:=2^9000
def qx:List D->Option (List Bool)
 | []=>some []
 | .bl i::r=>(qx r).map (i::·)
 | _=>none
def small(i:Int):Bool:=decide (-(2^64)<i)&&decide (i<2^64)
def mid(i:Int):Bool:=decide (i.natAbs.log2<10000)
def szl(n:Nat):Bool:=decide (n<=100000)
def binop:Operator->D->D->Option D
 | .Add,.int i,.int j=>some (.int (i+j))
 | .Add,.tup xs,.tup ys=>if szl (xs.length+ys.length) then some (.tup (xs++ys)) else none
 | .Add,.lst xs,.lst ys=>if szl (xs.length+ys.length) then some (.lst (xs++ys)) else none
 | .Sub,.int i,.int j=>some (.int (i-j))
 | .Mult,.int i,.int j=>if small i||small j||(mid i&&mid j) then some (.int (i*j)) else none
 | .Mult,.lst xs,.int j=>if decide (j<=1000)&&decide (-1000<=j)&&szl (xs.length*j.toNat) then some (.lst (List.replicate j.toNat xs).flatten) else none
 | .Mult,.tup xs,.int j=>if true then none else none
 | .FloorDiv,.int i,.int j=>if decide (0<j)&&decide (j<1073741824) then some (.int (i / j)) else if decide (j≠0)&&decide (j.natAbs.log2<9000) then some (.int (i.fdiv j)) else none
 | .Mod,.int i,.int j=>if decide (0<j) then some (.int (i%j)) else if decide (j≠0) then some (.int (i.fmod j)) else none
 | _,_,_=>none
def qw:List D->Option (List Str)
 | []=>some []
 | .str i::r=>(qw r).map (i::·)
 | _=>none
def inS(x:D)(ys:List D):Option Bool:=(qw ys).bind fun ss=>if decide (dep x<=50) then some (ss.any fun t=>deq (.str t) x) else none
def inT(x:D)(ys:List D):Option Bool:=match asI x,jy ys with
 | some i,some ns=>some (ns.any (· ==i))
 | _,_=>inS x ys
def Ph:D->Option (Sum Int Str)
 | .int i=>some (.inl i)
 | .str x=>some (.inr x)
 | _=>none
def JF(ks:List (Sum Int Str))(ds:List D)(k:Sum Int Str):Option D:=((ks.zip ds).find? fun q=>decide (q.1=k)).map (·.2)
def Ik:D->Bool
 | .non=>true
 | _=>false
def cmpop:CmpOp->D->D->Option D
 | .Eq,x,y=>if decide (dep x<=50)&&decide (dep y<=50) then some (.bl (deq x y)) else none
 | .NotEq,x,y=>if decide (dep x<=50)&&decide (dep y<=50) then some (.bl (!deq x y)) else none
 | .Lt,.int i,.int j=>some (.bl (decide (i<j)))
 | .LtE,.int i,.int j=>some (.bl (decide (i<=j)))
 | .Gt,.int i,.int j=>some (.bl (decide (j<i)))
 | .GtE,.int i,.int j=>some (.bl (decide (j<=i)))
 | .Is,x,.non=>some (.bl (Ik x))
 | .IsNot,x,.non=>some (.bl (!Ik x))
 | .Is,.bl a,.bl b=>some (.bl (a==b))
 | .IsNot,.bl a,.bl b=>some (.bl (!(a==b)))
 | .In,x,.tup ys=>(inT x ys).map fun b=>.bl b
 | .NotIn,x,.tup ys=>(inT x ys).map fun b=>.bl (!b)
 | .NotIn,.int i,.lst ys=>(jy ys).map fun ns=>.bl (!ns.any (· ==i))
 | _,_,_=>none
def ixD(n:Nat)(i:Int):Option Nat:=if 0<=i then(if i<n then some i.toNat else none) else if -(n:Int)<=i then some (i+n).toNat else none
def atD(xs:List D)(i:Int):Option D:=(ixD xs.length i).bind fun j=>xs[j]?
def gj(n d:Nat):Option Int->Nat
 | none=>d
 | some v=>if v<0 then(v+(n:Int)).toNat else min v.toNat n
def nG(xs:List D)(lo hi:Option Int):List D:=(xs.drop (gj xs.length 0 lo)).take (gj xs.length xs.length hi-gj xs.length 0 lo)
def JG:D->D->Option D
 | .tup xs,.int i=>atD xs i
 | .lst xs,.int i=>atD xs i
 | .dic ks ds,y=>(Ph y).bind (JF ks ds)
 | _,_=>none
mutual
def dZ:D->Bool
 | .non=>true
 | .bl _=>true
 | .int _=>true
 | .str _=>true
 | .tup ds=>lN ds
 | _=>false
def lN:List D->Bool
 | []=>true
 | d::r=>dZ d&&lN r
end
def lM:String->D->Bool
 | "int",.int _=>true
 | "int",.bl _=>true
 | "bool",.bl _=>true
 | "tuple",.tup _=>true
 | "list",.lst _=>true
 | "str",.str _=>true
 | _,_=>false
def blt:String->List D->Option D
 | "len",[d]=>do let l <- items d;some (.int l.length)
 | "all",[.lst xs]=>do let bs <- qx xs;some (.bl (bs.all id))
 | "sum",[.lst xs]=>do let is <- jy xs;some (.int is.sum)
 | "tuple",[d]=>do let l <- items d;some (.tup l)
 | "list",[d]=>do let l <- items d;some (.lst l)
 | "sorted",[.lst xs]=>do let ns <- jy xs;if Fq ns&&decide (ns.length<64) then some (.lst xs) else none
 | "min",[.int i,.int j]=>some (.int (if j<i then j else i))
 | "max",[.int i,.int j]=>some (.int (if j>i then j else i))
 | "abs",[.int i]=>some (.int (if i<0 then -i else i))
 | "int",[.bl b]=>some (.int (b2i b))
 | "int",[.int i]=>some (.int i)
 | _,_=>none
structure Cxt where
 cst:List (Str×D)
 blt:List (Str×String)
 fns:List Str
 exs:List Str
 top:Str
 rs:Bool
 call:Str->List D->Option D
 callx:Str->List D->Option Str
def isExc:D->Bool
 | .exc _=>true
 | .dic _ _=>true
 | _=>false
def JD(top c c':Str):Bool:=c==c'||c'==top
noncomputable def kE(scope sc:Scope):Scope :=
 { scope with names:=scope.names.map fun(n,k)=>if(k==.free&&sc.kind==.function&&sc.names.lookup n==some .cell) then(n,.cell) else(n,k) }
def Qx:Option Sl->Sl
 | some (.sh d)=>.sh d
 | _=>.no
def bM(scope:Scope)(ρ:Rho):Rho:=scope.names.map fun p=>(p.1,if p.2==.free then Qx (ρ.lookup p.1) else .no)
def o9:List Str->Bool
 | []=>true
 | x::r => !r.contains x&&o9 r
def iz(sc scope:Scope):Bool :=
 scope.kind==.function&&o9 (scope.names.map (·.1))&&scope.names.all fun p=>p.2 !=.free||sc.names.lookup p.1==some .cell||sc.names.lookup p.1==some .free
def cL:Rho->Str->Sl->Rho
 | [],_,_=>[]
 | (y,s)::r,x,v=>if x==y then(y,v)::r else(y,s)::cL r x v
def aA(x:Str):Bool:=x !="__debug__"&&x !="__classdict__"
def ownIn(scope:Scope)(x:Str):Bool:=scope.names.lookup x==some .local||scope.names.lookup x==some .cell
def bindNames(scope:Scope):List Expr->List D->Rho->Option Rho
 | [],[],ρ=>some ρ
 | .Name x _::es,d::ds,ρ=>if ownIn scope x&&(ρ.map (·.1)).contains x then bindNames scope es ds (cL ρ x (.sh d)) else none
 | _,_,_=>none
def gw(scope:Scope):Expr->D->Rho->Option Rho
 | .Name x _,d,ρ=>if ownIn scope x&&(ρ.map (·.1)).contains x then some (cL ρ x (.sh d)) else none
 | .Tuple es _ _,.tup ds,ρ=>bindNames scope es ds ρ
 | _,_,_=>none
def mZ(cx:Cxt)(sc:Scope)(x:Str):Bool:=sc.names.lookup x==some .globalImplicit
def bC(cx:Cxt)(sc:Scope)(x:Str):Option String:=if mZ cx sc x then cx.blt.lookup x else none
def bH(f:D->Option (Option D)):List D->Option (List D)
 | []=>some []
 | x::r=>do
  match <- f x with
  | some v=>(bH f r).map (v::·)
  | none=>bH f r
def cQ(lo hi:Int):List D:=(List.range (hi-lo).toNat).map fun(k:Nat)=>.int (lo+(k:Int))
def dnD(i j:Int):List D:=(List.range (i-j).toNat).map fun(k:Nat)=>.int (i-(k:Int))
def lq(f:Expr->Option D):List Expr->Option (List D)
 | []=>some []
 | e::r=>do let d <- f e;let ds <- lq f r;some (d::ds)
def cW(op:BoolOp)(f:Expr->Option D):List Expr->Option D
 | []=>none
 | [e]=>f e
 | e::e'::r=>do
  let d <- f e
  let b <- asB d
  match op with
  | .And=>if b then cW op f (e'::r) else some (.bl false)
  | .Or=>if b then some (.bl true) else cW op f (e'::r)
def cC(i:Int):Bool:=decide (-(2^62)<=i)&&decide (i<2^62)
def fO:Expr->Bool
 | .Tuple .. =>true
 | _=>false
inductive Wk where
 | r1 (a:Expr) | r2 (a b:Expr) | r3 (a b c:Expr) | zp (a b:Expr) | rv (a:Expr) | en (a:Expr) | sq
def qm(cx:Cxt)(sc:Scope):Expr->Wk
 | .Call (.Name x _) args [] _=>(match bC cx sc x with
  | some "range"=>(match args with | [a]=>.r1 a | [a,b]=>.r2 a b | [a,b,c]=>.r3 a b c | _=>.sq)
  | some "zip"=>(match args with | [a,b]=>.zp a b | _=>.sq)
  | some "reversed"=>(match args with | [a]=>.rv a | _=>.sq)
  | some "enumerate"=>(match args with | [a]=>.en a | _=>.sq)
  | _=>.sq)
 | _=>.sq
def enD(xs:List D):List D:=xs.zipIdx.map fun q=>.tup [.int (q.2:Int),q.1]
def Ox:D->D->Option (List D)
 | .tup xs,.tup ys=>some ((xs.zip ys).map fun q=>.tup [q.1,q.2])
 | .lst xs,.lst ys=>if true then none else none
 | .lst xs,.tup ys=>if true then none else none
 | .tup xs,.lst ys=>if true then none else none
 | _,_=>none
def evI(cx:Cxt)(tup:Bool)(f:Expr->Option D)(sc:Scope)(e:Expr):Option (List D):=match qm cx sc e with
 | .r1 a=>do let j <- (f a).bind asI;if cC j then some (cQ 0 j) else none
 | .r2 a b=>do let i <- (f a).bind asI;let j <- (f b).bind asI;if cC i&&cC j then some (cQ i j) else none
 | .r3 a b c=>do let i <- (f a).bind asI;let j <- (f b).bind asI;let s <- (f c).bind asI;if decide (s=-1)&&cC i&&cC j then some (dnD i j) else none
 | .zp a b=>do let x <- f a;let y <- f b;if tup then Ox x y else none
 | .rv a=>do let xs <- (f a).bind Ia;some xs.reverse
 | .en a=>do let x <- f a;if tup then(tupI x).map enD else none
 | .sq=>(f e).bind items
inductive Wc where
 | lr1 (a:Expr) | lr2 (a b:Expr) | tv (a:Expr) | ls (a:Expr) | tr1 (a:Expr) | al
def YG(cx:Cxt)(sc:Scope):Expr->Option Expr
 | .Call (.Name y _) [a] [] _=>if bC cx sc y==some "set" then some a else none
 | _=>none
def Ab(cx:Cxt)(sc:Scope)(b:String)(args:List Expr):Wc:=match args with
 | [e]=>(match b,qm cx sc e with
  | "list",.r1 a=>.lr1 a
  | "list",.r2 a b=>.lr2 a b
  | "tuple",.rv a=>.tv a
  | "tuple",.r1 a=>.tr1 a
  | "len",.sq=>(match YG cx sc e with | some a=>.ls a | none=>.al)
  | _,_=>.al)
 | _=>.al
def gD:String->Bool
 | "int"=>true
 | "bool"=>true
 | "tuple"=>true
 | "list"=>true
 | "str"=>true
 | _=>false
def tyOf(cx:Cxt)(sc:Scope):Expr->Option String
 | .Name x _=>bC cx sc x
 | _=>none
def xOf(cx:Cxt)(sc:Scope):Expr->Option Str
 | .Name x _=>if mZ cx sc x&&(cx.exs.contains x||x==cx.top)&&aA x then some x else none
 | _=>none
def cntB(b:Bool)(bs:List Bool):Nat:=(bs.filter (· ==b)).length
def m6(f:Expr->Option D):List Expr->Option Bool
 | []=>some true
 | [c]=>(f c).bind asB
 | _=>none
def iK(m:Str):D->D->Option D
 | .lst xs,.bl b=>do
  let bs <- qx xs
  if m=="count" then some (.int (cntB b bs)) else if m=="index"&&bs.contains b then some (.int (bs.idxOf b)) else none
 | .lst xs,.str c=>do
  let ss <- qw xs
  if m=="index"&&ss.contains c then some (.int (ss.idxOf c)) else none
 | _,_=>none
def aG:Expr->Bool
 | .Starred .. =>false
 | .Set .. =>false
 | .Slice .. =>false
 | _=>true
def YJ:D->Option Expr->Option Expr->Option Int->Option D
 | _,_,_,_=>none
def ev(cx:Cxt):Nat->Scope->Rho->Expr->Option D
 | 0,_,_,_=>none
 | n+1,sc,ρ,e=>match e with
  | .Name x _=>if aA x then(match sc.names.lookup x with
    | some .local=>(match ρ.lookup x with | some (.sh d)=>some d | _=>none)
    | some .cell=>(match ρ.lookup x with | some (.sh d)=>some d | _=>none)
    | some .free=>(match ρ.lookup x with | some (.sh d)=>some d | _=>none)
    | some .globalImplicit=>cx.cst.lookup x
    | _=>none) else none
  | .Constant c _ _=>(match c with
    | .none=>some .non
    | .bool b=>some (.bl b)
    | .int i=>some (.int i)
    | .str x=>some (.str x)
    | _=>none)
  | .BinOp a op b _=>do let x <- ev cx n sc ρ a;let y <- ev cx n sc ρ b;binop op x y
  | .UnaryOp op a _=>do
    let x <- ev cx n sc ρ a
    match op with
    | .USub=>(asI x).map fun i=>.int (-i)
    | .Not=>(asB x).map fun b=>.bl (!b)
    | _=>none
  | .BoolOp op es _=>cW op (ev cx n sc ρ) es
  | .Compare a ops bs _=>(match ops,bs with
    | [op],[b]=>do let x <- ev cx n sc ρ a;let y <- ev cx n sc ρ b;cmpop op x y
    | [op,op'],[b,c]=>if !aG c then none else do
     let x <- ev cx n sc ρ a
     let y <- ev cx n sc ρ b
     let k <- (cmpop op x y).bind asB
     if k then do let z <- ev cx n sc ρ c;cmpop op' y z else some (.bl false)
    | _,_=>none)
  | .IfExp c a b _=>do
    let k <- (ev cx n sc ρ c).bind asB
    if k then ev cx n sc ρ a else ev cx n sc ρ b
  | .Tuple es _ _=>do let ds <- lq (ev cx n sc ρ) es;if szl ds.length then some (.tup ds) else none
  | .List es _=>do let ds <- lq (ev cx n sc ρ) es;if szl ds.length then some (.lst ds) else none
  | .Subscript a b _=>do
    let x <- ev cx n sc ρ a
    match b with
    | .Slice lo hi st _=>(match st with
     | none=>do
      let l <- (match lo with | none=>some none | some e=>(ev cx n sc ρ e).bind fun d=>(asI d).map some)
      let h <- (match hi with | none=>some none | some e=>(ev cx n sc ρ e).bind fun d=>(asI d).map some)
      match x with
      | .tup xs=>if gj xs.length 0 l==0&&gj xs.length xs.length h==xs.length then some (.tup xs) else some (.tup (nG xs l h))
      | .lst xs=>some (.lst (nG xs l h))
      | _=>none
     | some c=>YJ x lo hi ((ev cx n sc ρ c).bind asI))
    | b=>do
     let y <- ev cx n sc ρ b
     JG x y
  | .Call f args kws p=>(match f,kws with
    | .Name x _,[] =>
     if mZ cx sc x then
      match cx.blt.lookup x with
      | some "isinstance"=>(match args with
       | [a,t]=>do
        let d <- ev cx n sc ρ a
        match xOf cx sc t with
        | some c'=>(match d with | .exc c=>if cx.exs.contains c then some (.bl (JD cx.top c c')) else none | _=>none)
        | none=>do
         let ty <- tyOf cx sc t
         match d with
         | .exc c=>if cx.exs.contains c&&ty=="ValueError" then some (.bl true) else none
         | .dic _ _=>none
         | d=>if gD ty then some (.bl (lM ty d)) else none
       | _=>none)
      | some b=>(match Ab cx sc b args with
       | .lr1 a=>do let j <- (ev cx n sc ρ a).bind asI;if cC j&&szl j.toNat then some (.lst (cQ 0 j)) else none
       | .lr2 a a'=>do let i <- (ev cx n sc ρ a).bind asI;let j <- (ev cx n sc ρ a').bind asI;if cC i&&cC j&&szl (j-i).toNat then some (.lst (cQ i j)) else none
       | .tr1 a=>if true then none else none
       | .tv a=>if true then none else none
       | .ls a=>if true then none else none
       | .al=>if args.isEmpty then none else do let ds <- lq (ev cx n sc ρ) args;blt b ds)
      | none=>if cx.fns.contains x && !args.isEmpty then do let ds <- lq (ev cx n sc ρ) args;cx.call x ds else none
     else none
    | .Name x _,[k]=>(match args with
     | [a]=>if bC cx sc x==some "max" then none else none
     | _=>none)
    | .Attribute (.Name y py) m ap,[]=>(match args with
     | [e]=>if ap.endLine==p.line then do
       let x <- ev cx n sc ρ (.Name y py)
       let z <- ev cx n sc ρ e
       iK m x z else none
     | _=>none)
    | .Attribute (.List ks lp) m ap,[]=>(match args with
     | [e]=>if ap.endLine==p.line then do
       let x <- ev cx n sc ρ (.List ks lp)
       let z <- ev cx n sc ρ e
       iK m x z else none
     | _=>none)
    | .Attribute (.Dict ks vs dp) m ap,[]=>if true then none else none
    | .Subscript (.List es _) ix _,[]=>if true then none else none
    | _,_=>none)
  | .ListComp elt gens scope _=>(match gens with
    | [⟨tg,iter,ifs,a⟩]=>if a==0&&iz sc scope then do
      let l <- evI cx (fO tg) (ev cx n sc ρ) sc iter
      if szl l.length then do
       let out <- bH (fun d=>do
        let ρ1 <- gw scope tg d (bM scope ρ)
        let b <- m6 (ev cx n (kE scope sc) ρ1) ifs
        if b then(ev cx n (kE scope sc) ρ1 elt).map some else some none) l
       some (.lst out)
      else none
     else none
    | _=>none)
  | _=>none
def evx(cx:Cxt):Nat->Scope->Rho->Expr->Option Str
 | 0,_,_,_=>none
 | n+1,sc,ρ,e=>match e with
  | .Call (.Name x _) args [] _=>if mZ cx sc x && !args.isEmpty&&args.all aG&&cx.fns.contains x then
    (match lq (ev cx n sc ρ) args with
    | some ds=>cx.callx x ds
    | none=>none)
   else none
  | .IfExp c a b _=>(match (ev cx n sc ρ c).bind asB with
   | some true=>evx cx n sc ρ a
   | some false=>evx cx n sc ρ b
   | none=>none)
  | _=>none
def dX:Nat->Str->Expr->Bool
 | 0,_,_=>true
 | n+1,x,e=>match e with
  | .Name y _=>x==y
  | .Constant .. =>false
  | .BinOp a _ b _=>dX n x a||dX n x b
  | .UnaryOp _ a _=>dX n x a
  | .BoolOp _ es _=>es.any (dX n x)
  | .Compare a _ bs _=>dX n x a||bs.any (dX n x)
  | .IfExp c a b _=>dX n x c||dX n x a||dX n x b
  | .Tuple es _ _=>es.any (dX n x)
  | .List es _=>es.any (dX n x)
  | .Subscript a b _=>dX n x a||dX n x b
  | .Slice lo hi st _=>(lo.map (dX n x)).getD false||(hi.map (dX n x)).getD false||(st.map (dX n x)).getD false
  | .Call f args kws _=>dX n x f||args.any (dX n x) || !kws.isEmpty
  | .ListComp elt gens _ _=>dX n x elt||gens.any fun g=>dX n x g.iter||g.ifs.any (dX n x)
  | _=>true
def frz(n:Nat)(e:Expr)(ρ:Rho):Rho:=ρ.map fun p=>match p.2 with
 | .ow ds=>if dX n p.1 e then(p.1,.sh (.lst ds)) else p
 | .oo dss=>if dX n p.1 e then(p.1,.sh (.lst (dss.map .lst))) else p
 | _=>p
def isL:Expr->Bool
 | .List .. =>true
 | _=>false
noncomputable def aaE:Operator->Bool
 | .Mult=>true
 | _=>false
def aX:Expr->Bool
 | .List .. =>true
 | .ListComp .. =>true
 | .BinOp a op _ _=>isL a&&aaE op
 | _=>false
def vD:Sl->Bool
 | .no=>true
 | .sh _=>true
 | _=>false
def Pj:Sl->Bool
 | .oo _=>true
 | _=>false
def jP(ρ:Rho)(x:Str):Bool:=ρ.all fun p=>p.1==x||vD p.2
def kZ(ρ:Rho)(x:Str):Bool:=ρ.all fun p=>p.1==x || !Pj p.2
def Pb(cx:Cxt)(sc:Scope):Expr->Bool
 | .Name y _=>aA y&&sc.names.lookup y==some .local
 | .Call (.Name f _) _ [] _=>mZ cx sc f&&(cx.blt.lookup f).isNone
 | _=>false
def aaF:Operator->Bool
 | .Add=>true
 | _=>false
def O4(cx:Cxt)(sc:Scope):Expr->Bool
 | .Call (.Name l _) [y] [] _=>bC cx sc l==some "list"&&Pb cx sc y
 | .ListComp .. =>true
 | .BinOp _ op b _=>aaF op&&aX b
 | _=>false
def xW(cx:Cxt)(sc:Scope):Expr->Bool
 | .Call (.Name l _) [y] [] _=>bC cx sc l==some "list"&&Pb cx sc y
 | _=>false
def ooE(cx:Cxt)(sc:Scope):Expr->Bool
 | .ListComp elt [⟨.Name _ _,_,[],_⟩] scope _=>O4 cx (kE scope sc) elt
 | _=>false
def Ae:List D->Option (List (List D))
 | []=>some []
 | .lst ds::r=>(Ae r).map (ds::·)
 | _=>none
def xU:D->Option (List (List D))
 | .lst ds=>Ae ds
 | _=>none
def Oo(x:Str):Expr->Option (Expr×Expr)
 | .BinOp (.Subscript (.Name y _) i _) .Add e _=>if x==y then some (i,e) else none
 | _=>none
def kJ(e:Expr)(d:D):Sl:=match d with
 | .lst ds=>if aX e then .ow ds else .sh (.lst ds)
 | d=>.sh d
def nc0:Expr->Bool
 | .Call .. =>true
 | .Name x _=>x !="__debug__"
 | .IfExp .. =>true
 | .ListComp .. =>true
 | .Compare .. =>true
 | _=>false
def nc1:Expr->Bool
 | .Subscript v _ _=>nc0 v
 | e=>nc0 e
def nc:Expr->Bool
 | .Subscript v i _=>nc0 v||nc0 i
 | .BinOp l _ r _=>nc1 l||nc1 r
 | e=>nc0 e
def BR:Expr->Bool
 | .Constant .. =>true
 | _=>false
def swp(sc:Scope)(ts:List Expr)(value:Expr):Option Bool:=match value with
 | .Tuple vs _ _=>(match ts,vs with
  | [.Name x px,.Name y py],[a,b] =>
   if sc.names.lookup x==some .local&&sc.names.lookup y==some .local then
    (if px.line==py.line&&x !=y&&(nc a||nc b)&&aG a&&aG b then some true else if BR a&&BR b then some false else none)
   else some false
  | [.Name x _,.Name y _,.Name z _],[_,_,_]=>if sc.names.lookup x==some .cell&&sc.names.lookup y==some .cell&&sc.names.lookup z==some .cell then some false else none
  | _,_=>none)
 | _=>some false
def rdA:Expr->Bool
 | .Call (.Name _ _) [.Subscript _ _ _,.Subscript _ _ _] [] _=>true
 | _=>false
def bV(f:D->Rho->Option Fl):List D->Rho->Option Fl
 | [],ρ=>some (.nxt ρ)
 | x::r,ρ=>do
  match <- f x ρ with
  | .ret d=>some (.ret d)
  | .nxt ρ'=>bV f r ρ'
def jo(f:Rho->Stmt->Option Fl):List Stmt->Rho->Option Fl
 | [],ρ=>some (.nxt ρ)
 | s::r,ρ=>do
  match <- f ρ s with
  | .ret d=>some (.ret d)
  | .nxt ρ'=>jo f r ρ'
def rO(c:Rho->Option (Rho×Bool))(f:Rho->Option Fl):Nat->Rho->Option Fl
 | 0,_=>none
 | m+1,ρ=>match c ρ with
  | none=>none
  | some (ρ1,b)=>if b then(match f ρ1 with
   | none=>none
   | some (.ret d)=>some (.ret d)
   | some (.nxt ρ')=>rO c f m ρ') else some (.nxt ρ1)
def uK:List ExceptHandler->List Stmt->List Stmt->Option (Str×Str×Str)
 | [.ExceptHandler (some (.Name c _)) (some e) [.Assign [.Name kn _] (.Name e' _) _] _],[],[]=>if e==e' then some (c,e,kn) else none
 | _,_,_=>none
def qR:Expr->Option Expr
 | .UnaryOp .Not (.Call f as ks p) _=>some (.Call f as ks p)
 | _=>none
def gQ(f:Rho->Stmt->Option Fl)(g:Rho->Stmt->Option (Str×Rho)):List Stmt->Rho->Option (Str×Rho)
 | [],_=>none
 | s::r,ρ=>match f ρ s with
  | some (.nxt ρ')=>gQ f g r ρ'
  | some (.ret _)=>none
  | none=>g ρ s
mutual
def st(cx:Cxt)(F:Nat):Nat->Scope->Rho->Stmt->Option Fl
 | 0,_,_,_=>none
 | n+1,sc,ρ,s=>match s with
  | .Pass _=>some (.nxt ρ)
  | .Return v _=>(match v with
    | none=>some (.ret .non)
    | some e=>(ev cx F sc (frz F e ρ) e).map .ret)
  | .Assign tgs e _=>(match tgs with
    | [.Name x _]=>if ownIn sc x&&(ρ.map (·.1)).contains x then
      (if ooE cx sc e&&jP (frz F e ρ) x then(ev cx F sc (frz F e ρ) e).bind fun d=>(xU d).map fun dss=>.nxt (cL (frz F e ρ) x (.oo dss))
      else if xW cx sc e&&kZ (frz F e ρ) x then(ev cx F sc (frz F e ρ) e).bind fun d=>(Ia d).map fun ds=>.nxt (cL (frz F e ρ) x (.ow ds))
      else if aX e && !kZ (frz F e ρ) x then(if kZ (frz F e (frz 0 e ρ)) x then(ev cx F sc (frz F e (frz 0 e ρ)) e).map fun d=>.nxt (cL (frz F e (frz 0 e ρ)) x (kJ e d)) else none)
      else if rdA e then(ev cx F sc (frz F e ρ) e).bind fun d=>if dZ d then some (.nxt (cL ρ x (.sh d))) else none
      else(ev cx F sc (frz F e ρ) e).map fun d=>.nxt (cL (frz F e ρ) x (kJ e d))) else none
    | [.Tuple es _ _]=>if(swp sc es e).isSome||false then do
      let d <- ev cx F sc (frz F e ρ) e
      let l <- items d
      (bindNames sc es l (frz F e ρ)).map .nxt
     else none
    | [.Subscript t ie _]=>(match t with
     | .Name x _=>(match Oo x e with
      | some (i2,e2)=>if true then none else none
      | none=>(match (frz F ie (frz F e ρ)).lookup x with
       | some (.ow ds)=>if ownIn sc x&&aA x && !aX e then do
         let d <- ev cx F sc (frz F ie (frz F e ρ)) e
         let j <- (ev cx F sc (frz F ie (frz F e ρ)) ie).bind asI
         let n <- ixD ds.length j
         some (.nxt (cL (frz F ie (frz F e ρ)) x (.ow (ds.set n d))))
        else none
       | some (.sh _)=>(match ρ.lookup x with
        | some (.ow ds)=>if ownIn sc x&&aA x && !aX e then do
          let d <- ev cx F sc (frz F e ρ) e
          let j <- (ev cx F sc (frz F e ρ) ie).bind asI
          let n <- ixD ds.length j
          if dZ d then some (.nxt (cL ρ x (.ow (ds.set n d)))) else none
         else none
        | _=>none)
       | _=>none))
     | .Subscript (.Name x _) i1 _=>(match ρ.lookup x with
      | some (.oo dss)=>if ownIn sc x&&aA x && !aX e then do
        let d <- ev cx F sc (frz F e ρ) e
        let j1 <- (ev cx F sc (frz F i1 ρ) i1).bind asI
        let n1 <- ixD dss.length j1
        let ds <- dss[n1]?
        let j2 <- (ev cx F sc (frz F ie ρ) ie).bind asI
        let n2 <- ixD ds.length j2
        if dZ d then some (.nxt (cL ρ x (.oo (dss.set n1 (ds.set n2 d))))) else none
       else none
      | _=>none)
     | _=>none)
    | _=>none)
  | .Expr v _=>(match v with
    | .Call (.Attribute (.Name x _) m ap) [e] [] cp=>(match (frz F e ρ).lookup x with
      | some (.ow ds)=>if ownIn sc x&&aA x&&ap.endLine==cp.line then
        if m=="append"&&szl (ds.length+1) then(ev cx F sc (frz F e ρ) e).map fun d=>.nxt (cL (frz F e ρ) x (.ow (ds++[d])))
        else if m=="extend" then do
         let d <- ev cx F sc (frz F e ρ) e
         (match d with
         | .lst zs=>if szl (ds.length+zs.length) then some (.nxt (cL (frz F e ρ) x (.ow (ds++zs)))) else none
         | .tup zs=>if szl (ds.length+zs.length) then some (.nxt (cL (frz F e ρ) x (.ow (ds++zs)))) else none
         | _=>none)
        else none
       else none
      | some (.sh _)=>(match ρ.lookup x with
       | some (.ow ds)=>if ownIn sc x&&aA x&&ap.endLine==cp.line&&(m=="append"&&szl (ds.length+1)) then do
         let d <- ev cx F sc (frz F e ρ) e
         if dZ d then some (.nxt (cL ρ x (.ow (ds++[d])))) else none
        else none
       | _=>none)
      | _=>none)
    | .ListComp .. =>none
    | .Constant .. =>none
    | e=>(ev cx F sc (frz F e ρ) e).map fun _=>.nxt (frz F e ρ))
  | .If c a b _=>do
    let k <- (ev cx F sc (frz F c ρ) c).bind asB
    if k then jo (fun ρ s=>st cx F n sc ρ s) a ρ else jo (fun ρ s=>st cx F n sc ρ s) b ρ
  | .For tg iter body orelse _=>(match orelse with
    | []=>do
     let l <- evI cx (fO tg) (ev cx F sc (frz F iter ρ)) sc iter
     bV (fun d ρ=>do let ρ1 <- gw sc tg d ρ;jo (fun ρ s=>st cx F n sc ρ s) body ρ1) l (frz F iter ρ)
    | _=>none)
  | .While c body orelse _=>(match orelse with
    | []=>rO (fun ρ=>((ev cx F sc (frz F c ρ) c).bind asB).map fun b=>(frz F c ρ,b)) (fun ρ=>jo (fun ρ s=>st cx F n sc ρ s) body ρ) whF ρ
    | _=>none)
  | .Try body hs orelse fin _=>(match uK hs orelse fin with
   | some (c,e,kn)=>(match jo (fun ρ s=>st cx F n sc ρ s) body ρ with
    | some fl=>some fl
    | none=>(match gQ (fun ρ s=>st cx F n sc ρ s) (fun ρ s=>stx { cx with rs:=false } F n sc ρ s) body ρ with
     | some (c',ρ')=>if mZ cx sc c&&c==cx.top&&cx.exs.contains c'&&e !=kn&&aA e&&sc.names.lookup e==some .local&&sc.names.lookup kn==some .local&&(ρ.map (·.1)).contains e&&(ρ.map (·.1)).contains kn&&aA c then
       some (.nxt (cL (cL ρ' kn (.sh (.exc c'))) e .no)) else none
     | none=>none))
   | none=>none)
  | _=>none
def stx(cx:Cxt)(F:Nat):Nat->Scope->Rho->Stmt->Option (Str×Rho)
 | 0,_,_,_=>none
 | n+1,sc,ρ,s=>match s with
  | .Raise (some (.Call (.Name c _) [.Constant (.str _) _ _] [] _)) none _=>if cx.rs&&mZ cx sc c&&cx.exs.contains c&&aA c then some (c,ρ) else none
  | .Expr e _=>if aX e then none else(evx cx F sc (frz F e ρ) e).map fun c=>(c,frz F e ρ)
  | .Assign [.Name _ _] e _=>if aX e then none else(evx cx F sc (frz F e ρ) e).map fun c=>(c,frz F e ρ)
  | .If c a b _=>(match (ev cx F sc (frz F c ρ) c).bind asB with
    | some k=>gQ (fun ρ s=>st cx F n sc ρ s) (fun ρ s=>stx cx F n sc ρ s) (if k then a else b) (frz F c ρ)
    | none=>(match qR c with
     | some e=>(evx cx F sc (frz F c ρ) e).map fun x=>(x,frz F c ρ)
     | none=>none))
  | _=>none
end
structure Fd where
 ps:List Str
 N:List Str
 sc:Scope
 body:List Stmt
def cX(fd:Fd)(ds:List D):Rho:=(fd.ps.zip (ds.map Sl.sh))++(fd.N.drop fd.ps.length).map fun x=>(x,.no)
structure Pg where
 cst:List (Str×D)
 blt:List (Str×String)
 defs:List (Str×Fd)
 exs:List Str:=[]
 top:Str:="MinorError"
inductive Rs where
 | val (d:D) | exc (c:Str)
def Rs.val?:Option Rs->Option D
 | some (.val d)=>some d
 | _=>none
def Rs.exc?:Option Rs->Option Str
 | some (.exc c)=>some c
 | _=>none
def Pg.cx(P:Pg)(c:Str->List D->Option Rs):Cxt:=⟨P.cst,P.blt,P.defs.map (·.1),P.exs,P.top,true,fun f ds=>Rs.val? (c f ds),fun f ds=>Rs.exc? (c f ds)⟩
def pW(cx:Cxt)(F:Nat)(sc:Scope)(body:List Stmt)(ρ:Rho):Option Rs:=match jo (fun ρ s=>st cx F F sc ρ s) body ρ with
 | some (.ret d)=>some (.val d)
 | some (.nxt _)=>some (.val .non)
 | none=>(match gQ (fun ρ s=>st cx F F sc ρ s) (fun ρ s=>stx cx F F sc ρ s) body ρ with
  | some (c,_)=>some (.exc c)
  | none=>none)
@[irreducible] def fH (P:Pg) (F:Nat):Nat->Str->List D->Option Rs
 | 0,_,_=>none
 | k+1,f,ds=>match P.defs.lookup f with
  | none=>none
  | some fd=>if ds.length==fd.ps.length then pW (P.cx (fH P F k)) F fd.sc fd.body (cX fd ds) else none
theorem nP{F:Nat}{f:Str}:fH P F 0 f ds=none:=by with_unfolding_all rfl
theorem kh{F k:Nat}{f:Str}:fH P F (k+1) f ds=(match P.defs.lookup f with
  | none=>none
  | some fd=>if ds.length==fd.ps.length then pW (P.cx (fH P F k)) F fd.sc fd.body (cX fd ds) else none):=by with_unfolding_all rfl
@[irreducible] def aB (P:Pg) (F k:Nat) (f:Str) (ds:List D):Option D:=Rs.val? (fH P F k f ds)
theorem f9{F k:Nat}{f:Str}:aB P F k f ds=Rs.val? (fH P F k f ds):=by with_unfolding_all rfl
@[irreducible] def jw (P:Pg) (F k:Nat) (f:Str) (ds:List D):Option Str:=Rs.exc? (fH P F k f ds)
theorem uw{F k:Nat}{f:Str}:jw P F k f ds=Rs.exc? (fH P F k f ds):=by with_unfolding_all rfl
end DE
namespace L2
open PySem PySem.Spec PyProof.Rows PySem.SeqAt
section
variable {prog:Program} {w:World} {A:Around} {I:Addr} {fp wr:List Addr} {n:Nat} {P:Nat->Value->Prop} {St:Nat->Heap->Prop}
end
end L2
namespace L2
open PySem PySem.Spec PyProof.Rows
section
variable (P:Program) (w:World)
end
section
variable {P:Program} {w:World} {H H':Hp} {h h':Heap} {a:Addr} {o:HO}
end
section
variable {P:Program} {w:World} {H:Hp} {h h':Heap} {x e:Addr} {o':HO}
end
section
variable {fs fs' ex ex':List Addr} {H H1 H2:Hp} {h h1 h2 h':Heap} {a x e:Addr} {o:HO}
end
section
variable {X:Cx} {z0:List (Addr×Obj)} {σ:List (Option V)} {H H':Hp} {s:Shared} {h':Heap}
end
section
variable {X:Cx}
variable {a b:Expr} {ta tb:TE} {pos:Pos}
variable {tA tB':TT} {rest:List Expr}
end
section
variable {X:Cx} {z0:List (Addr×Obj)} {σ:St} {H:Hp} {s:Shared} {a:Addr} {xs ys:List V}
end
section
variable {X:Cx} {z0:List (Addr×Obj)} {σ:St} {H:Hp} {s:Shared} {E:Value->Shared->Prop}
end
section
variable {X:Cx} {st:Stmt} {rest:List Stmt} {t u:TS} {e:Expr} {te:TE} {pos:Pos}
end
section
variable {X:Cx} {pos:Pos}
end
section
variable {X:Cx} {pos:Pos}
end
section
variable {X:Cx} {tg:Expr}
end
section
variable {X:Cx} {a b c:Expr} {ta tb tc:TE} {pos:Pos}
end
section
variable {X:Cx} {a b c:Expr} {ta tb tc:TE} {pos:Pos}
end
section
variable {prog:Program} {w:World} {A:Around} {E:Value->Shared->Prop} {s:Shared} {K:Z3} {x dx C f:Addr} {mA:Str->Option Value} {name:Str} {v:Value}
end
section
variable {P:Program} {w:World} {H H':Hp} {h h':Heap} {a C dx:Addr} {fs fs':List (Str×V)}
end
section
variable {X:Cx} {z0:List (Addr×Obj)} {σ:St} {H:Hp} {s:Shared} {a C dx:Addr} {fs:List (Str×V)} {f:Str} {v:V} {A:Around} {E:Value->Shared->Prop}
end
section
variable {X:Cx} {o e value:Expr} {f:Str} {pos pos' tpos:Pos} {ta tv:TE}
end
section
variable {X:Cx} {z0:List (Addr×Obj)} {σ:St} {H:Hp} {s:Shared} {A:Around} {E:Value->Shared->Prop} {Q:Value->Shared->Prop} {c:Value} {b:Bool}
end
section
variable {X:Cx} {e:Expr} {es:List Expr} {te:TE} {t:TA} {pos:Pos}
end
section
variable {X:Cx} {z0:List (Addr×Obj)} {σ:St} {H:Hp} {s s':Shared}
end
section
variable {X:Cx} {CX:CXT} {k:Nat} {f C:Addr} {fd:FuncData} {ps:List Str} {sp:Sp} {dvs:List V} {ds:List Value} {E:XK} {x m:Str} {p pos apos:Pos} {e o:Expr} {es:List Expr} {ta:TE} {t:TA}
end
section
variable {X:Cx} {CX:CXT} {k:Nat} {f C:Addr} {fd:FuncData} {ps ks:List Str} {sp:Sp} {E:XK} {x m:Str} {p pos apos kpos:Pos} {e o:Expr} {es:List Expr} {kws:List Keyword} {te ta:TE} {t tk:TA} {nm:Option Str}
variable {g:List Value->List Value->List Value} {gV:List V->List V->List V}
end
section
variable {X:Cx} {x:Str} {p pos:Pos} {e:Expr} {es:List Expr} {t:TA} {id T:String} {r:List V->Hp->VK->Prop}
end
section
variable {κ:Type} [DecidableEq κ]
def Ad(kvs:List (κ×V))(k:κ):Option V:=(kvs.find? fun kv=>decide (kv.1=k)).map (·.2)
theorem Al{p:κ×V}{r:List (κ×V)}{k:κ}(e:p.1=k):Ad (p::r) k=some p.2:=by simp[Ad,List.find?_cons,e]
theorem Am{p:κ×V}{r:List (κ×V)}{k:κ}(e:¬ p.1=k):Ad (p::r) k=Ad r k:=by simp[Ad,List.find?_cons,e]
theorem KV.val{kvs:List (κ×V)}{vs:List (κ×Value)}(r:KV kvs vs)(k:κ):JV (Ad kvs k) (valueAt vs k):=by
 unfold KV at r
 induction r with
 | nil=>exact True.intro
 | @cons p q ps qs h t ih =>
  obtain⟨h1,h2⟩:=h
  by_cases e:p.1=k
  ·have e':q.1=k:=h1.symm.trans e
   have b:valueAt (q::qs) k=some q.2:=by simp[valueAt,List.find?_cons,e']
   rw[Al e,b];exact h2
  ·have e':¬ q.1=k:=fun z=>e (h1.trans z)
   have b:valueAt (q::qs) k=valueAt qs k:=by simp[valueAt,List.find?_cons,e']
   rw[Am e,b];exact ih
end
theorem Xu{k:Key}{u:Value}(r:RelV (kV k) u):(dW P w).is k u=true:=by
 cases k with
 | inl i=>obtain⟨t,e⟩:=(show ∃ t,u=Value.int i t from r);subst e;exact qZ P w i t
 | inr x=>obtain⟨t,e⟩:=(show ∃ t,u=Value.str x t from r);subst e;exact qY P w x t
section
variable {P:Program} {w:World} {H:Hp} {h:Heap} {a:Addr}
theorem QG{u:HO}(ok:HOk P w H h)(e:Rd H a u):d8 P w H h a u:=e.ok ok
theorem Yg{kvs:List (Key×V)}(ok:HOk P w H h)(e:Rd H a (.dK kvs)):kvs.length<=sizeLine/\(a==sysModules)=false/\∃ vs,KV kvs vs/\h.DictOf (dW P w) a vs :=
 show d8 P w H h a (.dK kvs) from QG ok e
end
section
variable {X:Cx} {z0:List (Addr×Obj)} {σ:St} {H:Hp} {s:Shared} {a:Addr} {y v:V} {u r:Value} {o:Option V} {A:Around} {E:Value->Shared->Prop}
end
section
variable {X:Cx} {z0:List (Addr×Obj)} {σ:St} {H:Hp} {s:Shared} {a:Addr} {kvs:List (Key×V)} {k:Key} {u:Value} {A:Around} {E:Value->Shared->Prop}
end
def aaV(i:Expr):Prop:=∀ ov iv,subscripted i false ov iv=operate [ov,iv] (getItem ov iv)
theorem Gb{prog:Program}{w:World}{A:Around}{E:Value->Shared->Prop}{s:Shared}{env:Env}{value slice:Expr}{pos:Pos}{T id:String}{Q:Value->Shared->Prop}
  (hl:typeLookup (.type T) "__getitem__"=pure (some (.builtin id))) (hs:aaV slice)
  (h:wpAny (model prog w) A (eval value env) (fun o s₁=>wpAny (model prog w) A (eval slice env) (fun i s₂=>s₂.TypeIs o T/\wpAny (model prog w) A (getItem o i) Q E s₂) E s₁) E s) :
  wpAny (model prog w) A (eval (.Subscript value slice pos) env) Q E s:=by
 refine Subscript_ (X4z h (fun o s₁ h₁=>X4z h₁ (fun i s₂ h₂=>?_) fun _ _ x=>x) fun _ _ x=>x);obtain⟨hT,h₂⟩:=h₂;unfold subscriptTail;refine Y4z ?_;rw[getitemInPython_of_ne hT.not_modules];refine Y4z (wpAny_specialOf hT hl ?_)
 have fin:wpAny (model prog w) A (subscripted slice false o i) (fun r s₃=>wpAny (model prog w) A (letTemporaryGo value o r >>=fun _=>pure r) Q E s₃) E s₂:=by
  rw[hs o i];exact wpAny_operating (X4z h₂ (fun r s₃ h₃=>Y4z (wpAny_letTemporaryGo (Z4z h₃))) fun _ _ x=>x)
 first
  | exact Z4z (Y4z fin)
  | exact Y4z (Z4z (Y4z fin))
  | exact Y4z fin
section
variable {X:Cx} {o i e value:Expr} {pos pos' tpos:Pos} {td ty tv:TE}
end
section
variable {X:Cx} {pos:Pos}
end
section
variable {X:Cx} {z0:List (Addr×Obj)} {σ:St} {H:Hp} {s:Shared} {a:Addr} {y d:V} {u r:Value} {o:Option V} {A:Around} {E:Value->Shared->Prop}
end
section
variable {X:Cx} {o e f:Expr} {apos cpos:Pos} {td ty tx:TE}
end
section
variable {X:Cx} {z0:List (Addr×Obj)} {σ:St} {H:Hp} {s:Shared} {a:Addr} {kvs:List (Key×V)} {A:Around} {E:Value->Shared->Prop}
end
section
variable {X:Cx} {z0:List (Addr×Obj)} {σ:St} {H:Hp} {s:Shared} {a:Addr} {y:V} {u:Value} {A:Around} {E:Value->Shared->Prop}
end
end L2
namespace Att
open PySem PySem.W PySem.Calls PyProof.Rows
section
variable {prog:Program} {w:World} {A:Around} {E:Value->Shared->Prop} {s:Shared} {K:Frag}
end
end Att
namespace L2
open PySem PySem.Spec PyProof.Rows
section
variable {P:Program} {w:World} {K:Z3} {mg:Str->Option Value} {base:Heap}
end
section
variable {X:Cx}
end
section
variable {κ:Type} [DecidableEq κ]
end
def KDc(K:Z3)(a:Addr)(kvs:List (Key×V)):Prop:=∃ (o:Obj) (es:Array DictEntry) (n:Nat),K.lookup a=some o/\o.ExactDict/\o.data=.dict es n/\(a==sysModules)=false/\(kvs.map (·.1)).Nodup/\Paired (fun(p:Key×V) (e:DictEntry)=>(∃ x t,p.1=.inr x/\e.key=.str x t)/\RelV p.2 e.val) kvs es.toList
def hsO(o:Obj):List Int:=match o.data with | .dict es _=>es.toList.map (·.hash) | _=>[]
def hsX(w:World)(o:Obj):List Int:=match o.data with | .dict es _=>es.toList.map (fun e=>match e.key with | .str x _=>hashStr w x | _=>e.hash) | _=>[]
def KnW(K:Z3)(w:World):Prop:=K.map (fun p=>hsO p.2)=K.map (fun p=>hsX w p.2)
theorem lookup_mem{α:Type}:∀ {l:List (Addr×α)} {a:Addr} {o:α},l.lookup a=some o->(a,o)∈l
 | (b,u)::r,a,o,h=>by
  rw[E2z] at h
  cases hb:a==b with
  | true =>
   rw[hb] at h
   have e1:a=b:=by simpa using hb
   cases h;subst e1;exact F1z
  | false =>
   rw[hb] at h;exact Q0z _ (lookup_mem h)
theorem KnW.at{K:Z3}{es:Array DictEntry}{n:Nat}(kw:KnW K w)(h:K.lookup a=some o)(hd:o.data=.dict es n):∀ e∈es.toList,∀ x t,e.key=.str x t->e.hash=hashStr w x:=by
 have:=List.map_inj_left.mp kw (a,o) (lookup_mem h);simp only[hsO,hsX,hd] at this;intro e he x t hk;have q:=List.map_inj_left.mp this e he;rw[hk] at q;exact q
theorem yq{P:Program}{kvs:List (Key×V)}{es:List DictEntry}(p:Paired (fun(p:Key×V) (e:DictEntry)=>(∃ x t,p.1=.inr x/\e.key=.str x t)/\RelV p.2 e.val) kvs es)(hh:∀ e∈es,∀ x t,e.key=.str x t->e.hash=hashStr w x):
  ∃ vs:List (Key×Value),KV kvs vs/\Pairs (dW P w) es vs/\vs.map (·.1)=kvs.map (·.1)/\∀ e∈es,∃ k,(dW P w).is k e.key=true/\e.hash=(dW P w).hash k:=by
 induction p with
 | nil=>exact⟨[],.nil,.nil,rfl,fun e he=>nomatch he⟩
 | @cons q e kvs es h t ih =>
  obtain⟨vs,h1,h2,h3,h4⟩:=ih fun e he=>hh e (Q0z _ he);obtain⟨⟨x,tk,g1,g2⟩,g3⟩:=h
  have gi:(dW P w).is q.1 e.key=true:=by
   rw[g1,g2];show Value.isStrOf x (.str x tk)=true;simp[Value.isStrOf]
  refine⟨(q.1,e.val)::vs,.cons ⟨rfl,g3⟩ h1,.cons gi rfl h2,by simp[h3],fun e' he=>?_⟩;rcases List.mem_cons.mp he with r | r
  ·subst r
   refine⟨q.1,gi,?_⟩;rw[hh _ F1z x tk g2,g1];rfl
  ·exact h4 e' r
def DAt(K:Z3)(H:Hp)(a:Addr)(kvs:List (Key×V)):Prop:=Rd H a (.dK kvs)\/KDc K a kvs
section
variable {X:Cx} {z0:List (Addr×Obj)} {σ:St} {H:Hp} {s:Shared} {a:Addr} {kvs:List (Key×V)} {k:Key} {v d:V} {u r:Value} {A:Around} {E:Value->Shared->Prop} {o i e f:Expr} {td ty tx:TE} {pos apos cpos:Pos}
theorem CN(I:Inv X z0 σ H s)(kw:KnW X.K X.w)(g:DAt X.K H a kvs):(a==sysModules)=false/\∃ vs,KV kvs vs/\s.heap.DictOf (dW X.prog X.w) a vs:=by
 rcases g with g | ⟨o,es,n,h1,h2,h3,h4,h5,h6⟩
 ·exact(Yg I.hok g).2
 ·obtain⟨vs,g1,g2,g3,g4⟩:=yq (P:=X.prog) h6 (kw.at h1 h3)
  exact⟨h4,vs,g1,o,es,n,I.kIn a o h1,h2,h3,fun e he=>g4 e (by simpa using he),g2,by rw[g3];exact h5⟩
theorem yr{Q:Value->Shared->Prop}(I:Inv X z0 σ H s)(kw:KnW X.K X.w)(g:DAt X.K H a kvs)(l:some v=Ad kvs k)(ry:RelV (kV k) u)(h:∀ w' s',Inv X z0 σ H s'->RelV v w'->Q w' s'):
  s.TypeIs (.ref a) "dict"/\wpAny (model X.prog X.w) A (getItem (.ref a) u) Q E s:=by
 obtain⟨hd,vs,rel,dd⟩:=CN I kw g;obtain⟨w',hw,rw'⟩:=JV.some_of (v:=v) (o:=valueAt vs k) (by rw[l];exact rel.val k);exact⟨dd.typeIs,wpAny_getItem_of (Xu ry) dd.mapOf hw (h w' _ (I.tok _) rw')⟩
def Qo(K:Z3)(td ty:TE):TE:=fun σ H Q=>td σ H fun x H1=>ty σ H1 fun y H2=>∃ a v kvs k,x=.ref a/\DAt K H2 a kvs/\y=kV k/\some v=Ad kvs k/\Q v H2
theorem G6(kw:KnW X.K X.w)(ho:PE X o td)(hi:PE X i ty)(hs:aaV i):PE X (.Subscript o i pos) (Qo X.K td ty):=by
 intro z0 s σ H Q I h;refine Gb PySem.F.slot_dict_getitem.lookup hs (thn (ho z0 s σ H _ I h) fun u s1 ⟨x,H1,I1,rx,q1⟩=>thn (hi z0 s1 σ H1 _ I1 q1) fun iv s2 ⟨y,H2,I2,ry,a,v,kvs,k,ex,g,ey,l,q2⟩=>?_);subst ex;subst ey;obtain rfl:u=Value.ref a:=rx;exact yr I2 kw g l ry fun w' s3 I3 rw'=>⟨v,H2,I3,rw',q2⟩
end
section
variable {P:Program} {w:World} {H H':Hp} {h h':Heap} {a:Addr} {o:HO}
theorem d8.there(x:d8 P w H h a o):∃ ob,h.get? a=some ob:=by
 cases o with
 | lst xs=>obtain⟨_,_,_,_,e⟩:=x;exact⟨_,e⟩
 | tup xs=>obtain⟨_,_,_,ob,e,_⟩:=x;exact⟨_,e⟩
 | dK kvs=>obtain⟨_,_,_,_,o,_,_,e,_⟩:=x;exact⟨_,e⟩
 | dT kvs=>obtain⟨_,_,_,_,o,_,_,e,_⟩:=x;exact⟨_,e⟩
 | set S n=>obtain⟨o,_,_,_,e,_⟩:=x;exact⟨_,e⟩
 | ins C dx fs=>obtain⟨_,_,_,e,_⟩:=x;exact⟨_,e⟩
 | own y=>exact x
 | xd fs=>obtain⟨_,⟨_,_,_,e,_⟩,_⟩:=x;exact⟨_,e⟩
 | rng lo hi=>obtain⟨_,_,_,e⟩:=x;exact⟨_,e⟩
 | frz ob u=>obtain⟨e,_⟩:=x;exact⟨_,e⟩
 | tbl ps=>exact⟨_,(show h.get? a=some _ from x)⟩
 | met f y=>exact⟨_,(show h.get? a=some _ from x)⟩
 | ext φ=>exact x.2.1
theorem HOk.none_of(x:HOk P w H h)(e:h.get? a=none):H a=none:=by
 cases q:H a with
 | none=>rfl
 | some u =>
  obtain⟨ob,r⟩:=(x a u q).there;rw[e] at r;cases r
theorem HOk.part{B:Heap}(x:HOk P w H h)(k:∀ b u ob,H b=some u->h.get? b=some ob->B.get? b=some ob):HOk P w H B:=fun b u e=>by
 refine(x b u e).stay (fun c v hc q=>?_) (fun _ q=>q) fun _ _ q=>q;rcases hc with rfl | hc
 ·exact k _ _ _ e q
 ·exact k _ _ _ hc q
end
section
variable {fs fs' ex:List Addr} {H H':Hp} {h h1 h2 B:Heap}
theorem Un.fly(U:Un fs [] H H' h h1)(kB:∀ b o,h.get? b=some o->H b=none->b∉fs->B.get? b=some o)(tB:∀ b o,h.get? b=some o->b∉fs->∃ o',B.get? b=some o')(st:B.StaysIn h2)
  (nf:∀ b∈fs,∀ o,h1.get? b=some o->∀ vs,o.data≠.fields vs) (up:h1.UpToSlots h2):Un fs [] H H' h h2 where
 keep:=fun b o q n hb _=>st b o (kB b o q n hb)
 slot:=fun b o q n hb hx=>by
  obtain⟨sl,e⟩:=U.slot b o q n hb hx;obtain⟨sl',e'⟩:=up b _ e (nf b hb _ e);exact⟨sl',e'⟩
 free:=U.free
 there:=fun b o q hx=>by
  by_cases hb:b∈fs
  ·obtain⟨o',e⟩:=U.there b o q hx
   obtain⟨sl,e'⟩:=up b _ e (nf b hb _ e);exact⟨_,e'⟩
  ·obtain⟨o',e⟩:=tB b o q hb
   exact⟨o',st b o' e⟩
 tups:=U.tups
 frzs:=U.frzs
 tbls:=U.tbls
theorem Un.restrict(U:Un fs' ex H H' h h1)(hs:∀ b o,b∈fs'->h.get? b=some o->b∈fs):Un fs ex H H' h h1 where
 keep:=fun b o q n hb hx=>U.keep b o q n (fun z=>hb (hs b o z q)) hx
 slot:=fun b o q n _ hx=>U.any q n hx
 free:=U.free
 there:=U.there
 tups:=U.tups
 frzs:=U.frzs
 tbls:=U.tbls
end
structure Fly (P:Program) (w:World) (outer:List Env) (H:Hp) (s:Shared) (H':Hp) (ea:Addr) (cls:Value) (s':Shared):Prop where
 os:s'.os=s.os
 bare:AllBare s'.gens
 un:Un (frs outer) [] H H' s.heap s'.heap
 fly:∃ B a0,Heap.FlyingW B outer ea cls a0 s'.heap/\HOk P w H' B/\(∀ b o,s.heap.get? b=some o->H b=none->b∉frs outer->B.get? b=some o)/\(∀ b o,s.heap.get? b=some o->b∉frs outer->∃ o',B.get? b=some o')
 fresh:s.heap.get? ea=none
def CX1(P:Program)(w:World):CXT:=fun outer H s E e s'=>∃ ea cls H',e=.ref ea/\Fly P w outer H s H' ea cls s'/\H' ea=none/\E cls none H'
theorem Q5:Passes (CX1 P w) X E0:=fun _ _ _ _ _ _ _ h=>by obtain⟨_,_,_,_,_,_,z⟩:=h;exact z.elim
theorem Bu{B h:Heap}{l:List Env}(f:h.FunFrames B l):∀ b∈frs l,∀ o,h.get? b=some o->∀ vs,o.data≠.fields vs:=fun b hb o e=>by
 obtain⟨_,o',e',hd⟩:=f.mem hb;rw[e] at e';cases e';exact hd
section
variable {P:Program} {w:World} {K:Z3} {mg:Str->Option Value} {base:Heap} {N:List Str} {qual:Str} {scope:Scope} {f:Addr} {cd:Value} {A:Around} {outer:List Env} {s:Shared} {H:Hp} {E:XK}
theorem tY{env:Env}(hf:env.frame=some L):frs (env::outer)=L::frs outer:=by
 unfold frs;rw[W0z,hf]
theorem xJ:Passes (CX1 P w) (iT (CX1 P w) P w K mg base N qual scope f cd A outer s H E) E:=by
 intro z0 σ H1 s1 e s' I h;obtain⟨ea,cls,H',rfl,Fl,hn,hE⟩:=h;obtain⟨B,a0,fl,hokB,kB,tB⟩:=Fl.fly;have hfr:frs (iT (CX1 P w) P w K mg base N qual scope f cd A outer s H E).stack=s.heap.objs.size::frs outer:=tY rfl;have nL:∀ b o,s.heap.get? b=some o->b≠s.heap.objs.size:=fun b o q=>E4z (D4z q)
 have nin:∀ b o,s.heap.get? b=some o->b∉frs outer->b∉frs (iT (CX1 P w) P w K mg base N qual scope f cd A outer s H E).stack:=fun b o q hb z=>by
  rw[hfr] at z;rcases List.mem_cons.mp z with z | z
  ·exact nL b o q z
  ·exact hb z
 have noex:∀ b:Addr,b∉(iT (CX1 P w) P w K mg base N qual scope f cd A outer s H E).ex:=fun b z=>absurd (show b∈([]:List Addr) from z) (by simp);show wpAny _ _ (leaving _ (.ref ea)) _ _ _;refine wpAny_leaves_onW I.ok.frames rfl fl fun h2 fl2 up=>?_;refine⟨ea,cls,H',rfl,⟨Fl.os.trans I.os,Fl.bare,?_,⟨B,a0,fl2,hokB,fun b o q n hb=>?_,fun b o q hb=>?_⟩,?_⟩,hn,hE⟩
 ·have U1:=Un.fly Fl.un kB tB fl2.1 (Bu fl.2.2.1) up
  have U0:Un (frs (iT (CX1 P w) P w K mg base N qual scope f cd A outer s H E).stack) [] H H1 s.heap s1.heap:=I.base.mono (fun b hb=>by rw[hfr];exact Q0z _ hb) (fun b hb=>hb)
  exact(U0.trans U1).restrict fun b o hb q=>by
   rw[hfr] at hb;rcases List.mem_cons.mp hb with z | z
   ·exact absurd z (nL b o q)
   ·exact z
 ·exact kB b o (I.base.keep b o q n hb (noex b)) (I.base.free b o q n (noex b)) (nin b o q hb)
 ·obtain⟨o1,q1⟩:=I.base.there b o q (noex b)
  exact tB b o1 q1 (nin b o q hb)
 ·cases q:s.heap.get? ea with
  | none=>rfl
  | some o =>
   obtain⟨o1,q1⟩:=I.base.there ea o q (noex ea);rw[Fl.fresh] at q1;cases q1
theorem uO{H1:Hp}{C e:Addr}(I:Inv (iT (CX1 P w) P w K mg base N qual scope f cd A outer s H E) z0 σ H1 s1)(hx:Heap.MadeExcOf s1.heap h' e (.ref C) args)(hE:E (.ref C) none H1):
  (iT (CX1 P w) P w K mg base N qual scope f cd A outer s H E).xe (.ref e) { s1 with heap:=h' }:=by
 have hfr:frs (iT (CX1 P w) P w K mg base N qual scope f cd A outer s H E).stack=s.heap.objs.size::frs outer:=tY rfl;have nL:∀ b o,s.heap.get? b=some o->b≠s.heap.objs.size:=fun b o q=>E4z (D4z q)
 have nin:∀ b o,s.heap.get? b=some o->b∉frs outer->b∉frs (iT (CX1 P w) P w K mg base N qual scope f cd A outer s H E).stack:=fun b o q hb z=>by
  rw[hfr] at z;rcases List.mem_cons.mp z with z | z
  ·exact nL b o q z
  ·exact hb z
 have noex:∀ b:Addr,b∉(iT (CX1 P w) P w K mg base N qual scope f cd A outer s H E).ex:=fun b z=>absurd (show b∈([]:List Addr) from z) (by simp);have hin:∀ env∈(iT (CX1 P w) P w K mg base N qual scope f cd A outer s H E).stack,∀ b,env.frame=some b->b∈frs (iT (CX1 P w) P w K mg base N qual scope f cd A outer s H E).stack:=fun env he b hb=>List.mem_filterMap.mpr ⟨env,he,hb⟩;show wpAny _ _ (leaving _ (.ref e)) _ _ _;have kB:∀ b o,s1.heap.get? b=some o->b∉frs (iT (CX1 P w) P w K mg base N qual scope f cd A outer s H E).stack->(PySem.W.hideAll s1.heap (frs (iT (CX1 P w) P w K mg base N qual scope f cd A outer s H E).stack)).get? b=some o:=fun b o q hb=>PySem.W.hideAll_get _ q hb;refine wpAny_leaves_madeW I.ok.frames rfl (fun b o q=>PySem.W.of_hideAll _ q) (PySem.W.funFrames_hide I.stack hin) hx fun h2 t x1 x2 x3 x4=>?_;have up:s1.heap.UpToSlots h2:=(Heap.UpToSlots.of_keeps hx.keeps).trans x4
 have hok:HOk P w H1 (PySem.W.hideAll s1.heap (frs (iT (CX1 P w) P w K mg base N qual scope f cd A outer s H E).stack)):=HOk.part I.hok fun b u ob hu q=>kB b ob q fun z=>by
  rw[I.stkFree b z] at hu;cases hu
 have hn:H1 e=none:=HOk.none_of I.hok hx.new;refine⟨e,.ref C,H1,rfl,⟨I.os,I.bare,?_,⟨_,_,x1,hok,fun b o q n hb=>?_,fun b o q hb=>?_⟩,?_⟩,hn,hE⟩
 ·have U1:Un (frs (iT (CX1 P w) P w K mg base N qual scope f cd A outer s H E).stack) [] H1 H1 s1.heap h2:=Un.fly Un.refl (fun b o q _ hb=>kB b o q hb) (fun b o q hb=>⟨o,kB b o q hb⟩) x1.1 (Bu I.stack) up
  have U0:Un (frs (iT (CX1 P w) P w K mg base N qual scope f cd A outer s H E).stack) [] H H1 s.heap s1.heap:=I.base.mono (fun b hb=>by rw[hfr];exact Q0z _ hb) (fun b hb=>hb)
  exact(U0.trans U1).restrict fun b o hb q=>by
   rw[hfr] at hb;rcases List.mem_cons.mp hb with z | z
   ·exact absurd z (nL b o q)
   ·exact z
 ·exact kB b o (I.base.keep b o q n hb (noex b)) (nin b o q hb)
 ·obtain⟨o1,q1⟩:=I.base.there b o q (noex b)
  exact⟨o1,kB b o1 q1 (nin b o q hb)⟩
 ·cases q:s.heap.get? e with
  | none=>rfl
  | some o =>
   obtain⟨o1,q1⟩:=I.base.there e o q (noex e);have:=hx.new;rw[this] at q1;cases q1
end
def nsOk(K:Z3)(N:Addr):Bool:=match K.lookup N with
 | some ⟨_,_,.dict es _,_⟩=>es.toList.all (fun e=>match e.key with | .str _ _=>true | _=>false)&&(PySem.W.nsIn K N "__init__"==some none)
 | _=>false
def xIn(K:Z3)(C M:Addr):Bool:=match K.lookup C,K.lookup M with
 | some ⟨.type "type",_,.cls cd,sl⟩,some ⟨_,_,.cls cdM,_⟩ =>
  (match sl.toList with | [_,_,_,_,some (.builtin n),_]=>n=="ValueError.__new__" | _=>false)&&cd.mro==[.ref C,.ref M,.type "ValueError",.type "Exception",.type "BaseException",.type "object"] && !cd.hasDel&&nsOk K cd.ns&&nsOk K cdM.ns
 | _,_=>false
theorem xP{K:Z3}{N:Addr}(e:nsOk K N=true):∃ mN:Str->Option Value,mN "__init__"=none/\∀ h:Heap,K.In h->h.Ns N mN:=by
 unfold nsOk at e;split at e
 ·rename_i c d es n sl ho
  rw[D2z] at e;refine⟨nsFind es,?_,fun h X=>⟨_,es,n,X _ _ ho,rfl,fun en hen=>?_,fun _=>rfl⟩⟩
  ·have e2:PySem.W.nsIn K N "__init__"=some none:=by simpa using e.2
   unfold PySem.W.nsIn at e2;rw[ho] at e2;simp only at e2;unfold nsFind findBy;rw[<- Array.find?_toList];split at e2
   ·cases e2
   ·rename_i q
    rw[q];rfl
  ·have:=M2z.mp e.1 en (by simpa using hen)
   split at this
   ·rename_i x t hk;exact⟨x,t,hk⟩
   ·cases this
 ·cases e
theorem J2{K:Z3}{C M:Addr}(e:xIn K C M=true):∃ nm q N bs hdct sn sub ab col dd k0 k1 k2 k3 k5 mN,mN "__init__"=none/\∀ h:Heap,K.In h ->
  h.get? C=some (excClassObj nm q C N bs [.ref M,.type "ValueError",.type "Exception",.type "BaseException",.type "object"] hdct sn sub ab col dd k0 k1 k2 k3 k5 "ValueError.__new__")/\h.Ns N mN /\
   OwnTail h [.type "ValueError",.type "Exception",.type "BaseException",.type "object"] [.ref M,.type "ValueError",.type "Exception",.type "BaseException",.type "object"]:=by
 unfold xIn at e;split at e
 ·rename_i dd cd sl cM dM cdM slM hC hM
  simp only[D2z,X1z] at e;obtain⟨⟨⟨⟨e1,e2⟩,e3⟩,e4⟩,e5⟩:=e;split at e1
  ·rename_i k0 k1 k2 k3 n k5 hs
   have en:n="ValueError.__new__":=by simpa using e1
   subst en
   have hsl:sl = #[k0,k1,k2,k3,some (.builtin "ValueError.__new__"),k5]:=by
    obtain⟨l⟩:=sl;simp only at hs;rw[hs]
   have em:cd.mro=[.ref C,.ref M,.type "ValueError",.type "Exception",.type "BaseException",.type "object"]:=by simpa using e2
   obtain⟨nm,bs,mro,ns,qn,hd,sn,sub,ab,col,del⟩:=cd;simp only at em e3 e4;subst em e3 hsl;obtain⟨mN,n2,n1⟩:=xP e4;obtain⟨mM,m2,m1⟩:=xP e5;exact⟨_,_,_,_,_,_,_,_,_,_,_,_,_,_,_,mN,n2,fun h X=>⟨X _ _ hC,n1 h X,.own (X _ _ hM) (m1 h X) m2 .base⟩⟩
  ·cases e1
 ·cases e
section
variable {X:Cx}
theorem Bc{x:Str}{C M:Addr}{np cpos pos:Pos}{txt:Str}{j:Nat}{p1:Pos}{Q:Flow->Shared->Prop}{z0:List (Addr×Obj)}{σ:St}{H:Hp}{s:Shared}(I:Inv X z0 σ H s)(hc:X.A.handled=none)(hg:Gl X x)(hm:X.mg x=some (.ref C))(hd:(x==("__debug__":Str))=false)(hx:xIn X.K C M=true)
  (k:∀ (s2:Shared) (h':Heap) (e:Addr) (args:List Value),Inv X z0 σ H s2->Heap.MadeExcOf s2.heap h' e (.ref C) args->X.xe (.ref e) { s2 with heap:=h' }) :
  wpAny (model X.prog X.w) X.A (exec (.Raise (some (.Call (.Name x np) [.Constant (.str txt) j p1] [] cpos)) none pos) X.env) Q X.xe s:=by
 obtain⟨nm,q,N,bs,hdct,sn,sub,ab,col,dd,k0,k1,k2,k3,k5,mN,hni,fx⟩:=J2 hx
 refine wpAny_Raise_call_subU (C:=C) (nm:=nm) (q:=q) (N:=N) (bs:=bs) (bm:=[.ref M,.type "ValueError",.type "Exception",.type "BaseException",.type "object"]) (hdct:=hdct) (sn:=sn) (sub:=sub) (ab:=ab) (col:=col) (dd:=dd) (k0:=k0) (k1:=k1) (k2:=k2) (k3:=k3) (k5:=k5)
  F.excBase_ValueError (by decide) F.excBase_ValueError (mN:=mN) ((fx _ I.kIn).2.2.hasType F.excBase_ValueError.hasBase) hc rfl hni (jT I hg hm ⟨rfl,?_⟩ hd)
 have ha:PA X [.Constant (.str txt) j p1] (Km (tC (.str txt)) Yz):=bw Du cV;show wpAny _ _ (evalArgs (.ref C) true (backTo cpos ((false,eval (.Constant (.str txt) j p1) X.env)::starEach [] X.env)) []) _ _ _;refine Calls.evalArgs_plain (X4z (ha cpos z0 s σ H (fun vs H1=>vs.length<=1/\H1=H) I ⟨Q4z _,rfl⟩) (fun us s2 hq=>?_) fun _ _ y=>y);obtain⟨vs,H1,I1,r,q1,rfl⟩:=hq;obtain⟨f1,f2,f3⟩:=fx _ I1.kIn
 have h1:(1:Nat)<=sizeLine:=by decide
 have h2:=r.length;exact⟨rfl,(show us.length<=sizeLine by omega),f1,f2,f3,fun h' e hm'=>k s2 h' e us I1 hm'⟩
end
abbrev Cx.inSuite(X:Cx)(e:Value)(xe:Value->Shared->Prop):Cx:={ X with A:=X.A.mark (some e),calm:=false,xe:=xe }
section
variable {X:Cx} {z0:List (Addr×Obj)} {σ:St} {H H':Hp} {s s':Shared} {e:Value} {xe:Value->Shared->Prop}
theorem Inv.inSuite(I:Inv X z0 σ H s)(e:Value)(xe:Value->Shared->Prop):Inv (X.inSuite e xe) z0 σ H s :=
 ⟨⟨I.ok.mod,I.ok.kind,I.ok.glob,I.ok.blt,I.ok.above,I.ok.inj,I.ok.has,I.ok.cab,fun z=>(nomatch z),I.ok.frames,I.ok.stk,I.ok.exf,I.ok.bs,I.ok.bsz,I.ok.noex,I.ok.exfs,I.ok.funs,I.ok.frf⟩,I.os,I.bare,I.base,I.loc,I.cell,I.free,I.freeC,I.pin,I.hok,I.len⟩
theorem Inv.outSuite(ok:X.Ok)(I:Inv (X.inSuite e xe) z0 σ H s):Inv X z0 σ H s:=⟨ok,I.os,I.bare,I.base,I.loc,I.cell,I.free,I.freeC,I.pin,I.hok,I.len⟩
theorem Inv.unbound{i:Nat}{x:Str}{v:Option Value}{m:Str->Option Value}{t':Nat}(I:Inv X z0 σ H s)(hN:X.N.Nodup)(hi:X.N[i]?=some x)(hm:s.heap.Ns X.env.locals m)(hn:h'.Ns X.env.locals (fun y=>if y=x then v else m y))(hs:Heap.SameBut X.env.locals s.heap h'):
  Inv X z0 (σ.set i none) H { s with heap:=h',toks:=t' }:=by
 have cne:=I.cne
 have hiσ:i<σ.length:=by rw[I.len];exact(List.getElem?_eq_some_iff.mp hi).1
 obtain⟨m0,hn0,hl⟩:=id I.loc
 have hmm:∀ y,m0 y=m y:=fun y=>by
  obtain⟨o1,es1,ep1,g1,g2,_,g3⟩:=hn0;obtain⟨o2,es2,ep2,f1,f2,_,f3⟩:=hm;rw[g1] at f1;cases f1;rw[g2] at f2;cases f2;rw[<- g3,<- f3]
 obtain⟨oL,_,_,hoL,_⟩:=id hn0
 have tracked:HOk X.prog X.w H h':=fun b ob e=>by
  refine(I.hok b ob e).stay (fun c w' hc q=>(hs.2 c ?_).trans q) (fun _ q=>q) fun _ _ q=>q;rintro rfl;rcases hc with rfl | hc
  ·rw[I.free] at e;cases e
  ·rw[I.free] at hc;cases hc
 refine⟨I.ok,I.os,I.bare,⟨fun b o e n hb hx=>?_,fun b o e n hb hx=>?_,I.base.free,fun b o e hx=>?_,I.base.tups,I.base.frzs,I.base.tbls⟩,⟨_,hn,fun j y v' e1 e2 e3=>?_⟩,fun y c e=>?_,I.free,I.freeC,fun p hp=>?_,tracked,by simpa using I.len⟩
 ·exact(hs.2 b (E4z (E1z (D4z e) I.ok.above))).trans (I.base.keep b o e n hb hx)
 ·obtain⟨sl,e1⟩:=I.base.slot b o e n hb hx
  exact⟨sl,(hs.2 b (E4z (E1z (D4z e) I.ok.above))).trans e1⟩
 ·obtain⟨o',e1⟩:=I.base.there b o e hx
  exact⟨o',(hs.2 b (E4z (E1z (D4z e) I.ok.above))).trans e1⟩
 ·by_cases hj:j=i
  ·subst hj
   rw[List.getElem?_set_self hiσ] at e2;cases e2
  ·rw[List.getElem?_set_ne (I5z hj)] at e2
   obtain⟨u',r',q⟩:=hl j y v' e1 e2 e3;refine⟨u',r',?_⟩;rcases q with⟨k,e⟩ | ⟨k,c,e,z⟩
   ·refine .inl ⟨k,?_⟩
    have:y≠x:=fun e=>hj (mW hN e1 (e▸hi));simp only[this,H5z];rw[<- hmm];exact e
   ·exact .inr ⟨k,c,e,z.sameBut hs (cne y c e)⟩
 ·obtain⟨w',z⟩:=I.cell y c e
  exact⟨w',z.sameBut hs (cne y c e)⟩
 ·obtain⟨e,n,ne,nf,d⟩:=I.pin p hp
  exact⟨(hs.2 p.1 ne).trans e,n,ne,nf,d⟩
end
def isX(a:Addr)(cls:Value)(h:Heap):Prop:=∃ o,h.get? a=some o/\o.cls=cls/\∃ vs,o.data=.fields vs
theorem Nj{H:Hp}{cls:Value}(x:isX a cls h):d8 P w H h a (.ext (isX a cls)) :=
 ⟨x,let ⟨o,e,_⟩:=x;⟨o,e⟩,fun _ _ ⟨o,e,r⟩ k=>⟨o,k o e,r⟩⟩
section
variable {X:Cx} {z0:List (Addr×Obj)} {σ:St} {H H':Hp} {s s':Shared} {ea:Addr} {cls:Value}
theorem Fly.lands{B:Heap}{t':Nat}(I:Inv X z0 σ H s)(Fl:Fly X.prog X.w X.stack H s H' ea cls s')(hokB:HOk X.prog X.w H' B)(U:Un (frs X.stack) [] H H' s.heap h2)(st:B.StaysIn h2):Inv X z0 σ H' { s' with heap:=h2,toks:=t' } :=
 I.call' (s':={ s' with heap:=h2,toks:=t' }) Fl.os U (hokB.kept st) Fl.bare (fun b z=>absurd z (by simp))
end
def lY(K:Z3)(C:Addr):Bool :=
 PySem.W.findIn K (.ref C) "__getattribute__"==some (some (.builtin "BaseException.__getattribute__"))&&PySem.W.findIn K (.ref C) "__getattr__"==some none&&PySem.W.findIn K (.ref C) "__class__"==some (some (.builtin "object.__class__")) &&
  PySem.W.mroIn K C (.type "object")==some true&&PySem.W.mroIn K C (.type "BaseException")==some true&&(PySem.W.clsIn K C).isSome
section
open PySem.Builtin PySem.Builtin.ObjectAttr PySem.Builtin.Getset_descriptor
variable {prog:Program} {w:World} {A:Around} {E:Value->Shared->Prop} {K:Z3} {h:Heap} {g:Array GenState} {d:Drawn} {t:Nat} {os:OsState} {a C:Addr} {o:Obj}
theorem xty{M:Model}(hx:h.get? a=some o)(hc:o.cls=.ref C):PySem.W.Looks M h (typeOf (.ref a)) (.ref C):=hc▸(PySem.W.Looks.ld hx).andThen .now
theorem uF{R:Result->Shared->Prop}(X:K.In h)(hx:h.get? a=some o)(hc:o.cls=.ref C)(hm:PySem.W.mroIn K C (.type "object")=some true)(hq:R (.ok (.ret (.ref C))) ⟨h,g,d,t,os⟩):
  codeAny (model prog w) A (.call (.builtin "getset_descriptor.__get__") ⟨[.builtin "object.__class__",.ref a,.ref C],[]⟩) R ⟨h,g,d,t,os⟩:=by
 have hT5:(⟨h,g,d,t,os⟩:Shared).TypeIs (.builtin "object.__class__") "getset_descriptor":=P0z;have L0:=xty (M:=model prog w) hx hc;have L1:=PySem.W.looks_mroIn (M:=model prog w) X hm;refine codeAny_call_builtin PySem.W.KF.slot_gs.plain PySem.W.KF.entry_gs (PySem.W.KF.slot_gs.check _ _ _ _ _ _ _ _ PySem.W.KF.type_class (PySem.W.KF.args_gs _ _ _) ?_);unfold Builtin.«getset_descriptor.__get__» descrGet;rw[PySem.W.dga_obj];refine Y4z (Z4z ?_);unfold descrGetter descrCheckInstance descrNameAndClass isInstance;simp only[PySem.W.KF.owner_class]
 repeat lk
 refine⟨Code.quiet_builtin _ (by decide +kernel),codeAny_builtin PySem.W.KF.entry_class ?_⟩;unfold Builtin.«object.__class__» shownTypeOf
 repeat lk
 exact hq
theorem oh{tk:Tok}{Q:Fin->Shared->Prop}(X:K.In h)(hx:h.get? a=some o)(hc:o.cls=.ref C)(hm:PySem.W.mroIn K C (.type "object")=some true)(hf:PySem.W.findIn K (.ref C) "__class__"=some (some (.builtin "object.__class__")))(hq:Q (.done (.ret (.ref C))) ⟨h,g,d,t,os⟩):
  wpAny (model prog w) A (Builtin.«object.__getattribute__» ⟨[.ref a,.str "__class__" tk],[]⟩) Q E ⟨h,g,d,t,os⟩:=by
 have hT5:(⟨h,g,d,t,os⟩:Shared).TypeIs (.builtin "object.__class__") "getset_descriptor":=P0z;have f5:=P0z;have f6:=F.slot_gs_get.lookup;have f7:=F.slot_gs_set.lookup;have LF:=S0z (M:=model prog w) X hf
 repeat (any_goals (first | assumption | (with_reducible refine wpAny_loadPart_at hx ?_;rw[hc]) | with_reducible refine LF.at ?_ | wp_step))
 refine uF X hx hc hm ?_
 repeat (any_goals (first | assumption | wp_step))
theorem ou{M:Model}{nameV:Value}{Q:Unit->Shared->Prop}(X:K.In h)(hx:h.get? a=some o)(hc:o.cls=.ref C)(hm:PySem.W.mroIn K C (.type "BaseException")=some true)(hq:Q () ⟨h,g,d,t,os⟩):wpAny M A (checkBuiltinCall "BaseException.__getattribute__" ⟨[.ref a,nameV],[]⟩) Q E ⟨h,g,d,t,os⟩:=by
 have hk:builtinKind "BaseException.__getattribute__"=some .slot:=by decide +kernel
 have hsplit:splitId "BaseException.__getattribute__"=some ("BaseException","__getattribute__"):=by decide +kernel
 have ha:=F.args_bexc_ga (.ref a) nameV;have LM:=PySem.W.looks_mroIn (M:=M) X hm;simp only[checkBuiltinCall,hk,hsplit];refine Y4z ?_
 ·unfold isInstance
  repeat (first | (with_reducible refine wpAny_loadPart_at hx ?_;rw[hc]) | with_reducible refine LM.at ?_ | wp_step)
  exact hq
theorem vO{tk:Tok}{fill expr:Bool}{Q:Value->Shared->Prop}(X:K.In h)(hx:h.get? a=some o)(hc:o.cls=.ref C)(hA:lY K C=true)(hq:Q (.ref C) ⟨h,g,d,t,os⟩):
  wpAny (model prog w) A (getAttrBy (.ref a) (.str "__class__" tk) fill expr) Q E ⟨h,g,d,t,os⟩:=by
 unfold lY at hA;simp only[D2z,C5z] at hA;obtain⟨⟨⟨⟨⟨g1,g2⟩,g3⟩,g4⟩,g5⟩,g6⟩:=hA;have f3:=F.excAttr_ValueError.ga.bind (.ref a)
 have hx0:(expr&&onTheHeap (Value.builtin "BaseException.__getattribute__"))=false:=by cases expr<;>rfl
 have hx2:(Value.builtin "BaseException.__getattribute__"==Value.builtin "object.__getattribute__")=false:=by decide +kernel
 have hx1:(onTheHeap (Value.ref C)&&Value.builtin "BaseException.__getattribute__"==Value.builtin "object.__getattribute__")=false:=by rw[hx2];rfl
 have L1:=S0z (M:=model prog w) X g1;have L2':=S0z (M:=model prog w) X g2
 repeat (any_goals (first | assumption | (with_reducible refine wpAny_loadPart_at hx ?_;rw[hc]) | with_reducible refine L1.at ?_ | with_reducible refine L2'.at ?_ | wp_step))
 refine codeAny_call_builtin F.excAttr_ValueError.ga.plain F.entry_bexc_ga (ou X hx hc g5 (oh X hx hc g4 g3 ?_))
 repeat (any_goals (first | assumption | wp_step))
theorem JW{Q:Option Value->Shared->Prop}(X:K.In h)(hx:h.get? a=some o)(hc:o.cls=.ref C)(hA:lY K C=true)(hq:Q (some (.ref C)) ⟨h,g,d,t+1,os⟩):
  wpAny (model prog w) A (getAttr? (.ref a) "__class__") Q E ⟨h,g,d,t,os⟩:=by
 unfold getAttr? getAttrBy?
 repeat (any_goals (first | assumption | with_reducible apply vO X hx hc hA | wp_step))
end
theorem BP{K:Z3}{a C:Addr}(hA:lY K C=true):PySem.W.KitX K (.ref a) (.ref C) (isX a (.ref C)) where
 ty:=fun _ _ _ ⟨o,e,c,_⟩=>xty e c
 it:=fun _ _ X _=>by
  unfold lY at hA;rw[D2z] at hA;obtain⟨cdD,hcD⟩:=Option.isSome_iff_exists.mp hA.2;unfold PySem.W.clsIn at hcD;split at hcD
  ·rename_i c' d' cd' sl' ho
   intro A' Q' E' s' k q;unfold isType loadHead;exact Y4z (wpAny_loadPart (k _ _ (X _ _ ho)) (Z4z q))
  ·cases hcD
 ne:=fun h tp dd its n sl X htp=>by
  unfold lY at hA;rw[D2z] at hA;obtain⟨cdD,hcD⟩:=Option.isSome_iff_exists.mp hA.2;refine Bool.eq_false_iff.mpr fun q=>?_;have e:C=tp:=Value.ref.inj (C5z.mp q);subst e;unfold PySem.W.clsIn at hcD;split at hcD
  ·rename_i c' d' cd' sl' ho
   have z:=(X _ _ ho).symm.trans htp;cases z
  ·cases hcD
 ca:=fun {prog w A E Q s} X p k=>by
  obtain⟨h,g,d,t,os⟩:=s;obtain⟨o,e,c,_⟩:=p;exact JW X e c hA k
section
variable {X:Cx} {z0:List (Addr×Obj)} {σ:St} {H H':Hp} {s s':Shared} {ea C:Addr}
theorem caught{c n kn:Str}{Mc:Addr}{np p1 p2 p3 hp:Pos}{i j:Nat}{Q:Flow->Shared->Prop}(I:Inv X z0 σ H s)(Fl:Fly X.prog X.w X.stack H s H' ea (.ref C) s')(hn:H' ea=none)(hst:X.stack=X.env::X.outer/\X.env.frame=some X.env.locals)
  (hg:Gl X c) (hm:X.mg c=some (.ref Mc)) (hcd:(c==("__debug__":Str))=false) (hx:PySem.W.exmOne X.K (.ref C) (.ref Mc)=some true) (nd:X.N.Nodup) (hi:X.N[i]?=some n) (hj:X.N[j]?=some kn) (hij:i≠j)
  (ln:X.env.scope.names.lookup n=some .local) (lk:X.env.scope.names.lookup kn=some .local) (d1:(n==("__debug__":Str))=false) (d2:(n==("__classdict__":Str))=false)
  (k:∀ s2,Inv X z0 ((σ.set j (some (.ref ea))).set i none) (upd H' ea (.ext (isX ea (.ref C)))) s2->Q .next s2) :
  wpAny (model X.prog X.w) X.A (noteFrame (.ref ea) X.env) (fun _ s₂=>wpAny (model X.prog X.w) X.A (setFlight (.ref ea) none) (fun _ s₃ =>
   wpAny (model X.prog X.w) X.A (handleBy (.ref ea) X.env [.ExceptHandler (some (.Name c np)) (some n) [.Assign [.Name kn p1] (.Name n p2) p3] hp]) Q X.xe s₃) X.xe s₂) X.xe s':=by
 obtain⟨B,a0,fl,hokB,kB,tB⟩:=Fl.fly
 have hfr:X.A.frames=some (X.env::X.outer):=by rw[<- hst.1];exact I.ok.frames
 have fl':Heap.FlyingW B (X.env::X.outer) ea (.ref C) a0 s'.heap:=by rw[<- hst.1];exact fl
 refine wpAny_looks_onW hfr hst.2 fl' fun h4 held4 up4=>?_;refine wpAny_landsW held4 fun h5 fl5 up5=>?_;have U5:Un (frs X.stack) [] H H' s.heap h5:=Un.fly Fl.un kB tB fl5.1 (Bu fl.2.2.1) (up4.trans up5);have I5:Inv X z0 σ H' { s' with heap:=h5 }:=Fly.lands I Fl hokB U5 fl5.1;refine wpAny_handleBy_cons (codeAny_handlers_test ?_) (by intro q;cases q);refine jT (I5.inSuite (.ref ea) X.xe) hg hm ?_ hcd
 have LT:PySem.W.Looks (model X.prog X.w) h5 (typeOf (.ref ea)) (.ref C):=by
  obtain⟨ob,hob,hoc⟩:=fl5.there;exact xty hob hoc
 refine(PySem.W.exm_one I5.kIn LT hx).here ?_;refine codeAny_handlers_suite_as ?_;refine lands_againW fl5 fun h6 fl6 up6=>?_;have U6:Un (frs X.stack) [] H H' s.heap h6:=Un.fly Fl.un kB tB fl6.1 (Bu fl.2.2.1) ((up4.trans up5).trans up6)
 have hX6:isX ea (.ref C) h6:=by
  obtain⟨oe,ws,e1,e2,e3,_⟩:=fl6.first
  exact⟨oe,e1,e2,ws,e3⟩
 have hok6:HOk X.prog X.w (upd H' ea (.ext (isX ea (.ref C)))) h6:=fun b u e=>by
  by_cases hb:b=ea
  ·subst hb;rw[bh] at e;cases e;exact Nj hX6
  ·rw[aY hb] at e
   exact((hokB.kept fl6.1) b u e).stay (fun _ _ _ q=>q) (fun b' q=>by rw[aY (aQ q hn)];exact q) fun b' xs q=>by rw[aY (aQ q hn)];exact q
 have U6':Un (frs X.stack) [] H (upd H' ea (.ext (isX ea (.ref C)))) s.heap h6:=by
  refine⟨U6.keep,U6.slot,fun b o q n hx=>?_,U6.there,fun b xs q=>?_,fun b o u q=>?_,fun b ps q=>?_⟩
  ·rw[aY (fun z=>by rw[z,Fl.fresh] at q;cases q)]
   exact U6.free b o q n hx
  ·have:=U6.tups b xs q
   rw[aY (aQ this hn)];exact this
  ·have:=U6.frzs b o u q
   rw[aY (aQ this hn)];exact this
  ·obtain⟨more,e⟩:=U6.tbls b ps q
   exact⟨more,by rw[aY (aQ e hn)];exact e⟩
 have I6:Inv X z0 σ (upd H' ea (.ext (isX ea (.ref C)))) { s' with heap:=h6 }:=I.call' (s':={ s' with heap:=h6 }) Fl.os U6' hok6 Fl.bare (fun b z=>absurd z (by simp));refine gR (X:=X.inSuite (.ref ea) X.xe) (I6.inSuite (.ref ea) X.xe) nd hi (.inl ln) (v:=.ref ea) rfl (fun s7 I7=>?_) (.inr ln)
 have hiσ:i<σ.length:=by rw[I.len];exact(List.getElem?_eq_some_iff.mp hi).1
 have hps:PSs (X.inSuite (.ref ea) fun _ _=>False) [.Assign [.Name kn p1] (.Name n p2) p3] (Yy (OJ (Kh i) (Ce j)) FZ):=mK (jd (X:=X.inSuite (.ref ea) fun _ _=>False) nd hj (.inl lk) (gY (X:=X.inSuite (.ref ea) fun _ _=>False) hi (.inl ln) d1 d2) rfl (.inr lk)) wY;have I7':Inv (X.inSuite (.ref ea) fun _ _=>False) z0 (σ.set i (some (.ref ea))) (upd H' ea (.ext (isX ea (.ref C)))) s7:=(I7.outSuite I.ok).inSuite _ _;refine X4z (hps z0 s7 _ _ { nx:=fun σ' H''=>σ'=(σ.set i (some (.ref ea))).set j (some (.ref ea))/\H''=upd H' ea (.ext (isX ea (.ref C))),rt:=fun _ _=>False } I7' ⟨.ref ea,by rw[List.getElem?_set_self hiσ],rfl,rfl⟩) (fun f s8 h8=>?_) fun _ _ z=>z.elim
 cases f with
 | next =>
  obtain⟨σ8,H8,I8,rfl,rfl⟩:=h8;have I8':Inv X z0 ((σ.set i (some (.ref ea))).set j (some (.ref ea))) (upd H' ea (.ext (isX ea (.ref C)))) s8:=I8.outSuite I.ok;obtain⟨m,hm8,_⟩:=id I8'.loc;refine wpAny_nameGoes_keeps ln hm8 (by rw[I.ok.kind];rfl) fun h9 v hn9 hs9=>?_;have I9:=I8'.unbound (t':=s8.toks+1) nd hi hm8 hn9 hs9
  have eσ:(((σ.set i (some (V.ref ea))).set j (some (.ref ea))).set i none)=((σ.set j (some (.ref ea))).set i none):=by
   rw[List.set_comm _ _ hij,List.set_set]
  rw[eσ] at I9;exact k _ I9
 | brk=>obtain⟨_,_,_,z⟩:=h8;exact z.elim
 | cont=>obtain⟨_,_,_,z⟩:=h8;exact z.elim
 | ret u=>obtain⟨_,_,_,_,_,z⟩:=h8;exact z.elim
end
end L2
namespace L2
open PySem PySem.Spec PyProof.Rows DE PySem.SeqAt
theorem Same.tup{K:Z3}{H H':Hp}{xs:List V}(e:Same H H')(h:SqT K H a xs):SqT K H' a xs:=by
 rcases h with(h | ⟨o,h⟩) | h
 ·exact .inl (.inl (e _ _ h))
 ·exact .inl (.inr ⟨o,e _ _ h⟩)
 ·exact .inr h
mutual
def Rep(K:Z3)(H:Hp):D->V->Prop
 | .non,v=>v=.non
 | .bl b,v=>v=.bl b
 | .int i,v=>v=.int i
 | .str x,v=>v=.str x
 | .tup ds,v=>∃ a vs,v=.ref a/\SqT K H a vs/\aU K H ds vs
 | .lst ds,v=>∃ a vs,v=.ref a/\SqL K H a vs/\aU K H ds vs
 | .exc c,v=>∃ a C,v=.ref a/\PySem.W.nsIn K mainGlobals c=some (some (.ref C))/\H a=some (.ext (isX a (.ref C)))
 | .dic ks ds,v=>∃ (a:Addr) (kvs:List (Key×V)),v=.ref a/\DAt K H a kvs/\kvs.map (·.1)=ks/\aU K H ds (kvs.map (·.2))
def aU(K:Z3)(H:Hp):List D->List V->Prop
 | [],vs=>vs=[]
 | d::ds,vs=>∃ v r,vs=v::r/\Rep K H d v/\aU K H ds r
end
mutual
theorem Rep.same{K:Z3}{H H':Hp}(e:Same H H'):∀ (d:D) (v:V),Rep K H d v->Rep K H' d v
 | .non,v,h=>by simpa[Rep] using h
 | .bl b,v,h=>by simpa[Rep] using h
 | .int i,v,h=>by simpa[Rep] using h
 | .str x,v,h=>by simpa[Rep] using h
 | .tup ds,v,h=>by
  simp only[Rep] at h ⊢;obtain⟨a,vs,h1,h2,h3⟩:=h;exact⟨a,vs,h1,e.tup h2,aU.same e ds vs h3⟩
 | .lst ds,v,h=>by
  simp only[Rep] at h ⊢;obtain⟨a,vs,h1,h2,h3⟩:=h;exact⟨a,vs,h1,e.seq h2,aU.same e ds vs h3⟩
 | .exc c,v,h=>by
  simp only[Rep] at h ⊢;obtain⟨a,C,h1,h2,h3⟩:=h;exact⟨a,C,h1,h2,e _ _ h3⟩
 | .dic ks ds,v,h=>by
  simp only[Rep] at h ⊢;obtain⟨a,kvs,h1,h2,h3,h4⟩:=h;refine⟨a,kvs,h1,?_,h3,aU.same e ds _ h4⟩;rcases h2 with(h2 | ⟨o,h2⟩) | h2
  ·exact .inl (.inl (e _ _ h2))
  ·exact .inl (.inr ⟨o,e _ _ h2⟩)
  ·exact .inr h2
theorem aU.same{K:Z3}{H H':Hp}(e:Same H H'):∀ (ds:List D) (vs:List V),aU K H ds vs->aU K H' ds vs
 | [],vs,h=>by simpa[aU] using h
 | d::ds,vs,h=>by
  simp only[aU] at h ⊢;obtain⟨v,r,h1,h2,h3⟩:=h;exact⟨v,r,h1,Rep.same e d v h2,aU.same e ds r h3⟩
end
theorem aU.length{K:Z3}{H:Hp}:∀ {ds:List D} {vs:List V},aU K H ds vs->ds.length=vs.length
 | [],vs,h=>by simp only[aU] at h;subst h;rfl
 | d::ds,vs,h=>by
  simp only[aU] at h;obtain⟨v,r,rfl,_,h3⟩:=h;simp[h3.length]
theorem aU.nil{K:Z3}{H:Hp}:aU K H [] []:=by simp[aU]
theorem aU.cons{K:Z3}{H:Hp}{d:D}(h:Rep K H d v)(r:aU K H ds vs):aU K H (d::ds) (v::vs):=by
 simp only[aU];exact⟨v,vs,rfl,h,r⟩
theorem aU.append{K:Z3}{H:Hp}:∀ {ds es:List D} {vs us:List V},aU K H ds vs->aU K H es us->aU K H (ds++es) (vs++us)
 | [],es,vs,us,h,h'=>by simp only[aU] at h;subst h;exact h'
 | d::ds,es,vs,us,h,h'=>by
  simp only[aU] at h;obtain⟨v,r,rfl,h2,h3⟩:=h;exact .cons h2 (h3.append h')
theorem aU.get{K:Z3}{H:Hp}:∀ {ds:List D} {vs:List V} {i:Nat} {d:D},aU K H ds vs->ds[i]?=some d->∃ v,vs[i]?=some v/\Rep K H d v
 | [],vs,i,d,_,e=>by simp at e
 | d'::ds,vs,0,d,h,e=>by
  simp only[aU] at h;obtain⟨v,r,rfl,h2,h3⟩:=h;simp at e;subst e;exact⟨v,rfl,h2⟩
 | d'::ds,vs,i+1,d,h,e=>by
  simp only[aU] at h;obtain⟨v,r,rfl,h2,h3⟩:=h;obtain⟨u,e1,e2⟩:=h3.get (i:=i) (d:=d) (by simpa using e);exact⟨u,by simpa using e1,e2⟩
theorem aU.take{K:Z3}{H:Hp}:∀ (n:Nat) {ds:List D} {vs:List V},aU K H ds vs->aU K H (ds.take n) (vs.take n)
 | 0,_,_,_=>by simpa using aU.nil
 | n+1,[],vs,h=>by simp only[aU] at h;subst h;simpa using aU.nil
 | n+1,d::ds,vs,h=>by
  simp only[aU] at h;obtain⟨v,r,rfl,h2,h3⟩:=h;simpa using aU.cons h2 (h3.take n)
theorem aU.drop{K:Z3}{H:Hp}:∀ (n:Nat) {ds:List D} {vs:List V},aU K H ds vs->aU K H (ds.drop n) (vs.drop n)
 | 0,_,_,h=>by simpa using h
 | n+1,[],vs,h=>by simp only[aU] at h;subst h;simpa using aU.nil
 | n+1,d::ds,vs,h=>by
  simp only[aU] at h;obtain⟨v,r,rfl,h2,h3⟩:=h;simpa using h3.drop n
theorem aU.reverse{K:Z3}{H:Hp}:∀ {ds:List D} {vs:List V},aU K H ds vs->aU K H ds.reverse vs.reverse
 | [],vs,h=>by simp only[aU] at h;subst h;simpa using aU.nil
 | d::ds,vs,h=>by
  simp only[aU] at h;obtain⟨v,r,rfl,h2,h3⟩:=h;simpa using h3.reverse.append (.cons h2 .nil)
structure Ext (Hs H Hs' H':Hp):Prop where
 vis:Same Hs Hs'
 all:Same H H'
 sub:Same Hs' H'
 hid:∀ b o,H b=some o->Hs b=none->Hs' b=none
theorem Ext.refl{Hs H:Hp}(h:Same Hs H):Ext Hs H Hs H:=⟨.refl _,.refl _,h,fun _ _ _ h=>h⟩
theorem Ext.trans{Hs H Hs1 H1 Hs2 H2:Hp}(a:Ext Hs H Hs1 H1)(b:Ext Hs1 H1 Hs2 H2):Ext Hs H Hs2 H2 :=
 ⟨a.vis.trans b.vis,a.all.trans b.all,b.sub,fun c o h1 h2=>b.hid c o (a.all c o h1) (a.hid c o h1 h2)⟩
theorem Ext.new{Hs H:Hp}(h:Same Hs H){p:Addr}(o:HO)(hp:H p=none):Ext Hs H (upd Hs p o) (upd H p o) where
 vis:=fun b u e=>by rw[aY (aQ (h b u e) hp)];exact e
 all:=fun b u e=>by rw[aY (aQ e hp)];exact e
 sub:=fun b u e=>by
  by_cases hb:b=p
  ·subst hb;rw[bh] at e ⊢;exact e
  ·rw[aY hb] at e ⊢;exact h b u e
 hid:=fun b u e n=>by rw[aY (aQ e hp)];exact n
theorem isT{H:Hp}{s:Shared}(I:Inv X z0 σ H s)(h:SqT X.K H a vs):∃ its:List Value,Vals vs its/\s.heap.IsTuple a its.toArray:=by
 obtain⟨its,r,p,_⟩:=I.tuple h;exact⟨its,r,p⟩
theorem isL{H:Hp}{s:Shared}(I:Inv X z0 σ H s)(h:SqL X.K H a vs):∃ its:List Value,Vals vs its/\s.heap.IsList a its.toArray:=by
 obtain⟨its,r,p,_⟩:=I.list h;exact⟨its,r,p.isList⟩
mutual
theorem nC:∀ d:D,dep d<1000->deq d d=true
 | .non,_=>rfl
 | .bl b,_=>by simp[deq]
 | .int i,_=>by simp[deq]
 | .str x,_=>by simp[deq]
 | .tup xs,h=>by simp only[deq];exact jY xs (by simp only[dep] at h;omega)
 | .lst xs,h=>by simp only[deq];exact jY xs (by simp only[dep] at h;omega)
 | .exc c,h=>absurd h (by simp[dep])
 | .dic _ _,h=>absurd h (by simp[dep])
theorem jY:∀ ds:List D,deps ds<1000->nZ ds ds=true
 | [],_=>rfl
 | d::ds,h=>by
  simp only[deps] at h;simp only[nZ,nC d (by omega),jY ds (by omega),X3z]
end
theorem uh:∀ {xs ys:List D} {e:Nat->Bool},(∀ (j:Nat) (x y:D),xs[j]?=some x->ys[j]?=some y->e j=deq x y)->((List.range (min xs.length ys.length)).all e&&xs.length==ys.length)=nZ xs ys
 | [],[],_,_=>rfl
 | [],y::ys,_,_=>by simp[nZ]
 | x::xs,[],_,_=>by simp[nZ]
 | x::xs,y::ys,e,h=>by
  have ih:=uh (xs:=xs) (ys:=ys) (e:=fun j=>e (j+1)) fun j a b e1 e2=>h (j+1) a b (by simpa using e1) (by simpa using e2);have h0:=h 0 x y rfl rfl;simp only[nZ,<- ih,<- h0,I2z];rw[show min (xs.length+1) (ys.length+1)=min xs.length ys.length+1 by omega,List.range_succ_eq_map,Y3z,List.all_map];rw[Bool.and_assoc];congr 1;congr 1;simp
section
variable {X:Cx} {z0:List (Addr×Obj)} {σ:St} {H:Hp} {s:Shared}
mutual
theorem Rep.inj(I:Inv X z0 σ H s):∀ (d d':D) (v:V),dep d<1000->dep d'<1000->Rep X.K H d v->Rep X.K H d' v->d=d'
 | .non,d',v,z,z',h,h'=>by simp only[Rep] at h;subst h;cases d'<;>simp[Rep] at h' ⊢
 | .bl b,d',v,z,z',h,h'=>by simp only[Rep] at h;subst h;cases d'<;>simp[Rep] at h' ⊢;exact h'
 | .int b,d',v,z,z',h,h'=>by simp only[Rep] at h;subst h;cases d'<;>simp[Rep] at h' ⊢;exact h'
 | .str b,d',v,z,z',h,h'=>by simp only[Rep] at h;subst h;cases d'<;>simp[Rep] at h' ⊢;exact h'
 | .tup ds,d',v,z,z',h,h'=>by
  simp only[Rep] at h;obtain⟨a,vs,rfl,h2,h3⟩:=h
  cases d' with
  | tup es =>
   simp only[Rep] at h';obtain⟨a',vs',e,h2',h3'⟩:=h';cases e;have:=I.tuple_inj h2 h2';subst this;rw[aU.inj I ds es vs (by simp only[dep] at z;omega) (by simp only[dep] at z';omega) h3 h3']
  | lst es =>
   simp only[Rep] at h';obtain⟨a',vs',e,h2',h3'⟩:=h';cases e;obtain⟨i1,_,p1⟩:=isT I h2;obtain⟨i2,_,p2⟩:=isL I h2';exact absurd rfl (ne_of_list_tuple p2 p1)
  | non=>simp[Rep] at h'
  | bl _=>simp[Rep] at h'
  | int _=>simp[Rep] at h'
  | str _=>simp[Rep] at h'
  | exc _=>exact absurd z' (by simp[dep])
  | dic _ _=>exact absurd z' (by simp[dep])
 | .lst ds,d',v,z,z',h,h'=>by
  simp only[Rep] at h;obtain⟨a,vs,rfl,h2,h3⟩:=h
  cases d' with
  | lst es =>
   simp only[Rep] at h';obtain⟨a',vs',e,h2',h3'⟩:=h';cases e;have:=I.list_inj h2 h2';subst this;rw[aU.inj I ds es vs (by simp only[dep] at z;omega) (by simp only[dep] at z';omega) h3 h3']
  | tup es =>
   simp only[Rep] at h';obtain⟨a',vs',e,h2',h3'⟩:=h';cases e;obtain⟨i1,_,p1⟩:=isL I h2;obtain⟨i2,_,p2⟩:=isT I h2';exact absurd rfl (ne_of_list_tuple p1 p2)
  | non=>simp[Rep] at h'
  | bl _=>simp[Rep] at h'
  | int _=>simp[Rep] at h'
  | str _=>simp[Rep] at h'
  | exc _=>exact absurd z' (by simp[dep])
  | dic _ _=>exact absurd z' (by simp[dep])
 | .exc c,d',v,z,z',h,h'=>absurd z (by simp[dep])
 | .dic _ _,d',v,z,z',h,h'=>absurd z (by simp[dep])
theorem aU.inj(I:Inv X z0 σ H s):∀ (ds es:List D) (vs:List V),deps ds<1000->deps es<1000->aU X.K H ds vs->aU X.K H es vs->ds=es
 | [],es,vs,z,z',h,h'=>by
  simp only[aU] at h;subst h
  cases es with
  | nil=>rfl
  | cons e es=>simp[aU] at h'
 | d::ds,es,vs,z,z',h,h'=>by
  simp only[aU] at h;obtain⟨v,r,rfl,h2,h3⟩:=h
  cases es with
  | nil=>simp[aU] at h'
  | cons e es =>
   simp only[aU] at h';obtain⟨v',r',e',h2',h3'⟩:=h';cases e';simp only[deps] at z z';rw[Rep.inj I d e v (by omega) (by omega) h2 h2',aU.inj I ds es r (by omega) (by omega) h3 h3']
end
def eJ(ds es:List D)(j:Nat):Bool:=match ds[j]?,es[j]? with
 | some x,some y=>deq x y
 | _,_=>true
theorem yX(ds es:List D):((List.range (min ds.length es.length)).all (eJ ds es)&&ds.length==es.length)=nZ ds es :=
 uh fun j x y e1 e2=>by unfold eJ;rw[e1,e2]
theorem yW(ds es:List D)(h:ds.length=es.length):(List.range ds.length).all (eJ ds es)=nZ ds es:=by
 rw[<- yX ds es,<- h];simp
theorem nA:∀ {xs ys:List D},xs.length≠ys.length->nZ xs ys=false
 | [],[],h=>absurd rfl h
 | [],_::_,_=>rfl
 | _::_,[],_=>rfl
 | x::xs,y::ys,h=>by
  simp only[nZ,nA (xs:=xs) (ys:=ys) (by intro e;exact h (by simp[e])),O3z]
theorem jA{A:Around}:A.in1.units=A.units+1:=rfl
inductive Vw (s:Shared):D->Value->Prop
 | n:Vw s .non .none
 | b (c:Bool):Vw s (.bl c) (.bool c)
 | i (c:Int) (t:Tok):Vw s (.int c) (.int c t)
 | s (c:Str) (t:Tok):Vw s (.str c) (.str c t)
 | t {ds:List D} {a:Addr} {its:Array Value} (p:s.heap.IsTuple a its):Vw s (.tup ds) (.ref a)
 | l {ds:List D} {a:Addr} {its:Array Value} (p:s.heap.IsList a its):Vw s (.lst ds) (.ref a)
theorem view(I:Inv X z0 σ H s){d:D}{u:Value}(h:Rep X.K H d v)(r:RelV v u)(z:dep d<1000):Vw s d u:=by
 cases d<;>simp only[Rep] at h<;>first
  | (simp[dep] at z;done)
  | (subst h;first | (cases (show u=_ from r);constructor;done) | (obtain⟨t,rfl⟩:=r;constructor;done))
  | (obtain⟨a,vs,rfl,h2,h3⟩:=h;cases (show u=Value.ref a from r);first | exact .t (isT I h2).choose_spec.2 | exact .l (isL I h2).choose_spec.2)
def Xm:D->D->Bool
 | .tup _,.tup _=>false
 | .lst _,.lst _=>false
 | _,_=>true
theorem jf{d d':D}{u u':Value}(a:Vw s d u)(b:Vw s d' u')(hu:A.units<cLine)(k:Xm d d'=true):EqAt A s u u' (deq d d'):=by
 cases a with
 | n =>
  cases b with
  | n=>exact EqAt.same _
  | b e=>exact EqAt.none_bool e
  | i e f=>exact EqAt.none_int e f
  | s e f=>exact EqAt.none_str e f
  | t q=>exact EqAt.none_tuple q hu
  | l q=>exact EqAt.none_list q hu
 | b c =>
  cases b with
  | n=>exact EqAt.bool_none c
  | b e=>exact EqAt.bool_bool c e
  | i e f=>exact EqAt.bool_int c e f
  | s e f=>exact EqAt.bool_str c e f
  | t q=>exact EqAt.bool_tuple c q hu
  | l q=>exact EqAt.bool_list c q hu
 | i c t =>
  cases b with
  | n=>exact EqAt.int_none c t
  | b e=>exact EqAt.int_bool c t e
  | i e f=>exact EqAt.int_int c t e f
  | s e f=>exact EqAt.int_str c t e f
  | t q=>exact EqAt.int_tuple c t q hu
  | l q=>exact EqAt.int_list c t q hu
 | s c t =>
  cases b with
  | n=>exact EqAt.str_none c t
  | b e=>exact EqAt.str_bool c t e
  | i e f=>exact EqAt.str_int c t e f
  | s e f=>exact EqAt.str_str c t e f
  | t q=>exact EqAt.str_tuple c t q hu
  | l q=>exact EqAt.str_list c t q hu
 | t p =>
  cases b with
  | n=>exact EqAt.tuple_none p hu
  | b e=>exact EqAt.tuple_bool e p hu
  | i e f=>exact EqAt.tuple_int e f p hu
  | s e f=>exact EqAt.tuple_str e f p hu
  | t q=>cases k
  | l q=>exact EqAt.tuple_list p q hu
 | l p =>
  cases b with
  | n=>exact EqAt.list_none p hu
  | b e=>exact EqAt.list_bool e p hu
  | i e f=>exact EqAt.list_int e f p hu
  | s e f=>exact EqAt.list_str e f p hu
  | t q=>exact EqAt.list_tuple p q hu
  | l q=>cases k
theorem K9{d d':D}{u u':Value}(a:Vw s d u)(b:Vw s d' u')(hu:A.units<cLine)(k:Xm d d'=true):RcAt A s u u' (deq d d')/\RcNeAt A s u u' (!deq d d'):=by
 cases a with
 | n =>
  cases b with
  | n=>exact⟨RcAt.none_none,RcNeAt.none_none⟩
  | b e=>exact⟨RcAt.none_bool e,RcNeAt.none_bool e⟩
  | i e f=>exact⟨RcAt.none_int e f,RcNeAt.none_int e f⟩
  | s e f=>exact⟨RcAt.none_str e f,RcNeAt.none_str e f⟩
  | t q=>exact⟨RcAt.none_tuple q hu,RcNeAt.none_tuple q hu⟩
  | l q=>exact⟨RcAt.none_list q hu,RcNeAt.none_list q hu⟩
 | b c =>
  cases b with
  | n=>exact⟨RcAt.bool_none c,RcNeAt.bool_none c⟩
  | b e=>exact⟨RcAt.bool_bool c e,RcNeAt.bool_bool c e⟩
  | i e f=>exact⟨RcAt.bool_int c e f,RcNeAt.bool_int c e f⟩
  | s e f=>exact⟨RcAt.bool_str c e f,RcNeAt.bool_str c e f⟩
  | t q=>exact⟨RcAt.bool_tuple c q hu,RcNeAt.bool_tuple c q hu⟩
  | l q=>exact⟨RcAt.bool_list c q hu,RcNeAt.bool_list c q hu⟩
 | i c t =>
  cases b with
  | n=>exact⟨RcAt.int_none c t,RcNeAt.int_none c t⟩
  | b e=>exact⟨RcAt.int_bool c t e,RcNeAt.int_bool c t e⟩
  | i e f=>exact⟨RcAt.int_int c t e f,RcNeAt.int_int c t e f⟩
  | s e f=>exact⟨RcAt.int_str c t e f,RcNeAt.int_str c t e f⟩
  | t q=>exact⟨RcAt.int_tuple c t q hu,RcNeAt.int_tuple c t q hu⟩
  | l q=>exact⟨RcAt.int_list c t q hu,RcNeAt.int_list c t q hu⟩
 | s c t =>
  cases b with
  | n=>exact⟨RcAt.str_none c t,RcNeAt.str_none c t⟩
  | b e=>exact⟨RcAt.str_bool c t e,RcNeAt.str_bool c t e⟩
  | i e f=>exact⟨RcAt.str_int c t e f,RcNeAt.str_int c t e f⟩
  | s e f=>exact⟨RcAt.str_str c t e f,RcNeAt.str_str c t e f⟩
  | t q=>exact⟨RcAt.str_tuple c t q hu,RcNeAt.str_tuple c t q hu⟩
  | l q=>exact⟨RcAt.str_list c t q hu,RcNeAt.str_list c t q hu⟩
 | t p =>
  cases b with
  | n=>exact⟨RcAt.tuple_none p hu,RcNeAt.tuple_none p hu⟩
  | b e=>exact⟨RcAt.tuple_bool e p hu,RcNeAt.tuple_bool e p hu⟩
  | i e f=>exact⟨RcAt.tuple_int e f p hu,RcNeAt.tuple_int e f p hu⟩
  | s e f=>exact⟨RcAt.tuple_str e f p hu,RcNeAt.tuple_str e f p hu⟩
  | t q=>cases k
  | l q=>exact⟨RcAt.tuple_list p q hu,RcNeAt.tuple_list p q hu⟩
 | l p =>
  cases b with
  | n=>exact⟨RcAt.list_none p hu,RcNeAt.list_none p hu⟩
  | b e=>exact⟨RcAt.list_bool e p hu,RcNeAt.list_bool e p hu⟩
  | i e f=>exact⟨RcAt.list_int e f p hu,RcNeAt.list_int e f p hu⟩
  | s e f=>exact⟨RcAt.list_str e f p hu,RcNeAt.list_str e f p hu⟩
  | t q=>exact⟨RcAt.list_tuple p q hu,RcNeAt.list_tuple p q hu⟩
  | l q=>cases k
mutual
theorem yU(I:Inv X z0 σ H s):∀ (d d':D) (v v':V) (u u':Value) (A:Around),Rep X.K H d v->Rep X.K H d' v'->RelV v u->RelV v' u'->A.units+dep d<cLine->dep d<1000->dep d'<1000->EqAt A s u u' (deq d d')
 | .tup ds,d',v,v',u,u',A,h,h',r,r',hu,z,z'=>by
  have hu0:A.units<cLine:=N1z (H2z _ _) hu
  cases d' with
  | tup es =>
   have hh:=h;have hh':=h';simp only[Rep] at h h';obtain⟨a,vs,rfl,h2,h3⟩:=h;cases (show u=Value.ref a from r);obtain⟨its,rv,p⟩:=isT I h2
   have hu1:A.in1.units+deps ds<cLine:=by have:dep (.tup ds)=deps ds+1:=rfl;rw[jA];omega
   obtain⟨b,us,rfl,h2',h3'⟩:=h';cases (show u'=Value.ref b from r');obtain⟨its',rv',p'⟩:=isT I h2'
   by_cases hab:a=b
   ·subst hab
    have:=Rep.inj I _ _ _ z z' hh hh';rw[<- this,nC _ z];exact EqAt.same _
   ·have q:=RcAt.tuples p p' hu0 (e:=eJ ds es) fun j g1 g2=>iy I ds es vs us its its' A.in1 h3 h3' rv rv' hu1 (by simp only[dep] at z;omega) (by simp only[dep] at z';omega) j _ _ (by simp at g1 ⊢) (by simp at g2 ⊢)
    have l1:=h3.length;have l2:=rv.length;have l3:=h3'.length;have l4:=rv'.length
    rw[R1z,R1z,<- l2,<- l1,<- l4,<- l3,yX] at q;exact .of_refs hab q
  | _=>exact jf (view I h r z) (view I h' r' z') hu0 rfl
 | .lst ds,d',v,v',u,u',A,h,h',r,r',hu,z,z'=>by
  have hu0:A.units<cLine:=N1z (H2z _ _) hu
  cases d' with
  | lst es =>
   have hh:=h;have hh':=h';simp only[Rep] at h h';obtain⟨a,vs,rfl,h2,h3⟩:=h;cases (show u=Value.ref a from r);obtain⟨its,rv,p⟩:=isL I h2
   have hu1:A.in1.units+deps ds<cLine:=by have:dep (.lst ds)=deps ds+1:=rfl;rw[jA];omega
   obtain⟨b,us,rfl,h2',h3'⟩:=h';cases (show u'=Value.ref b from r');obtain⟨its',rv',p'⟩:=isL I h2'
   have l1:=h3.length;have l2:=rv.length;have l3:=h3'.length;have l4:=rv'.length
   by_cases hab:a=b
   ·subst hab
    have:=Rep.inj I _ _ _ z z' hh hh';rw[<- this,nC _ z];exact EqAt.same _
   ·by_cases hl:ds.length=es.length
    ·have q:=RcAt.lists p p' (by simp;omega) hu0 (e:=eJ ds es) fun j g1 g2=>iy I ds es vs us its its' A.in1 h3 h3' rv rv' hu1 (by simp only[dep] at z;omega) (by simp only[dep] at z';omega) j _ _ (by simp at g1 ⊢) (by simp at g2 ⊢)
     rw[R1z,<- l2,<- l1,yW _ _ hl] at q;exact .of_refs hab q
    ·have q:=RcAt.lists_lengths p p' (by simp;omega) hu0
     rw[show deq (.lst ds) (.lst es)=nZ ds es from rfl,nA hl];exact .of_refs hab q
  | _=>exact jf (view I h r z) (view I h' r' z') hu0 rfl
 | .non,_,_,_,_,_,_,h,h',r,r',hu,z,z'=>jf (view I h r z) (view I h' r' z') (N1z (H2z _ _) hu) rfl
 | .bl _,_,_,_,_,_,_,h,h',r,r',hu,z,z'=>jf (view I h r z) (view I h' r' z') (N1z (H2z _ _) hu) rfl
 | .int _,_,_,_,_,_,_,h,h',r,r',hu,z,z'=>jf (view I h r z) (view I h' r' z') (N1z (H2z _ _) hu) rfl
 | .str _,_,_,_,_,_,_,h,h',r,r',hu,z,z'=>jf (view I h r z) (view I h' r' z') (N1z (H2z _ _) hu) rfl
 | .exc _,_,_,_,_,_,_,h,h',r,r',hu,z,z'=>jf (view I h r z) (view I h' r' z') (N1z (H2z _ _) hu) rfl
 | .dic _ _,_,_,_,_,_,_,h,h',r,r',hu,z,z'=>jf (view I h r z) (view I h' r' z') (N1z (H2z _ _) hu) rfl
theorem iy(I:Inv X z0 σ H s):∀ (ds es:List D) (vs us:List V) (its its':List Value) (A:Around),aU X.K H ds vs->aU X.K H es us->Vals vs its->Vals us its'->A.units+deps ds<cLine->deps ds<1000->deps es<1000 ->
  ∀ (j:Nat) (u u':Value),its[j]?=some u->its'[j]?=some u'->EqAt A s u u' (eJ ds es j)
 | [],es,vs,us,its,its',A,h,h',r,r',hu,z,z',j,u,u',e1,e2=>by
  simp only[aU] at h;subst h;cases r;simp at e1
 | d::ds,es,vs,us,its,its',A,h,h',r,r',hu,z,z',j,u,u',e1,e2=>by
  simp only[aU] at h;obtain⟨v,vr,rfl,h2,h3⟩:=h
  cases r with
  | cons r rr =>
   cases es with
   | nil=>simp only[aU] at h';subst h';cases r';simp at e2
   | cons e es =>
    simp only[aU] at h';obtain⟨v',vr',rfl,h2',h3'⟩:=h'
    cases r' with
    | cons r' rr' =>
     have hd:dep d<=deps (d::ds):=Nat.le_max_left _ _;have hds:deps ds<=deps (d::ds):=Nat.le_max_right _ _
     cases j with
     | zero =>
      simp at e1 e2;subst e1 e2
      exact yU I d e v v' _ _ A h2 h2' r r' (by omega) (by simp only[deps] at z;omega) (by simp only[deps] at z';omega)
     | succ j =>
      have q:=iy I ds es vr vr' _ _ A h3 h3' rr rr' (by omega) (by simp only[deps] at z;omega) (by simp only[deps] at z';omega) j u u' (by simpa using e1) (by simpa using e2)
      simpa[eJ] using q
end
theorem uo(I:Inv X z0 σ H s){d d':D}{u u':Value}(A:Around)(h:Rep X.K H d v)(h':Rep X.K H d' v')(r:RelV v u)(r':RelV v' u')(hu:A.units+dep d<cLine)(z:dep d<1000)(z':dep d'<1000):RcAt A s u u' (deq d d')/\RcNeAt A s u u' (!deq d d'):=by
 have hu0:A.units<cLine:=N1z (H2z _ _) hu
 cases k:Xm d d' with
 | true=>exact K9 (view I h r z) (view I h' r' z') hu0 k
 | false =>
  cases d<;>cases d'<;>first | (cases k;done) | skip
  all_goals
   rename_i ds es;simp only[Rep] at h h';obtain⟨a,vs,rfl,h2,h3⟩:=h;cases (show u=Value.ref a from r);obtain⟨b,us,rfl,h2',h3'⟩:=h';cases (show u'=Value.ref b from r')
   have hu1:A.in1.units+deps ds<cLine:=by simp only[dep] at hu;rw[jA];omega
   have l1:=h3.length;have l3:=h3'.length
  ·obtain⟨its,rv,p⟩:=isT I h2;obtain⟨its',rv',p'⟩:=isT I h2'
   have l2:=rv.length;have l4:=rv'.length
   have he:∀ j (g1:j<its.toArray.size) (g2:j<its'.toArray.size),EqAt A.in1 s its.toArray[j] its'.toArray[j] (eJ ds es j):=fun j g1 g2=>iy I ds es vs us its its' A.in1 h3 h3' rv rv' hu1 (by simp only[dep] at z;omega) (by simp only[dep] at z';omega) j _ _ (by simp at g1 ⊢) (by simp at g2 ⊢)
   have q:=RcAt.tuples p p' hu0 he;have q':=RcNeAt.tuples p p' hu0 he;rw[R1z,R1z,<- l2,<- l1,<- l4,<- l3,yX] at q q';exact⟨q,q'⟩
  ·obtain⟨its,rv,p⟩:=isL I h2;obtain⟨its',rv',p'⟩:=isL I h2'
   have l2:=rv.length;have l4:=rv'.length
   by_cases hl:ds.length=es.length
   ·have he:∀ j (g1:j<its.toArray.size) (g2:j<its'.toArray.size),EqAt A.in1 s its.toArray[j] its'.toArray[j] (eJ ds es j):=fun j g1 g2=>iy I ds es vs us its its' A.in1 h3 h3' rv rv' hu1 (by simp only[dep] at z;omega) (by simp only[dep] at z';omega) j _ _ (by simp at g1 ⊢) (by simp at g2 ⊢)
    have q:=RcAt.lists p p' (by simp;omega) hu0 he
    have q':=RcNeAt.lists p p' (by simp;omega) hu0 he
    rw[R1z,<- l2,<- l1,yW _ _ hl] at q q';exact⟨q,q'⟩
   ·rw[show deq (.lst ds) (.lst es)=nZ ds es from rfl,nA hl]
    exact⟨RcAt.lists_lengths p p' (by simp;omega) hu0,RcNeAt.lists_lengths p p' (by simp;omega) hu0⟩
end
def qp(X:Cx)(e:Expr):TE:=fun σ H Q=>∀ z0 s,Inv X z0 σ H s->wpAny (model X.prog X.w) X.A (eval e X.env) (EP X z0 σ Q) X.xe s
def wg(X:Cx)(e:Expr):TT:=fun σ H Q=>∀ z0 s,Inv X z0 σ H s->wpAny (model X.prog X.w) X.A (isTrue e X.env (eval e X.env)) (TP X z0 σ Q) X.xe s
def wj(X:Cx)(es:List Expr):TA:=fun σ H Q=>∀ pos z0 s,Inv X z0 σ H s->wpAny (model X.prog X.w) X.A (spliced (backTo pos (starEach es X.env))) (AP X z0 σ Q) X.xe s
def qF(X:Cx)(tg iter:Expr):TI:=fun σ H R=>∀ z0 s,Inv X z0 σ H s->wpAny (model X.prog X.w) X.A (eval iter X.env) (fun v s1=>wpAny (model X.prog X.w) X.A (pyIter v) (PIE X z0 σ tg R) X.xe s1) X.xe s
section
variable {X:Cx} {e:Expr}
theorem aq:PE X e (qp X e):=fun z0 s σ H Q I h=>h z0 s I
theorem d9:PT X e (wg X e):=fun z0 s σ H Q I h=>h z0 s I
theorem je{es:List Expr}:PA X es (wj X es):=fun pos z0 s σ H Q I h=>h pos z0 s I
theorem jO{tg iter:Expr}:PI X tg iter (qF X tg iter):=fun z0 s σ H R I h=>h z0 s I
theorem PE.sem{t:TE}{H:Hp}(h:PE X e t)(q:t σ H Q):qp X e σ H Q:=fun z0 s I=>h z0 s σ H Q I q
theorem PT.sem{t:TT}{H:Hp}{Q:Bool->Hp->Prop}(h:PT X e t)(q:t σ H Q):wg X e σ H Q:=fun z0 s I=>h z0 s σ H Q I q
theorem PA.sem{es:List Expr}{t:TA}{H:Hp}{Q:List V->Hp->Prop}(h:PA X es t)(q:t σ H Q):wj X es σ H Q:=fun pos z0 s I=>h pos z0 s σ H Q I q
theorem PI.sem{tg iter:Expr}{t:TI}{H:Hp}{R:It->Hp->Prop}(h:PI X tg iter t)(q:t σ H R):qF X tg iter σ H R:=fun z0 s I=>h z0 s σ H R I q
end
def dh(K:Z3)(Hs:Hp)(ρ:Rho)(σ:St):Prop:=∀ (i:Nat) (x:Str) (d:D),ρ[i]?=some (x,.sh d)->∃ v,σ[i]?=some (some v)/\Rep K Hs d v
theorem dh.same{K:Z3}(h:dh K Hs ρ σ)(e:Same Hs Hs'):dh K Hs' ρ σ:=fun i x d q=>by
 obtain⟨v,e1,e2⟩:=h i x d q;exact⟨v,e1,Rep.same e d v e2⟩
def JC(K:Z3)(J:It)(Hs0:Hp)(ds:List D):Prop:=∀ Hs H,Same Hs0 Hs->Same Hs H->J.stop ds.length H/\∀ (i:Nat) (d:D),ds[i]?=some d->J.go i H/\∀ x H',J.yld i H x H'->∃ Hs',Ext Hs H Hs' H'/\Rep K Hs' d x
def Ev(X:Cx)(ρ:Rho)(e:Expr)(d:D):Prop:=∀ σ H Hs Q,Same Hs H->dh X.K Hs ρ σ->(∀ v H' Hs',Ext Hs H Hs' H'->Rep X.K Hs' d v->Q v H')->qp X e σ H Q
def EvT(X:Cx)(ρ:Rho)(e:Expr)(b:Bool):Prop:=∀ σ H Hs Q,Same Hs H->dh X.K Hs ρ σ->(∀ H' Hs',Ext Hs H Hs' H'->Q b H')->wg X e σ H Q
def EvA(X:Cx)(ρ:Rho)(es:List Expr)(ds:List D):Prop:=∀ σ H Hs Q,Same Hs H->dh X.K Hs ρ σ->(∀ vs H' Hs',Ext Hs H Hs' H'->aU X.K Hs' ds vs->Q vs H')->wj X es σ H Q
def EvI(X:Cx)(ρ:Rho)(tg iter:Expr)(ds:List D):Prop:=∀ σ H Hs R,Same Hs H->dh X.K Hs ρ σ->(∀ J H' Hs',Ext Hs H Hs' H'->JC X.K J Hs' ds->R J H')->qF X tg iter σ H R
def spX(K:Z3)(call:Str->List D->Option D)(callx:Str->List D->Option Str)(f:Str)(ps:List Str):Sp:=fun vs H Q E=>vs.length=ps.length/\∃ Hs ds,Same Hs H/\aU K Hs ds vs /\
 ((∃ d,call f ds=some d/\∀ v H' Hs',Ext Hs H Hs' H'->Rep K Hs' d v->Q v H')\/(∃ c,callx f ds=some c/\∀ C H' Hs',PySem.W.nsIn K mainGlobals c=some (some (.ref C))->Ext Hs H Hs' H'->E (.ref C) none H'))
def Df(K:Z3)(exs:List Str)(top:Str):Bool:=match PySem.W.nsIn K mainGlobals top with
  | some (some (.ref M))=>exs.all fun c=>match PySem.W.nsIn K mainGlobals c with
    | some (some (.ref C)) => xIn K C M && lY K C && PySem.W.exmOne K (.ref C) (.ref M) == some true && PySem.W.kitOne K (.ref C) (.ref M) == some true && PySem.W.kitOne K (.ref C) (.type "ValueError") == some true &&
      exs.all fun c'=>match PySem.W.nsIn K mainGlobals c' with
        | some (some (.ref C'))=>PySem.W.kitOne K (.ref C) (.ref C')==some (c==c')
        | _=>false
    | _=>false
  | _=>exs.isEmpty
structure XText (K:Z3) (mg:Str->Option Value) (exs:List Str) (top:Str):Prop where
 glob:∀ x v,PySem.W.nsIn K mainGlobals x=some (some v)->mg x=some v
 cls:∀ c,exs.contains c=true->∃ C M,PySem.W.nsIn K mainGlobals c=some (some (.ref C))/\PySem.W.nsIn K mainGlobals top=some (some (.ref M))/\xIn K C M=true/\lY K C=true/\PySem.W.exmOne K (.ref C) (.ref M)=some true/\PySem.W.kitOne K (.ref C) (.ref M)=some true/\PySem.W.kitOne K (.ref C) (.type "ValueError")=some true
 sub:∀ c c',exs.contains c=true->exs.contains c'=true->∃ C C',PySem.W.nsIn K mainGlobals c=some (some (.ref C))/\PySem.W.nsIn K mainGlobals c'=some (some (.ref C'))/\PySem.W.kitOne K (.ref C) (.ref C')=some (c==c')
theorem XText.of{K:Z3}{top:Str}(hg:∀ x v,PySem.W.nsIn K mainGlobals x=some (some v)->mg x=some v)(h:Df K exs top=true):XText K mg exs top:=by
 unfold Df at h;split at h
 ·rename_i M hM
  have all:=fun c (hc:exs.contains c=true)=>M2z.mp h c (by simpa using hc);refine⟨hg,fun c hc=>?_,fun c c' hc hc'=>?_⟩
  ·have q:=all c hc
   split at q
   ·rename_i C hC
    simp only[D2z,C5z] at q;exact⟨C,M,hC,hM,q.1.1.1.1.1,q.1.1.1.1.2,q.1.1.1.2,q.1.1.2,q.1.2⟩
   ·cases q
  ·have q:=all c hc
   split at q
   ·rename_i C hC
    simp only[D2z] at q;have q2:=M2z.mp q.2 c' (by simpa using hc');split at q2
    ·rename_i C' hC'
     exact⟨C,C',hC,hC',by simpa using q2⟩
    ·cases q2
   ·cases q
 ·have e:exs=[]:=by simpa using h
  subst e;exact⟨hg,fun c hc=>absurd hc (by simp),fun c c' hc=>absurd hc (by simp)⟩
structure Good (cx:Cxt) (k:Nat) (X:Cx) (sc:Scope):Prop where
 calm:X.calm=true
 room:Room k X.A
 sce:X.env.scope=sc
 kind:sc.kind=.function
 nd:X.N.Nodup
 cst:∀ x d,cx.cst.lookup x=some d->∃ v u,(∀ H,Rep X.K H d v)/\X.mg x=some u/\RelV v u
 blt:∀ x b,cx.blt.lookup x=some b->X.mg x=none/\x=Str.ofString b
 exs:XText X.K X.mg cx.exs cx.top
 fns:∀ f,cx.fns.contains f=true->(f==("__debug__":Str))=false/\∃ a fd ps,(∀ ds d,cx.call f ds=some d->ds.length=ps.length)/\(∀ ds c,cx.callx f ds=some c->ds.length=ps.length)/\X.mg f=some (.ref a)/\PySem.W.keepIn X.K (.ref a)=true/\Binds X.K fd ps []/\FnOk X.prog X.w X.K X.mg X.base (CX1 X.prog X.w) k a fd ps (spX X.K cx.call cx.callx f ps)
 kw:KnW X.K X.w
section
variable {X:Cx} {ρ:Rho} {cx:Cxt} {k:Nat} {sc:Scope}
theorem cR:∀ {ρ:Rho} {x:Str} {s:Sl},ρ.lookup x=some s->∃ i:Nat,ρ[i]?=some (x,s)/\(ρ.map (·.1)).idxOf? x=some i
 | (y,t)::r,x,s,h=>by
  rw[E2z] at h
  cases hb:x==y with
  | true =>
   rw[hb] at h;cases h
   have:x=y:=by simpa using hb
   subst this;exact⟨0,rfl,by simp[List.idxOf?,List.findIdx?_cons]⟩
  | false =>
   rw[hb] at h;obtain⟨i,h1,h2⟩:=cR h;refine⟨i+1,by simpa using h1,?_⟩
   have hy:(y==x)=false:=by
    rw[A1z] at hb ⊢;exact fun e=>hb e.symm
   simp only[W3z,List.idxOf?,List.findIdx?_cons,hy,L1z,H5z];simp only[List.idxOf?] at h2;rw[h2];rfl
theorem Jb{x:Str}{d:D}(hN:X.N=ρ.map (·.1))(hv:Vis X.env.scope x)(hp:aA x=true)(h:ρ.lookup x=some (.sh d)):Ev X ρ (.Name x pos) d:=by
 intro σ H Hs Q hs hr hq;obtain⟨i,h1,_⟩:=cR h;obtain⟨v,e1,e2⟩:=hr i x d h1;unfold aA at hp;rw[D2z,D5z,D5z] at hp;refine PE.sem (gY (i:=i) (by rw[hN,List.getElem?_map,h1];rfl) hv (by simpa using hp.1) (by simpa using hp.2)) ⟨v,e1,hq v H Hs (.refl hs) e2⟩
theorem Oa{x:Str}{d:D}{u:Value}(hg:Gl X x)(hd:∀ H,Rep X.K H d v)(hm:X.mg x=some u)(r:RelV v u)(hp:aA x=true):Ev X ρ (.Name x pos) d:=by
 intro σ H Hs Q hs hr hq;unfold aA at hp;rw[D2z,D5z,D5z] at hp;exact PE.sem (qO hg hm r (by simpa using hp.1)) (hq _ H Hs (.refl hs) (hd Hs))
theorem Cq{c:Const}{d:D}{j:Nat}(h:(match c with | .none=>some D.non | .bool b=>some (.bl b) | .int i=>some (.int i) | .str x=>some (.str x) | _=>none)=some d):Ev X ρ (.Constant c j pos) d:=by
 intro σ H Hs Q hs hr hq
 cases c<;>simp at h<;>subst h
 ·exact PE.sem Lz (hq _ H Hs (.refl hs) (by simp[Rep]))
 ·exact PE.sem Q0 (hq _ H Hs (.refl hs) (by simp[Rep]))
 ·exact PE.sem LC (hq _ H Hs (.refl hs) (by simp[Rep]))
 ·exact PE.sem Du (hq _ H Hs (.refl hs) (by simp[Rep]))
theorem eY{a b:Expr}{x y d:D}{r:R2}{e:Expr}(ha:Ev X ρ a x)(hb:Ev X ρ b y)(hp:PE X e (tOp r (qp X a) (qp X b)))
  (hr:∀ u v H Hs Q,Same Hs H->Rep X.K Hs x u->Rep X.K Hs y v->(∀ w H' Hs',Ext Hs H Hs' H'->Rep X.K Hs' d w->Q w H')->r u v H Q):Ev X ρ e d:=by
 intro σ H Hs Q hs hst hq;refine hp.sem (ha σ H Hs _ hs hst fun u H1 Hs1 E1 r1=>hb σ H1 Hs1 _ E1.sub (hst.same E1.vis) fun v H2 Hs2 E2 r2=>?_);exact hr u v H2 Hs2 Q E2.sub (Rep.same E2.vis x u r1) r2 fun w H' Hs' E3 r3=>hq w H' Hs' (E1.trans (E2.trans E3)) r3
theorem rZ{i:Int}(h:small i=true):-(2^64)<i/\i<2^64:=by
 unfold small at h;rw[D2z,W1z,W1z] at h;exact h
theorem fK{n:Nat}(h:szl n=true):n<=sizeLine:=by
 unfold szl at h;rw[W1z] at h;exact F4z h (by rw[sizeLine_eq];decide)
theorem rQ{n:Nat}(h:szl n=true):n<sizeLine:=by
 unfold szl at h;rw[W1z] at h;exact N1z h (by rw[sizeLine_eq];decide)
theorem aF{K:Z3}{H:Hp}{i:Int}(h:Rep K H (.int i) v):v=.int i:=by simpa[Rep] using h
theorem dz{K:Z3}{H:Hp}{i:Bool}(h:Rep K H (.bl i) v):v=.bl i:=by simpa[Rep] using h
theorem bZ{K:Z3}{H:Hp}(h:Rep K H (.tup ds) v):∃ a vs,v=.ref a/\SqT K H a vs/\aU K H ds vs:=by simpa[Rep] using h
theorem bG{K:Z3}{H:Hp}(h:Rep K H (.lst ds) v):∃ a vs,v=.ref a/\SqL K H a vs/\aU K H ds vs:=by simpa[Rep] using h
theorem mX{Hs H:Hp}{p:Addr}{Q:VK}(hs:Same Hs H)(hr:aU X.K Hs ds vs)(hp:H p=none)(hq:∀ w H' Hs',Ext Hs H Hs' H'->Rep X.K Hs' (.tup ds) w->Q w H'):Q (.ref p) (upd H p (.tup vs)) :=
 hq _ _ _ (Ext.new hs (.tup vs) hp) (by simp only[Rep];exact⟨p,vs,rfl,.of bh,aU.same (Ext.new hs (.tup vs) hp).vis ds vs hr⟩)
theorem fM{Hs H:Hp}{p:Addr}{Q:VK}(hs:Same Hs H)(hr:aU X.K Hs ds vs)(hp:H p=none)(hq:∀ w H' Hs',Ext Hs H Hs' H'->Rep X.K Hs' (.lst ds) w->Q w H'):Q (.ref p) (upd H p (.lst vs)) :=
 hq _ _ _ (Ext.new hs (.lst vs) hp) (by simp only[Rep];exact⟨p,vs,rfl,.of bh,aU.same (Ext.new hs (.lst vs) hp).vis ds vs hr⟩)
def QW(K:Z3):R2:=fun x y H Q=>∃ a b xs ys,x=.ref a/\y=.ref b/\SqT K H a xs/\SqT K H b ys/\xs.length+ys.length<=sizeLine /\
 (xs=[]->Q (.ref b) H)/\(xs≠[]->ys=[]->Q (.ref a) H)/\(xs≠[]->ys≠[]->∀ p,H p=none->Q (.ref p) (upd H p (.tup (xs++ys))))
theorem Hu:OpR X (binaryOp .Add) (QW X.K):=by
 intro z0 s σ H x y v u Q I rx ry h;obtain⟨a,b,xs,ys,rfl,rfl,ha,hb,hz,q0,q1,q2⟩:=h
 by_cases hx:xs=[]
 ·subst hx
  cases (show v=Value.ref a from rx);cases (show u=Value.ref b from ry);obtain⟨its,r1,p1,_⟩:=I.tuple ha;obtain⟨its2,r2,p2,_⟩:=I.tuple hb;have e0:its=[]:=r1.nil_iff.mpr rfl;subst e0;obtain⟨⟨c,dd,data,sl⟩,ho,hc,n,hd⟩:=id p1;obtain⟨⟨c2,dd2,data2,sl2⟩,ho2,hc2,n2,hd2⟩:=id p2;simp only at hc hd hc2 hd2;subst hc hd hc2 hd2;exact concat_meets ⟨_,ho,rfl⟩ ⟨_,ho2,rfl⟩ noFill_tuple_add seq_tuple_add K0z G0z (E0z _ _) (tuple_addW0 a b _ its2.toArray n n2 dd dd2 sl sl2 rfl) ⟨ho,ho2,.ref b,H,I,rfl,q0 rfl⟩
 ·exact Ht z0 s σ H (.ref a) (.ref b) v u Q I rx ry ⟨a,b,xs,ys,rfl,rfl,ha,hb,hx,hz,q1 hx,q2 hx⟩
theorem aU.rep{K:Z3}{H:Hp}(h:aU K H ds vs):∀ n:Nat,aU K H (List.replicate n ds).flatten (List.replicate n vs).flatten
 | 0=>by simp[aU]
 | n+1=>by
  simp only[Z0z,S1z];exact h.append (h.rep n)
def Ov(i j:Int):Prop:=Yt i j\/(i.natAbs.log2<10000/\j.natAbs.log2<10000)
theorem DR{i:Int}(h:mid i=true):i.natAbs.log2<10000:=by unfold mid at h;simpa using h
theorem uy{i:Int}(h:i.natAbs.log2<10000):Builtin.Int.intBits i<=2^20:=by
 unfold Builtin.Int.intBits
 split<;>omega
theorem Ho:OpR X (binaryOp .Mult) (rI Ov fun i j=>.int (i*j)):=opI fun _ _ _ _ _ _ _ hc q=>mul_int q (hc.elim (fun z=>z.ok) fun z=>.of_bits (uy z.1) (uy z.2))
def Yu(i j:Int):Prop:=j≠0/\j.natAbs.log2<9000
theorem Br:OpR X (binaryOp .FloorDiv) (rI Yu fun i j=>.int (i.fdiv j)):=opI fun _ _ _ _ _ _ _ hc q=>floordiv_int hc.1 q (.inl (PyProof.noPylong_of_log2 hc.2))
theorem Cu{a b:Expr}{x y d:D}(ha:Ev X ρ a x)(hb:Ev X ρ b y)(h:binop op x y=some d):Ev X ρ (.BinOp a op b pos) d:=by
 unfold binop at h;split at h
 ·cases h
  exact eY ha hb (ju Mg aq aq) fun u v H Hs Q hs r1 r2 hq=>⟨_,_,aF r1,aF r2,hq _ H Hs (.refl hs) (by simp[Rep])⟩
 ·split at h
  ·rename_i hz
   cases h;refine eY ha hb (ju Hu aq aq) fun u v H Hs Q hs r1 r2 hq=>?_;obtain⟨p,us,rfl,h1,h2⟩:=bZ r1;obtain⟨q,ws,rfl,h3,h4⟩:=bZ r2;have l1:=h2.length;have l2:=h4.length
   have nil:∀ (l:List D),l.length=0->l=[]:=fun l hl=>by cases l<;>simp at hl ⊢
   refine⟨p,q,us,ws,rfl,rfl,hs.tup h1,hs.tup h3,by have:=fK hz;omega,fun e=>?_,fun _ e=>?_,fun _ _ l hl=>mX hs (h2.append h4) hl hq⟩
   ·subst e
    have e2:=nil _ l1;subst e2;exact hq _ H Hs (.refl hs) r2
   ·subst e
    have e2:=nil _ l2;subst e2;refine hq _ H Hs (.refl hs) ?_;rw[S2z];exact r1
  ·cases h
 ·split at h
  ·rename_i hz
   cases h;refine eY ha hb (ju xM aq aq) fun u v H Hs Q hs r1 r2 hq=>?_;obtain⟨p,us,rfl,h1,h2⟩:=bG r1;obtain⟨q,ws,rfl,h3,h4⟩:=bG r2;have l1:=h2.length;have l2:=h4.length;exact⟨p,q,us,ws,rfl,rfl,hs.seq h1,hs.seq h3,by have:=fK hz;omega,fun l hl=>fM hs (h2.append h4) hl hq⟩
  ·cases h
 ·cases h
  exact eY ha hb (ju LQ aq aq) fun u v H Hs Q hs r1 r2 hq=>⟨_,_,aF r1,aF r2,hq _ H Hs (.refl hs) (by simp[Rep])⟩
 ·split at h
  ·rename_i hz
   cases h;rw[Z2z,Z2z,D2z] at hz;have hz':Ov _ _:=hz.elim (fun z=>z.elim (fun z=>.inl (.inl (rZ z))) (fun z=>.inl (.inr (rZ z)))) (fun z=>.inr ⟨DR z.1,DR z.2⟩);exact eY ha hb (ju Ho aq aq) fun u v H Hs Q hs r1 r2 hq=>⟨_,_,aF r1,aF r2,hz',hq _ H Hs (.refl hs) (by simp[Rep])⟩
  ·cases h
 ·split at h
  ·rename_i hz
   cases h;rw[D2z,D2z,W1z,W1z] at hz;refine eY ha hb (ju xK aq aq) fun u v H Hs Q hs r1 r2 hq=>?_;obtain⟨p,us,rfl,h1,h2⟩:=bG r1;have l1:=h2.length;exact⟨p,_,us,rfl,aF r2,hs.seq h1,by omega,by omega,by have:=fK hz.2;rw[<- l1];exact this,fun l hl=>fM hs (h2.rep _) hl hq⟩
  ·cases h
 ·simp at h
 ·split at h
  ·rename_i hz
   cases h;rw[D2z,W1z,W1z] at hz;exact eY ha hb (ju Hr aq aq) fun u v H Hs Q hs r1 r2 hq=>⟨_,_,aF r1,aF r2,hz,hq _ H Hs (.refl hs) (by simp[Rep])⟩
  ·split at h
   ·rename_i hz
    cases h;rw[D2z,W1z,W1z] at hz;exact eY ha hb (ju Br aq aq) fun u v H Hs Q hs r1 r2 hq=>⟨_,_,aF r1,aF r2,hz,hq _ H Hs (.refl hs) (by simp[Rep])⟩
   ·cases h
 ·split at h
  ·rename_i hz
   cases h;rw[W1z] at hz;exact eY ha hb (ju LR aq aq) fun u v H Hs Q hs r1 r2 hq=>⟨_,_,aF r1,aF r2,hz,hq _ H Hs (.refl hs) (by simp[Rep])⟩
  ·split at h
   ·rename_i hz
    cases h;rw[W1z] at hz;exact eY ha hb (ju Hq aq aq) fun u v H Hs Q hs r1 r2 hq=>⟨_,_,aF r1,aF r2,hz,hq _ H Hs (.refl hs) (by simp[Rep])⟩
   ·cases h
 ·cases h
end
section
variable {X:Cx} {ρ:Rho} {cx:Cxt} {k:Nat} {sc:Scope}
theorem ak{e:Expr}{es:List Expr}(h:aG e=true):starEach (e::es) env=(false,eval e env)::starEach es env:=by
 cases e<;>first | rfl | (simp[aG] at h)
theorem jC{e:Expr}(h:aG e=true):zZ e:=by
 intro o i
 cases e<;>first | rfl | (simp[aG] at h)
theorem dU{e:Expr}(h:aG e=true)(x:Value):foldedSetIterable e env x=pure x:=by
 cases e<;>first | rfl | (simp[aG] at h)
theorem iJ{e:Expr}(h:aG e=true):behindInMarks op e=false:=by
 cases e<;>first | rfl | (simp[aG] at h)
theorem fL:∀ {es:List Expr},(∀ e∈es,aG e=true)->(backTo pos (starEach es env)).any (·.1)=false
 | [],_=>rfl
 | e::es,h=>by
  rw[ak (h e F1z)];have ih:=fL (env:=env) (pos:=pos) fun e' he=>h e' (Q0z _ he);show((false:Bool)||(backTo pos (starEach es env)).any (·.1))=false;rw[ih];rfl
theorem bf:∀ {n:Nat} {ρ:Rho} {e:Expr} {d:D},ev cx n sc ρ e=some d->aG e=true
 | 0,_,_,_,h=>by simp[ev] at h
 | n+1,ρ,e,d,h=>by
  cases e<;>first | rfl | (exact nomatch (show(Option.none:Option D)=some d from h))
def FT(X:Cx)(e:Expr):TT:=fun σ H Q=>∀ whole z0 s,Inv X z0 σ H s->wpAny (model X.prog X.w) X.A (isTrue e X.env whole) (TP X z0 σ Q) X.xe s
def EvW(X:Cx)(ρ:Rho)(e:Expr)(b:Bool):Prop:=∀ σ H Hs Q,Same Hs H->dh X.K Hs ρ σ->(∀ H' Hs',Ext Hs H Hs' H'->Q b H')->FT X e σ H Q
theorem sW{e:Expr}:PW X e (FT X e):=fun whole z0 s σ H Q I h=>h whole z0 s I
theorem PW.sem{e:Expr}{t:TT}{H:Hp}{Q:Bool->Hp->Prop}(h:PW X e t)(q:t σ H Q):FT X e σ H Q:=fun whole z0 s I=>h whole z0 s σ H Q I q
theorem EvW.t{e:Expr}{b:Bool}(h:EvW X ρ e b):EvT X ρ e b:=fun σ H Hs Q hs hr hq z0 s I=>h σ H Hs Q hs hr hq _ z0 s I
theorem Jj{e:Expr}{b:Bool}(h:Ev X ρ e (.bl b))(he:∀ whole,isTrue e X.env whole=(do let v <- whole;standAt e.pos;holding [v] (truthy v))):EvT X ρ e b:=fun σ H Hs Q hs hr hq =>
 (Dp aq he).sem (h σ H Hs _ hs hr fun v H' Hs' E1 r1=>⟨b,dz r1,hq H' Hs' E1⟩)
theorem N5{b:Bool}(h:Ev X ρ a (.bl b)):Ev X ρ (.UnaryOp .Not a pos) (.bl (!b)):=fun σ H Hs Q hs hr hq =>
 (Ly aq).sem (h σ H Hs _ hs hr fun v H' Hs' E1 r1=>⟨b,dz r1,hq _ H' Hs' E1 (by simp[Rep])⟩)
theorem Jk{b:Bool}(h:EvT X ρ a b):EvT X ρ (.UnaryOp .Not a pos) (!b):=fun σ H Hs Q hs hr hq =>
 (Dq d9).sem (h σ H Hs _ hs hr fun H' Hs' E1=>hq H' Hs' E1)
theorem N6{i:Int}(h:Ev X ρ a (.int i)):Ev X ρ (.UnaryOp .USub a pos) (.int (-i)):=fun σ H Hs Q hs hr hq =>
 (QZ Ka aq).sem (h σ H Hs _ hs hr fun v H' Hs' E1 r1=>⟨i,aF r1,hq _ H' Hs' E1 (by simp[Rep])⟩)
theorem pK{f:Expr->Option D}{pos:Pos}:∀ {es:List Expr} {d:D},(∀ e∈es,∀ d,f e=some d->Ev X ρ e d/\∀ b,d=.bl b->EvT X ρ e b)->cW op f es=some d ->
  Ev X ρ (.BoolOp op es pos) d/\∀ b,d=.bl b->EvW X ρ (.BoolOp op es pos) b
 | [],d,_,h=>by simp[cW] at h
 | [e],d,hf,h=>by
  obtain⟨h1,h2⟩:=hf e (by simp) d (by simpa[cW] using h);refine⟨fun σ H Hs Q hs hr hq=>(Lx aq).sem (h1 σ H Hs Q hs hr hq),fun b hb σ H Hs Q hs hr hq=>?_⟩
  cases op with
  | And=>exact(Gz d9).sem (h2 b hb σ H Hs Q hs hr hq)
  | Or=>exact(Ld d9).sem (h2 b hb σ H Hs Q hs hr hq)
 | e::e'::r,d,hf,h=>by
  simp only[cW] at h
  cases he:f e with
  | none=>rw[he] at h;simp at h
  | some x =>
   rw[he] at h
   cases x with
   | bl c =>
    obtain⟨h1,h2⟩:=hf e (by simp) _ he;have h2':=h2 c rfl;simp only[asB,J2z,Option.bind_eq_bind,bind,Option.bind] at h;have ih:=fun d' (q:cW op f (e'::r)=some d')=>pK (pos:=pos) (es:=e'::r) (fun a ha=>hf a (Q0z _ ha)) q
    cases op with
    | And =>
     cases c with
     | true =>
      simp only[J5z] at h;obtain⟨i1,i2⟩:=ih d h;refine⟨fun σ H Hs Q hs hr hq=>(Dw aq aq).sem (h1 σ H Hs _ hs hr fun v H' Hs' E1 r1=>⟨true,dz r1,vM (i1 σ H' Hs' Q E1.sub (hr.same E1.vis) fun w H2 Hs2 E2 r2=>hq w H2 Hs2 (E1.trans E2) r2)⟩),fun b hb σ H Hs Q hs hr hq=>?_⟩;exact(Dn d9 sW).sem (h2' σ H Hs _ hs hr fun H' Hs' E1=>vM (i2 b hb σ H' Hs' Q E1.sub (hr.same E1.vis) fun H2 Hs2 E2=>hq H2 Hs2 (E1.trans E2)))
     | false =>
      simp only[L1z,H5z,Y1z] at h;subst h;refine⟨fun σ H Hs Q hs hr hq=>(Dw aq aq).sem (h1 σ H Hs _ hs hr fun v H' Hs' E1 r1=>⟨false,dz r1,yw (hq _ H' Hs' E1 (by simp[Rep]))⟩),fun b hb σ H Hs Q hs hr hq=>?_⟩;cases hb;exact(Dn d9 sW).sem (h2' σ H Hs _ hs hr fun H' Hs' E1=>yw (hq H' Hs' E1))
    | Or =>
     cases c with
     | true =>
      simp only[J5z,Y1z] at h;subst h;refine⟨fun σ H Hs Q hs hr hq=>(Lr aq aq).sem (h1 σ H Hs _ hs hr fun v H' Hs' E1 r1=>⟨true,dz r1,vM (hq _ H' Hs' E1 (by simp[Rep]))⟩),fun b hb σ H Hs Q hs hr hq=>?_⟩;cases hb;exact(Le d9 sW).sem (h2' σ H Hs _ hs hr fun H' Hs' E1=>vM (hq H' Hs' E1))
     | false =>
      simp only[L1z,H5z] at h;obtain⟨i1,i2⟩:=ih d h;refine⟨fun σ H Hs Q hs hr hq=>(Lr aq aq).sem (h1 σ H Hs _ hs hr fun v H' Hs' E1 r1=>⟨false,dz r1,yw (i1 σ H' Hs' Q E1.sub (hr.same E1.vis) fun w H2 Hs2 E2 r2=>hq w H2 Hs2 (E1.trans E2) r2)⟩),fun b hb σ H Hs Q hs hr hq=>?_⟩;exact(Le d9 sW).sem (h2' σ H Hs _ hs hr fun H' Hs' E1=>yw (i2 b hb σ H' Hs' Q E1.sub (hr.same E1.vis) fun H2 Hs2 E2=>hq H2 Hs2 (E1.trans E2)))
   | _=>simp[asB] at h
def QS(X:Cx)(op:CmpOp):R2:=fun u v H Q=>∃ Hs x y d,Same Hs H/\Rep X.K Hs x u/\Rep X.K Hs y v/\cmpop op x y=some d/\∃ b,d=.bl b/\Q (.bl b) H
theorem mG{K:Z3}{H:Hp}(h:Rep K H .non v):v=.non:=by simpa[Rep] using h
theorem tR{K:Z3}{H:Hp}{x:D}(h:Rep K H x v):Ik x=decide (v=V.non):=by
  cases x with
  | non=>rw[mG h];rfl
  | bl b=>rw[dz h];rfl
  | int b=>rw[aF h];rfl
  | str b => have e : v = .str b := by simpa [Rep] using h
             rw[e];rfl
  | tup b=>obtain⟨a,vs,e,_⟩:=bZ h;rw[e];rfl
  | lst b=>obtain⟨a,vs,e,_⟩:=bG h;rw[e];rfl
  | exc c=>simp only[Rep] at h;obtain⟨a,C,e,_⟩:=h;rw[e];rfl
  | dic k x=>simp only[Rep] at h;obtain⟨a,C,e,_⟩:=h;rw[e];rfl
theorem iC{K:Z3}{H:Hp}:∀ {ds:List D} {ns:List Int} {vs:List V},jy ds=some ns->aU K H ds vs->vs=ns.map V.int
 | [],ns,vs,h,r=>by
  simp only[jy,Y1z] at h;subst h
  simpa[aU] using r
 | .int i::ds,ns,vs,h,r=>by
  simp only[jy,L0z] at h;obtain⟨ms,h1,rfl⟩:=h;simp only[aU] at r;obtain⟨v,r',rfl,h2,h3⟩:=r;rw[aF h2,iC h1 h3];rfl
 | .non::ds,ns,vs,h,r=>by simp[jy] at h
 | .bl _::ds,ns,vs,h,r=>by simp[jy] at h
 | .str _::ds,ns,vs,h,r=>by simp[jy] at h
 | .tup _::ds,ns,vs,h,r=>by simp[jy] at h
 | .lst _::ds,ns,vs,h,r=>by simp[jy] at h
 | .exc _::ds,ns,vs,h,r=>by simp[jy] at h
 | .dic _ _::ds,ns,vs,h,r=>by simp[jy] at h
theorem any_ints(i:Int):∀ {ns:List Int} {us:List Value},Vals (ns.map V.int) us->us.any (fun y=>match y with | .int j _=>j==i | _=>false)=ns.any (· ==i)
 | [],us,r=>by rw[I4z] at r;cases r;rfl
 | n::ns,us,r=>by
  rw[W3z] at r
  cases r with
  | cons r1 r2 =>
   obtain⟨t,e⟩:=(show ∃ t,_=Value.int n t from r1);subst e;simp only[Z3z,any_ints i r2]
theorem mY:∀ {ns:List Int} {us:List Value},Vals (ns.map V.int) us->∀ y∈us,∃ j t,y=Value.int j t
 | [],us,r,y,hy=>by rw[I4z] at r;cases r;simp at hy
 | n::ns,us,r,y,hy=>by
  rw[W3z] at r
  cases r with
  | cons r1 r2 =>
   obtain⟨t,e⟩:=(show ∃ t,_=Value.int n t from r1);subst e;rcases List.mem_cons.mp hy with rfl | hy
   ·exact⟨n,t,rfl⟩
   ·exact mY r2 y hy
theorem Im{H:Hp}{s:Shared}{i:Int}{ns:List Int}{u v:V}{w z:Value}(I:Inv X z0 σ H s)(A:Around)(hu:u=.int i)(hv:Rep X.K H (.tup ys) v)(hn:jy ys=some ns)(ru:RelV u w)(rv:RelV v z):
  (∀ (Q:Value->Shared->Prop) (E:Value->Shared->Prop),Q (.bool (ns.any (· ==i))) s->wpAny (model X.prog X.w) A (compareOp .In w z) Q E s)/\(∀ (Q:Value->Shared->Prop) (E:Value->Shared->Prop),Q (.bool (!ns.any (· ==i))) s->wpAny (model X.prog X.w) A (compareOp .NotIn w z) Q E s):=by
 subst hu;obtain⟨t,e⟩:=(show ∃ t,w=Value.int i t from ru);subst e;obtain⟨a,vs,rfl,h1,h2⟩:=bZ hv;cases (show z=Value.ref a from rv);have e:=iC hn h2;subst e;obtain⟨its,r,p⟩:=isT I h1
 have he:∀ y,y∈its.toArray->EqAt A.in1 s y (.int i t) (match y with | .int j _=>j==i | _=>false):=fun y hy=>by
  obtain⟨j,t',rfl⟩:=mY r y (by simpa using hy);exact fun P w Q E q=>wpAny_eqBool_int q
 have ea:its.toArray.any (fun y=>match y with | .int j _=>j==i | _=>false)=ns.any (· ==i):=by
  rw[K2z];exact any_ints i r
 refine⟨fun Q E q=>in_tupleAt _ p he (by rw[ea];exact q),fun Q E q=>notIn_tupleAt _ p he (by rw[ea];exact q)⟩
theorem nU{K:Z3}{H:Hp}:∀ {ds:List D} {ns:List Str} {vs:List V},qw ds=some ns->aU K H ds vs->vs=ns.map V.str
 | [],ns,vs,h,r=>by
  simp only[qw,Y1z] at h;subst h
  simpa[aU] using r
 | .str i::ds,ns,vs,h,r=>by
  simp only[qw] at h;obtain⟨ms,h1,rfl⟩:=L0z.mp h;simp only[aU] at r;obtain⟨v,rr,rfl,h2,h3⟩:=r
  have e:v=.str i:=by simpa[Rep] using h2
  rw[nU h1 h3,e];rfl
 | .non::ds,ns,vs,h,r=>by simp[qw] at h
 | .bl _::ds,ns,vs,h,r=>by simp[qw] at h
 | .int _::ds,ns,vs,h,r=>by simp[qw] at h
 | .tup _::ds,ns,vs,h,r=>by simp[qw] at h
 | .lst _::ds,ns,vs,h,r=>by simp[qw] at h
 | .exc _::ds,ns,vs,h,r=>by simp[qw] at h
 | .dic _ _::ds,ns,vs,h,r=>by simp[qw] at h
def eS(x:D):Value->Bool
 | .str t _=>deq (.str t) x
 | _=>false
theorem uz(x:D):∀ {ns:List Str} {us:List Value},Vals (ns.map V.str) us->us.any (eS x)=ns.any fun t=>deq (.str t) x
 | [],us,r=>by rw[I4z] at r;cases r;rfl
 | n::ns,us,r=>by
  rw[W3z] at r
  cases r with
  | cons r1 r2 =>
   obtain⟨t,e⟩:=(show ∃ t,_=Value.str n t from r1);subst e;simp only[Z3z,uz x r2,eS]
theorem tG:∀ {ns:List Str} {us:List Value},Vals (ns.map V.str) us->∀ y∈us,∃ j t,y=Value.str j t
 | [],us,r,y,hy=>by rw[I4z] at r;cases r;simp at hy
 | n::ns,us,r,y,hy=>by
  rw[W3z] at r
  cases r with
  | cons r1 r2 =>
   obtain⟨t,e⟩:=(show ∃ t,_=Value.str n t from r1);subst e;rcases List.mem_cons.mp hy with rfl | hy
   ·exact⟨n,t,rfl⟩
   ·exact tG r2 y hy
theorem Il{H:Hp}{s:Shared}{x:D}{u v:V}{w z:Value}(I:Inv X z0 σ H s)(A:Around)(hA:A.units+2<cLine)(hx:Rep X.K H x u)(hd:dep x<=50)(hv:Rep X.K H (.tup ys) v)(hn:qw ys=some ns)(ru:RelV u w)(rv:RelV v z):
  (∀ (Q:Value->Shared->Prop) (E:Value->Shared->Prop),Q (.bool (ns.any fun t=>deq (.str t) x)) s->wpAny (model X.prog X.w) A (compareOp .In w z) Q E s)/\(∀ (Q:Value->Shared->Prop) (E:Value->Shared->Prop),Q (.bool (!ns.any fun t=>deq (.str t) x)) s->wpAny (model X.prog X.w) A (compareOp .NotIn w z) Q E s):=by
 obtain⟨a,vs,rfl,h1,h2⟩:=bZ hv;cases (show z=Value.ref a from rv);have e:=nU hn h2;subst e;obtain⟨its,r,p⟩:=isT I h1
 have he:∀ y,y∈its.toArray->EqAt A.in1 s y w (eS x y):=fun y hy=>by
  obtain⟨j,t',rfl⟩:=tG r y (by simpa using hy);exact yU I (.str j) x (.str j) u (.str j t') w A.in1 (by simp[Rep]) hx ⟨t',rfl⟩ ru (by rw[jA];simp only[dep];omega) (by simp[dep]) (by omega)
 have ea:its.toArray.any (eS x)=ns.any fun t=>deq (.str t) x:=by
  rw[K2z];exact uz x r
 refine⟨fun Q E q=>in_tupleAt _ p he (by rw[ea];exact q),fun Q E q=>notIn_tupleAt _ p he (by rw[ea];exact q)⟩
theorem Nk{x:D}{b:Bool}(h:inT x ys=some b):(∃ i ns,x=.int i/\jy ys=some ns/\b=ns.any (· ==i))\/∃ ss,qw ys=some ss/\dep x<=50/\b=ss.any fun t=>deq (.str t) x:=by
 have hS:∀ {b},inS x ys=some b->∃ ss,qw ys=some ss/\dep x<=50/\b=ss.any fun t=>deq (.str t) x:=fun {b} h=>by
  unfold inS at h;obtain⟨ss,h1,h2⟩:=Option.bind_eq_some_iff.mp h;split at h2
  ·rename_i hd
   cases h2;exact⟨ss,h1,by simpa using hd,rfl⟩
  ·cases h2
 unfold inT at h;split at h
 ·rename_i i ns e1 e2
  cases x<;>simp[asI] at e1
  cases h;subst e1;exact .inl ⟨_,ns,rfl,e2,rfl⟩
 ·exact .inr (hS h)
theorem Ed{H:Hp}{s:Shared}{x:D}{b:Bool}{u v:V}{w z:Value}(I:Inv X z0 σ H s)(A:Around)(hA:A.units+2<cLine)(hx:Rep X.K H x u)(hv:Rep X.K H (.tup ys) v)(h:inT x ys=some b)(ru:RelV u w)(rv:RelV v z):
  (∀ (Q:Value->Shared->Prop) (E:Value->Shared->Prop),Q (.bool b) s->wpAny (model X.prog X.w) A (compareOp .In w z) Q E s)/\(∀ (Q:Value->Shared->Prop) (E:Value->Shared->Prop),Q (.bool (!b)) s->wpAny (model X.prog X.w) A (compareOp .NotIn w z) Q E s):=by
 rcases Nk h with⟨i,ns,rfl,e1,rfl⟩ | ⟨ss,e1,e2,rfl⟩
 ·exact Im I A (aF hx) hv e1 ru rv
 ·exact Il I A hA hx e2 hv e1 ru rv
theorem qQ{H:Hp}{s:Shared}{i:Int}{ns:List Int}{u v:V}{w z:Value}(I:Inv X z0 σ H s)(A:Around)(hu:u=.int i)(hv:Rep X.K H (.lst ys) v)(hn:jy ys=some ns)(ru:RelV u w)(rv:RelV v z):
  ∀ (Q:Value->Shared->Prop) (E:Value->Shared->Prop),Q (.bool (!ns.any (· ==i))) s->wpAny (model X.prog X.w) A (compareOp .NotIn w z) Q E s:=by
 subst hu;obtain⟨t,e⟩:=(show ∃ t,w=Value.int i t from ru);subst e;obtain⟨a,vs,rfl,h1,h2⟩:=bG hv;cases (show z=Value.ref a from rv);have e:=iC hn h2;subst e;obtain⟨its,r,p,_⟩:=I.list h1
 have he:∀ y,y∈its.toArray->EqAt A.in1 s y (.int i t) (match y with | .int j _=>j==i | _=>false):=fun y hy=>by
  obtain⟨j,t',rfl⟩:=mY r y (by simpa using hy);exact fun P w Q E q=>wpAny_eqBool_int q
 have ea:its.toArray.any (fun y=>match y with | .int j _=>j==i | _=>false)=ns.any (· ==i):=by
  rw[K2z];exact any_ints i r
 exact fun Q E q=>notIn_listAt _ p.isList he (by rw[ea];exact q)
theorem Mf:OpR X (compareOp .Is) (fun x y H Q=>∃ a b,x=.bl a/\y=.bl b/\Q (.bl (a==b)) H):=by
 intro z0 s σ H x y v u Q I rx ry h;obtain⟨a,b,rfl,rfl,q⟩:=h;cases (show v=Value.bool a from rx);cases (show u=Value.bool b from ry)
 cases a<;>cases b<;>exact Z4z ⟨.bl _,H,I,rfl,q⟩
theorem Hl:OpR X (compareOp .IsNot) (fun x y H Q=>∃ a b,x=.bl a/\y=.bl b/\Q (.bl (!(a==b))) H):=by
 intro z0 s σ H x y v u Q I rx ry h;obtain⟨a,b,rfl,rfl,q⟩:=h;cases (show v=Value.bool a from rx);cases (show u=Value.bool b from ry)
 cases a<;>cases b<;>exact Z4z ⟨.bl _,H,I,rfl,q⟩
theorem lF(hr:Room k X.A)(op:CmpOp):OpR X (compareOp op) (QS X op):=by
 intro z0 s σ H u v w z Q I ru rv h;obtain⟨Hs,x,y,d,hs,rx,ry,hc,b,rfl,q⟩:=h;have rx':=Rep.same hs x u rx;have ry':=Rep.same hs y v ry;unfold cmpop at hc;split at hc
 ·split at hc
  ·rename_i hd
   rw[D2z,W1z,W1z] at hd;cases hc;exact(uo I X.A rx' ry' ru rv (by have:=hr.un;omega) (by omega) (by omega)).1 _ _ _ _ ⟨.bl _,H,I,rfl,q⟩
  ·cases hc
 ·split at hc
  ·rename_i hd
   rw[D2z,W1z,W1z] at hd;cases hc;exact(uo I X.A rx' ry' ru rv (by have:=hr.un;omega) (by omega) (by omega)).2 _ _ _ _ ⟨.bl _,H,I,rfl,q⟩
  ·cases hc
 ·cases hc;exact Q6 z0 s σ H u v w z Q I ru rv ⟨_,_,aF rx,aF ry,q⟩
 ·cases hc;exact Q7 z0 s σ H u v w z Q I ru rv ⟨_,_,aF rx,aF ry,q⟩
 ·cases hc;exact Q8 z0 s σ H u v w z Q I ru rv ⟨_,_,aF rx,aF ry,q⟩
 ·cases hc;exact Q9 z0 s σ H u v w z Q I ru rv ⟨_,_,aF rx,aF ry,q⟩
 ·cases hc;rw[tR rx] at q;exact Ma z0 s σ H u v w z Q I ru rv ⟨mG ry,q⟩
 ·cases hc;rw[tR rx] at q;exact Hj z0 s σ H u v w z Q I ru rv ⟨mG ry,q⟩
 ·cases hc;exact Mf z0 s σ H u v w z Q I ru rv ⟨_,_,dz rx,dz ry,q⟩
 ·cases hc;exact Hl z0 s σ H u v w z Q I ru rv ⟨_,_,dz rx,dz ry,q⟩
 ·obtain⟨ns,hn,he⟩:=L0z.mp hc
  cases he;exact(Ed I X.A (by have:=hr.un;omega) rx' ry' hn ru rv).1 _ _ ⟨.bl _,H,I,rfl,q⟩
 ·obtain⟨ns,hn,he⟩:=L0z.mp hc
  cases he;exact(Ed I X.A (by have:=hr.un;omega) rx' ry' hn ru rv).2 _ _ ⟨.bl _,H,I,rfl,q⟩
 ·obtain⟨ns,hn,he⟩:=L0z.mp hc
  cases he;exact qQ I X.A (aF rx') ry' hn ru rv _ _ ⟨.bl _,H,I,rfl,q⟩
 ·cases hc
theorem Ez{x y d:D}(h:cmpop op x y=some d):∃ b,d=.bl b:=by
 unfold cmpop at h
 split at h<;>first | (cases h;exact⟨_,rfl⟩) | (obtain⟨_,_,rfl⟩:=L0z.mp h;exact⟨_,rfl⟩) | (split at h<;>first | (cases h;exact⟨_,rfl⟩) | cases h) | cases h
theorem Jh{a b:Expr}{x y d:D}(hr:Room k X.A)(ha:Ev X ρ a x)(hb:Ev X ρ b y)(hm:aG b=true)(h:cmpop op x y=some d):Ev X ρ (.Compare a [op] [b] pos) d/\∀ c,d=.bl c->EvT X ρ (.Compare a [op] [b] pos) c:=by
 obtain⟨c,rfl⟩:=Ez h;refine⟨eY ha hb (G8 (lF hr op) aq aq (iJ hm)) fun u v H Hs Q hs r1 r2 hq=>⟨Hs,x,y,_,hs,r1,r2,h,c,rfl,hq _ H Hs (.refl hs) (by simp[Rep])⟩,fun c' hc' σ H Hs Q hs hst hq=>?_⟩;cases hc';refine(GD (lF hr op) aq aq (iJ hm)).sem (ha σ H Hs _ hs hst fun u H1 Hs1 E1 r1=>hb σ H1 Hs1 _ E1.sub (hst.same E1.vis) fun v H2 Hs2 E2 r2=>?_);exact⟨Hs2,x,y,_,E2.sub,Rep.same E2.vis x u r1,r2,h,c,rfl,c,rfl,hq H2 Hs2 (E1.trans E2)⟩
theorem yh{op op':CmpOp}{b c:Expr}(h:aG c=true):lastMarks [op,op'] [b,c]=false:=iJ h
theorem yQ{a b e:Expr}{x y d:D}{c:Bool}{pos:Pos}(hr:Room k X.A)(ha:Ev X ρ a x)(hb:Ev X ρ b y)(hm:aG e=true)(h:cmpop op x y=some (.bl c))(hd:(c=true->∃ z,Ev X ρ e z/\cmpop op' y z=some d)/\(c=false->d=.bl false)):
  Ev X ρ (.Compare a [op,op'] [b,e] pos) d/\∀ c,d=.bl c->EvT X ρ (.Compare a [op,op'] [b,e] pos) c:=by
 have core:∀ σ H Hs Q,Same Hs H->dh X.K Hs ρ σ->(∀ v H' Hs',Ext Hs H Hs' H'->Rep X.K Hs' d v->Q v H')->wk (QS X op) (QS X op') (qp X a) (qp X b) (qp X e) σ H Q:=by
  intro σ H Hs Q hs hst hq;refine ha σ H Hs _ hs hst fun u H1 Hs1 E1 r1=>hb σ H1 Hs1 _ E1.sub (hst.same E1.vis) fun v H2 Hs2 E2 r2=>?_;refine⟨Hs2,x,y,_,E2.sub,Rep.same E2.vis x u r1,r2,h,c,rfl,c,rfl,?_⟩
  cases c with
  | false=>rw[hd.2 rfl] at hq;exact yw (hq _ H2 Hs2 (E1.trans E2) (by simp[Rep]))
  | true =>
   obtain⟨z,hz,hc⟩:=hd.1 rfl;obtain⟨c',rfl⟩:=Ez hc;refine vM (hz σ H2 Hs2 _ E2.sub ((hst.same E1.vis).same E2.vis) fun w H3 Hs3 E3 r3=>?_);exact⟨Hs3,y,z,_,E3.sub,Rep.same E3.vis y v r2,r3,hc,c',rfl,hq _ H3 Hs3 (E1.trans (E2.trans E3)) (by simp[Rep])⟩
 refine⟨fun σ H Hs Q hs hst hq=>(Bo (lF hr op) (lF hr op') aq aq aq (yh hm)).sem (core σ H Hs Q hs hst hq),fun c' hc' σ H Hs Q hs hst hq=>?_⟩;subst hc';exact(Bf (lF hr op) (lF hr op') aq aq aq (yh hm)).sem (core σ H Hs _ hs hst fun v H' Hs' E1 r1=>⟨c',dz r1,hq H' Hs' E1⟩)
theorem N8{c a b:Expr}{t:Bool}{d:D}(hc:EvT X ρ c t)(ha:t=true->Ev X ρ a d)(hb:t=false->Ev X ρ b d):Ev X ρ (.IfExp c a b pos) d:=fun σ H Hs Q hs hst hq =>
 (mQ d9 aq aq).sem (hc σ H Hs _ hs hst fun H1 Hs1 E1=>by
  cases t with
  | true=>exact vM (ha rfl σ H1 Hs1 Q E1.sub (hst.same E1.vis) fun v H' Hs' E2 r=>hq v H' Hs' (E1.trans E2) r)
  | false=>exact yw (hb rfl σ H1 Hs1 Q E1.sub (hst.same E1.vis) fun v H' Hs' E2 r=>hq v H' Hs' (E1.trans E2) r))
theorem Em{c a b:Expr}{t r:Bool}(hc:EvT X ρ c t)(ha:t=true->EvT X ρ a r)(hb:t=false->EvT X ρ b r):EvT X ρ (.IfExp c a b pos) r:=by
 intro σ H Hs Q hs hst hq z0 s I;refine isTrue_IfExp (thn (hc σ H Hs (fun b' H'=>b'=t/\∃ Hs',Ext Hs H Hs' H') hs hst (fun H1 Hs1 E1=>⟨rfl,Hs1,E1⟩) z0 s I) fun b' s2 ⟨H2,I2,e2,Hs2,E2⟩=>?_);subst e2
 cases b' with
 | true=>exact vM (ha rfl σ H2 Hs2 Q E2.sub (hst.same E2.vis) (fun H' Hs' E3=>hq H' Hs' (E2.trans E3)) z0 s2 I2)
 | false=>exact yw (hb rfl σ H2 Hs2 Q E2.sub (hst.same E2.vis) (fun H' Hs' E3=>hq H' Hs' (E2.trans E3)) z0 s2 I2)
theorem fQ{f:Expr->Option D}:∀ {es:List Expr} {ds:List D},(∀ e∈es,∀ d,f e=some d->Ev X ρ e d/\aG e=true)->lq f es=some ds->EvA X ρ es ds/\(∀ e∈es,aG e=true)
 | [],ds,_,h=>by
  simp only[lq,Y1z] at h;subst h;exact⟨fun σ H Hs Q hs hst hq=>cV.sem (hq [] H Hs (.refl hs) .nil),fun e he=>absurd he (by simp)⟩
 | e::es,ds,hf,h=>by
  simp only[lq,bind,Option.bind] at h
  cases he:f e with
  | none=>rw[he] at h;cases h
  | some d =>
   rw[he] at h;simp only at h
   cases hr:lq f es with
   | none=>rw[hr] at h;cases h
   | some dr =>
    rw[hr] at h;simp only[Y1z] at h;subst h;obtain⟨h1,hp⟩:=hf e (by simp) d he;obtain⟨h2,hps⟩:=fQ (fun a ha=>hf a (Q0z _ ha)) hr;refine⟨fun σ H Hs Q hs hst hq=>(bw aq je (ak hp)).sem (h1 σ H Hs _ hs hst fun v H1 Hs1 E1 r1=>h2 σ H1 Hs1 _ E1.sub (hst.same E1.vis) fun vs H2 Hs2 E2 r2=>?_),fun a ha=>?_⟩
    ·exact hq _ H2 Hs2 (E1.trans E2) (.cons (Rep.same E2.vis d v r1) r2)
    ·rcases List.mem_cons.mp ha with rfl | ha
     ·exact hp
     ·exact hps a ha
theorem Ck{es:List Expr}{j:Nat}(h:EvA X ρ es ds)(hz:szl ds.length=true):Ev X ρ (.Tuple es j pos) (.tup ds):=fun σ H Hs Q hs hst hq =>
 (Lq je).sem (h σ H Hs _ hs hst fun vs H1 Hs1 E1 r1=>⟨by rw[<- r1.length];exact fK hz,fun p hp=>mX E1.sub r1 hp fun w H' Hs' E2 r2=>hq w H' Hs' (E1.trans E2) r2⟩)
theorem Jc{es:List Expr}(h:EvA X ρ es ds)(hz:szl ds.length=true):Ev X ρ (.List es pos) (.lst ds):=fun σ H Hs Q hs hst hq =>
 (Dv je).sem (h σ H Hs _ hs hst fun vs H1 Hs1 E1 r1=>⟨by rw[<- r1.length];exact fK hz,fun p hp=>fM E1.sub r1 hp fun w H' Hs' E2 r2=>hq w H' Hs' (E1.trans E2) r2⟩)
theorem pB(n:Nat)(i:Int):ixD n i=ixN n i:=rfl
theorem zT{K:Z3}{H:Hp}{i:Int}{d:D}(h:aU K H ds vs)(e:atD ds i=some d):∃ v,atI vs i=some v/\Rep K H d v:=by
 unfold atD at e;rw[pB,h.length] at e
 cases q:ixN vs.length i with
 | none=>rw[q] at e;cases e
 | some j =>
  rw[q] at e;obtain⟨v,h1,h2⟩:=h.get (i:=j) (d:=d) e;exact⟨v,by unfold atI;rw[q];exact h1,h2⟩
theorem Gu{K:Z3}{H:Hp}{ks:List (Sum Int Str)}(h:Rep K H (.dic ks ds) v):∃ (a:Addr) (kvs:List (Key×V)),v=.ref a/\DAt K H a kvs/\kvs.map (·.1)=ks/\aU K H ds (kvs.map (·.2)):=by simpa[Rep] using h
theorem vX{K:Z3}{H:Hp}{k:Key}{d:D}:∀ {kvs:List (Key×V)} {ds:List D},aU K H ds (kvs.map (·.2))->JF (kvs.map (·.1)) ds k=some d->∃ v,Ad kvs k=some v/\Rep K H d v
 | [],ds,r,h=>by simp[JF] at h
 | (k',v')::kvs,ds,r,h=>by
  cases ds with
  | nil=>simp[JF] at h
  | cons d' ds =>
   simp only[W3z,aU] at r;obtain⟨v,rr,e,h2,h3⟩:=r;cases e;unfold JF at h;simp only[W3z,List.zip_cons_cons,List.find?_cons] at h;unfold Ad;rw[List.find?_cons]
   by_cases q:k'=k
   ·simp only[q,decide_true] at h ⊢
    simp only[X2z,Y1z] at h ⊢;subst h;exact⟨v',rfl,h2⟩
   ·simp only[q,decide_false] at h ⊢
    exact vX h3 h
theorem Ij{K:Z3}{H:Hp}{d:D}{k:Key}(h:Ph d=some k)(r:Rep K H d v):v=kV k:=by
 cases d<;>simp[Ph] at h
 ·subst h;exact aF r
 ·subst h
  rename_i x
  have e:v=.str x:=by simpa[Rep] using r
  exact e
theorem Jf{a b:Expr}{ks:List (Sum Int Str)}{y d:D}{k':Key}(kw:KnW X.K X.w)(ha:Ev X ρ a (.dic ks ds))(hb:Ev X ρ b y)(hp:aG b=true)(hk:Ph y=some k')(hd:JF ks ds k'=some d):Ev X ρ (.Subscript a b pos) d:=by
 intro σ H Hs Q hs hst hq;refine PE.sem (G6 kw aq aq fun ov iv=>jC hp ov iv) (ha σ H Hs _ hs hst fun v H1 Hs1 E1 r1=>hb σ H1 Hs1 _ E1.sub (hst.same E1.vis) fun u H2 Hs2 E2 r2=>?_);have rdE:∀ {H1 H2:Hp} {a:Addr} {u:List (Key×V)},Same H1 H2->DAt X.K H1 a u->DAt X.K H2 a u:=fun e r=>r.elim (fun r=>.inl (r.elim (fun q=>.inl (e _ _ q)) fun⟨o,q⟩=>.inr ⟨o,e _ _ q⟩)) .inr;obtain⟨p,kvs,rfl,h1,rfl,h3⟩:=Gu (Rep.same E2.vis _ v r1);obtain⟨w,h4,h5⟩:=vX h3 hd;exact⟨p,w,kvs,k',rfl,rdE E2.sub h1,Ij hk r2,h4.symm,hq w H2 Hs2 (E1.trans E2) h5⟩
theorem ug{a b:Expr}{x d:D}{i:Int}{xs:List D}(ha:Ev X ρ a x)(hb:Ev X ρ b (.int i))(hp:aG b=true)(hx:items x=some xs)(hd:atD xs i=some d):Ev X ρ (.Subscript a b pos) d:=by
 cases x with
 | tup ys =>
  simp only[items,Y1z] at hx;subst hx;refine eY ha hb (G7 Ng aq aq (jC hp)) fun u v H Hs Q hs r1 r2 hq=>?_;obtain⟨p,vs,rfl,h1,h2⟩:=bZ r1;obtain⟨w,h3,h4⟩:=zT h2 hd;exact⟨p,vs,i,w,rfl,aF r2,hs.tup h1,h3,hq w H Hs (.refl hs) h4⟩
 | lst ys =>
  simp only[items,Y1z] at hx;subst hx;refine eY ha hb (G7 yt aq aq (jC hp)) fun u v H Hs Q hs r1 r2 hq=>?_;obtain⟨p,vs,rfl,h1,h2⟩:=bG r1;obtain⟨w,h3,h4⟩:=zT h2 hd;exact⟨p,vs,i,w,rfl,aF r2,hs.seq h1,h3,hq w H Hs (.refl hs) h4⟩
 | _=>simp[items] at hx
theorem iH(n d:Nat)(o:Option Int):gj n d o=HT.sIx n d o:=by cases o<;>rfl
theorem zB{K:Z3}{H:Hp}(lo hi:Option Int)(h:aU K H ds vs):aU K H (nG ds lo hi) (Ew vs lo hi):=by
 unfold nG Ew;rw[iH,iH,h.length];exact(h.drop _).take _
def EvO(X:Cx)(ρ:Rho)(e:Option Expr)(o:Option Int):Prop:=∃ t:TO,PO X e t/\∀ σ H Hs Q,Same Hs H->dh X.K Hs ρ σ->(∀ H' Hs',Ext Hs H Hs' H'->Q o H')->t σ H Q
theorem Cy:EvO X ρ none none:=⟨_,GR,fun σ H Hs Q hs hst hq=>hq H Hs (.refl hs)⟩
theorem Cw{e:Expr}{i:Int}(h:Ev X ρ e (.int i)):EvO X ρ (some e) (some i):=⟨_,GQ aq,fun σ H Hs Q hs hst hq=>h σ H Hs _ hs hst fun v H' Hs' E1 r1=>⟨i,aF r1,hq H' Hs' E1⟩⟩
theorem Cp{lo hi:Option Expr}{l u:Option Int}{xs:List D}{p2 pos:Pos}(ha:Ev X ρ a (.tup xs))(hl:EvO X ρ lo l)(hu:EvO X ρ hi u)(hw:¬ (gj xs.length 0 l=0/\gj xs.length xs.length u=xs.length)):
  Ev X ρ (.Subscript a (.Slice lo hi none p2) pos) (.tup (nG xs l u)):=by
 obtain⟨tl,pl,ql⟩:=hl;obtain⟨tu,pu,qu⟩:=hu;intro σ H Hs Q hs hst hq;refine(mO KC aq pl pu).sem (ha σ H Hs _ hs hst fun v H1 Hs1 E1 r1=>ql σ H1 Hs1 _ E1.sub (hst.same E1.vis) fun H2 Hs2 E2=>qu σ H2 Hs2 _ E2.sub ((hst.same E1.vis).same E2.vis) fun H3 Hs3 E3=>?_);obtain⟨p,vs,rfl,h1,h2⟩:=bZ (Rep.same (E2.trans E3).vis _ _ r1);refine⟨p,vs,rfl,E3.sub.tup h1,?_,fun q hq'=>mX E3.sub (zB l u h2) hq' fun w H' Hs' E4 r4=>hq w H' Hs' (E1.trans (E2.trans (E3.trans E4))) r4⟩;rw[iH,iH,h2.length] at hw;exact hw
theorem yO{lo hi:Option Expr}{l u:Option Int}{xs:List D}{p2 pos:Pos}(ha:Ev X ρ a (.tup xs))(hl:EvO X ρ lo l)(hu:EvO X ρ hi u)(hw:gj xs.length 0 l=0/\gj xs.length xs.length u=xs.length):
  Ev X ρ (.Subscript a (.Slice lo hi none p2) pos) (.tup xs):=by
 obtain⟨tl,pl,ql⟩:=hl;obtain⟨tu,pu,qu⟩:=hu;intro σ H Hs Q hs hst hq;refine(mO Gh aq pl pu).sem (ha σ H Hs _ hs hst fun v H1 Hs1 E1 r1=>ql σ H1 Hs1 _ E1.sub (hst.same E1.vis) fun H2 Hs2 E2=>qu σ H2 Hs2 _ E2.sub ((hst.same E1.vis).same E2.vis) fun H3 Hs3 E3=>?_);have r3:=Rep.same (E2.trans E3).vis _ _ r1;obtain⟨p,vs,rfl,h1,h2⟩:=bZ r3;refine⟨p,vs,rfl,E3.sub.tup h1,?_,hq _ H3 Hs3 (E1.trans (E2.trans E3)) r3⟩;rw[iH,iH,h2.length] at hw;exact hw
theorem yP{lo hi:Option Expr}{l u:Option Int}{xs:List D}{p2 pos:Pos}(ha:Ev X ρ a (.lst xs))(hl:EvO X ρ lo l)(hu:EvO X ρ hi u):
  Ev X ρ (.Subscript a (.Slice lo hi none p2) pos) (.lst (nG xs l u)):=by
 obtain⟨tl,pl,ql⟩:=hl;obtain⟨tu,pu,qu⟩:=hu;intro σ H Hs Q hs hst hq;refine(mO Gi aq pl pu).sem (ha σ H Hs _ hs hst fun v H1 Hs1 E1 r1=>ql σ H1 Hs1 _ E1.sub (hst.same E1.vis) fun H2 Hs2 E2=>qu σ H2 Hs2 _ E2.sub ((hst.same E1.vis).same E2.vis) fun H3 Hs3 E3=>?_);obtain⟨p,vs,rfl,h1,h2⟩:=bG (Rep.same (E2.trans E3).vis _ _ r1);exact⟨p,vs,rfl,E3.sub.seq h1,fun q hq'=>fM E3.sub (zB l u h2) hq' fun w H' Hs' E4 r4=>hq w H' Hs' (E1.trans (E2.trans (E3.trans E4))) r4⟩
theorem Ji{f:Str}{es:List Expr}{d:D}{p pos:Pos}(G:Good cx k X sc)(hg:Gl X f)(hf:cx.fns.contains f=true)(hne:es≠[])(h:EvA X ρ es ds)(hp:∀ e∈es,aG e=true)(hc:cx.call f ds=some d):
  Ev X ρ (.Call (.Name f p) es [] pos) d:=by
 obtain⟨hdb,a,fd,ps,har,_,hm,hk,hb,F⟩:=G.fns f hf
 cases es with
 | nil=>exact absurd rfl hne
 | cons e es =>
  intro σ H Hs Q hs hst hq;refine(G9 F G.room hg hm hk hb .nil Q5 je hdb (ak (hp e (by simp))) (fL fun e' he=>hp e' (Q0z _ he))).sem (h σ H Hs _ hs hst fun vs H1 Hs1 E1 r1=>?_);refine⟨?_,Hs1,ds,E1.sub,?_,.inl ⟨d,hc,fun v H' Hs' E2 r2=>hq v H' Hs' (E1.trans E2) r2⟩⟩
  ·rw[S2z,<- r1.length,har ds d hc]
  ·rw[S2z];exact r1
def O2(X:Cx)(f:Value):List V->Hp->VK->Prop:=fun vs H Q=>∀ z0 s σ us,Inv X z0 σ H s->Vals vs us->wpAny (model X.prog X.w) X.A (call f us) (EP X z0 σ Q) X.xe s
theorem ur{f:Value}:dw X f (O2 X f):=fun z0 s σ H xs us Q I r h=>h z0 s σ us I r
theorem dw.sem{f:Value}{r:List V->Hp->VK->Prop}{H:Hp}(h:dw X f r)(q:r vs H Q):O2 X f vs H Q:=fun z0 s σ us I rv=>h z0 s σ H vs us Q I rv q
def EvC(X:Cx)(f:Value)(ds:List D)(d:D):Prop:=∀ vs H Hs Q,Same Hs H->aU X.K Hs ds vs->(∀ v H' Hs',Ext Hs H Hs' H'->Rep X.K Hs' d v->Q v H')->O2 X f vs H Q
theorem mJ{K:Z3}{H:Hp}{d:D}(h:aU K H [d] vs):∃ v,vs=[v]/\Rep K H d v:=by
 simp only[aU] at h;obtain⟨v,r,rfl,h1,h2⟩:=h;subst h2;exact⟨v,rfl,h1⟩
theorem Gv{K:Z3}{H:Hp}{d e:D}(h:aU K H [d,e] vs):∃ v w,vs=[v,w]/\Rep K H d v/\Rep K H e w:=by
 simp only[aU] at h;obtain⟨v,r,rfl,h1,w,r2,rfl,h2,h3⟩:=h;subst h3;exact⟨v,w,rfl,h1,h2⟩
theorem jK{K:Z3}{H:Hp}{d:D}(h:Rep K H d v)(e:items d=some l):∃ a vs,v=.ref a/\(SqL K H a vs\/SqT K H a vs)/\aU K H l vs:=by
 cases d with
 | tup xs=>simp only[items,Y1z] at e;subst e;obtain⟨a,vs,e1,e2,e3⟩:=bZ h;exact⟨a,vs,e1,.inr e2,e3⟩
 | lst xs=>simp only[items,Y1z] at e;subst e;obtain⟨a,vs,e1,e2,e3⟩:=bG h;exact⟨a,vs,e1,.inl e2,e3⟩
 | _=>simp[items] at e
theorem jG{K:Z3}{H:Hp}:∀ {ds:List D} {bs:List Bool} {vs:List V},qx ds=some bs->aU K H ds vs->vs=bs.map V.bl
 | [],ns,vs,h,r=>by
  simp only[qx,Y1z] at h;subst h
  simpa[aU] using r
 | .bl i::ds,ns,vs,h,r=>by
  simp only[qx,L0z] at h;obtain⟨ms,h1,rfl⟩:=h;simp only[aU] at r;obtain⟨v,r',rfl,h2,h3⟩:=r;rw[dz h2,jG h1 h3];rfl
 | .non::ds,ns,vs,h,r=>by simp[qx] at h
 | .int _::ds,ns,vs,h,r=>by simp[qx] at h
 | .str _::ds,ns,vs,h,r=>by simp[qx] at h
 | .tup _::ds,ns,vs,h,r=>by simp[qx] at h
 | .lst _::ds,ns,vs,h,r=>by simp[qx] at h
 | .exc _::ds,ns,vs,h,r=>by simp[qx] at h
 | .dic _ _::ds,ns,vs,h,r=>by simp[qx] at h
theorem kj:∀ {bs:List Bool} {us:List Value},Vals (bs.map V.bl) us->LSm.BoolsAre us bs
 | [],us,r=>by rw[I4z] at r;cases r;exact .nil
 | b::bs,us,r=>by
  rw[W3z] at r
  cases r with
  | cons r1 r2 =>
   cases (show _=Value.bool b from r1);exact .cons b (kj r2)
theorem zK(hc:X.calm=true):dw X (.builtin "sum") (fun xs H Q=>∃ (p:Addr) (ns:List Int),xs=[.ref p]/\SqL X.K H p (ns.map V.int)/\Q (.int ns.sum) H):=by
 intro z0 s σ H xs us Q I r h;obtain⟨p,ns,rfl,hq,q⟩:=h;obtain⟨u,rfl,rx⟩:=vals1 r;cases (show u=Value.ref p from rx);obtain⟨its,r',pl,hz⟩:=I.list hq;have hi:=intsAre_of r';obtain⟨zs,hx⟩:=hi.allInts.items;have hl':s.heap.IsList p (intItems zs):=hx▸pl.isList;refine sum_intListG (I.ok.hd hc) hl' fun h' tk t' hk=>⟨.int ns.sum,H,I.kept hk,⟨t',?_⟩,q⟩
 have e1:ns=zs.toList.map (·.1):=by
  rw[<- nums_intItems,<- hx];exact(show numsOf its.toArray.toList=ns from hi.numsOf).symm
 rw[preSum_eq,List.take_of_length_le (by simp),e1]
theorem zO(hc:X.calm=true):dw X (.builtin "all") (fun xs H Q=>∃ (p:Addr) (bs:List Bool),xs=[.ref p]/\SqL X.K H p (bs.map V.bl)/\Q (.bl (bs.all id)) H):=by
 intro z0 s σ H xs us Q I r h;obtain⟨p,bs,rfl,hq,q⟩:=h;obtain⟨u,rfl,rx⟩:=vals1 r;cases (show u=Value.ref p from rx);obtain⟨its,r',pl,hz⟩:=I.list hq;have hb:=kj r';have hl:=pl.isList
 have hlt:p<s.heap.objs.size:=by obtain⟨_,e,_⟩:=hl;exact D4z e
 refine call_all_walk (wpAny_pyIter_list hl ⟨s.heap.objs.size,[s.heap.objs.size,p],[s.heap.objs.size],its.toArray.size,_,_,fun i=>(bs[i]?).getD true,rfl,Walks.list (A:=X.A.in1) (I.ok.hd hc) _ p (E4z hlt) its.toArray,⟨⟨_,Heap.get?_push_size _ rfl,rfl,rfl⟩,hl.push _⟩,fun i v s' Q' E' hP hQ=>?_,fun h' tk hk=>?_⟩)
 ·obtain⟨b,e,rfl⟩:=hb.get i v (by simpa using hP)
  simp only[e,Option.getD_some] at hQ;exact P1z hQ
 ·have e:((List.range its.toArray.size).all fun i=>(bs[i]?).getD true)=bs.all id:=by rw[R1z,hb.length];exact LSm.range_all bs
  rw[e];exact⟨.bl _,H,I.kept (LSm.kept_iter hk),rfl,q⟩
theorem IW(hl:items d0=some l):EvC X (.type "tuple") [d0] (.tup l):=by
 intro vs H Hs Q hs hr hq;obtain⟨v,rfl,r1⟩:=mJ hr;refine dw.sem nO ?_
 cases d0 with
 | tup xs =>
  simp only[items,Y1z] at hl;subst hl
  obtain⟨a,us,rfl,h1,h2⟩:=bZ r1;exact⟨a,us,rfl,.inr ⟨hs.tup h1,hq _ H Hs (.refl hs) r1⟩⟩
 | lst xs =>
  simp only[items,Y1z] at hl;subst hl
  obtain⟨a,us,rfl,h1,h2⟩:=bG r1;exact⟨a,us,rfl,.inl ⟨hs.seq h1,fun p hp=>mX hs h2 hp hq⟩⟩
 | _=>simp[items] at hl
theorem Fj:∀ {l:List Int},Fq l=true->l.Pairwise (· <= ·)
 | [],_=>.nil
 | [x],_=>by simp
 | x::y::r,h=>by
  simp only[Fq,D2z,W1z] at h;have ih:=Fj h.2;refine .cons (fun z hz=>?_) ih;rcases List.mem_cons.mp hz with rfl | hz
  ·exact h.1
  ·exact Int.le_trans h.1 (List.rel_of_pairwise_cons ih hz)
theorem rH:dw X (.builtin "sorted") (fun xs H Q=>∃ (p:Addr) (ns:List Int),xs=[.ref p]/\SqL X.K H p (ns.map V.int)/\Fq ns=true/\ns.length<64/\∀ l,H l=none->Q (.ref l) (upd H l (.lst (ns.map V.int)))):=by
 intro z0 s σ H xs us Q I r h;obtain⟨p,ns,rfl,hq,ha,hn,q⟩:=h;obtain⟨u,rfl,rx⟩:=vals1 r;cases (show u=Value.ref p from rx);obtain⟨its,r',pl,hz⟩:=I.list hq;have hi:=intsAre_of r';have hl:=r'.length;rw[U2z] at hl;refine sorted_ints pl.isList hi (by omega) fun out ns' h1 h2 h3=>?_;have e:=PySem.W.lks_uniq h2 h3 (Fj ha);subst e;obtain⟨c,hc⟩:=sortedAll_at s.heap its out;exact⟨.ref (s.heap.objs.size+1),_,I.laid (t':=s.toks) (fun _ _=>sortedAll_old) (Nat.le_succ _) (show d8 X.prog X.w _ _ _ (.lst (ns'.map V.int)) from⟨hz,out.toList,c,jH h1,hc⟩),rfl,q _ (I.hok.fresh (Nat.le_succ _))⟩
def aaR:String->Value
 | "tuple"=>.type "tuple"
 | "list"=>.type "list"
 | "int"=>.type "int"
 | b=>.builtin b
theorem Ob{b:String}{d:D}(hc:X.calm=true)(h:DE.blt b ds=some d):EvC X (aaR b) ds d:=by
 intro vs H Hs Q hs hr hq;unfold DE.blt at h;split at h
 ·simp only[bind,Option.bind] at h
  split at h
  ·cases h
  ·rename_i l hl
   cases h;obtain⟨v,rfl,r1⟩:=mJ hr;obtain⟨a,us,rfl,h1,h2⟩:=jK r1 hl;refine dw.sem pQ ⟨a,us,rfl,h1.imp hs.seq hs.tup,?_⟩;rw[<- h2.length];exact hq _ H Hs (.refl hs) (by simp[Rep])
 ·simp only[bind,Option.bind] at h
  split at h
  ·cases h
  ·rename_i l hl
   cases h;obtain⟨v,rfl,r1⟩:=mJ hr;obtain⟨a,us,rfl,h1,h2⟩:=bG r1;have e:=jG hl h2;subst e;exact dw.sem (zO hc) ⟨a,_,rfl,hs.seq h1,hq _ H Hs (.refl hs) (by simp[Rep])⟩
 ·simp only[bind,Option.bind] at h
  split at h
  ·cases h
  ·rename_i l hl
   cases h;obtain⟨v,rfl,r1⟩:=mJ hr;obtain⟨a,us,rfl,h1,h2⟩:=bG r1;have e:=iC hl h2;subst e;exact dw.sem (zK hc) ⟨a,_,rfl,hs.seq h1,hq _ H Hs (.refl hs) (by simp[Rep])⟩
 ·simp only[bind,Option.bind] at h
  split at h
  ·cases h
  ·rename_i l hl
   cases h;exact IW hl vs H Hs Q hs hr hq
 ·simp only[bind,Option.bind] at h
  split at h
  ·cases h
  ·rename_i l hl
   cases h;obtain⟨v,rfl,r1⟩:=mJ hr;obtain⟨a,us,rfl,h1,h2⟩:=jK r1 hl;exact dw.sem jh ⟨a,us,rfl,h1.imp hs.seq hs.tup,fun p hp=>fM hs h2 hp hq⟩
 ·obtain⟨l,hl,h⟩:=Option.bind_eq_some_iff.mp h
  split at h
  ·rename_i hh
   cases h;simp only[D2z,W1z] at hh;obtain⟨v,rfl,r1⟩:=mJ hr;obtain⟨a,us,rfl,h1,h2⟩:=bG r1;have e:=iC hl h2;subst e;exact dw.sem rH ⟨a,_,rfl,hs.seq h1,hh.1,hh.2,fun p hp=>fM hs h2 hp hq⟩
  ·cases h
 ·cases h
  obtain⟨v,w,rfl,r1,r2⟩:=Gv hr;exact dw.sem (zL hc) ⟨_,_,by rw[aF r1,aF r2],hq _ H Hs (.refl hs) (by simp[Rep])⟩
 ·cases h
  obtain⟨v,w,rfl,r1,r2⟩:=Gv hr;exact dw.sem (zM hc) ⟨_,_,by rw[aF r1,aF r2],hq _ H Hs (.refl hs) (by simp[Rep])⟩
 ·cases h
  obtain⟨v,rfl,r1⟩:=mJ hr;exact dw.sem CV ⟨_,by rw[aF r1],hq _ H Hs (.refl hs) (by simp[Rep])⟩
 ·cases h
  obtain⟨v,rfl,r1⟩:=mJ hr;exact dw.sem pR (.inr ⟨_,by rw[dz r1],hq _ H Hs (.refl hs) (by simp[Rep,DE.b2i])⟩)
 ·cases h
  obtain⟨v,rfl,r1⟩:=mJ hr;exact dw.sem pR (.inl ⟨_,by rw[aF r1],hq _ H Hs (.refl hs) (by simp[Rep])⟩)
 ·cases h
end
section
variable {X:Cx} {ρ:Rho} {cx:Cxt} {k:Nat} {sc:Scope}
theorem bJ{x:Str}{b:String}(G:Good cx k X sc)(h:bC cx sc x=some b):Gl X x/\X.mg x=none/\x=Str.ofString b:=by
 unfold bC mZ at h;split at h
 ·rename_i hg
  have e:sc.names.lookup x=some .globalImplicit:=by simpa using hg
  refine⟨?_,G.blt x b h⟩;show X.env.scope.names.lookup x=_;rw[G.sce,e]
 ·cases h
theorem zP{b:String}{d:D}(h:DE.blt b ds=some d):b="len"\/b="all"\/b="sum"\/b="tuple"\/b="list"\/b="min"\/b="max"\/b="abs"\/b="int"\/b="any"\/b="sorted":=by
 unfold DE.blt at h
 split at h<;>first | (simp;done) | cases h
theorem Cv{x:Str}{b:String}{e:Expr}{es:List Expr}{d:D}{p pos:Pos}(G:Good cx k X sc)(hx:bC cx sc x=some b)(h:EvA X ρ (e::es) ds)(hp:∀ a∈e::es,aG a=true)(hd:DE.blt b ds=some d):
  Ev X ρ (.Call (.Name x p) (e::es) [] pos) d:=by
 obtain⟨hg,hm,rfl⟩:=bJ G hx;have c:=Ob (X:=X) G.calm hd;have s1:=ak (env:=X.env) (es:=es) (hp e (by simp));have s2:=fL (env:=X.env) (pos:=pos) fun a ha=>hp a (Q0z _ ha)
 have fin:∀ f:Value,aaR b=f->PE X (.Call (.Name (Str.ofString b) p) (e::es) [] pos) (tCB (O2 X f) (wj X (e::es)))->Ev X ρ (.Call (.Name (Str.ofString b) p) (e::es) [] pos) d:=by
  intro f hf hpe σ H Hs Q hs hst hq;rw[hf] at c;refine hpe.sem (h σ H Hs _ hs hst fun vs H1 Hs1 E1 r1=>?_);exact c vs H1 Hs1 Q E1.sub r1 fun v H' Hs' E2 r2=>hq v H' Hs' (E1.trans E2) r2
 rcases zP hd with rfl | rfl | rfl | rfl | rfl | rfl | rfl | rfl | rfl | rfl | rfl
 all_goals first
  | exact fin (.builtin _) rfl (mU ur hg hm (by decide +kernel) je (by decide) (by decide) s1 s2)
  | exact fin (.type _) rfl (oX ur hg hm (by decide +kernel) je (by decide) (by decide) s1 s2)
def rIsi(K:Z3)(T:String):List V->Hp->VK->Prop:=fun xs H Q=>∃ x d,xs=[x,.ty T]/\Rep K H d x/\isExc d=false/\Q (.bl (lM T d)) H
theorem rP{T:String}(h:gD T=true):T="int"\/T="bool"\/T="tuple"\/T="list"\/T="str":=by
 unfold gD at h
 split at h<;>first | (simp;done) | cases h
theorem lZ{x:V}(r:Vals (x::vs) us):∃ u w,us=u::w/\RelV x u/\Vals vs w:=by
 cases r with
 | cons r rr=>exact⟨_,_,rfl,r,rr⟩
theorem CT{T:String}(hk:gD T=true):dw X (.builtin "isinstance") (rIsi X.K T):=by
 intro z0 s σ H xs us Q I r h;obtain⟨x,d,rfl,rd,hne,q⟩:=h;obtain⟨u,w1,rfl,rx,rr⟩:=lZ r;obtain⟨c,w2,rfl,rc,rr2⟩:=lZ rr;cases rr2;cases (show c=Value.type T from rc);have fin:∀ b,b=lM T d->∀ tk,EP X z0 σ Q (.bool b) { s with toks:=tk }:=fun b hb tk=>⟨.bl _,H,I.tok _,by rw[hb];rfl,q⟩;have ks:=rP hk
 cases d with
 | exc c=>exact absurd hne (by simp[isExc])
 | dic _ _=>exact absurd hne (by simp[isExc])
 | non =>
  cases mG rd;cases (show u=Value.none from rx)
  rcases ks with rfl | rfl | rfl | rfl | rfl<;>exact A3z (b:=false) PySem.W.kitx_none I.kIn True.intro rfl (fun z=>nomatch z) (fin _ rfl)
 | bl y =>
  cases dz rd;cases (show u=Value.bool y from rx)
  rcases ks with rfl | rfl | rfl | rfl | rfl<;>exact A3z PySem.W.kitx_bool I.kIn True.intro rfl (fun z=>nomatch z) (fin _ rfl)
 | int y =>
  cases aF rd;obtain⟨t,e⟩:=(show ∃ t,u=Value.int y t from rx);cases e
  rcases ks with rfl | rfl | rfl | rfl | rfl<;>exact A3z PySem.W.kitx_int I.kIn True.intro rfl (fun z=>nomatch z) (fin _ rfl)
 | str y =>
  have ev:x=.str y:=by simpa[Rep] using rd
  subst ev;obtain⟨t,e⟩:=(show ∃ t,u=Value.str y t from rx);cases e
  rcases ks with rfl | rfl | rfl | rfl | rfl<;>exact A3z PySem.W.kitx_str I.kIn True.intro rfl (fun z=>nomatch z) (fin _ rfl)
 | tup ds =>
  obtain⟨a,vs,rfl,h1,h2⟩:=bZ rd;cases (show u=Value.ref a from rx);obtain⟨its,_,o,g1,g2,_⟩:=isT I h1
  rcases ks with rfl | rfl | rfl | rfl | rfl<;>exact A3z PySem.W.kitx_tuple I.kIn ⟨o,g1,g2⟩ rfl (fun z=>nomatch z) (fin _ rfl)
 | lst ds =>
  obtain⟨a,vs,rfl,h1,h2⟩:=bG rd;cases (show u=Value.ref a from rx);obtain⟨its,_,o,g1,g2,_⟩:=isL I h1
  rcases ks with rfl | rfl | rfl | rfl | rfl<;>exact A3z PySem.W.kitx_list I.kIn ⟨o,g1,g2⟩ rfl (fun z=>nomatch z) (fin _ rfl)
theorem N7{x t:Str}{T:String}{d:D}{p pt pos:Pos}(G:Good cx k X sc)(hx:bC cx sc x=some "isinstance")(ht:bC cx sc t=some T)(hk:gD T=true)(ha:Ev X ρ a d)(hp:aG a=true)(hne:isExc d=false):
  Ev X ρ (.Call (.Name x p) [a,.Name t pt] [] pos) (.bl (lM T d)):=by
 obtain⟨hg,hm,rfl⟩:=bJ G hx;obtain⟨hg2,hm2,rfl⟩:=bJ G ht
 have htv:PE X (.Name (Str.ofString T) pt) (tC (.ty T)):=by
  rcases rP hk with rfl | rfl | rfl | rfl | rfl<;>exact xH hg2 hm2 (by decide +kernel) rfl
 intro σ H Hs Q hs hst hq;refine(mU (CT (X:=X) hk) hg hm (by decide +kernel) (bw aq (bw htv cV (ak rfl)) (ak hp)) (by decide) (by decide) (ak hp) rfl).sem ?_;exact ha σ H Hs _ hs hst fun v H1 Hs1 E1 r1=>⟨v,d,rfl,Rep.same E1.sub d v r1,hne,hq _ H1 Hs1 E1 (by simp[Rep])⟩
def QK(K:Z3)(cv:V)(C:Addr)(b:Bool):List V->Hp->VK->Prop:=fun xs H Q=>∃ a,xs=[.ref a,cv]/\H a=some (.ext (isX a (.ref C)))/\Q (.bl b) H
theorem zN{c:Value}{C:Addr}{b:Bool}(hA:lY X.K C=true)(hc:∀ u,RelV cv u->u=c)(e:PySem.W.kitOne X.K (.ref C) c=some b):dw X (.builtin "isinstance") (QK X.K cv C b):=by
 intro z0 s σ H xs us Q I r h;obtain⟨a,rfl,ha,q⟩:=h;obtain⟨u,w1,rfl,rx,rr⟩:=lZ r;obtain⟨u2,w2,rfl,rc,rr2⟩:=lZ rr;cases rr2;cases (show u=Value.ref a from rx);cases hc u2 rc;exact A3z (BP hA) I.kIn (I.hok _ _ ha).1 e (fun z=>nomatch z) fun tk=>⟨.bl _,H,I.tok _,rfl,q⟩
theorem rD{x c:Str}{t a:Expr}{tv:TE}{cv:V}{cw:Value}{b:Bool}{p pos:Pos}(G:Good cx k X sc)(hx:bC cx sc x=some "isinstance")(hc:cx.exs.contains c=true)(ht:PE X t (tC cv))(hpt:aG t=true)(hcv:∀ u,RelV cv u->u=cw)
  (hk:∀ C,PySem.W.nsIn X.K mainGlobals c=some (some (.ref C))->PySem.W.kitOne X.K (.ref C) cw=some b) (ha:Ev X ρ a (.exc c)) (hp:aG a=true):Ev X ρ (.Call (.Name x p) [a,t] [] pos) (.bl b):=by
 obtain⟨hg,hm,rfl⟩:=bJ G hx;obtain⟨C,M,e1,_,_,e2,_⟩:=G.exs.cls c hc;intro σ H Hs Q hs hst hq;refine(mU (zN (X:=X) (cv:=cv) e2 hcv (hk C e1)) hg hm (by decide +kernel) (bw aq (bw ht cV (ak hpt)) (ak hp)) (by decide) (by decide) (ak hp) (by rw[ak hpt];rfl)).sem ?_;refine ha σ H Hs _ hs hst fun v H1 Hs1 E1 r1=>?_;have r2:=Rep.same E1.sub _ v r1;simp only[Rep] at r2;obtain⟨a0,C0,rfl,f1,f2⟩:=r2;rw[e1] at f1;cases f1;exact⟨a0,rfl,f2,hq _ H1 Hs1 E1 (by simp[Rep])⟩
theorem Je{x t c:Str}{p pt pos:Pos}(G:Good cx k X sc)(hx:bC cx sc x=some "isinstance")(ht:bC cx sc t=some "ValueError")(hc:cx.exs.contains c=true)(ha:Ev X ρ a (.exc c))(hp:aG a=true):Ev X ρ (.Call (.Name x p) [a,.Name t pt] [] pos) (.bl true):=by
 obtain⟨hg2,hm2,rfl⟩:=bJ G ht;refine rD (tv:=tC (.ty "ValueError")) (cv:=.ty "ValueError") (cw:=.type "ValueError") G hx hc (xH hg2 hm2 (by decide +kernel) rfl) rfl (fun u r=>r) (fun C e=>?_) ha hp;obtain⟨C',M,e1,_,_,_,_,_,e2⟩:=G.exs.cls c hc;rw[e] at e1;cases e1;exact e2
theorem J1{t:Expr}(h:xOf cx sc t=some c'):∃ pt,t=.Name c' pt/\mZ cx sc c'=true/\(cx.exs.contains c'=true\/c'=cx.top)/\(c'==("__debug__":Str))=false:=by
 unfold xOf at h;split at h
 ·rename_i y pt
  split at h
  ·rename_i q
   cases h;rw[D2z,D2z,Z2z] at q;have q2:=q.2;unfold aA at q2;rw[D2z,D5z] at q2;exact⟨pt,rfl,q.1.1,q.1.2.imp id (fun z=>by simpa using z),by simpa using q2.1⟩
  ·cases h
 ·cases h
theorem Jd{x c c':Str}{t a:Expr}{p pos:Pos}(G:Good cx k X sc)(hx:bC cx sc x=some "isinstance")(ht:xOf cx sc t=some c')(hc:cx.exs.contains c=true)(ha:Ev X ρ a (.exc c))(hp:aG a=true):Ev X ρ (.Call (.Name x p) [a,t] [] pos) (.bl (JD cx.top c c')):=by
 obtain⟨pt,rfl,hgl,hin,hd⟩:=J1 ht
 have hg:Gl X c':=by
  have e:sc.names.lookup c'=some .globalImplicit:=by unfold mZ at hgl;simpa using hgl
  show X.env.scope.names.lookup c'=_;rw[G.sce,e]
 by_cases htop:c'=cx.top
 ·subst htop
  obtain⟨C,M,e1,e2,_,_,_,e3,_⟩:=G.exs.cls c hc
  have:JD cx.top c cx.top=true:=by unfold JD;simp
  rw[this];refine rD (tv:=tC (.ref M)) (cv:=.ref M) (cw:=.ref M) G hx hc (qO hg (G.exs.glob _ _ e2) rfl hd) rfl (fun u r=>r) (fun C' e=>?_) ha hp;rw[e] at e1;cases e1;exact e3
 ·have hin':cx.exs.contains c'=true:=hin.resolve_right htop
  obtain⟨C,C',e1,e2,e3⟩:=G.exs.sub c c' hc hin'
  have:JD cx.top c c'=(c==c'):=by
   unfold JD
   have:(c'==cx.top)=false:=by simpa using htop
   rw[this,Bool.or_false]
  rw[this];refine rD (tv:=tC (.ref C')) (cv:=.ref C') (cw:=.ref C') G hx hc (qO hg (G.exs.glob _ _ e2) rfl hd) rfl (fun u r=>r) (fun C'' e=>?_) ha hp;rw[e] at e1;cases e1;exact e3
end
section
variable {X:Cx} {ρ:Rho} {cx:Cxt} {k:Nat} {sc:Scope}
theorem vW:∀ {vs:List V} {us:List Value},vs.length=us.length->(∀ (i:Nat) (v:V) (u:Value),vs[i]?=some v->us[i]?=some u->RelV v u)->Vals vs us
 | [],[],_,_=>.nil
 | [],u::us,h,_=>by simp at h
 | v::vs,[],h,_=>by simp at h
 | v::vs,u::us,h,hr=>.cons (hr 0 v u rfl rfl) (vW (by simpa using h) fun i a b e1 e2=>hr (i+1) a b (by simpa using e1) (by simpa using e2))
def jL(lo hi:Int):List V:=(List.range (hi-lo).toNat).map fun(k:Nat)=>V.int (lo+(k:Int))
theorem mH{α:Type}{K:Z3}{H:Hp}{f:α->D}{g:α->V}(h:∀ x,Rep K H (f x) (g x)):∀ l:List α,aU K H (l.map f) (l.map g)
 | []=>.nil
 | x::r=>.cons (h x) (mH h r)
theorem oV{K:Z3}{H:Hp}{lo hi:Int}:aU K H (cQ lo hi) (jL lo hi):=mH (fun x=>by simp[Rep]) _
theorem eU{i:Int}(h:cC i=true):-(2^62)<=i/\i<2^62:=by
 unfold cC at h;rw[D2z,W1z,W1z] at h;exact h
theorem ig{z0:List (Addr×Obj)}{σ:St}{H:Hp}{s:Shared}{Q:VK}{E:Value->Shared->Prop}{lo hi:Int}{t u v:Tok}{tk:Nat}(hc:X.calm=true)(I:Inv X z0 σ H s)(h1:-(2^62)<=lo/\lo<2^62)(h3:-(2^62)<=hi/\hi<2^62)
  (hz:szl (hi-lo).toNat=true) (q:∀ p,H p=none->Q (.ref p) (upd H p (.lst (jL lo hi)))) :
  wpAny (model X.prog X.w) X.A (call (.type "list") [.ref s.heap.objs.size]) (EP X z0 σ Q) E { s with heap:=s.heap.push { cls:=.type "range",data:=.fields #[.int lo t,.int hi u,.int 1 v] },toks:=tk }:=by
 have hz':(hi-lo).toNat<=100000:=by unfold szl at hz;simpa using hz
 refine call_list_range (n:=(hi-lo).toNat) (I.ok.hd hc) (IsRange.new ..) (small_one h1.1 h1.2 h3.1 h3.2) (by rw[rangeSize_one];split<;>omega) (by omega) fun h' tk' acc' c' kp e its=>?_
 have I1:Inv X z0 σ H { s with heap:=s.heap.push { cls:=.type "range",data:=.fields #[.int lo t,.int hi u,.int 1 v] },toks:=tk }:=I.kept fun b o e=>Heap.get?_push_of_some _ e
 have hl:(jL lo hi).length=(hi-lo).toNat:=by simp[jL]
 have hv:Vals (jL lo hi) acc'.toList:=by
  refine vW (by rw[hl,X0z,its.1]) fun i v u e1 e2=>?_;obtain⟨t,rfl⟩:=its.2 i u (by simpa using e2);unfold jL at e1;rw[List.getElem?_map] at e1;obtain⟨j,e3,rfl⟩:=L0z.mp e1;rw[List.getElem?_eq_some_iff] at e3;obtain⟨_,e3⟩:=e3;rw[List.getElem_range] at e3;subst e3;exact⟨t,by rw[Int.mul_one]⟩
 refine⟨.ref _,_,I1.laid (t':=tk') kp (Q4z _) (show d8 X.prog X.w _ h' _ (.lst (jL lo hi)) from⟨by rw[hl];exact fK hz,acc'.toList,c',hv,e⟩),rfl,q _ (I1.hok.fresh (Q4z _))⟩
theorem vo{x y:Str}{j:Int}{p q q' pos:Pos}(G:Good cx k X sc)(hx:bC cx sc x=some "list")(hy:bC cx sc y=some "range")(ha:Ev X ρ a (.int j))(hp:aG a=true)(hj:cC j=true)(hz:szl j.toNat=true):
  Ev X ρ (.Call (.Name x p) [.Call (.Name y q) [a] [] q'] [] pos) (.lst (cQ 0 j)):=by
 obtain⟨hg,hm,rfl⟩:=bJ G hx;obtain⟨hg2,hm2,rfl⟩:=bJ G hy;intro σ H Hs Q hs hst hq z0 s I;refine Call_ (eX I hg hm (show bootBuiltins "list"=some (.type "list") by decide +kernel) (B0z ?_ rfl rfl));show wpAny _ _ (spliced [(false,eval (.Call (.Name _ q) [a] [] q') X.env)]) _ _ _;refine I1z ?_;refine Call_ (eX I hg2 hm2 boot_range (B0z ?_ (ak hp) rfl));refine thn ((bw aq cV (ak hp)) q' z0 s σ H (fun vs H1=>∃ Hs1,vs=[.int j]/\Ext Hs H Hs1 H1) I (ha σ H Hs _ hs hst fun v H1 Hs1 E1 r1=>⟨Hs1,by rw[aF r1],E1⟩)) fun us s1 ⟨vs,H1,I1,r1,Hs1,e1,E1⟩=>?_;subst e1;obtain⟨u,w1,rfl,rx,rr⟩:=lZ r1;cases rr;obtain⟨t,rfl⟩:=(show ∃ t,u=Value.int j t from rx);refine call_range_1 (Calls.spliced_nil ?_);exact ig G.calm I1 (by decide) (eU hj) (by simpa using hz) fun p hp=>fM E1.sub oV hp fun w H' Hs' E2 r2=>hq w H' Hs' (E1.trans E2) r2
theorem vm{x y:Str}{a b:Expr}{i j:Int}{p q q' pos:Pos}(G:Good cx k X sc)(hx:bC cx sc x=some "list")(hy:bC cx sc y=some "range")(ha:Ev X ρ a (.int i))(hp:aG a=true)(hb:Ev X ρ b (.int j))(hpb:aG b=true)(hi:cC i=true)(hj:cC j=true)(hz:szl (j-i).toNat=true):
  Ev X ρ (.Call (.Name x p) [.Call (.Name y q) [a,b] [] q'] [] pos) (.lst (cQ i j)):=by
 obtain⟨hg,hm,rfl⟩:=bJ G hx;obtain⟨hg2,hm2,rfl⟩:=bJ G hy;intro σ H Hs Q hs hst hq z0 s I;refine Call_ (eX I hg hm (show bootBuiltins "list"=some (.type "list") by decide +kernel) (B0z ?_ rfl rfl));show wpAny _ _ (spliced [(false,eval (.Call (.Name _ q) [a,b] [] q') X.env)]) _ _ _;refine I1z ?_;refine Call_ (eX I hg2 hm2 boot_range (B0z ?_ (ak hp) (fL fun e he=>by rw[List.mem_singleton.mp he];exact hpb)));refine thn ((bw aq (bw aq cV (ak hpb)) (ak hp)) q' z0 s σ H (fun vs H1=>∃ Hs1,vs=[.int i,.int j]/\Ext Hs H Hs1 H1) I (ha σ H Hs _ hs hst fun v H1 Hs1 E1 r1=>hb σ H1 Hs1 _ E1.sub (hst.same E1.vis) fun v' H2 Hs2 E2 r2=>⟨Hs2,by rw[aF r1,aF r2],E1.trans E2⟩)) fun us s1 ⟨vs,H1,I1,r1,Hs1,e1,E1⟩=>?_;subst e1;obtain⟨u,w1,rfl,rx,rr⟩:=lZ r1;obtain⟨u2,w2,rfl,rx2,rr2⟩:=lZ rr;cases rr2;obtain⟨t,rfl⟩:=(show ∃ t,u=Value.int i t from rx);obtain⟨t2,rfl⟩:=(show ∃ t,u2=Value.int j t from rx2);refine call_range_2 (Calls.spliced_nil ?_);exact ig G.calm I1 (eU hi) (eU hj) hz fun p hp=>fM E1.sub oV hp fun w H' Hs' E2 r2=>hq w H' Hs' (E1.trans E2) r2
variable {tg iter a b:Expr}
theorem Jm{d:D}(h:Ev X ρ iter d)(hl:items d=some l):EvI X ρ tg iter l:=by
 intro σ H Hs R hs hst hq
 cases d with
 | lst xs =>
  simp only[items,Y1z] at hl;subst hl
  refine(GZ (tg:=tg) aq).sem (h σ H Hs _ hs hst fun v H1 Hs1 E1 r1=>?_);obtain⟨p,vs,rfl,h1,h2⟩:=bG r1;refine⟨p,rfl,⟨vs,E1.sub.seq h1⟩,hq _ H1 Hs1 E1 fun Hs' H' e1 e2=>⟨⟨vs,e2.seq (e1.seq h1),by rw[h2.length];exact Q4z _⟩,fun i d hd=>?_⟩⟩;obtain⟨v,g1,g2⟩:=h2.get hd;refine⟨⟨vs,v,e2.seq (e1.seq h1),g1⟩,fun x H2 y=>?_⟩;obtain⟨rfl,y⟩:=y;have:=y vs (e2.seq (e1.seq h1));rw[g1] at this;cases this;exact⟨Hs',.refl e2,Rep.same e1 d v g2⟩
 | tup xs =>
  simp only[items,Y1z] at hl;subst hl
  refine(Ln (tg:=tg) aq).sem (h σ H Hs _ hs hst fun v H1 Hs1 E1 r1=>?_);obtain⟨p,vs,rfl,h1,h2⟩:=bZ r1;refine⟨p,rfl,⟨vs,E1.sub.tup h1⟩,hq _ H1 Hs1 E1 fun Hs' H' e1 e2=>⟨⟨vs,e2.tup (e1.tup h1),by rw[h2.length];exact Q4z _⟩,fun i d hd=>?_⟩⟩;obtain⟨v,g1,g2⟩:=h2.get hd;refine⟨⟨vs,v,e2.tup (e1.tup h1),g1⟩,fun x H2 y=>?_⟩;obtain⟨rfl,y⟩:=y;have:=y vs (e2.tup (e1.tup h1));rw[g1] at this;cases this;exact⟨Hs',.refl e2,Rep.same e1 d v g2⟩
 | _=>simp[items] at hl
theorem jV{K:Z3}{lo hi:Int}{n:Nat}(hn:n=(hi-lo).toNat):JC K (Itr lo n) Hs0 (cQ lo hi):=by
 have hl:(cQ lo hi).length=n:=by rw[hn];simp[cQ]
 intro Hs H e1 e2;refine⟨by show n<=_;rw[hl];exact Q4z _,fun i d hd=>?_⟩
 have hi:i<n:=by have:=(List.getElem?_eq_some_iff.mp hd).1;rw[hl] at this;exact this
 refine⟨hi,fun x H' y=>?_⟩;obtain⟨rfl,rfl⟩:=y;refine⟨Hs,.refl e2,?_⟩;unfold cQ at hd;rw[List.getElem?_map] at hd;obtain⟨j,e3,rfl⟩:=L0z.mp hd;rw[List.getElem?_eq_some_iff] at e3;obtain⟨_,e3⟩:=e3;rw[List.getElem_range] at e3;subst e3;simp[Rep]
theorem vA{x:Str}{j:Int}{p pos:Pos}(G:Good cx k X sc)(hx:bC cx sc x=some "range")(ha:Ev X ρ a (.int j))(hp:aG a=true)(hj:cC j=true):EvI X ρ tg (.Call (.Name x p) [a] [] pos) (cQ 0 j):=by
 obtain⟨hg,hm,rfl⟩:=bJ G hx;intro σ H Hs R hs hst hq;have q:=xu (tg:=tg) (p:=p) (pos:=pos) hg hm (bw (aq (X:=X) (e:=a)) cV (ak hp)) (ak hp);refine PI.sem q (ha σ H Hs _ hs hst fun v H1 Hs1 E1 r1=>?_);exact⟨j,by rw[aF r1],(eU hj).1,(eU hj).2,hq _ H1 Hs1 E1 (jV (by simp))⟩
theorem vq{x:Str}{i j:Int}{p pos:Pos}(G:Good cx k X sc)(hx:bC cx sc x=some "range")(ha:Ev X ρ a (.int i))(hp:aG a=true)(hb:Ev X ρ b (.int j))(hpb:aG b=true)(hi:cC i=true)(hj:cC j=true):EvI X ρ tg (.Call (.Name x p) [a,b] [] pos) (cQ i j):=by
 obtain⟨hg,hm,rfl⟩:=bJ G hx;intro σ H Hs R hs hst hq;have q:=xr (tg:=tg) (p:=p) (pos:=pos) hg hm (bw (aq (X:=X) (e:=a)) (bw (aq (X:=X) (e:=b)) cV (ak hpb)) (ak hp)) (by rw[ak hp,ak hpb];rfl) (ak hpb);refine PI.sem q (ha σ H Hs _ hs hst fun v H1 Hs1 E1 r1=>hb σ H1 Hs1 _ E1.sub (hst.same E1.vis) fun v' H2 Hs2 E2 r2=>?_);exact⟨i,j,by rw[aF r1,aF r2],⟨(eU hi).1,(eU hi).2,(eU hj).1,(eU hj).2⟩,hq _ H2 Hs2 (E1.trans E2) (jV rfl)⟩
theorem pC{K:Z3}{hi lo:Int}{n:Nat}(hn:n=(hi-lo).toNat):JC K (Pr hi n) Hs0 (dnD hi lo):=by
 have hl:(dnD hi lo).length=n:=by rw[hn];simp[dnD]
 intro Hs H e1 e2;refine⟨by show n<=_;rw[hl];exact Q4z _,fun i d hd=>?_⟩
 have hi':i<n:=by have:=(List.getElem?_eq_some_iff.mp hd).1;rw[hl] at this;exact this
 refine⟨hi',fun x H' y=>?_⟩;obtain⟨rfl,rfl⟩:=y;refine⟨Hs,.refl e2,?_⟩;unfold dnD at hd;rw[List.getElem?_map,List.getElem?_range (by omega)] at hd;cases hd;simp[Rep]
theorem vp{x:Str}{i j:Int}{c:Expr}{p pos:Pos}(G:Good cx k X sc)(hx:bC cx sc x=some "range")(ha:Ev X ρ a (.int i))(hp:aG a=true)(hb:Ev X ρ b (.int j))(hpb:aG b=true)(hc:Ev X ρ c (.int (-1)))(hpc:aG c=true)(hi:cC i=true)(hj:cC j=true):EvI X ρ tg (.Call (.Name x p) [a,b,c] [] pos) (dnD i j):=by
 obtain⟨hg,hm,rfl⟩:=bJ G hx;intro σ H Hs R hs hst hq;have q:=xq (tg:=tg) (p:=p) (pos:=pos) hg hm (bw (aq (X:=X) (e:=a)) (bw (aq (X:=X) (e:=b)) (bw (aq (X:=X) (e:=c)) cV (ak hpc)) (ak hpb)) (ak hp)) (by rw[ak hp,ak hpb,ak hpc];rfl) (by rw[ak hpb,ak hpc];rfl);refine PI.sem q (ha σ H Hs _ hs hst fun v H1 Hs1 E1 r1=>hb σ H1 Hs1 _ E1.sub (hst.same E1.vis) fun v' H2 Hs2 E2 r2=>hc σ H2 Hs2 _ E2.sub ((hst.same E1.vis).same E2.vis) fun v'' H3 Hs3 E3 r3=>?_);exact⟨i,j,by rw[aF r1,aF r2,aF r3],⟨(eU hi).1,(eU hi).2,(eU hj).1,(eU hj).2⟩,hq _ H3 Hs3 ((E1.trans E2).trans E3) (pC rfl)⟩
theorem yR{x:Str}{xs:List D}{p pos:Pos}(G:Good cx k X sc)(hx:bC cx sc x=some "reversed")(ha:Ev X ρ a (.lst xs))(hp:aG a=true):EvI X ρ tg (.Call (.Name x p) [a] [] pos) xs.reverse:=by
 obtain⟨hg,hm,rfl⟩:=bJ G hx;intro σ H Hs R hs hst hq;have q:=Bl (tg:=tg) (p:=p) (pos:=pos) hg hm (bw (aq (X:=X) (e:=a)) cV (ak hp)) (ak hp);refine PI.sem q (ha σ H Hs _ hs hst fun v H1 Hs1 E1 r1=>?_);obtain⟨b,vs,rfl,h1,h2⟩:=bG r1;have hl:=h2.length;refine⟨b,vs,rfl,E1.sub.seq h1,hq _ H1 Hs1 E1 fun Hs' H' e1 e2=>⟨by show _=_;rw[B1z,hl],fun i d hd=>?_⟩⟩
 have hi:i<xs.length:=by have:=(List.getElem?_eq_some_iff.mp hd).1;simpa using this
 rw[List.getElem?_reverse hi] at hd;obtain⟨v,g1,g2⟩:=h2.get hd;rw[hl] at g1;refine⟨⟨vs,e2.seq (e1.seq h1),rfl,by rw[<- hl];exact hi⟩,fun x H2 y=>?_⟩;obtain⟨rfl,y⟩:=y;have:=y vs (e2.seq (e1.seq h1));rw[g1] at this;cases this;exact⟨Hs',.refl e2,Rep.same e1 d v g2⟩
theorem Jl{x:Str}{xs ys:List D}{p pos pt:Pos}{es:List Expr}{kt:Nat}(G:Good cx k X sc)(hx:bC cx sc x=some "zip")(ha:Ev X ρ a (.tup xs))(hp:aG a=true)(hb:Ev X ρ b (.tup ys))(hpb:aG b=true):
  EvI X ρ (.Tuple es kt pt) (.Call (.Name x p) [a,b] [] pos) ((xs.zip ys).map fun q=>.tup [q.1,q.2]):=by
 obtain⟨hg,hm,rfl⟩:=bJ G hx;intro σ H Hs R hs hst hq;have q:=Lk (es:=es) (kt:=kt) (pt:=pt) (p:=p) (pos:=pos) hg hm (bw (aq (X:=X) (e:=a)) (bw (aq (X:=X) (e:=b)) cV (ak hpb)) (ak hp)) (by rw[ak hp,ak hpb];rfl) (ak hpb);refine PI.sem q (ha σ H Hs _ hs hst fun v H1 Hs1 E1 r1=>hb σ H1 Hs1 _ E1.sub (hst.same E1.vis) fun v' H2 Hs2 E2 r2=>?_);obtain⟨c,vs,rfl,h1,h2⟩:=bZ (Rep.same E2.vis _ _ r1);obtain⟨d,us,rfl,h3,h4⟩:=bZ r2;have l1:=h2.length;have l2:=h4.length;refine⟨c,d,rfl,⟨vs,E2.sub.tup h1⟩,⟨us,E2.sub.tup h3⟩,hq _ H2 Hs2 (E1.trans E2) fun Hs' H' e1 e2=>⟨⟨vs,us,e2.tup (e1.tup h1),e2.tup (e1.tup h3),?_⟩,fun i z hz=>?_⟩⟩
 ·rw[U2z,B3z]
  omega
 ·rw[List.getElem?_map] at hz
  obtain⟨⟨x1,y1⟩,e3,rfl⟩:=L0z.mp hz;rw[List.getElem?_zip_eq_some] at e3;obtain⟨v1,g1,g2⟩:=h2.get e3.1;obtain⟨v2,g3,g4⟩:=h4.get e3.2;refine⟨⟨vs,us,v1,v2,e2.tup (e1.tup h1),e2.tup (e1.tup h3),g1,g3⟩,fun w H3 y=>?_⟩;obtain⟨p,hp',rfl,y⟩:=y;rw[y vs us v1 v2 (e2.tup (e1.tup h1)) (e2.tup (e1.tup h3)) g1 g3];refine⟨_,Ext.new e2 (.tup [v1,v2]) hp',?_⟩;have sm:=(Ext.new e2 (.tup [v1,v2]) hp').vis;simp only[Rep];exact⟨p,[v1,v2],rfl,.of bh,.cons (Rep.same sm _ _ (Rep.same e1 _ _ g2)) (.cons (Rep.same sm _ _ (Rep.same e1 _ _ g4)) .nil)⟩
theorem Jo{xs:List D}:(enD xs).length=xs.length:=by simp[enD]
theorem Jp{xs:List D}{i:Nat}{d:D}(h:(enD xs)[i]?=some d):∃ x,xs[i]?=some x/\d=.tup [.int i,x]:=by
 unfold enD at h;rw[List.getElem?_map] at h;obtain⟨⟨x,j⟩,e1,e2⟩:=L0z.mp h;rw[List.getElem?_zipIdx] at e1;obtain⟨y,e3,e4⟩:=L0z.mp e1;simp at e4;obtain⟨rfl,rfl⟩:=e4;exact⟨y,e3,e2.symm⟩
theorem Cz{x:Str}{xs:List D}{p pos pt:Pos}{es:List Expr}{kt:Nat}(G:Good cx k X sc)(hx:bC cx sc x=some "enumerate")(ha:Ev X ρ a (.tup xs))(hp:aG a=true):
  EvI X ρ (.Tuple es kt pt) (.Call (.Name x p) [a] [] pos) (enD xs):=by
 obtain⟨hg,hm,rfl⟩:=bJ G hx;intro σ H Hs R hs hst hq;have q:=G3 (es:=es) (kt:=kt) (pt:=pt) (p:=p) (pos:=pos) hg hm (bw (aq (X:=X) (e:=a)) cV (ak hp)) (ak hp);refine PI.sem q (ha σ H Hs _ hs hst fun v H1 Hs1 E1 r1=>?_);obtain⟨c,vs,rfl,h1,h2⟩:=bZ r1;refine⟨c,rfl,⟨vs,E1.sub.tup h1⟩,hq _ H1 Hs1 E1 fun Hs' H' e1 e2=>⟨⟨vs,e2.tup (e1.tup h1),by rw[Jo,h2.length]⟩,fun i d hd=>?_⟩⟩;obtain⟨y,e3,rfl⟩:=Jp hd;obtain⟨w,g1,g2⟩:=h2.get e3;refine⟨⟨vs,w,e2.tup (e1.tup h1),g1⟩,fun u H2 yl=>?_⟩;obtain⟨p,hp',rfl,yl⟩:=yl;rw[yl vs w (e2.tup (e1.tup h1)) g1];refine⟨_,Ext.new e2 (.tup [.int i,w]) hp',?_⟩;have sm:=(Ext.new e2 (.tup [.int i,w]) hp').vis;simp only[Rep];exact⟨p,[.int i,w],rfl,.of bh,.cons (by simp[Rep]) (.cons (Rep.same sm _ _ (Rep.same e1 _ _ g2)) .nil)⟩
end
theorem aP{α β:Type}{x:Option α}{f:α->Option β}{y:β}(h:(x >>=f)=some y):∃ a,x=some a/\f a=some y:=by
 cases x with
 | none=>cases h
 | some a=>exact⟨a,rfl,h⟩
def Cd(X:Cx)(tg:Expr):TG:=fun v σ H Q=>∀ z0 s u,Inv X z0 σ H s->RelV v u->wpAny (model X.prog X.w) X.A (assign tg X.env u) (fun _ s'=>∃ σ' H',Inv X z0 σ' H' s'/\Q σ' H') X.xe s
def Io(X:Cx)(es:List Expr):TGs:=fun vs σ H Q=>∀ z0 s us,Inv X z0 σ H s->Vals vs us->wpAny (model X.prog X.w) X.A (assignInOrder ((assignEach es X.env).map (·.2)) us) (fun _ s'=>∃ σ' H',Inv X z0 σ' H' s'/\Q σ' H') X.xe s
section
variable {X:Cx} {tg:Expr} {es:List Expr}
theorem gW:PG X tg (Cd X tg):=fun z0 s σ H v u Q I r h=>h z0 s u I r
theorem PG.sem{t:TG}{H:Hp}{Q:St->Hp->Prop}(h:PG X tg t)(q:t v σ H Q):Cd X tg v σ H Q:=fun z0 s u I r=>h z0 s σ H v u Q I r q
theorem mL:PGs X es (Io X es):=fun z0 s σ H v u Q I r h=>h z0 s u I r
theorem PGs.sem{t:TGs}{H:Hp}{Q:St->Hp->Prop}(h:PGs X es t)(q:t v σ H Q):Io X es v σ H Q:=fun z0 s u I r=>h z0 s σ H v u Q I r q
end
theorem aJ:∀ (ρ:Rho) (x:Str) (v:Sl),(cL ρ x v).map (·.1)=ρ.map (·.1)
 | [],_,_=>rfl
 | (y,s)::r,x,v=>by
  unfold cL;split
  ·rfl
  ·simp[aJ r x v]
theorem aV:∀ {ρ:Rho} {x:Str} {v:Sl} {i:Nat},(ρ.map (·.1)).Nodup->(ρ.map (·.1))[i]?=some x->∀ j:Nat,(cL ρ x v)[j]?=if j=i then some (x,v) else ρ[j]?
 | [],x,v,i,_,h,_=>by simp at h
 | (y,s)::r,x,v,0,hn,h,j=>by
  simp at h;subst h
  cases j with
  | zero=>simp[cL]
  | succ j=>simp[cL]
 | (y,s)::r,x,v,i+1,hn,h,j=>by
  rw[W3z,W2z] at hn
  have h':(r.map (·.1))[i]?=some x:=by simpa using h
  have hne:(x==y)=false:=by
   rw[A1z];intro e;subst e;exact hn.1 (List.mem_of_getElem? h')
  simp only[cL,hne,L1z,H5z]
  cases j with
  | zero=>simp
  | succ j =>
   have:=aV (v:=v) hn.2 h' j;simp only[List.getElem?_cons_succ,this,Nat.add_right_cancel_iff]
theorem bT{l:List Str}{x:Str}(h:l.contains x=true):∃ i:Nat,l[i]?=some x:=by
 have:=List.mem_of_elem_eq_true h;exact List.mem_iff_getElem?.mp this
structure Owns (X:Cx) (scope:Scope):Prop where
 own:∀ x,ownIn scope x=true->Loc X.env.scope x/\(X.fn x=true\/X.env.scope.names.lookup x=some .local)
def lV(K:Z3)(Hs:Hp)(scope:Scope)(P:Rho->St->Prop):Prop:=∀ ρ σ (i:Nat) x d v,(ρ.map (·.1)).Nodup->(ρ.map (·.1))[i]?=some x->ownIn scope x=true->P ρ σ->Rep K Hs d v->P (cL ρ x (.sh d)) (σ.set i (some v))
section
variable {X:Cx} {scope:Scope} {Hs H:Hp} {P:Rho->St->Prop} {Q:St->Hp->Prop}
theorem pX{x:Str}{pos:Pos}{ρ ρ':Rho}{σ:St}{d:D}{v:V}(hO:Owns X scope)(hnd:X.N.Nodup)(hN:X.N=ρ.map (·.1))(KE:lV X.K Hs scope P)(hb:(if ownIn scope x&&(ρ.map (·.1)).contains x then some (cL ρ x (.sh d)) else none)=some ρ')(hp:P ρ σ)(rd:Rep X.K Hs d v)
  (hq:∀ σ',X.N=ρ'.map (·.1)->P ρ' σ'->Q σ' H):Cd X (.Name x pos) v σ H Q:=by
 split at hb
 ·rename_i hc
  cases hb;rw[D2z] at hc;obtain⟨i,hi⟩:=bT hc.2;obtain⟨h1,h2⟩:=hO.own x hc.1;exact PG.sem (G5 (i:=i) hnd (by rw[hN];exact hi) h1 h2) (hq _ (by rw[aJ];exact hN) (KE ρ σ i x d v (by rw[<- hN];exact hnd) hi hc.1 hp rd))
 ·cases hb
theorem fX:∀ {es:List Expr} {ds:List D} {ρ ρ':Rho},bindNames scope es ds ρ=some ρ'->(assignEach es env).length=es.length/\(assignEach es env).findIdx? (·.1)=none/\es.length=ds.length
 | [],[],_,_,_=>⟨rfl,rfl,rfl⟩
 | [],d::ds,ρ,ρ',h=>by simp[bindNames] at h
 | e::es,[],ρ,ρ',h=>by cases e<;>simp[bindNames] at h
 | e::es,d::ds,ρ,ρ',h=>by
  cases e<;>try (simp[bindNames] at h;done)
  rename_i x pos;simp only[bindNames] at h;split at h
  ·obtain⟨h1,h2,h3⟩:=fX (env:=env) h
   refine⟨by show(assignEach es env).length+1=_;rw[h1];rfl,?_,by simp[h3]⟩
   show((false,assign (.Name x pos) env)::assignEach es env).findIdx? (·.1)=none;rw[List.findIdx?_cons];simp only[L1z,H5z,h2];rfl
  ·cases h
theorem gb(hO:Owns X scope)(hnd:X.N.Nodup)(KE:lV X.K Hs scope P):∀ {es:List Expr} {ds:List D} {vs:List V} {ρ ρ':Rho} {σ:St},X.N=ρ.map (·.1)->bindNames scope es ds ρ=some ρ'->P ρ σ->aU X.K Hs ds vs->(∀ σ',X.N=ρ'.map (·.1)->P ρ' σ'->Q σ' H)->Io X es vs σ H Q
 | [],[],vs,ρ,ρ',σ,hN,h,hp,rd,hq=>by
  simp only[bindNames,Y1z] at h;subst h;simp only[aU] at rd;exact PGs.sem G4 ⟨rd,hq _ hN hp⟩
 | [],d::ds,vs,ρ,ρ',σ,hN,h,hp,rd,hq=>by simp[bindNames] at h
 | e::es,[],vs,ρ,ρ',σ,hN,h,hp,rd,hq=>by cases e<;>simp[bindNames] at h
 | e::es,d::ds,vs,ρ,ρ',σ,hN,h,hp,rd,hq=>by
  cases e<;>try (simp[bindNames] at h;done)
  rename_i x pos;simp only[bindNames] at h;split at h
  ·rename_i hc
   simp only[aU] at rd;obtain⟨v,r,rfl,r1,r2⟩:=rd;refine PGs.sem (Bm gW mL) ⟨v,r,rfl,?_⟩;exact pX hO hnd hN KE (ρ':=cL ρ x (.sh d)) (by rw[K5z hc]) hp r1 fun σ' hN' hp'=>gb hO hnd KE hN' h hp' r2 hq
  ·cases h
theorem rJ{tg:Expr}{ρ ρ':Rho}{σ:St}{d:D}{v:V}(hc:X.calm=true)(hO:Owns X scope)(hnd:X.N.Nodup)(hs:Same Hs H)(hN:X.N=ρ.map (·.1))(KE:lV X.K Hs scope P)(hb:gw scope tg d ρ=some ρ')(hp:P ρ σ)(rd:Rep X.K Hs d v)
  (hq:∀ σ',X.N=ρ'.map (·.1)->P ρ' σ'->Q σ' H):Cd X tg v σ H Q:=by
 unfold gw at hb;split at hb
 ·exact pX hO hnd hN KE hb hp rd hq
 ·rename_i es k pos ds
  obtain⟨a,vs,rfl,h1,h2⟩:=bZ rd;obtain⟨e1,e2,e3⟩:=fX (env:=X.env) hb;exact PG.sem (Dt hc mL e1 e2) ⟨a,vs,rfl,hs.tup h1,by rw[<- h2.length,e3],gb hO hnd KE hN hb hp h2 hq⟩
 ·cases hb
end
section
variable {X Xc:Cx} {scope sc:Scope} {cx:Cxt} {k:Nat} {ρ:Rho}
theorem jQ:∀ {l:List Str},o9 l=true->l.Nodup
 | [],_=>.nil
 | x::r,h=>by
  unfold o9 at h;rw[D2z] at h;refine W2z.mpr ⟨fun hm=>?_,jQ h.2⟩
  have:r.contains x=true:=by simpa using hm
  rw[this] at h;exact absurd h.1 (by decide)
theorem dI(G:Good cx k X sc)(h:iz sc scope=true):scope.kind=.function/\(scope.names.map (·.1)).Nodup/\∀ x,(x,NameKind.free)∈scope.names->X.env.kindOf x=some .cell\/X.env.kindOf x=some .free:=by
 unfold iz at h;rw[D2z,D2z] at h;refine⟨by simpa using h.1.1,jQ h.1.2,fun x hx=>?_⟩;have:=M2z.mp h.2 _ hx;show X.env.scope.names.lookup x=_\/X.env.scope.names.lookup x=_;rw[G.sce];simpa using this
theorem K8(G:Good cx k X sc):relabel scope X.env=kE scope sc:=by
 unfold relabel kE Env.kindOf;rw[G.sce]
theorem Good.comp(G:Good cx k X sc)(C:CompOf X scope Xc)(h:iz sc scope=true):Good cx k Xc (kE scope sc) where
 calm:=C.calm
 room:=by rw[C.A];exact G.room
 sce:=by rw[C.sc,K8 G]
 kind:=(dI G h).1
 nd:=by rw[C.N];exact(dI G h).2.1
 cst:=by rw[C.mg,C.K];exact G.cst
 blt:=by rw[C.mg];exact G.blt
 exs:=by rw[C.mg,C.K];exact G.exs
 fns:=by rw[C.mg,C.prog,C.w,C.K,C.base];exact G.fns
 kw:=by rw[C.K,C.w];exact G.kw
theorem Owns.comp(G:Good cx k X sc)(C:CompOf X scope Xc):Owns Xc scope where
 own:=fun x hx=>by
  unfold ownIn at hx;rw[Z2z] at hx
  have look:∀ kd,scope.names.lookup x=some kd->kd≠.free->Xc.env.scope.names.lookup x=some kd:=fun kd e hne=>by
   rw[C.sc];show(scope.names.map _).lookup x=_;rw[eG,e];simp[hne]
  rcases hx with hx | hx
  ·have e:scope.names.lookup x=some .local:=by simpa using hx
   have e2:=look _ e (by decide);exact⟨.inl e2,.inr e2⟩
  ·have e:scope.names.lookup x=some .cell:=by simpa using hx
   have e2:=look _ e (by decide);refine⟨.inr e2,.inl ?_⟩;rw[C.fn];show(scope.names.lookup x==some .cell)=true;rw[e];rfl
theorem dO:(bM scope ρ).map (·.1)=scope.names.map (·.1):=by
 unfold bM;rw[M4z];rfl
theorem j6{K:Z3}{N:List Str}(hN:N=ρ.map (·.1))(h:dh K Hs ρ σ):dh K Hs (bM scope ρ) (qW N scope.names σ):=by
 intro i x d e;unfold bM at e;rw[List.getElem?_map] at e;obtain⟨p,e1,e2⟩:=L0z.mp e
 cases hk:p.2==NameKind.free with
 | false=>rw[hk] at e2;simp at e2
 | true =>
  rw[hk] at e2;simp only[J5z,Prod.mk.injEq] at e2;obtain⟨rfl,e2⟩:=e2
  have e3:ρ.lookup p.1=some (.sh d):=by
   cases q:ρ.lookup p.1 with
   | none=>rw[q] at e2;simp[Qx] at e2
   | some sl =>
    rw[q] at e2
    cases sl<;>simp[Qx] at e2
    rw[e2]
  obtain⟨j,g1,g2⟩:=cR e3;obtain⟨v,g3,g4⟩:=h j _ d g1;refine⟨v,?_,g4⟩;unfold qW;rw[List.getElem?_map,e1];simp only[X2z,hk,J5z];unfold su;rw[hN,g2];simp[g3]
def CSt(K:Z3)(Hs:Hp)(n:Nat)(ρ0:Rho):Rho->St->Prop:=fun ρ σ=>σ.length=n/\dh K Hs ρ σ/\dh K Hs ρ0 σ
theorem oU{K:Z3}{i:Nat}{x:Str}{d:D}(hn:(ρ.map (·.1)).Nodup)(hi:(ρ.map (·.1))[i]?=some x)(hl:i<σ.length)(h:dh K Hs ρ σ)(r:Rep K Hs d v):dh K Hs (cL ρ x (.sh d)) (σ.set i (some v)):=by
 intro j y d' e;rw[aV hn hi j] at e;split at e
 ·rename_i hj
  subst hj;cases e;exact⟨v,by rw[List.getElem?_set_self hl],r⟩
 ·rename_i hj
  obtain⟨w,h1,h2⟩:=h j y d' e;exact⟨w,by rw[List.getElem?_set_ne (fun z=>hj z.symm)];exact h1,h2⟩
theorem lK{K:Z3}{n:Nat}(hnd:(scope.names.map (·.1)).Nodup)(hn:n=scope.names.length):lV K Hs scope (fun ρ1 σ=>ρ1.map (·.1)=scope.names.map (·.1)/\CSt K Hs n (bM scope ρ) ρ1 σ):=by
 intro ρ1 σ i x d v h1 h2 h3 ⟨h4,h5,h6,h7⟩ r;refine⟨by rw[aJ];exact h4,by rw[V2z];exact h5,?_,?_⟩
 ·have hi:i<σ.length:=by
   rw[h5,hn];have:=(List.getElem?_eq_some_iff.mp h2).1;rw[h4] at this;simpa using this
  exact oU h1 h2 hi h6 r
 ·intro j y d' e
  obtain⟨w,g1,g2⟩:=h7 j y d' e;refine⟨w,?_,g2⟩
  have hj:i≠j:=by
   intro z;subst z;rw[h4] at h2;unfold bM at e;rw[List.getElem?_map] at e;rw[List.getElem?_map] at h2;obtain⟨p,e1,e2⟩:=L0z.mp e;rw[e1] at h2
   have ex:p.1=x:=by simpa using h2
   cases hk:p.2==NameKind.free with
   | false=>rw[hk] at e2;simp at e2
   | true =>
    have ek:p.2=.free:=by simpa using hk
    have hm:=List.mem_of_getElem? e1;have:=cg (c:=p.2) hnd (by rw[show p=(x,p.2) from by rw[<- ex]] at hm;exact hm);unfold ownIn at h3;rw[this,ek] at h3;exact absurd h3 (by decide)
  rw[List.getElem?_set_ne hj];exact g1
def rB(X:Cx)(ifs:List Expr):TT:=fun σ H Q=>∀ z0 s,Inv X z0 σ H s->wpAny (model X.prog X.w) X.A (forIn ifs true fun c r=>if r=true then do let ok <- isTrue c X.env (eval c X.env);pure (ForInStep.yield ok) else pure (ForInStep.yield r)) (TP X z0 σ Q) X.xe s
theorem fW:Ah X ifs (rB X ifs):=fun z0 s σ H Q I h=>h z0 s I
theorem Ah.sem{t:TT}{H:Hp}{Q:Bool->Hp->Prop}(h:Ah X ifs t)(q:t σ H Q):rB X ifs σ H Q:=fun z0 s I=>h z0 s σ H Q I q
theorem El{f:Expr->Option D}{b:Bool}(hf:∀ e d,f e=some d->Ev X ρ e d/\∀ b,d=.bl b->EvT X ρ e b)(h:m6 f ifs=some b){H Hs:Hp}{Q:Bool->Hp->Prop}(hs:Same Hs H)(hst:dh X.K Hs ρ σ)(hq:∀ H' Hs',Ext Hs H Hs' H'->Q b H'):rB X ifs σ H Q:=by
 unfold m6 at h;split at h
 ·cases h
  exact Ah.sem Bj (hq H Hs (.refl hs))
 ·rename_i c
  cases hc:f c with
  | none=>rw[hc] at h;cases h
  | some d =>
   rw[hc] at h
   cases d<;>simp[asB] at h
   subst h;exact Ah.sem (Bh d9) ((hf c _ hc).2 _ rfl σ H Hs Q hs hst hq)
 ·cases h
theorem Ext.acc{Hs H Hs' H':Hp}{acc:Addr}(E:Ext Hs H Hs' H')(h:H acc=none)(h':Hs' acc=none):Ext Hs H Hs' (upd H' acc o) where
 vis:=E.vis
 all:=fun b u e=>by rw[aY (aQ e h)];exact E.all b u e
 sub:=fun b u e=>by rw[aY (aQ e h')];exact E.sub b u e
 hid:=E.hid
theorem j8{f:D->Option (Option D)}{d:D}{r out:List D}(h:bH f (d::r)=some out):(∃ v o',f d=some (some v)/\bH f r=some o'/\out=v::o')\/(f d=some none/\bH f r=some out):=by
 simp only[bH,bind,Option.bind] at h
 cases hf:f d with
 | none=>rw[hf] at h;cases h
 | some o =>
  rw[hf] at h
  cases o with
  | none=>exact .inr ⟨rfl,h⟩
  | some v =>
   simp only[L0z] at h;obtain⟨o',h1,rfl⟩:=h;exact .inl ⟨v,o',rfl,h1,rfl⟩
def pP(cx:Cxt)(n:Nat)(sc scope:Scope)(ρ:Rho)(tg elt:Expr)(ifs:List Expr):D->Option (Option D):=fun d=>do
 let ρ1 <- gw scope tg d (bM scope ρ)
 let b <- m6 (ev cx n (kE scope sc) ρ1) ifs
 if b then(ev cx n (kE scope sc) ρ1 elt).map some else some none
theorem j4{tg iter elt:Expr}{ifs:List Expr}{l out:List D}{n:Nat}(G:Good cx k X sc)(hN:X.N=ρ.map (·.1))(hok:iz sc scope=true)(hI:EvI X ρ tg iter l)(hz:szl l.length=true)(hgo:bH (pP cx n sc scope ρ tg elt ifs) l=some out)
  (hE:∀ Xc,CompOf X scope Xc->∀ ρ1:Rho,Xc.N=ρ1.map (·.1)->∀ e d,ev cx n (kE scope sc) ρ1 e=some d->Ev Xc ρ1 e d/\∀ b,d=.bl b->EvT Xc ρ1 e b)
  {σ:St} {H Hs:Hp} {Q:VK} (hs:Same Hs H) (hst:dh X.K Hs ρ σ) (hq:∀ acc vs Hs' H',Ext Hs H Hs' H'->H acc=none->Hs' acc=none->H' acc=some (.lst vs)->aU X.K Hs' out vs->Q (.ref acc) H') :
  qG X scope (qF X tg iter) (qW X.N scope.names) (fun Xc=>Cd Xc tg) (fun Xc=>rB Xc ifs) (fun Xc=>qp Xc elt) σ H Q:=by
 obtain⟨ok1,ok2,ok3⟩:=dI G hok;refine hI σ H Hs _ hs hst fun J H1 Hs1 E1 hJ acc hacc Xc C=>?_;have GC:=G.comp C hok;have OC:=Owns.comp (scope:=scope) G C
 have hNc:∀ ρ1:Rho,ρ1.map (·.1)=scope.names.map (·.1)->Xc.N=ρ1.map (·.1):=fun ρ1 h=>by rw[C.N,h]
 have a1:Hs1 acc=none:=E1.sub.free hacc;have a0:H acc=none:=E1.all.free hacc
 let W:Nat->Nat->St->Hp->Prop:=fun i m σc H=>m=l.length-i/\i<=l.length/\∃ Hs3 ys pre rest,Ext Hs1 H1 Hs3 H/\Hs3 acc=none/\H acc=some (.lst ys)/\aU X.K Hs3 pre ys/\bH (pP cx n sc scope ρ tg elt ifs) (l.drop i)=some rest/\pre++rest=out/\pre.length<=i/\σc.length=scope.names.length/\dh X.K Hs3 (bM scope ρ) σc
 refine⟨W,⟨l.length,rfl,S4z _,Hs1,[],[],out,Ext.acc (.refl E1.sub) hacc a1,a1,bh,.nil,by simpa using hgo,rfl,Q4z _,by simp[qW],j6 hN (hst.same E1.vis)⟩,?_⟩;rintro i m σc H3 ⟨rfl,hi,Hs3,ys,pre,rest,E3,b3,c3,r3,g3,p3,q3,l3,s3⟩;obtain⟨st3,go3⟩:=hJ Hs3 H3 E3.vis E3.sub
 by_cases hlt:i<l.length
 ·have hd:l[i]?=some l[i]:=List.getElem?_eq_getElem hlt
  obtain⟨gi,yi⟩:=go3 i l[i] hd;refine .inr ⟨gi,fun σ' H'=>W (i+1) (l.length-(i+1)) σ' H',fun σ' H' w=>⟨_,by omega,w⟩,fun x H4 y4=>?_⟩;obtain⟨Hs4,E4,rx⟩:=yi x H4 y4;have b4:Hs4 acc=none:=E4.hid acc _ c3 b3;have c4:H4 acc=some (.lst ys):=E4.all _ _ c3;rw[D0z hlt] at g3
  have key:∃ ρ1,gw scope tg l[i] (bM scope ρ)=some ρ1/\∃ b,m6 (ev cx n (kE scope sc) ρ1) ifs=some b/\((b=true/\∃ v o',ev cx n (kE scope sc) ρ1 elt=some v/\bH (pP cx n sc scope ρ tg elt ifs) (l.drop (i+1))=some o'/\rest=v::o')\/(b=false/\bH (pP cx n sc scope ρ tg elt ifs) (l.drop (i+1))=some rest)):=by
   have inv:∀ o,pP cx n sc scope ρ tg elt ifs l[i]=some o->∃ ρ1,gw scope tg l[i] (bM scope ρ)=some ρ1/\∃ b,m6 (ev cx n (kE scope sc) ρ1) ifs=some b/\(if b then(ev cx n (kE scope sc) ρ1 elt).map some else some none)=some o:=by
    intro o h;obtain⟨ρ1,h1,h⟩:=aP h;obtain⟨b,h2,h⟩:=aP h;exact⟨ρ1,h1,b,h2,h⟩
   rcases j8 g3 with⟨v,o',f1,f2,f3⟩ | ⟨f1,f2⟩
   ·obtain⟨ρ1,h1,b,h2,h3⟩:=inv _ f1
    refine⟨ρ1,h1,b,h2,?_⟩
    cases b with
    | false=>simp at h3
    | true =>
     simp only[J5z,L0z] at h3;obtain⟨w,h3,h4⟩:=h3;have h5:w=v:=P2z h4;subst h5;exact .inl ⟨rfl,w,o',h3,f2,f3⟩
   ·obtain⟨ρ1,h1,b,h2,h3⟩:=inv _ f1
    refine⟨ρ1,h1,b,h2,?_⟩
    cases b with
    | true=>simp at h3
    | false=>exact .inr ⟨rfl,f2⟩
  obtain⟨ρ1,k1,b,k2,k3⟩:=key;have s4:dh X.K Hs4 (bM scope ρ) σc:=s3.same E4.vis;have KE:=lK (K:=Xc.K) (Hs:=Hs4) (ρ:=ρ) (n:=scope.names.length) ok2 rfl;refine rJ (X:=Xc) (scope:=scope) (Hs:=Hs4) GC.calm OC GC.nd E4.sub (hNc _ dO) KE k1 ⟨dO,l3,by rw[C.K];exact s4,by rw[C.K];exact s4⟩ (by rw[C.K];exact rx) fun σ5 hN5 p5=>?_;obtain⟨_,l5,s5,s5'⟩:=p5;have hev:=hE Xc C ρ1 hN5;refine El hev k2 E4.sub s5 fun H6 Hs6 E6=>?_;have b6:Hs6 acc=none:=E6.hid acc _ c4 b4;have c6:H6 acc=some (.lst ys):=E6.all _ _ c4
  have s6:dh X.K Hs6 (bM scope ρ) σ5:=by rw[<- C.K];exact s5'.same E6.vis
  rcases k3 with⟨rfl,v,o',k3,k4,k5⟩ | ⟨rfl,k3⟩
  ·refine vM ((hev elt v k3).1 σ5 H6 Hs6 _ E6.sub (s5.same E6.vis) fun w H7 Hs7 E7 r7=>?_)
   have b7:Hs7 acc=none:=E7.hid acc _ c6 b6;have c7:H7 acc=some (.lst ys):=E7.all _ _ c6;refine⟨ys,c7,?_,rfl,hlt,Hs7,ys++[w],pre++[v],o',Ext.acc (E3.trans (E4.trans (E6.trans E7))) hacc b7,b7,bh,?_,k4,?_,by simp;omega,l5,s6.same E7.vis⟩
   ·have:=r3.length
    have:=rQ hz;omega
   ·rw[<- C.K]
    refine aU.append ?_ (.cons r7 .nil);rw[C.K];exact aU.same (E4.trans (E6.trans E7)).vis pre ys r3
   ·rw[<- p3,k5];simp
  ·refine yw ?_
   exact⟨rfl,hlt,Hs6,ys,pre,rest,E3.trans (E4.trans E6),b6,c6,aU.same (E4.trans E6).vis pre ys r3,k3,p3,by omega,l5,s6⟩
 ·have hi':i=l.length:=by omega
  subst hi';refine .inl ⟨st3,?_⟩;rw[List.drop_length] at g3;simp only[bH,Y1z] at g3;subst g3;rw[S2z] at p3;subst p3;exact hq acc ys Hs3 H3 (E1.trans E3) a0 b3 c3 r3
end
def bIs(b:Bool):Value->Bool
 | .bool y=>y==b
 | _=>false
theorem qy:∀ {bs:List Bool} {its:List Value},Vals (bs.map V.bl) its->its=bs.map Value.bool
 | [],its,r=>by cases r;rfl
 | b::bs,its,r=>by
  obtain⟨u,w,rfl,r1,r2⟩:=lZ r;cases (show u=Value.bool b from r1);rw[qy r2];rfl
theorem Ey(b:Bool):∀ bs:List Bool,(bs.map Value.bool).countP (bIs b)=cntB b bs
 | []=>rfl
 | c::bs=>by
  rw[W3z,List.countP_cons,Ey b bs];unfold cntB;rw[L2z];show _+(if(c==b)=true then 1 else 0)=_
  cases c==b<;>simp
theorem aaD{b:Bool}:∀ (bs:List Bool) (m:Nat) (h:m<bs.length),m<bs.idxOf b->(bs[m]==b)=false
 | [],m,h,_=>absurd h (by simp)
 | c::bs,m,h,hl=>by
  rw[List.idxOf_cons] at hl
  cases hc:c==b with
  | true=>rw[hc] at hl;simp at hl
  | false =>
   cases m with
   | zero=>simpa using hc
   | succ m =>
    rw[hc] at hl;simp only[cond_false] at hl;simpa using aaD bs m (by simpa using h) (by omega)
section
variable {X:Cx} {ρ:Rho} {cx:Cxt} {k:Nat} {sc scope:Scope}
def Lb(K:Z3):V->List V->Hp->VK->Prop:=fun x vs H Q=>∃ (l:Addr) (bs:List Bool) (b:Bool),x=.ref l/\vs=[.bl b]/\SqL K H l (bs.map V.bl)/\Q (.int (cntB b bs:Nat)) H
theorem Bx:MtM X "list.count" (Lb X.K):=by
 intro z0 s σ H x vs v us Q I rx rv h;obtain⟨l,bs,b,rfl,rfl,hB,q⟩:=h;cases (show v=Value.ref l from rx);obtain⟨u,rfl,ru⟩:=rv.one;cases (show u=Value.bool b from ru);obtain⟨its2,r2,pl,hz2⟩:=I.list hB;have ei:=qy r2;subst ei;obtain⟨⟨c2,dd2,data2,sl2⟩,n2,e2,hc2,hd2,hs2⟩:=pl;simp only at hc2 hs2;obtain⟨h3,h4⟩:=(show dd2=none/\data2=.seq (bs.map Value.bool).toArray n2 from⟨hd2,hs2⟩);subst hc2 h4;refine B5z F.slot_list_count ⟨_,e2,rfl⟩ F.entry_list_count (F.args_list_count_2 _ _) (list_countAt l (bs.map Value.bool).toArray n2 dd2 sl2 (.bool b) (bIs b)) ⟨e2,fun y hy=>?_,?_⟩
 ·have hy':y∈bs.map Value.bool:=by simpa using hy
  obtain⟨c,_,rfl⟩:=List.mem_map.mp hy';exact EqAt.bool_bool c b
 ·rw[show(bs.map Value.bool).toArray.toList=bs.map Value.bool from rfl,Ey]
  exact⟨.int _,H,I.tok _,⟨_,rfl⟩,q⟩
def La(K:Z3):V->List V->Hp->VK->Prop:=fun x vs H Q=>∃ (l:Addr) (bs:List Bool) (b:Bool),x=.ref l/\vs=[.bl b]/\SqL K H l (bs.map V.bl)/\bs.contains b=true/\Q (.int (bs.idxOf b:Nat)) H
theorem Bw:MtM X "list.index" (La X.K):=by
 intro z0 s σ H x vs v us Q I rx rv h;obtain⟨l,bs,b,rfl,rfl,hB,hin,q⟩:=h;cases (show v=Value.ref l from rx);obtain⟨u,rfl,ru⟩:=rv.one;cases (show u=Value.bool b from ru);obtain⟨its2,r2,pl,hz2⟩:=I.list hB;have ei:=qy r2;subst ei;obtain⟨⟨c2,dd2,data2,sl2⟩,n2,e2,hc2,hd2,hs2⟩:=pl;simp only at hc2 hs2;obtain⟨h3,h4⟩:=(show dd2=none/\data2=.seq (bs.map Value.bool).toArray n2 from⟨hd2,hs2⟩);subst hc2 h4;have hj:bs.idxOf b<bs.length:=List.idxOf_lt_length_iff.mpr (by simpa using hin);have hn:=lH
 have hz3:bs.length<=sizeLine:=by simpa using hz2
 refine B5z F.slot_list_index ⟨_,e2,rfl⟩ F.entry_list_index (F.args_list_index_2 _ _) (list_indexAt l (bs.map Value.bool).toArray n2 dd2 sl2 (.bool b) (bIs b) (bs.idxOf b) (by simpa using hj) (by omega) ?_ ?_) ⟨e2,fun y hy=>?_,?_⟩
 ·simp only[T0z,List.getElem_map,bIs]
  simpa using List.getElem_idxOf hj
 ·intro m hm hlt
  simp only[T0z,List.getElem_map,bIs];exact aaD bs m (by simpa using hm) hlt
 ·have hy':y∈bs.map Value.bool:=by simpa using hy
  obtain⟨c,_,rfl⟩:=List.mem_map.mp hy';exact EqAt.bool_bool c b
 ·exact⟨.int _,H,I.tok _,⟨_,rfl⟩,q⟩
def sIs(c:Str):Value->Bool
 | .str y _=>y==c
 | _=>false
theorem rT:∀ {ss:List Str} {its:List Value},Vals (ss.map V.str) its->∀ (i:Nat) (h:i<its.length) (h':i<ss.length),∃ t,its[i]=Value.str ss[i] t
 | [],its,r,i,h,h'=>absurd h' (by simp)
 | c::ss,its,r,i,h,h'=>by
  rw[W3z] at r;obtain⟨u,w,rfl,r1,r2⟩:=lZ r
  cases i with
  | zero=>exact r1
  | succ i=>exact rT r2 i (by simpa using h) (by simpa using h')
def Gw(K:Z3):V->List V->Hp->VK->Prop:=fun x vs H Q=>∃ (l:Addr) (ss:List Str) (c:Str),x=.ref l/\vs=[.str c]/\SqL K H l (ss.map V.str)/\ss.contains c=true/\Q (.int (ss.idxOf c:Nat)) H
theorem xT:MtM X "list.index" (Gw X.K):=by
 intro z0 s σ H x vs v us Q I rx rv h;obtain⟨l,ss,c,rfl,rfl,hB,hin,q⟩:=h;cases (show v=Value.ref l from rx);obtain⟨u,rfl,ru⟩:=rv.one;obtain⟨tu,eu⟩:=(show ∃ t,u=Value.str c t from ru);subst eu;obtain⟨its2,r2,pl,hz2⟩:=I.list hB;have hl:=r2.length;rw[U2z] at hl;obtain⟨⟨c2,dd2,data2,sl2⟩,n2,e2,hc2,hd2,hs2⟩:=pl;simp only at hc2 hs2;obtain⟨h3,h4⟩:=(show dd2=none/\data2=.seq its2.toArray n2 from⟨hd2,hs2⟩);subst hc2 h4;have hj:ss.idxOf c<ss.length:=List.idxOf_lt_length_iff.mpr (by simpa using hin);have hn:=lH
 have hz3:ss.length<=sizeLine:=by simpa using hz2
 refine B5z F.slot_list_index ⟨_,e2,rfl⟩ F.entry_list_index (F.args_list_index_2 _ _) (list_indexAt l its2.toArray n2 dd2 sl2 (.str c tu) (sIs c) (ss.idxOf c) (by simpa[<- hl] using hj) (by omega) ?_ ?_) ⟨e2,fun y hy=>?_,?_⟩
 ·obtain⟨t,e⟩:=rT r2 (ss.idxOf c) (by omega) hj
  simp only[T0z,e,sIs];simpa using List.getElem_idxOf hj
 ·intro m hm hlt
  obtain⟨t,e⟩:=rT r2 m (by omega) (by omega);simp only[T0z,e,sIs];have:=List.not_of_lt_findIdx hlt;simpa using this
 ·obtain⟨i,hi,rfl⟩:=List.mem_iff_getElem.mp (show y∈its2 by simpa using hy)
  obtain⟨t,e⟩:=rT r2 i hi (by omega);rw[e];exact EqAt.str_str _ t c tu
 ·exact⟨.int _,H,I.tok _,⟨_,rfl⟩,q⟩
theorem uf{m:Str}{e:Expr}{x z d:D}(hB0:attributeBase o m X.env (eval o X.env)=eval o X.env)(ha:Ev X ρ o x)(he:Ev X ρ e z)(hp:aG e=true)(hline:(ap.endLine==cp.line)=true)(h:iK m x z=some d):Ev X ρ (.Call (.Attribute o m ap) [e] [] cp) d:=by
 unfold iK at h;split at h
 ·rename_i xs b
  obtain⟨bs,hb,h2⟩:=aP h;clear h;intro σ H Hs Q hs hst hq;split at h2
  ·rename_i hm
   have em:m="count":=by simpa using hm
   subst em;cases h2;refine(qP H0z PySem.F.slot_list_count PySem.F.type_list_count Bx aq (bw aq cV (ak hp)) hB0 (by rw[ak hp];rfl) hline (ak hp) rfl).sem ?_;refine ha σ H Hs _ hs hst fun v H1 Hs1 E1 r1=>?_;obtain⟨l,vs,rfl,g1,g2⟩:=bG r1;have ev:=jG hb g2;subst ev;refine⟨.inl ⟨rfl,_,E1.sub.seq g1⟩,?_⟩;refine he σ H1 Hs1 _ E1.sub (hst.same E1.vis) fun v2 H2 Hs2 E2 r2=>?_;rw[dz r2];exact⟨l,bs,b,rfl,rfl,E2.sub.seq (E2.vis.seq g1),hq _ H2 Hs2 (E1.trans E2) (by simp[Rep])⟩
  ·split at h2
   ·rename_i hm
    rw[D2z] at hm
    have em:m="index":=by simpa using hm.1
    subst em;cases h2;refine(qP H0z PySem.F.slot_list_index PySem.F.type_list_index Bw aq (bw aq cV (ak hp)) hB0 (by rw[ak hp];rfl) hline (ak hp) rfl).sem ?_;refine ha σ H Hs _ hs hst fun v H1 Hs1 E1 r1=>?_;obtain⟨l,vs,rfl,g1,g2⟩:=bG r1;have ev:=jG hb g2;subst ev;refine⟨.inl ⟨rfl,_,E1.sub.seq g1⟩,?_⟩;refine he σ H1 Hs1 _ E1.sub (hst.same E1.vis) fun v2 H2 Hs2 E2 r2=>?_;rw[dz r2];exact⟨l,bs,b,rfl,rfl,E2.sub.seq (E2.vis.seq g1),hm.2,hq _ H2 Hs2 (E1.trans E2) (by simp[Rep])⟩
   ·cases h2
 ·rename_i xs c
  obtain⟨ss,hss,h2⟩:=aP h;clear h;intro σ H Hs Q hs hst hq;split at h2
  ·rename_i hm
   rw[D2z] at hm
   have em:m="index":=by simpa using hm.1
   subst em;cases h2;refine(qP H0z PySem.F.slot_list_index PySem.F.type_list_index xT aq (bw aq cV (ak hp)) hB0 (by rw[ak hp];rfl) hline (ak hp) rfl).sem ?_;refine ha σ H Hs _ hs hst fun v H1 Hs1 E1 r1=>?_;obtain⟨l,vs,rfl,g1,g2⟩:=bG r1;have ev:=nU hss g2;subst ev;refine⟨.inl ⟨rfl,_,E1.sub.seq g1⟩,?_⟩;refine he σ H1 Hs1 _ E1.sub (hst.same E1.vis) fun v2 H2 Hs2 E2 r2=>?_;rw[show v2=.str c by simpa[Rep] using r2];exact⟨l,ss,c,rfl,rfl,E2.sub.seq (E2.vis.seq g1),hm.2,hq _ H2 Hs2 (E1.trans E2) (by simp[Rep])⟩
  ·cases h2
 ·cases h
end
theorem Ext.shown{Hs H Hs' H':Hp}{acc:Addr}(E:Ext Hs H Hs' H')(h:H acc=none)(h1:Hs' acc=none)(h2:H' acc=some o):Ext Hs H (upd Hs' acc o) H' where
 vis:=fun b u e=>by rw[aY (aQ (E.vis b u e) h1)];exact E.vis b u e
 all:=E.all
 sub:=fun b u e=>by
  by_cases hb:b=acc
  ·subst hb;rw[bh] at e;rw[h2];exact e
  ·rw[aY hb] at e;exact E.sub b u e
 hid:=fun b u e n=>by rw[aY (aQ e h)];exact E.hid b u e n
section
variable {X:Cx} {ρ:Rho} {cx:Cxt} {k:Nat} {sc scope:Scope}
theorem Jg{tg iter elt:Expr}{ifs:List Expr}{l out:List D}{n:Nat}{pos:Pos}(G:Good cx k X sc)(hN:X.N=ρ.map (·.1))(hok:iz sc scope=true)(hI:EvI X ρ tg iter l)(hp:aG iter=true)(hz:szl l.length=true)(hgo:bH (pP cx n sc scope ρ tg elt ifs) l=some out)
  (hE:∀ Xc,CompOf X scope Xc->∀ ρ1:Rho,Xc.N=ρ1.map (·.1)->∀ e d,ev cx n (kE scope sc) ρ1 e=some d->Ev Xc ρ1 e d/\∀ b,d=.bl b->EvT Xc ρ1 e b) :
  Ev X ρ (.ListComp elt [⟨tg,iter,ifs,0⟩] scope pos) (.lst out):=by
 obtain⟨ok1,ok2,ok3⟩:=dI G hok;intro σ H Hs Q hs hst hq;refine PE.sem (mR G.calm ok1 ok2 ok3 jO (fun Xc C=>⟨gW,fW,aq⟩) (dU hp)) (j4 G hN hok hI hz hgo hE hs hst fun acc vs Hs' H' E1 h1 h2 h3 r=>?_);have E2:=E1.shown h1 h2 h3;refine hq _ H' _ E2 ?_;simp only[Rep];refine⟨acc,vs,rfl,.of bh,aU.same (fun b u e=>?_) out vs r⟩;rw[aY (aQ e h2)];exact e
def WkP (cx : Cxt) (sc : Scope) (e : Expr) : Wk -> Prop
    | .r1 a=>∃ x p pos,e=.Call (.Name x p) [a] [] pos/\bC cx sc x=some "range"
    | .r2 a b=>∃ x p pos,e=.Call (.Name x p) [a,b] [] pos/\bC cx sc x=some "range"
    | .r3 a b c=>∃ x p pos,e=.Call (.Name x p) [a,b,c] [] pos/\bC cx sc x=some "range"
    | .zp a b=>∃ x p pos,e=.Call (.Name x p) [a,b] [] pos/\bC cx sc x=some "zip"
    | .rv a=>∃ x p pos,e=.Call (.Name x p) [a] [] pos/\bC cx sc x=some "reversed"
    | .en a=>∃ x p pos,e=.Call (.Name x p) [a] [] pos/\bC cx sc x=some "enumerate"
    | .sq=>True
theorem J7{e:Expr}:WkP cx sc e (qm cx sc e):=by
 unfold qm;split
 ·rename_i x p args pos
  split
  ·rename_i h
   split
   ·exact⟨x,p,pos,rfl,h⟩
   ·exact⟨x,p,pos,rfl,h⟩
   ·exact⟨x,p,pos,rfl,h⟩
   ·trivial
  ·rename_i h
   split
   ·exact⟨x,p,pos,rfl,h⟩
   ·trivial
  ·rename_i h
   split
   ·exact⟨x,p,pos,rfl,h⟩
   ·trivial
  ·rename_i h
   split
   ·exact⟨x,p,pos,rfl,h⟩
   ·trivial
  ·trivial
 ·trivial
theorem cH{x:Option D}{i:Int}(h:x.bind asI=some i):x=some (.int i):=by
 obtain⟨d,h1,h2⟩:=aP (show(x >>=asI)=some i from h)
 cases d<;>simp[asI] at h2
 subst h2;exact h1
theorem fB{x:Option D}{i:Bool}(h:x.bind asB=some i):x=some (.bl i):=by
 obtain⟨d,h1,h2⟩:=aP (show(x >>=asB)=some i from h)
 cases d<;>simp[asB] at h2
 subst h2;exact h1
theorem xV{x:Option D}{i:List D}(h:x.bind Ia=some i):x=some (.lst i):=by
 obtain⟨d,h1,h2⟩:=aP (show(x >>=Ia)=some i from h)
 cases d<;>simp[Ia] at h2
 subst h2;exact h1
theorem yS{f:Expr->Option D}{tg e:Expr}(G:Good cx k X sc)(hf:∀ e d,f e=some d->Ev X ρ e d/\aG e=true)(h:evI cx (fO tg) f sc e=some l):EvI X ρ tg e l/\aG e=true:=by
 unfold evI at h;have w:=J7 (cx:=cx) (sc:=sc) (e:=e);split at h
 ·rename_i a hw
  rw[hw] at w;obtain⟨x,p,pos,rfl,hx⟩:=w;obtain⟨j,h1,h⟩:=aP h;split at h
  ·rename_i hj
   cases h;obtain⟨ha,hp⟩:=hf _ _ (cH h1);exact⟨vA G hx ha hp hj,rfl⟩
  ·cases h
 ·rename_i a b hw
  rw[hw] at w;obtain⟨x,p,pos,rfl,hx⟩:=w;obtain⟨i,h1,h⟩:=aP h;obtain⟨j,h2,h⟩:=aP h;split at h
  ·rename_i hj
   cases h;rw[D2z] at hj;obtain⟨ha,hp⟩:=hf _ _ (cH h1);obtain⟨hb,hpb⟩:=hf _ _ (cH h2);exact⟨vq G hx ha hp hb hpb hj.1 hj.2,rfl⟩
  ·cases h
 ·rename_i a b c hw
  rw[hw] at w;obtain⟨x,p,pos,rfl,hx⟩:=w;obtain⟨i,h1,h⟩:=aP h;obtain⟨j,h2,h⟩:=aP h;obtain⟨s,h3,h⟩:=aP h;split at h
  ·rename_i hj
   simp only[D2z,W1z] at hj;obtain⟨⟨rfl,hj1⟩,hj2⟩:=hj;cases h;obtain⟨ha,hp⟩:=hf _ _ (cH h1);obtain⟨hb,hpb⟩:=hf _ _ (cH h2);obtain⟨hc,hpc⟩:=hf _ _ (cH h3);exact⟨vp G hx ha hp hb hpb hc hpc hj1 hj2,rfl⟩
  ·cases h
 ·rename_i a b hw
  rw[hw] at w;obtain⟨x,p,pos,rfl,hx⟩:=w;obtain⟨d1,h1,h⟩:=aP h;obtain⟨d2,h2,h⟩:=aP (show(f b >>=fun y=>if fO tg=true then Ox d1 y else none)=some l from h);have h':(if fO tg=true then Ox d1 d2 else none)=some l:=h;clear h;split at h'
  ·rename_i ht
   obtain⟨ha,hp⟩:=hf _ _ h1;obtain⟨hb,hpb⟩:=hf _ _ h2
   cases tg<;>simp[fO] at ht
   unfold Ox at h';split at h'
   ·cases h';exact⟨Jl G hx ha hp hb hpb,rfl⟩
   ·simp at h'
   ·simp at h'
   ·simp at h'
   ·cases h'
  ·cases h'
 ·rename_i a hw
  rw[hw] at w;obtain⟨x,p,pos,rfl,hx⟩:=w;obtain⟨xs,h1,h⟩:=aP h;cases h;obtain⟨ha,hp⟩:=hf _ _ (xV h1);exact⟨yR G hx ha hp,rfl⟩
 ·rename_i a hw
  rw[hw] at w;obtain⟨x,p,pos,rfl,hx⟩:=w;obtain⟨d1,h1,h⟩:=aP h;split at h
  ·rename_i ht
   obtain⟨us,hu,rfl⟩:=L0z.mp h;obtain⟨ha,hp⟩:=hf _ _ h1
   cases tg<;>simp[fO] at ht
   cases d1<;>simp[tupI] at hu
   subst hu;exact⟨Cz G hx ha hp,rfl⟩
  ·cases h
 ·obtain⟨d,h1,h2⟩:=aP (show(f e >>=items)=some l from h)
  obtain⟨ha,hp⟩:=hf _ _ h1;exact⟨Jm ha h2,hp⟩
theorem FP{t:Expr}{T:String}(h:tyOf cx sc t=some T):∃ x p,t=.Name x p/\bC cx sc x=some T:=by
 unfold tyOf at h;split at h
 ·exact⟨_,_,rfl,h⟩
 ·cases h
def WcP (cx : Cxt) (sc : Scope) (b : String) (args : List Expr) : Wc -> Prop
    | .lr1 a=>∃ x p pos,args=[.Call (.Name x p) [a] [] pos]/\bC cx sc x=some "range"/\b="list"
    | .lr2 a a'=>∃ x p pos,args=[.Call (.Name x p) [a,a'] [] pos]/\bC cx sc x=some "range"/\b="list"
    | .tv a=>∃ x p pos,args=[.Call (.Name x p) [a] [] pos]/\bC cx sc x=some "reversed"/\b="tuple"
    | .tr1 a=>∃ x p pos,args=[.Call (.Name x p) [a] [] pos]/\bC cx sc x=some "range"/\b="tuple"
    | .ls a=>∃ x p pos,args=[.Call (.Name x p) [a] [] pos]/\bC cx sc x=some "set"/\b="len"
    | .al=>True
theorem PL{b:String}:WcP cx sc b args (Ab cx sc b args):=by
 unfold Ab;split
 ·rename_i e
  have w:=J7 (cx:=cx) (sc:=sc) (e:=e);split
  ·rename_i hw
   rw[hw] at w;obtain⟨x,p,pos,rfl,hx⟩:=w;exact⟨x,p,pos,rfl,hx,rfl⟩
  ·rename_i hw
   rw[hw] at w;obtain⟨x,p,pos,rfl,hx⟩:=w;exact⟨x,p,pos,rfl,hx,rfl⟩
  ·rename_i hw
   rw[hw] at w;obtain⟨x,p,pos,rfl,hx⟩:=w;exact⟨x,p,pos,rfl,hx,rfl⟩
  ·rename_i hw
   rw[hw] at w;obtain⟨x,p,pos,rfl,hx⟩:=w;exact⟨x,p,pos,rfl,hx,rfl⟩
  ·split
   ·rename_i a ha
    unfold YG at ha;split at ha
    ·rename_i y q a' q' _
     split at ha
     ·rename_i hb
      cases ha;exact⟨y,q,q',rfl,by simpa using hb,rfl⟩
     ·cases ha
    ·cases ha
   ·trivial
  ·trivial
 ·trivial
end
theorem cZ(cx:Cxt):∀ (n:Nat) {k:Nat} {X:Cx} {sc:Scope} {ρ:Rho} {e:Expr} {d:D},Good cx k X sc->X.N=ρ.map (·.1)->ev cx n sc ρ e=some d->Ev X ρ e d/\∀ b,d=.bl b->EvT X ρ e b
 | 0,k,X,sc,ρ,e,d,_,_,h=>by exact nomatch (show(Option.none:Option D)=some d from h)
 | n+1,k,X,sc,ρ,e,d,G,hN,h=>by
  have ih:∀ e d,ev cx n sc ρ e=some d->Ev X ρ e d/\∀ b,d=.bl b->EvT X ρ e b:=fun e d h=>cZ cx n G hN h;have ihp:∀ e d,ev cx n sc ρ e=some d->Ev X ρ e d/\aG e=true:=fun e d h=>⟨(ih e d h).1,bf h⟩;have val:∀ {e d},(∀ whole,isTrue e X.env whole=(do let v <- whole;standAt e.pos;holding [v] (truthy v)))->Ev X ρ e d->Ev X ρ e d/\∀ b,d=.bl b->EvT X ρ e b:=fun he h1=>⟨h1,fun b hb=>by subst hb;exact Jj h1 he⟩
  cases e with
  | Name x pos =>
   simp only[ev] at h;split at h
   ·rename_i hp
    refine val (fun _=>rfl) ?_
    have fin:∀ kd,sc.names.lookup x=some kd->(kd=.local\/kd=.cell\/kd=.free)->(match ρ.lookup x with | some (.sh d)=>some d | _=>none)=some d->Ev X ρ (.Name x pos) d:=by
     intro kd hk hkd hm;split at hm
     ·rename_i d' hl
      cases hm;refine Jb hN ?_ hp hl;unfold Vis;rw[G.sce,hk];rcases hkd with rfl | rfl | rfl
      ·exact .inl rfl
      ·exact .inr (.inl rfl)
      ·exact .inr (.inr rfl)
     ·cases hm
    split at h
    ·rename_i hk;exact fin _ hk (.inl rfl) h
    ·rename_i hk;exact fin _ hk (.inr (.inl rfl)) h
    ·rename_i hk;exact fin _ hk (.inr (.inr rfl)) h
    ·rename_i hk
     obtain⟨v,u,h0,h1,h2⟩:=G.cst x d h;exact Oa (show X.env.scope.names.lookup x=_ by rw[G.sce];exact hk) h0 h1 h2 hp
    ·cases h
   ·cases h
  | Constant c j pos =>
   simp only[ev] at h;exact val (fun _=>rfl) (Cq h)
  | BinOp a op b pos =>
   simp only[ev] at h;obtain⟨x,h1,h⟩:=aP h;obtain⟨y,h2,h⟩:=aP h;exact val (fun _=>rfl) (Cu (ih _ _ h1).1 (ih _ _ h2).1 h)
  | UnaryOp op a pos =>
   simp only[ev] at h;obtain⟨x,h1,h⟩:=aP h
   cases op<;>simp only[L0z] at h<;>try (cases h;done)
   ·obtain⟨b,h2,rfl⟩:=h
    cases x<;>simp[asB] at h2
    subst h2;refine⟨N5 (ih _ _ h1).1,fun c hc=>?_⟩;cases hc;exact Jk ((ih _ _ h1).2 _ rfl)
   ·obtain⟨i,h2,rfl⟩:=h
    cases x<;>simp[asI] at h2
    subst h2;exact val (fun _=>rfl) (N6 (ih _ _ h1).1)
  | BoolOp op es pos =>
   simp only[ev] at h;obtain⟨h1,h2⟩:=pK (pos:=pos) (fun e _ d hd=>ih e d hd) h;exact⟨h1,fun b hb=>(h2 b hb).t⟩
  | Compare a ops bs pos =>
   simp only[ev] at h;split at h
   ·obtain⟨x,h1,h⟩:=aP h
    obtain⟨y,h2,h⟩:=aP h;exact Jh G.room (ih _ _ h1).1 (ih _ _ h2).1 (bf h2) h
   ·split at h
    ·cases h
    rename_i e3 hpl
    have hpl':aG e3=true:=by simpa using hpl
    obtain⟨x,h1,h⟩:=aP h;obtain⟨y,h2,h⟩:=aP h;obtain⟨c,h3,h⟩:=aP h;have h3':=fB h3
    cases c with
    | false =>
     simp only[L1z,H5z,Y1z] at h;subst h;exact yQ G.room (ih _ _ h1).1 (ih _ _ h2).1 hpl' h3' ⟨fun q=>(nomatch q),fun _=>rfl⟩
    | true =>
     simp only[J5z] at h;obtain⟨z,h4,h⟩:=aP h;exact yQ G.room (ih _ _ h1).1 (ih _ _ h2).1 (bf h4) h3' ⟨fun _=>⟨z,(ih _ _ h4).1,h⟩,fun q=>nomatch q⟩
   ·cases h
  | IfExp c a b pos =>
   simp only[ev] at h;obtain⟨t,h1,h⟩:=aP h;have h1':=(ih _ _ (fB h1)).2 _ rfl
   cases t with
   | true =>
    simp only[J5z] at h;refine⟨N8 h1' (fun _=>(ih _ _ h).1) (fun q=>nomatch q),fun r hr=>Em h1' (fun _=>(ih _ _ h).2 r hr) (fun q=>nomatch q)⟩
   | false =>
    simp only[L1z,H5z] at h;refine⟨N8 h1' (fun q=>nomatch q) (fun _=>(ih _ _ h).1),fun r hr=>Em h1' (fun q=>nomatch q) (fun _=>(ih _ _ h).2 r hr)⟩
  | Tuple es j pos =>
   simp only[ev] at h;obtain⟨ds,h1,h⟩:=aP h;split at h
   ·rename_i hz
    cases h;exact val (fun _=>rfl) (Ck (fQ (fun e _ d hd=>ihp e d hd) h1).1 hz)
   ·cases h
  | List es pos =>
   simp only[ev] at h;obtain⟨ds,h1,h⟩:=aP h;split at h
   ·rename_i hz
    cases h;exact val (fun _=>rfl) (Jc (fQ (fun e _ d hd=>ihp e d hd) h1).1 hz)
   ·cases h
  | Subscript a b pos =>
   simp only[ev] at h;obtain⟨x,h1,h⟩:=aP h;split at h
   ·split at h
    ·obtain⟨l,h2,h⟩:=aP h
     obtain⟨u,h3,h⟩:=aP h
     have hl:∀ {o:Option Expr} {l:Option Int},(match o with | none=>some none | some e=>(ev cx n sc ρ e).bind fun d=>(asI d).map some)=some l->EvO X ρ o l:=by
      intro o l h2
      cases o with
      | none=>cases h2;exact Cy
      | some e =>
       simp only at h2;obtain⟨d',g1,g2⟩:=Option.bind_eq_some_iff.mp h2;obtain⟨i,g3,rfl⟩:=L0z.mp g2
       cases d'<;>simp[asI] at g3
       subst g3;exact Cw (ih _ _ g1).1
     split at h
     ·rename_i xs
      split at h
      ·rename_i hw
       cases h;rw[D2z] at hw;exact val (fun _=>rfl) (yO (ih _ _ h1).1 (hl h2) (hl h3) ⟨by simpa using hw.1,by simpa using hw.2⟩)
      ·rename_i hw
       cases h;refine val (fun _=>rfl) (Cp (ih _ _ h1).1 (hl h2) (hl h3) fun q=>hw ?_);rw[q.1,q.2];simp
     ·cases h
      exact val (fun _=>rfl) (yP (ih _ _ h1).1 (hl h2) (hl h3))
     ·cases h
    ·simp[YJ] at h
   ·obtain⟨y,h2,h⟩:=aP h
    have hp2:=bf h2;have hr:=G.room;unfold JG at h;split at h
    ·exact val (fun _=>rfl) (ug (ih _ _ h1).1 (ih _ _ h2).1 hp2 rfl h)
    ·exact val (fun _=>rfl) (ug (ih _ _ h1).1 (ih _ _ h2).1 hp2 rfl h)
    ·obtain⟨k',h3,h4⟩:=Option.bind_eq_some_iff.mp h
     exact val (fun _=>rfl) (Jf G.kw (ih _ _ h1).1 (ih _ _ h2).1 hp2 h3 h4)
    ·cases h
  | Call f args kws pos =>
   refine val (fun _=>rfl) ?_;simp only[ev] at h;split at h
   ·rename_i x p
    split at h
    ·rename_i hg
     have hb:∀ {b},cx.blt.lookup x=some b->bC cx sc x=some b:=fun q=>by unfold bC;rw[K5z hg];exact q
     split at h
     ·rename_i hx
      split at h
      ·obtain⟨d',h1,h⟩:=aP h
       split at h
       ·rename_i c' hxo
        split at h
        ·rename_i c
         split at h
         ·rename_i hin
          cases h;exact Jd G (hb hx) hxo hin (ih _ _ h1).1 (bf h1)
         ·cases h
        ·cases h
       ·obtain⟨T,h2,h5⟩:=aP h
        clear h;obtain⟨t,pt,rfl,ht⟩:=FP h2;split at h5
        ·rename_i c
         split at h5
         ·rename_i hc
          rw[D2z] at hc
          have eT:T="ValueError":=by simpa using hc.2
          subst eT;cases h5;exact Je G (hb hx) ht hc.1 (ih _ _ h1).1 (bf h1)
         ·cases h5
        ·cases h5
        ·rename_i hne hne2
         split at h5
         ·rename_i hk
          cases h5;refine N7 G (hb hx) ht hk (ih _ _ h1).1 (bf h1) ?_
          cases d'<;>first | rfl | exact absurd rfl (hne _) | exact absurd rfl (hne2 _ _)
         ·cases h5
      ·cases h
     ·rename_i b _ hx
      have wc:=PL (cx:=cx) (sc:=sc) (b:=b) (args:=args);split at h
      ·rename_i a hw
       rw[hw] at wc;obtain⟨y,q,q',rfl,hy,rfl⟩:=wc;obtain⟨j,h1,h⟩:=aP h;split at h
       ·rename_i hz
        rw[D2z] at hz;cases h;have h1':=cH h1;exact vo G (hb hx) hy (ih _ _ h1').1 (bf h1') hz.1 hz.2
       ·cases h
      ·rename_i a a' hw
       rw[hw] at wc;obtain⟨y,q,q',rfl,hy,rfl⟩:=wc;obtain⟨i,h1,h⟩:=aP h;obtain⟨j,h2,h⟩:=aP h;split at h
       ·rename_i hz
        rw[D2z,D2z] at hz;cases h;have h1':=cH h1;have h2':=cH h2;exact vm G (hb hx) hy (ih _ _ h1').1 (bf h1') (ih _ _ h2').1 (bf h2') hz.1.1 hz.1.2 hz.2
       ·cases h
      ·rename_i a hw
       rw[hw] at wc;obtain⟨y,q,q',rfl,hy,rfl⟩:=wc;simp at h
      ·rename_i a hw
       rw[hw] at wc;obtain⟨y,q,q',rfl,hy,rfl⟩:=wc;simp at h
      ·rename_i a hw
       rw[hw] at wc;obtain⟨y,q,q',rfl,hy,rfl⟩:=wc;simp at h
      ·split at h
       ·cases h
       ·rename_i hne
        obtain⟨ds,h1,h2⟩:=aP h;obtain⟨ha,hp⟩:=fQ (fun e _ d hd=>ihp e d hd) h1
        cases args with
        | nil=>exact absurd rfl hne
        | cons e es=>exact Cv G (hb hx) ha hp h2
     ·split at h
      ·rename_i hf
       rw[D2z] at hf;obtain⟨ds,h1,h⟩:=aP h;obtain⟨ha,hp⟩:=fQ (fun e _ d hd=>ihp e d hd) h1
       have hgl:Gl X x:=by
        have e:sc.names.lookup x=some .globalImplicit:=by unfold mZ at hg;simpa using hg
        show X.env.scope.names.lookup x=_;rw[G.sce,e]
       refine Ji G hgl hf.1 (fun q=>?_) ha hp h;rw[q] at hf;exact absurd hf.2 (by decide)
      ·cases h
    ·cases h
   ·split at h
    ·split at h
     ·cases h
     ·cases h
    ·cases h
   ·split at h
    ·split at h
     ·rename_i hl
      obtain⟨x,h1,h⟩:=aP h;obtain⟨z,h2,h⟩:=aP h;exact uf rfl (ih _ _ h1).1 (ih _ _ h2).1 (bf h2) hl h
     ·cases h
    ·cases h
   ·split at h
    ·split at h
     ·rename_i hl
      obtain⟨x,h1,h⟩:=aP h;obtain⟨z,h2,h⟩:=aP h;exact uf rfl (ih _ _ h1).1 (ih _ _ h2).1 (bf h2) hl h
     ·cases h
    ·cases h
   ·simp at h
   ·simp at h
   ·cases h
  | ListComp elt gens scope pos =>
   refine val (fun _=>rfl) ?_;simp only[ev] at h;split at h
   ·rename_i tg iter ifs a
    split at h
    ·rename_i hok
     rw[D2z] at hok
     have ea:a=0:=by simpa using hok.1
     subst ea;obtain⟨l,h1,h⟩:=aP h;split at h
     ·rename_i hz
      obtain⟨out,h2,h⟩:=aP h;cases h;obtain⟨hI,hp⟩:=yS (tg:=tg) G ihp h1;exact Jg G hN hok.2 hI hp hz h2 fun Xc C ρ1 hN1 e d he=>cZ cx n (G.comp C hok.2) hN1 he
     ·cases h
    ·cases h
   ·cases h
  | _=>exact nomatch (show(Option.none:Option D)=some d from h)
section
variable {prog:Program} {w:World} {A:Around} {E:Value->Shared->Prop}
theorem lO{it t:Addr}{xs:List Value}(apart:t≠it):∀ (more i:Nat) (s:Shared) (Q:List Value->Shared->Prop),s.heap.IsListIter it t i->s.heap.IsList t xs.toArray->i+more<=xs.length ->
  (∀ h',h'.IsListIter it t (i+more)->Heap.SameBut it s.heap h'->Q ((xs.drop i).take more) { s with heap:=h' })->wpAny (model prog w) A (draw (.ref it) more) Q E s
 | 0,i,s,Q,it0,_,_,q=>by
  show wpAny _ _ (pure []) _ _ _;exact Z4z (by simpa using q s.heap it0 (Heap.SameBut.refl ..))
 | more+1,i,s,Q,it0,hl,hle,q=>by
  have lt:i<xs.length:=by omega
  show wpAny _ _ (pyNext (.ref it) >>=_) _ _ _;refine Y4z (wpAny_pyNext_list_item it0 hl (x:=xs[i]) (by simp[lt]) fun h1 st1 sb1=>?_)
  have hl1:h1.IsList t xs.toArray:=by
   obtain⟨o,e,r⟩:=hl;exact⟨o,(sb1.2 t apart).trans e,r⟩
  refine Y4z (U3z (lO apart more (i+1) _ _ st1 hl1 (by omega) fun h2 st2 sb2=>Z4z ?_));have z:=q h2 (by rw[show i+(more+1)=i+1+more by omega];exact st2) (sb1.trans sb2);rw[D0z lt,List.take_succ_cons] at z;exact z
theorem mj{s:Shared}{t:Addr}{xs:List Value}{Q:List Value->Shared->Prop}(hh:A.handled=none)(hl:s.heap.IsList t xs.toArray)(q:∀ h',(∀ b o,s.heap.get? b=some o->h'.get? b=some o)->Q xs { s with heap:=h' }):
  wpAny (model prog w) A (unpackItems (.ref t) xs.length none) Q E s:=by
 have apart:t≠s.heap.objs.size:=by obtain⟨o,e,_⟩:=hl;exact E4z (D4z e)
 have keep:∀ {h':Heap},(∀ b o,b≠s.heap.objs.size->s.heap.get? b=some o->h'.get? b=some o)->∀ b o,s.heap.get? b=some o->h'.get? b=some o:=fun k b o e=>k b o (E4z (D4z e)) e
 have pushed:∀ (n:Obj),(s.heap.push n).IsList t xs.toArray:=fun n=>by
  obtain⟨o,e,r⟩:=hl;exact⟨o,Heap.get?_push_of_some _ e,r⟩
 simp only[unpackItems,notIterableAtAll];refine Y4z (Y4z (wpAny_specialOf hl.typeIs PySem.slot_list_iter.lookup (Z4z ?_)));simp only[L1z,H5z,Option.isNone_some,Bool.not_true,K3z];refine Y4z (U3z (wpAny_pyIter_list hl ?_));refine Y4z (U3z (lO apart xs.length 0 _ _ ⟨_,Heap.get?_push_size _ rfl,rfl,rfl⟩ (pushed _) (by omega) fun h1 st1 sb1=>?_))
 have all:List.take xs.length (List.drop 0 xs)=xs:=by simp
 rw[all,L5z (by simp)]
 have hl1:h1.IsList t xs.toArray:=by
  obtain⟨o,e,r⟩:=pushed { cls:=.type "list_iterator",data:=.fields #[.ref t,.int 0 0] };exact⟨o,(sb1.2 t apart).trans e,r⟩
 refine Y4z (U3z (wpAny_pyNext_list_end hh st1 hl1 (by simp) fun h2 eb=>?_));simp only[Option.isSome_none,L1z,H5z];exact Z4z (q h2 (keep fun b o hb e=>eb b o hb ((sb1.2 b hb).trans (Heap.get?_push_of_some _ e))))
end
section
variable {X:Cx} {es:List Expr} {k:Nat} {t:TGs} {n:Nat} {pos:Pos}
def gLst(K:Z3)(n:Nat)(t:TGs):TG:=fun v σ H Q=>∃ a xs,v=.ref a/\SqL K H a xs/\xs.length=n/\t xs σ H Q
theorem Lp(hc:X.calm=true)(h:PGs X es t)(hn:(assignEach es X.env).length=n)(hst:(assignEach es X.env).findIdx? (·.1)=none):PG X (.Tuple es k pos) (gLst X.K n t):=by
 intro z0 s σ H v u Q I r hw;obtain⟨a,xs,rfl,hq,hl,hw⟩:=hw;cases (show u=Value.ref a from r);obtain⟨its,rv,pl,hz⟩:=I.list hq
 have e:(assignEach es X.env).length=its.length:=by rw[hn,<- hl,rv.length]
 rw[assign_Tuple];refine Y4z (V3z ?_);unfold unpack;rw[hst,e];refine Y4z (U3z (mj (I.ok.hd hc) pl.isList fun h' kp=>?_));exact h z0 _ σ H xs _ Q (I.kept (t':=s.toks) kp) rv hw
end
def OO(K:Z3)(H0 Hs H:Hp)(a:Addr)(bs:List Addr)(dss:List (List D)):Prop :=
  H a = some (.lst (bs.map V.ref)) /\ Hs a = none /\ H0 a = none /\ bs.Nodup /\ a ∉ bs /\ bs.length = dss.length /\
    ∀ (j:Nat) b,bs[j]?=some b->Hs b=none/\H0 b=none/\∃ ds us,dss[j]?=some ds/\H b=some (.lst us)/\aU K Hs ds us
structure Hd (K:Z3) (Hs0 H0 Hs H:Hp) (ρ:Rho) (σ:St):Prop where
 ext:Ext Hs0 H0 Hs H
 len:σ.length=ρ.length
 sh:dh K Hs ρ σ
 ow:∀ (i:Nat) (x:Str) (ds:List D),ρ[i]?=some (x,.ow ds)->∃ a vs,σ[i]?=some (some (.ref a))/\H a=some (.lst vs)/\aU K Hs ds vs/\Hs a=none/\H0 a=none
 dis:∀ (i j:Nat) (x y:Str) (ds es:List D) (a:Addr),i≠j->ρ[i]?=some (x,.ow ds)->ρ[j]?=some (y,.ow es)->σ[i]?=some (some (.ref a))->σ[j]?=some (some (.ref a))->False
 oo:∀ (i:Nat) (x:Str) (dss:List (List D)),ρ[i]?=some (x,.oo dss)->(∃ a bs,σ[i]?=some (some (.ref a))/\OO K H0 Hs H a bs dss)/\∀ (j:Nat) y s,j≠i->ρ[j]?=some (y,s)->vD s=true
section
variable {K:Z3} {Hs0 H0 Hs H Hs' H':Hp} {ρ:Rho} {σ:St}
theorem OO.step{bs:List Addr}{dss:List (List D)}(h:OO K H0 Hs H a bs dss)(E:Ext Hs H Hs' H'):OO K H0 Hs' H' a bs dss:=by
 obtain⟨h1,h2,h3,h4,h5,h6,h7⟩:=h;refine⟨E.all _ _ h1,E.hid a _ h1 h2,h3,h4,h5,h6,fun j b e=>?_⟩;obtain⟨k1,k2,ds,us,k3,k4,k5⟩:=h7 j b e;exact⟨E.hid b _ k4 k1,k2,ds,us,k3,E.all _ _ k4,aU.same E.vis ds us k5⟩
theorem Hd.step(h:Hd K Hs0 H0 Hs H ρ σ)(E:Ext Hs H Hs' H'):Hd K Hs0 H0 Hs' H' ρ σ where
 ext:=h.ext.trans E
 len:=h.len
 sh:=h.sh.same E.vis
 ow:=fun i x ds e=>by
  obtain⟨a,vs,h1,h2,h3,h4,h5⟩:=h.ow i x ds e;exact⟨a,vs,h1,E.all _ _ h2,aU.same E.vis ds vs h3,E.hid a _ h2 h4,h5⟩
 dis:=h.dis
 oo:=fun i x dss e=>by
  obtain⟨⟨a,bs,h1,h2⟩,h3⟩:=h.oo i x dss e;exact⟨⟨a,bs,h1,h2.step E⟩,h3⟩
theorem iQ{n:Nat}{e:Expr}{i:Nat}{x:Str}{s:Sl}(h:(frz n e ρ)[i]?=some (x,s)):(ρ[i]?=some (x,s)/\(vD s=false->dX n x e=false))\/(∃ ds,s=.sh (.lst ds)/\ρ[i]?=some (x,.ow ds)/\dX n x e=true)\/∃ dss,s=.sh (.lst (dss.map .lst))/\ρ[i]?=some (x,.oo dss)/\dX n x e=true:=by
 unfold frz at h;rw[List.getElem?_map] at h;obtain⟨⟨y,t⟩,h1,h2⟩:=L0z.mp h
 cases t with
 | no=>simp at h2;obtain⟨rfl,rfl⟩:=h2;exact .inl ⟨h1,fun z=>nomatch z⟩
 | sh d=>simp at h2;obtain⟨rfl,rfl⟩:=h2;exact .inl ⟨h1,fun z=>nomatch z⟩
 | ow ds =>
  simp only at h2
  cases hm:dX n y e with
  | true =>
   rw[hm,K5z rfl] at h2;cases h2;exact .inr (.inl ⟨ds,rfl,h1,hm⟩)
  | false =>
   rw[hm] at h2;simp at h2;obtain⟨rfl,rfl⟩:=h2;exact .inl ⟨h1,fun _=>hm⟩
 | oo dss =>
  simp only at h2
  cases hm:dX n y e with
  | true =>
   rw[hm,K5z rfl] at h2;cases h2;exact .inr (.inr ⟨dss,rfl,h1,hm⟩)
  | false =>
   rw[hm] at h2;simp at h2;obtain⟨rfl,rfl⟩:=h2;exact .inl ⟨h1,fun _=>hm⟩
theorem aM(n:Nat)(e:Expr):(frz n e ρ).map (·.1)=ρ.map (·.1):=by
 unfold frz;rw[M4z];apply C1z;intro p _;obtain⟨x,s⟩:=p
 cases s<;>simp<;>(split<;>rfl)
theorem aU.get_of{K:Z3}{H:Hp}:∀ {ds:List D} {vs:List V},ds.length=vs.length->(∀ (j:Nat) d v,ds[j]?=some d->vs[j]?=some v->Rep K H d v)->aU K H ds vs
 | [],[],_,_=>.nil
 | [],_::_,h,_=>by simp at h
 | _::_,[],h,_=>by simp at h
 | d::ds,v::vs,h,q=>.cons (q 0 d v rfl rfl) (aU.get_of (by simpa using h) fun j d' v' e1 e2=>q (j+1) d' v' (by simpa using e1) (by simpa using e2))
theorem OO.mem{a b:Addr}{bs:List Addr}{dss:List (List D)}(h:OO K H0 Hs H a bs dss)(hb:b∈bs):Hs b=none/\H0 b=none:=by
 obtain⟨j,e⟩:=List.mem_iff_getElem?.mp hb;obtain⟨k1,k2,_⟩:=h.2.2.2.2.2.2 j b e;exact⟨k1,k2⟩
open Classical in
theorem Hd.frozen2(n:Nat)(e:Expr)(h:Hd K Hs0 H0 Hs H ρ σ):∃ Hs1,Same Hs Hs1/\(∀ b o,Hs1 b=some o->Hs b=some o\/∃ vs,o=.lst vs)/\Hd K Hs0 H0 Hs1 H (frz n e ρ) σ:=by
 let Fo:Addr->Prop:=fun b=>∃ (i:Nat) (x:Str) (ds:List D),ρ[i]?=some (x,Sl.ow ds)/\dX n x e=true/\σ[i]?=some (some (V.ref b))
 let Fb:Addr->Prop:=fun b=>∃ (i:Nat) (x:Str) (dss:List (List D)) (a:Addr) (bs:List Addr),ρ[i]?=some (x,Sl.oo dss)/\dX n x e=true/\σ[i]?=some (some (V.ref a))/\OO K H0 Hs H a bs dss/\(b=a\/b∈bs)
 let Hs1:Hp:=fun b=>if Fo b\/Fb b then H b else Hs b
 have vis:Same Hs Hs1:=fun b o q=>by
  show(if Fo b\/Fb b then H b else Hs b)=some o;split
  ·exact h.ext.sub b o q
  ·exact q
 have sub:Same Hs1 H:=fun b o q=>by
  have q':(if Fo b\/Fb b then H b else Hs b)=some o:=q;split at q'
  ·exact q'
  ·exact h.ext.sub b o q'
 have fz0:∀ b,Fo b\/Fb b->H0 b=none/\Hs b=none:=fun b hb=>by
  rcases hb with⟨i,x,ds,g1,_,g3⟩ | ⟨i,x,dss,a,bs,g1,_,g3,g4,g5⟩
  ·obtain⟨a,vs,k1,k2,k3,k4,k5⟩:=h.ow i x ds g1
   rw[k1] at g3;cases g3;exact⟨k5,k4⟩
  ·rcases g5 with rfl | g5
   ·exact⟨g4.2.2.1,g4.2.1⟩
   ·exact⟨(g4.mem g5).2,(g4.mem g5).1⟩
 have shp:∀ b o,Hs1 b=some o->Hs b=some o\/∃ vs,o=.lst vs:=fun b o q=>by
  have q':(if Fo b\/Fb b then H b else Hs b)=some o:=q;split at q'
  ·rename_i f
   rcases f with⟨i,x,ds,g1,_,g3⟩ | ⟨i,x,dss,a,bs,g1,_,g3,g4,g5⟩
   ·obtain⟨a,vs,k1,k2,k3,k4,k5⟩:=h.ow i x ds g1
    rw[k1] at g3;cases g3;rw[k2] at q';cases q';exact .inr ⟨vs,rfl⟩
   ·rcases g5 with rfl | g5
    ·rw[g4.1] at q'
     cases q';exact .inr ⟨_,rfl⟩
    ·obtain⟨j,ej⟩:=List.mem_iff_getElem?.mp g5
     obtain⟨_,_,_,us,_,m4,_⟩:=g4.2.2.2.2.2.2 j b ej;rw[m4] at q';cases q';exact .inr ⟨us,rfl⟩
  ·exact .inl q'
 refine⟨Hs1,vis,shp,⟨h.ext.vis.trans vis,h.ext.all,sub,fun b o q z=>?_⟩,by rw[h.len];simp[frz],fun i x d q=>?_,fun i x ds q=>?_,fun i j x y ds es a hij q1 q2=>?_,fun i x dss q=>?_⟩
 ·show(if Fo b\/Fb b then H b else Hs b)=none
  rw[L5z fun f=>by rw[(fz0 b f).1] at q;cases q]
  exact h.ext.hid b o q z
 ·rcases iQ q with⟨q,_⟩ | ⟨ds,e1,q2,hm⟩ | ⟨dss,e1,q2,hm⟩
  ·obtain⟨v,k1,k2⟩:=h.sh i x d q
   exact⟨v,k1,Rep.same vis d v k2⟩
  ·cases e1
   obtain⟨a,vs,k1,k2,k3,k4,k5⟩:=h.ow i x ds q2;refine⟨_,k1,?_⟩;simp only[Rep];refine⟨a,vs,rfl,.of ?_,aU.same vis ds vs k3⟩;show(if Fo a\/Fb a then H a else Hs a)=_;rw[K5z (.inl ⟨i,x,ds,q2,hm,k1⟩)];exact k2
  ·cases e1
   obtain⟨⟨a,bs,k1,k2⟩,_⟩:=h.oo i x dss q2;refine⟨_,k1,?_⟩;simp only[Rep];refine⟨a,bs.map V.ref,rfl,.of ?_,?_⟩
   ·show(if Fo a\/Fb a then H a else Hs a)=_
    rw[K5z (.inr ⟨i,x,dss,a,bs,q2,hm,k1,k2,.inl rfl⟩)];exact k2.1
   ·refine aU.get_of (by rw[U2z,U2z,k2.2.2.2.2.2.1]) fun j d v g1 g2=>?_
    rw[List.getElem?_map] at g1 g2;obtain⟨es,g3,rfl⟩:=L0z.mp g1;obtain⟨b,g4,rfl⟩:=L0z.mp g2;obtain⟨_,_,ds,us,m3,m4,m5⟩:=k2.2.2.2.2.2.2 j b g4;rw[g3] at m3;cases m3;simp only[Rep];refine⟨b,us,rfl,.of ?_,aU.same vis es us m5⟩;show(if Fo b\/Fb b then H b else Hs b)=_;rw[K5z (.inr ⟨i,x,dss,a,bs,q2,hm,k1,k2,.inr (List.mem_of_getElem? g4)⟩)];exact m4
 ·rcases iQ q with⟨q,hm⟩ | ⟨ds',e1,q,hm⟩ | ⟨ds',e1,q,hm⟩
  ·obtain⟨a,vs,k1,k2,k3,k4,k5⟩:=h.ow i x ds q
   refine⟨a,vs,k1,k2,aU.same vis ds vs k3,?_,k5⟩;show(if Fo a\/Fb a then H a else Hs a)=none;rw[L5z]
   ·exact k4
   ·rintro(⟨j,y,es,g1,g2,g3⟩ | ⟨j,y,dss,_,_,g1,_⟩)
    ·by_cases hij:i=j
     ·subst hij
      rw[q] at g1;cases g1;rw[hm rfl] at g2;cases g2
     ·exact h.dis i j x y ds es a hij q g1 k1 g3
    ·by_cases hij:i=j
     ·subst hij
      rw[q] at g1;cases g1
     ·exact nomatch (h.oo j y dss g1).2 i x _ hij q
  ·cases e1
  ·cases e1
 ·rcases iQ q1 with⟨q1,_⟩ | ⟨ds',e1,_⟩ | ⟨ds',e1,_⟩
  ·rcases iQ q2 with⟨q2,_⟩ | ⟨ds',e1,_⟩ | ⟨ds',e1,_⟩
   ·exact h.dis i j x y ds es a hij q1 q2
   ·cases e1
   ·cases e1
  ·cases e1
  ·cases e1
 ·rcases iQ q with⟨q,hm⟩ | ⟨ds',e1,_⟩ | ⟨ds',e1,_⟩
  ·obtain⟨⟨a,bs,k1,k2⟩,k3⟩:=h.oo i x dss q
   have nf:∀ b,¬ (Fo b\/Fb b):=by
    rintro b (⟨j,y,es,g1,_⟩ | ⟨j,y,dss',_,_,g1,g2,_⟩)
    ·by_cases hij:j=i
     ·subst hij
      rw[q] at g1;cases g1
     ·exact nomatch k3 j y _ hij g1
    ·by_cases hij:j=i
     ·subst hij
      rw[q] at g1;cases g1;rw[hm rfl] at g2;cases g2
     ·exact nomatch k3 j y _ hij g1
   have sm:∀ b,Hs1 b=Hs b:=fun b=>by
    show(if Fo b\/Fb b then H b else Hs b)=_;rw[L5z (nf b)]
   refine⟨⟨a,bs,k1,k2.1,by rw[sm];exact k2.2.1,k2.2.2.1,k2.2.2.2.1,k2.2.2.2.2.1,k2.2.2.2.2.2.1,fun j b g=>?_⟩,fun j y s hj g=>?_⟩
   ·obtain⟨m1,m2,ds,us,m3,m4,m5⟩:=k2.2.2.2.2.2.2 j b g
    exact⟨by rw[sm];exact m1,m2,ds,us,m3,m4,aU.same vis ds us m5⟩
   ·rcases iQ g with⟨g,_⟩ | ⟨_,e1,_⟩ | ⟨_,e1,_⟩
    ·exact k3 j y s hj g
    ·rw[e1];rfl
    ·rw[e1];rfl
  ·cases e1
  ·cases e1
theorem Hd.frozen(n:Nat)(e:Expr)(h:Hd K Hs0 H0 Hs H ρ σ):∃ Hs1,Same Hs Hs1/\Hd K Hs0 H0 Hs1 H (frz n e ρ) σ :=
 let ⟨Hs1,a,_,b⟩:=h.frozen2 n e
 ⟨Hs1,a,b⟩
def flH(Hs H Hs':Hp):Hp:=fun b=>match Hs b with
 | some o=>some o
 | none=>match H b with
  | some _=>none
  | none=>match Hs' b with
   | some (.tup vs)=>some (.tup vs)
   | some (.frz o (.tup vs))=>some (.frz o (.tup vs))
   | _=>none
mutual
theorem uc{Hs H Hs1 Hs' H':Hp}(vis:Same Hs Hs1)(shp:∀ b o,Hs1 b=some o->Hs b=some o\/∃ vs,o=.lst vs)(E:Ext Hs1 H Hs' H'):∀ (d:D) (v:V),dZ d=true->Rep K Hs' d v->Rep K (flH Hs H Hs') d v
 | .non,v,_,r=>by simpa[Rep] using r
 | .bl b,v,_,r=>by simpa[Rep] using r
 | .int i,v,_,r=>by simpa[Rep] using r
 | .str x,v,_,r=>by simpa[Rep] using r
 | .lst _,v,h,_=>by simp[dZ] at h
 | .exc _,v,h,_=>by simp[dZ] at h
 | .dic _ _,v,h,_=>by simp[dZ] at h
 | .tup ds,v,h,r=>by
  simp only[dZ] at h;simp only[Rep] at r ⊢;obtain⟨p,ws,rfl,h1,h2⟩:=r;refine⟨p,ws,rfl,?_,pJ vis shp E ds ws h h2⟩
  have fin:∀ u:HO,Hs' p=some u->(∀ vs,u≠.lst vs)->Hs p=some u\/(Hs p=none/\H p=none):=fun u hu hnl=>by
   cases hp:Hs p with
   | some u' =>
    have:=E.vis _ _ (vis _ _ hp);rw[hu] at this;exact .inl this.symm
   | none =>
    have h1n:Hs1 p=none:=by
     cases q:Hs1 p with
     | none=>rfl
     | some o =>
      rcases shp p o q with z | ⟨vs,rfl⟩
      ·rw[hp] at z;cases z
      ·have:=E.vis _ _ q
       rw[hu] at this;cases this;exact absurd rfl (hnl vs)
    refine .inr ⟨rfl,?_⟩
    cases q:H p with
    | none=>rfl
    | some o=>have:=E.hid p o q h1n;rw[hu] at this;cases this
  rcases h1 with(h1 | ⟨o,h1⟩) | h1
  ·refine .inl (.inl ?_)
   rcases fin _ h1 (fun vs z=>nomatch z) with z | ⟨z1,z2⟩
   ·simp only[flH,z]
   ·simp only[flH,z1,z2,h1]
  ·refine .inl (.inr ⟨o,?_⟩)
   rcases fin _ h1 (fun vs z=>nomatch z) with z | ⟨z1,z2⟩
   ·simp only[flH,z]
   ·simp only[flH,z1,z2,h1]
  ·exact .inr h1
theorem pJ{Hs H Hs1 Hs' H':Hp}(vis:Same Hs Hs1)(shp:∀ b o,Hs1 b=some o->Hs b=some o\/∃ vs,o=.lst vs)(E:Ext Hs1 H Hs' H'):∀ (ds:List D) (vs:List V),lN ds=true->aU K Hs' ds vs->aU K (flH Hs H Hs') ds vs
 | [],vs,_,r=>by simpa[aU] using r
 | d::ds,vs,h,r=>by
  simp only[lN,D2z] at h;simp only[aU] at r ⊢;obtain⟨w,r',rfl,h1,h2⟩:=r;exact⟨w,r',rfl,uc vis shp E d w h.1 h1,pJ vis shp E ds r' h.2 h2⟩
end
theorem fP{d:D}(hs:Same Hs H)(vis:Same Hs Hs1)(shp:∀ b o,Hs1 b=some o->Hs b=some o\/∃ vs,o=.lst vs)(E:Ext Hs1 H Hs' H')(hd:dZ d=true)(r:Rep K Hs' d v):∃ Hs3,Ext Hs H Hs3 H'/\Rep K Hs3 d v:=by
 refine⟨flH Hs H Hs',⟨fun b o q=>by simp only[flH,q],E.all,fun b o q=>?_,fun b o q z=>by simp only[flH,z,q]⟩,uc vis shp E d v hd r⟩;unfold flH at q;split at q
 ·rename_i o' e;cases q;exact E.all _ _ (hs _ _ e)
 ·split at q
  ·cases q
  ·split at q
   ·rename_i e;cases q;exact E.sub _ _ e
   ·rename_i e;cases q;exact E.sub _ _ e
   ·cases q
theorem Hd.set{x:Str}{i:Nat}{d:D}(h:Hd K Hs0 H0 Hs H ρ σ)(hn:(ρ.map (·.1)).Nodup)(hi:(ρ.map (·.1))[i]?=some x)(r:Rep K Hs d v):Hd K Hs0 H0 Hs H (cL ρ x (.sh d)) (σ.set i (some v)):=by
 have hl:i<σ.length:=by have:=(List.getElem?_eq_some_iff.mp hi).1;rw[h.len];simpa using this
 refine⟨h.ext,by rw[V2z,h.len];have:=congrArg List.length (aJ ρ x (.sh d));simpa using this.symm,oU hn hi hl h.sh r,fun j y ds e=>?_,fun j j' y y' ds es a hjj e1 e2 e3 e4=>?_,fun j y dss e=>?_⟩
 ·rw[aV hn hi j] at e
  split at e
  ·cases e
  ·rename_i hj
   obtain⟨a,vs,k1,k⟩:=h.ow j y ds e;exact⟨a,vs,by rw[List.getElem?_set_ne (fun z=>hj z.symm)];exact k1,k⟩
 ·rw[aV hn hi] at e1 e2
  split at e1
  ·cases e1
  ·rename_i hj
   split at e2
   ·cases e2
   ·rename_i hj'
    rw[List.getElem?_set_ne (fun z=>hj z.symm)] at e3;rw[List.getElem?_set_ne (fun z=>hj' z.symm)] at e4;exact h.dis j j' y y' ds es a hjj e1 e2 e3 e4
 ·rw[aV hn hi j] at e
  split at e
  ·cases e
  ·rename_i hj
   obtain⟨⟨a,bs,k1,k2⟩,k3⟩:=h.oo j y dss e;refine⟨⟨a,bs,by rw[List.getElem?_set_ne (fun z=>hj z.symm)];exact k1,k2⟩,fun l z s hl' g=>?_⟩;rw[aV hn hi l] at g;split at g
   ·cases g;rfl
   ·exact k3 l z s hl' g
theorem Hd.own{x:Str}{i:Nat}{ds:List D}{vs:List V}{acc:Addr}(h:Hd K Hs0 H0 Hs H ρ σ)(hn:(ρ.map (·.1)).Nodup)(hi:(ρ.map (·.1))[i]?=some x)(h1:H acc=some (.lst vs))(r:aU K Hs ds vs)(h2:Hs acc=none)(h3:H0 acc=none)
  (no:∀ (j:Nat) y dss,j≠i->ρ[j]?=some (y,.oo dss)->False) (ap:∀ (j:Nat) y es,j≠i->ρ[j]?=some (y,.ow es)->σ[j]?=some (some (.ref acc))->False):Hd K Hs0 H0 Hs H (cL ρ x (.ow ds)) (σ.set i (some (.ref acc))):=by
 have hl:i<σ.length:=by have:=(List.getElem?_eq_some_iff.mp hi).1;rw[h.len];simpa using this
 refine⟨h.ext,by rw[V2z,h.len];have:=congrArg List.length (aJ ρ x (.ow ds));simpa using this.symm,fun j y d e=>?_,fun j y es e=>?_,fun j j' y y' ds' es a hjj e1 e2 e3 e4=>?_,fun j y dss e=>?_⟩
 ·rw[aV hn hi j] at e
  split at e
  ·cases e
  ·rename_i hj
   obtain⟨v,k1,k2⟩:=h.sh j y d e;exact⟨v,by rw[List.getElem?_set_ne (fun z=>hj z.symm)];exact k1,k2⟩
 ·rw[aV hn hi j] at e
  split at e
  ·rename_i hj
   subst hj;cases e;exact⟨acc,vs,by rw[List.getElem?_set_self hl],h1,r,h2,h3⟩
  ·rename_i hj
   obtain⟨a,vs',k1,k⟩:=h.ow j y es e;exact⟨a,vs',by rw[List.getElem?_set_ne (fun z=>hj z.symm)];exact k1,k⟩
 ·rw[aV hn hi] at e1 e2
  split at e1
  ·rename_i hj
   split at e2
   ·rename_i hj'
    exact hjj (hj.trans hj'.symm)
   ·rename_i hj'
    subst hj;rw[List.getElem?_set_self hl] at e3;cases e3;rw[List.getElem?_set_ne (fun z=>hj' z.symm)] at e4;exact ap j' y' es hj' e2 e4
  ·rename_i hj
   split at e2
   ·rename_i hj'
    subst hj';rw[List.getElem?_set_self hl] at e4;cases e4;rw[List.getElem?_set_ne (fun z=>hj z.symm)] at e3;exact ap j y ds' hj e1 e3
   ·rename_i hj'
    rw[List.getElem?_set_ne (fun z=>hj z.symm)] at e3;rw[List.getElem?_set_ne (fun z=>hj' z.symm)] at e4;exact h.dis j j' y y' ds' es a hjj e1 e2 e3 e4
 ·rw[aV hn hi j] at e
  split at e
  ·cases e
  ·rename_i hj
   exact(no j y dss hj e).elim
theorem Hd.app{x:Str}{i:Nat}{ds es:List D}(h:Hd K Hs0 H0 Hs H ρ σ)(hn:(ρ.map (·.1)).Nodup)(hi:ρ[i]?=some (x,.ow ds))(hσ:σ[i]?=some (some (.ref a)))(r:aU K Hs es vs):Hd K Hs0 H0 Hs (upd H a (.lst vs)) (cL ρ x (.ow es)) σ:=by
 obtain⟨a',vs',k1,k2,k3,k4,k5⟩:=h.ow i x ds hi;rw[hσ] at k1;cases k1
 have hi':(ρ.map (·.1))[i]?=some x:=by rw[List.getElem?_map,hi];rfl
 refine⟨Ext.acc h.ext k5 k4,by rw[h.len];have:=congrArg List.length (aJ ρ x (.ow es));simpa using this.symm,fun j y d e=>?_,fun j y es' e=>?_,fun j j' y y' ds' es' b hjj e1 e2 e3 e4=>?_,fun j y dss e=>?_⟩
 ·rw[aV hn hi' j] at e
  split at e
  ·cases e
  ·exact h.sh j y d e
 ·rw[aV hn hi' j] at e
  split at e
  ·rename_i hj
   subst hj;cases e;exact⟨a,vs,hσ,bh,r,k4,k5⟩
  ·rename_i hj
   obtain⟨b,us,g1,g2,g⟩:=h.ow j y es' e;refine⟨b,us,g1,?_,g⟩;rw[aY]
   ·exact g2
   ·rintro rfl
    exact h.dis j i y x es' ds b hj e hi g1 hσ
 ·rw[aV hn hi'] at e1 e2
  split at e1
  ·rename_i hj
   split at e2
   ·rename_i hj'
    exact hjj (hj.trans hj'.symm)
   ·subst hj
    exact h.dis j j' x y' ds es' b hjj hi e2 e3 e4
  ·split at e2
   ·rename_i hj'
    subst hj';exact h.dis j j' y x ds' ds b hjj e1 hi e3 e4
   ·exact h.dis j j' y y' ds' es' b hjj e1 e2 e3 e4
 ·rw[aV hn hi' j] at e
  split at e
  ·cases e
  ·rename_i hj
   exact nomatch (h.oo j y dss e).2 i x _ (fun w=>hj w.symm) hi
theorem Bs{x:Str}{i:Nat}(hn:(ρ.map (·.1)).Nodup)(hi:(ρ.map (·.1))[i]?=some x)(h:jP ρ x=true):∀ (j:Nat) y s,j≠i->ρ[j]?=some (y,s)->vD s=true:=fun j y s hj e=>by
 have:=M2z.mp h _ (List.mem_of_getElem? e);rw[Z2z] at this;rcases this with q | q
 ·exfalso
  have ey:y=x:=by simpa using q
  have e':(ρ.map (·.1))[j]?=some x:=by rw[List.getElem?_map,e,<- ey];rfl
  exact hj ((List.getElem?_inj (List.getElem?_eq_some_iff.mp e').1 hn).mp (e'.trans hi.symm))
 ·exact q
theorem HD{x:Str}{i:Nat}(hn:(ρ.map (·.1)).Nodup)(hi:(ρ.map (·.1))[i]?=some x)(h:kZ ρ x=true):∀ (j:Nat) y dss,j≠i->ρ[j]?=some (y,.oo dss)->False:=fun j y dss hj e=>by
 have:=M2z.mp h _ (List.mem_of_getElem? e);rw[Z2z] at this;rcases this with q | q
 ·have ey:y=x:=by simpa using q
  have e':(ρ.map (·.1))[j]?=some x:=by rw[List.getElem?_map,e,<- ey];rfl
  exact hj ((List.getElem?_inj (List.getElem?_eq_some_iff.mp e').1 hn).mp (e'.trans hi.symm))
 ·exact nomatch q
theorem Hd.own2{x:Str}{i:Nat}{dss:List (List D)}{bs:List Addr}(h:Hd K Hs0 H0 Hs H ρ σ)(hn:(ρ.map (·.1)).Nodup)(hi:(ρ.map (·.1))[i]?=some x)(o:OO K H0 Hs H a bs dss)(no:∀ (j:Nat) y s,j≠i->ρ[j]?=some (y,s)->vD s=true):Hd K Hs0 H0 Hs H (cL ρ x (.oo dss)) (σ.set i (some (.ref a))):=by
 have hl:i<σ.length:=by have:=(List.getElem?_eq_some_iff.mp hi).1;rw[h.len];simpa using this
 refine⟨h.ext,by rw[V2z,h.len];have:=congrArg List.length (aJ ρ x (.oo dss));simpa using this.symm,fun j y d e=>?_,fun j y es e=>?_,fun j j' y y' ds' es a hjj e1 e2 e3 e4=>?_,fun j y dss' e=>?_⟩
 ·rw[aV hn hi j] at e
  split at e
  ·cases e
  ·rename_i hj
   obtain⟨v,k1,k2⟩:=h.sh j y d e;exact⟨v,by rw[List.getElem?_set_ne (fun z=>hj z.symm)];exact k1,k2⟩
 ·rw[aV hn hi j] at e
  split at e
  ·cases e
  ·rename_i hj
   exact nomatch no j y _ hj e
 ·rw[aV hn hi] at e1
  split at e1
  ·cases e1
  ·rename_i hj
   exact nomatch no j y _ hj e1
 ·rw[aV hn hi j] at e
  split at e
  ·rename_i hj
   subst hj;cases e;refine⟨⟨a,bs,by rw[List.getElem?_set_self hl],o⟩,fun l z s hl' g=>?_⟩;rw[aV hn hi l,L5z hl'] at g;exact no l z s hl' g
  ·rename_i hj
   exact nomatch no j y _ hj e
theorem Hd.app2{x:Str}{i:Nat}{dss dss':List (List D)}{a c:Addr}(h:Hd K Hs0 H0 Hs H ρ σ)(hn:(ρ.map (·.1)).Nodup)(hi:ρ[i]?=some (x,.oo dss))(hσ:σ[i]?=some (some (.ref a)))(c1:Hs c=none)(c2:H0 c=none)(o:OO K H0 Hs (upd H c (.lst vs)) a bs' dss'):Hd K Hs0 H0 Hs (upd H c (.lst vs)) (cL ρ x (.oo dss')) σ:=by
 have hi':(ρ.map (·.1))[i]?=some x:=by rw[List.getElem?_map,hi];rfl
 obtain⟨_,no⟩:=h.oo i x dss hi;refine⟨Ext.acc h.ext c2 c1,by rw[h.len];have:=congrArg List.length (aJ ρ x (.oo dss'));simpa using this.symm,fun j y d e=>?_,fun j y es e=>?_,fun j j' y y' ds' es a hjj e1 e2 e3 e4=>?_,fun j y dss'' e=>?_⟩
 ·rw[aV hn hi' j] at e
  split at e
  ·cases e
  ·exact h.sh j y d e
 ·rw[aV hn hi' j] at e
  split at e
  ·cases e
  ·rename_i hj
   exact nomatch no j y _ hj e
 ·rw[aV hn hi'] at e1
  split at e1
  ·cases e1
  ·rename_i hj
   exact nomatch no j y _ hj e1
 ·rw[aV hn hi' j] at e
  split at e
  ·rename_i hj
   subst hj;cases e;refine⟨⟨a,bs',hσ,o⟩,fun l z s hl' g=>?_⟩;rw[aV hn hi' l,L5z hl'] at g;exact no l z s hl' g
  ·rename_i hj
   exact nomatch no j y _ hj e
theorem tQ:lV K Hs scope (fun ρ σ=>Hd K Hs0 H0 Hs H ρ σ):=fun ρ σ i x d v hn hi _ h r=>h.set hn hi r
end
end L2
namespace L2
open PySem PySem.Spec PyProof.Rows PySem.SeqAt
open DE hiding st
def iG(X:Cx)(s:Stmt):TS:=fun D σ H=>∀ z0 s0,Inv X z0 σ H s0->wpAny (model X.prog X.w) X.A (exec s X.env) (SP X z0 D) X.xe s0
def iD(X:Cx)(s:List Stmt):TS:=fun D σ H=>∀ z0 s0,Inv X z0 σ H s0->wpAny (model X.prog X.w) X.A (execs s X.env) (SP X z0 D) X.xe s0
section
variable {X:Cx} {s:Stmt} {ss:List Stmt} {t:TS} {D:Ends} {σ:St} {H:Hp}
theorem Dr:PS X s (iG X s):=fun z0 s σ H D I h=>h z0 s I
theorem PS.sem(h:PS X s t)(q:t D σ H):iG X s D σ H:=fun z0 s I=>h z0 s σ H D I q
theorem dR:PSs X ss (iD X ss):=fun z0 s σ H D I h=>h z0 s I
theorem PSs.sem(h:PSs X ss t)(q:t D σ H):iD X ss D σ H:=fun z0 s I=>h z0 s σ H D I q
end
def Runs(X:Cx)(Hs0 H0:Hp)(ρ:Rho)(fl:Fl)(t:TS):Prop:=∀ σ H Hs D,Hd X.K Hs0 H0 Hs H ρ σ->X.N=ρ.map (·.1)->(∀ ρ' σ' Hs' H',fl=.nxt ρ'->Same Hs Hs'->X.N=ρ'.map (·.1)->Hd X.K Hs0 H0 Hs' H' ρ' σ'->D.nx σ' H') ->
 (∀ d v Hs' H',fl=.ret d->Ext Hs0 H0 Hs' H'->Rep X.K Hs' d v->D.rt v H')->t D σ H
structure GoodS (cx:Cxt) (k:Nat) (X:Cx) (sc:Scope):Prop where
 good:Good cx k X sc
 own:Owns X sc
 pass:PassesOwn (model X.prog X.w) X.A X.env X.xe
 stk:X.stack=X.env::X.outer/\X.env.frame=some X.env.locals
section
variable {X:Cx} {ρ:Rho} {cx:Cxt} {k F:Nat} {sc scope:Scope} {Hs0 H0:Hp} {e:Expr} {d:D}
theorem Cm(G:GoodS cx k X sc)(hN:X.N=ρ.map (·.1))(he:ev cx F sc (frz F e ρ) e=some d){H Hs:Hp}(h:Hd X.K Hs0 H0 Hs H ρ σ)(q:∀ v Hs' H',Same Hs Hs'->Hd X.K Hs0 H0 Hs' H' (frz F e ρ) σ->Rep X.K Hs' d v->Q v H'):qp X e σ H Q:=by
 obtain⟨Hs1,sm1,h1⟩:=h.frozen F e;exact(cZ cx F G.good (by rw[aM];exact hN) he).1 σ H Hs1 Q h1.ext.sub h1.sh fun v H' Hs' E r=>q v Hs' H' (sm1.trans E.vis) (h1.step E) r
theorem NZ(G:GoodS cx k X sc)(hN:X.N=ρ.map (·.1)){b:Bool}(he:ev cx F sc (frz F e ρ) e=some (.bl b)){H Hs:Hp}{Q:Bool->Hp->Prop}(h:Hd X.K Hs0 H0 Hs H ρ σ)(q:∀ Hs' H',Same Hs Hs'->Hd X.K Hs0 H0 Hs' H' (frz F e ρ) σ->Q b H'):wg X e σ H Q:=by
 obtain⟨Hs1,sm1,h1⟩:=h.frozen F e;exact(cZ cx F G.good (by rw[aM];exact hN) he).2 b rfl σ H Hs1 Q h1.ext.sub h1.sh fun H' Hs' E=>q Hs' H' (sm1.trans E.vis) (h1.step E)
theorem Ja(G:GoodS cx k X sc)(hN:X.N=ρ.map (·.1)){b:Bool}(he:ev cx F sc (frz F e ρ) e=some (.bl b)){H Hs:Hp}{Q:Bool->Hp->Prop}(h:Hd X.K Hs0 H0 Hs H ρ σ)(q:∀ Hs' H',Same Hs Hs'->Hd X.K Hs0 H0 Hs' H' ρ σ->Q b H'):wg X e σ H Q:=by
 obtain⟨Hs1,sm1,shp,h1⟩:=h.frozen2 F e;refine(cZ cx F G.good (by rw[aM];exact hN) he).2 b rfl σ H Hs1 Q h1.ext.sub h1.sh fun H' Hs' E=>?_;obtain⟨Hs3,E3,_⟩:=fP (K:=X.K) (d:=.bl b) (v:=.bl b) h.ext.sub sm1 shp E rfl (by simp[Rep]);exact q Hs3 H' E3.vis (h.step E3)
theorem eO{t:Option Expr}{l:Nat}(he:ev cx F sc ρ e=some d)(hc:∀ a b c p,e≠.ListComp a b c p):swapsWith e t l env=pure false:=by
 cases F with
 | zero=>simp[ev] at he
 | succ F =>
  cases e<;>first | rfl | (exact nomatch (show(Option.none:Option D)=some d from he)) | (exact absurd rfl (hc _ _ _ _))
theorem Ba(h:aX e=false):kJ e d=.sh d:=by
 unfold kJ;split
 ·rw[h];rfl
 ·rfl
def Pq(X:Cx)(ρ:Rho)(e:Expr)(ds:List D):Prop:=∀ σ H Hs Q,Same Hs H->dh X.K Hs ρ σ->(∀ acc vs Hs' H',Ext Hs H Hs' H'->H acc=none->Hs' acc=none->H' acc=some (.lst vs)->aU X.K Hs' ds vs->Q (.ref acc) H')->qp X e σ H Q
theorem Bp{es:List Expr}(h:EvA X ρ es ds)(hz:szl ds.length=true):Pq X ρ (.List es pos) ds:=fun σ H Hs Q hs hst hq =>
 (Dv je).sem (h σ H Hs _ hs hst fun vs H1 Hs1 E1 r1=>⟨by rw[<- r1.length];exact fK hz,fun p hp =>
  hq p vs Hs1 _ (Ext.acc E1 (E1.all.free hp) (E1.sub.free hp)) (E1.all.free hp) (E1.sub.free hp) bh r1⟩)
theorem j5{gens:List Comprehension}{n:Nat}(G:Good cx k X sc)(hN:X.N=ρ.map (·.1))(he:ev cx (n+1) sc ρ (.ListComp elt gens scope pos)=some d):
    ∃ tg iter ifs l out, gens = [⟨tg, iter, ifs, 0⟩] /\ iz sc scope = true /\ EvI X ρ tg iter l /\ aG iter = true /\ szl l.length = true /\ bH (pP cx n sc scope ρ tg elt ifs) l = some out /\ d = .lst out /\
      (∀ Xc,CompOf X scope Xc->∀ ρ1:Rho,Xc.N=ρ1.map (·.1)->∀ e d,ev cx n (kE scope sc) ρ1 e=some d->Ev Xc ρ1 e d/\∀ b,d=.bl b->EvT Xc ρ1 e b):=by
  simp only[ev] at he
  split at he
  · rename_i tg iter ifs a
    split at he
    · rename_i hok
      rw[D2z] at hok
      have ea:a=0:=by simpa using hok.1
      subst ea
      obtain⟨l,h1,he⟩:=aP he
      split at he
      · rename_i hz
        obtain⟨out,h2,he⟩:=aP he
        cases he
        obtain⟨hI,hp⟩:=yS (tg:=tg) G (fun e d h=>⟨(cZ cx n G hN h).1,bf h⟩) h1
        exact⟨tg,iter,ifs,l,out,rfl,hok.2,hI,hp,hz,h2,rfl,fun Xc C ρ1 hN1 e d he=>cZ cx n (G.comp C hok.2) hN1 he⟩
      · cases he
    · cases he
  · cases he
theorem Hf{a b:Expr}{j:Int}(ha:Ev X ρ a (.lst ds))(hb:Ev X ρ b (.int j))(h1:j<=1000)(h2:-1000<=j)(hz:szl (ds.length*j.toNat)=true):Pq X ρ (.BinOp a .Mult b pos) (List.replicate j.toNat ds).flatten:=fun σ H Hs Q hs hst hq=>by
 refine(ju xK aq aq).sem (ha σ H Hs _ hs hst fun u H1 Hs1 E1 r1=>hb σ H1 Hs1 _ E1.sub (hst.same E1.vis) fun v H2 Hs2 E2 r2=>?_);obtain⟨p,us,rfl,g1,g2⟩:=bG (Rep.same E2.vis _ _ r1);have l1:=g2.length;have E:=E1.trans E2;exact⟨p,_,us,rfl,aF r2,E2.sub.seq g1,by omega,by omega,by have:=fK hz;rw[<- l1];exact this,fun q hq'=>hq q _ Hs2 _ (Ext.acc E (E.all.free hq') (E.sub.free hq')) (E.all.free hq') (E.sub.free hq') bh (g2.rep _)⟩
theorem rW{x:Str}{ds:List D}{px pos:Pos}(G:GoodS cx k X sc)(hN:X.N=ρ.map (·.1))(hx:ownIn sc x=true)(hc:(ρ.map (·.1)).contains x=true)(hno:kZ (frz F e ρ) x=true)
  (hrun:∀ (i:Nat),X.N[i]?=some x->∀ σ H Hs D,Same Hs H->dh X.K Hs (frz F e ρ) σ->(∀ acc vs Hs' H',Ext Hs H Hs' H'->H acc=none->Hs' acc=none->H' acc=some (.lst vs)->aU X.K Hs' ds vs->D.nx (σ.set i (some (.ref acc))) H')->iG X (.Assign [.Name x px] e pos) D σ H) :
  Runs X Hs0 H0 ρ (.nxt (cL (frz F e ρ) x (.ow ds))) (iG X (.Assign [.Name x px] e pos)):=by
 intro σ H Hs D h _ hn hr;obtain⟨i,hi⟩:=bT hc;obtain⟨Hs1,sm1,h1⟩:=h.frozen F e
 have hnd:((frz F e ρ).map (·.1)).Nodup:=by rw[aM,<- hN];exact G.good.nd
 refine hrun i (by rw[hN];exact hi) σ H Hs1 D h1.ext.sub h1.sh fun acc vs Hs' H' E a1 a2 a3 r=>?_
 refine hn _ _ Hs' H' rfl (sm1.trans E.vis) (by rw[aJ,aM];exact hN) ((h1.step E).own hnd (by rw[aM];exact hi) a3 r a2 (h1.ext.all.free a1) (HD hnd (by rw[aM];exact hi) hno) fun j y es hj q1 q2=>?_)
 obtain⟨b,us,k1,k2,_⟩:=h1.ow j y es q1;rw[k1] at q2;cases q2;rw[a1] at k2;cases k2
theorem wH{x:Str}{px pos:Pos}(G:GoodS cx k X sc)(hN:X.N=ρ.map (·.1))(hx:ownIn sc x=true)(hc:(ρ.map (·.1)).contains x=true)(hno:aX e=true->kZ (frz F e ρ) x=true)(he:ev cx F sc (frz F e ρ) e=some d):
  Runs X Hs0 H0 ρ (.nxt (cL (frz F e ρ) x (kJ e d))) (iG X (.Assign [.Name x px] e pos)):=by
 obtain⟨ox,of⟩:=G.own.own x hx
 have hN':X.N=(frz F e ρ).map (·.1):=by rw[aM];exact hN
 by_cases hfr:aX e=true
 ·cases F with
  | zero=>simp[ev] at he
  | succ F =>
   cases e with
   | List es p2 =>
    simp only[ev] at he;obtain⟨ds,h1,he⟩:=aP he;split at he
    ·rename_i hz
     cases he;have hA:=(fQ (fun e _ d hd=>⟨(cZ cx F G.good hN' hd).1,bf hd⟩) h1).1;refine rW G hN hx hc (hno rfl) fun i hi σ H Hs D hs hst hq=>?_;refine PS.sem (jd G.good.nd hi ox aq rfl of) (Bp hA hz σ H Hs _ hs hst fun acc vs Hs' H' E a1 a2 a3 r=>hq acc vs Hs' H' E a1 a2 a3 r)
    ·cases he
   | ListComp elt gens scope p2 =>
    obtain⟨tg,iter,ifs,l,out,rfl,hok,hI,hp,hz,hgo,rfl,hE⟩:=j5 G.good hN' he;obtain⟨ok1,ok2,ok3⟩:=dI G.good hok;refine rW G hN hx hc (hno rfl) fun i hi σ H Hs D hs hst hq=>?_
    have rd:qG X scope (qF X tg iter) (qW X.N scope.names) (fun Xc=>Cd Xc tg) (fun Xc=>rB Xc ifs) (fun Xc=>qp Xc elt) σ H (fun v H1=>D.nx (σ.set i (some v)) H1) :=
     j4 G.good hN' hok hI hz hgo hE hs hst fun acc vs Hs' H' E a1 a2 a3 r=>hq acc vs Hs' H' E a1 a2 a3 r
    cases hsw:(X.env.blockKind==.function&&X.env.kindOf x==some .local&&px.line==p2.line && !(scope.names.any fun(n,k)=>n==x&&(k==.local||k==.cell))) with
    | true =>
     have e1:swapsWith (.ListComp elt [⟨tg,iter,ifs,0⟩] scope p2) (some (.Name x px)) pos.line X.env=pure true:=by rw[<- hsw];rfl
     rw[D2z,D2z,D2z] at hsw
     have hl:X.env.scope.names.lookup x=some .local:=by simpa[Env.kindOf] using hsw.1.1.2
     exact PS.sem (wZ G.good.nd hi hl G.good.calm ok1 ok2 ok3 jO (fun Xc C=>⟨gW,fW,aq⟩) (dU hp) e1) rd
    | false =>
     have e1:swapsWith (.ListComp elt [⟨tg,iter,ifs,0⟩] scope p2) (some (.Name x px)) pos.line X.env=pure false:=by rw[<- hsw];rfl
     exact PS.sem (jd G.good.nd hi ox (mR G.good.calm ok1 ok2 ok3 jO (fun Xc C=>⟨gW,fW,aq⟩) (dU hp)) e1 of) rd
   | BinOp a op b p2 =>
    have hno':=hno hfr;simp only[aX,D2z] at hfr;obtain⟨q1,q2⟩:=hfr
    cases op<;>simp[aaE] at q2
    cases a with
    | List es p3 =>
     simp only[ev] at he;obtain⟨dx,h1,he⟩:=aP he;obtain⟨dy,h2,he⟩:=aP he
     have hl:∃ ds0,dx=.lst ds0:=by
      cases F with
      | zero=>simp[ev] at h1
      | succ F =>
       simp only[ev] at h1;obtain⟨ds0,_,h1⟩:=aP h1;split at h1
       ·cases h1;exact⟨_,rfl⟩
       ·cases h1
     obtain⟨ds0,rfl⟩:=hl
     cases dy with
     | int j =>
      simp only[binop] at he;split at he
      ·rename_i hz
       cases he;rw[D2z,D2z,W1z,W1z] at hz;have e1:=(cZ cx F G.good hN' h1).1;have e2:=(cZ cx F G.good hN' h2).1;refine rW G hN hx hc hno' fun i hi σ H Hs D hs hst hq=>?_;refine PS.sem (jd G.good.nd hi ox aq rfl of) (Hf e1 e2 hz.1.1 hz.1.2 hz.2 σ H Hs _ hs hst fun acc vs Hs' H' E a1 a2 a3 r=>hq acc vs Hs' H' E a1 a2 a3 r)
      ·cases he
     | _=>simp[binop] at he
    | _=>exact absurd (show false=true from q1) G1z
   | _=>simp[aX] at hfr
 ·have hfr':aX e=false:=by simpa using hfr
  rw[Ba hfr'];intro σ H Hs D h _ hn hr;obtain⟨i,hi⟩:=bT hc
  have hsw:=eO (t:=some (.Name x px)) (l:=pos.line) (env:=X.env) he fun a b c p q=>by rw[q] at hfr';cases hfr'
  refine PS.sem (jd (i:=i) G.good.nd (by rw[hN];exact hi) ox aq hsw of) (Cm G hN he h fun v Hs' H' sm h' r=>?_)
  exact hn _ _ Hs' H' rfl sm (by rw[aJ];exact hN') (h'.set (by rw[<- hN'];exact G.good.nd) (by rw[aM];exact hi) r)
theorem vH{es:List Expr}{l:List D}{ρ':Rho}{σ:St}{v:V}{Hs H:Hp}{P:Rho->St->Prop}{Q:St->Hp->Prop}{kt:Nat}{pos:Pos}(G:GoodS cx k X sc)(hs:Same Hs H)(hN:X.N=ρ.map (·.1))(KE:lV X.K Hs sc P)(hl:items d=some l)(hb:bindNames sc es l ρ=some ρ')(hp:P ρ σ)(rd:Rep X.K Hs d v)
  (hq:∀ σ',X.N=ρ'.map (·.1)->P ρ' σ'->Q σ' H):Cd X (.Tuple es kt pos) v σ H Q:=by
 obtain⟨e1,e2,e3⟩:=fX (env:=X.env) hb
 cases d with
 | tup xs =>
  simp only[items,Y1z] at hl;subst hl
  obtain⟨a,vs,rfl,h1,h2⟩:=bZ rd;exact PG.sem (Dt G.good.calm mL e1 e2) ⟨a,vs,rfl,hs.tup h1,by rw[<- h2.length,e3],gb G.own G.good.nd KE hN hb hp h2 hq⟩
 | lst xs =>
  simp only[items,Y1z] at hl;subst hl
  obtain⟨a,vs,rfl,h1,h2⟩:=bG rd;exact PG.sem (Lp G.good.calm mL e1 e2) ⟨a,vs,rfl,hs.seq h1,by rw[<- h2.length,e3],gb G.own G.good.nd KE hN hb hp h2 hq⟩
 | _=>simp[items] at hl
theorem tE{n:Nat}(h:nc0 e=true):foldedForSure n e=false/\constantsAlone n e=false:=by
 cases e<;>simp[nc0] at h<;>(constructor<;>simp[foldedForSure,constantsAlone,h])
theorem Mp{n:Nat}(h:nc1 e=true):constantsAlone (n+1) e=false:=by
 unfold nc1 at h;split at h
 ·simp[constantsAlone,(tE (n:=n) h).2]
 ·exact(tE h).2
theorem Bv(h:nc e=true):foldedForSure 8 e=false/\constantsAlone 8 e=false:=by
 unfold nc at h;split at h
 ·rw[Z2z] at h
  refine⟨by simp[foldedForSure],?_⟩
  rcases h with h | h<;>simp[constantsAlone,(tE (n:=7) h).2]
 ·rw[Z2z] at h
  refine⟨by simp[foldedForSure],?_⟩
  rcases h with h | h<;>simp[constantsAlone,(Mp (n:=6) h)]
 ·exact tE h
theorem nR(G:Good cx k X sc):X.env.blockKind=.function:=by
 unfold Env.blockKind;rw[G.sce,G.kind];rfl
theorem Ko{es:List Expr}{kt:Nat}(G:Good cx k X sc)(h:swp sc es e=some false):swappedStores [.Tuple es kt pt] e X.env=pure none:=by
 cases e with
 | Tuple vs k2 p2 =>
  simp only[swp] at h;split at h
  ·rename_i x px y py a b
   split at h
   ·split at h
    ·cases h
    ·split at h
     ·rename_i hcs
      rw[D2z] at hcs
      have f1:foldedForSure 8 a=true:=by cases a<;>first | rfl | (simp[BR] at hcs)
      have f2:foldedForSure 8 b=true:=by cases b<;>first | rfl | (simp[BR] at hcs)
      have al1:[a,b].all (foldedForSure 8)=true:=by simp[f1,f2]
      unfold swappedStores;simp only[al1,J5z]
      repeat' split
      all_goals rfl
     ·cases h
   ·rename_i hl
    have hl':¬ ((X.env.kindOf x==some .local)=true/\(X.env.kindOf y==some .local)=true):=by
     intro q;apply hl;rw[D2z];unfold Env.kindOf at q;rw[G.sce] at q;exact q
    unfold swappedStores
    cases h1:X.env.kindOf x==some .local<;>cases h2:X.env.kindOf y==some .local
    all_goals simp only[h1,h2] at hl'
    all_goals simp[h1,h2,nR G]
    ·intro _ _ hlen
     exfalso
     have n1:¬ X.env.kindOf x=some .local:=by simpa using h1
     have n2:¬ X.env.kindOf y=some .local:=by simpa using h2
     simp[W0z,n1,n2] at hlen
    ·intro _ _ hlen
     exfalso
     have n1:¬ X.env.kindOf x=some .local:=by simpa using h1
     simp only[W0z,List.filterMap_nil,n1,false_and,H5z] at hlen
     split at hlen<;>simp at hlen
    ·intro _ _ hlen
     exfalso
     have n1:¬ X.env.kindOf y=some .local:=by simpa using h2
     simp only[W0z,List.filterMap_nil,n1,false_and,H5z] at hlen
     split at hlen<;>simp at hlen
    ·exact absurd ⟨trivial,trivial⟩ hl'
  ·rename_i x px y py z pz a b c
   split at h
   ·rename_i hl
    simp only[D2z] at hl;obtain⟨⟨l1,l2⟩,l3⟩:=hl
    have kd:∀ {v:Str},(sc.names.lookup v==some NameKind.cell)=true->¬ X.env.kindOf v=some .local:=fun {v} hv q=>by
     unfold Env.kindOf at q;rw[G.sce,eq_of_beq hv] at q;cases q
    have n1:=kd l1;have n2:=kd l2;have n3:=kd l3;unfold swappedStores
    have b1:(X.env.kindOf x==some NameKind.local)=false:=by simpa using n1
    have b2:(X.env.kindOf y==some NameKind.local)=false:=by simpa using n2
    have b3:(X.env.kindOf z==some NameKind.local)=false:=by simpa using n3
    simp[nR G,W0z,b1,b2,b3,n1,n2,n3]
   ·cases h
  ·cases h
 | _=>rfl
theorem Ga{es:List Expr}{kt:Nat}{pt:Pos}(G:Good cx k X sc)(h:swp sc es e=some true):∃ x px y py a b k2 p2,es=[.Name x px,.Name y py]/\e=.Tuple [a,b] k2 p2/\X.env.scope.names.lookup x=some .local/\X.env.scope.names.lookup y=some .local/\x≠y/\aG a=true/\aG b=true /\
    swappedStores [.Tuple es kt pt] e X.env=pure (some [x,y]):=by
  cases e with
  | Tuple vs k2 p2 =>
    simp only[swp] at h
    split at h
    · rename_i x px y py a b
      split at h
      · rename_i hl
        split at h
        · rename_i hq
          rw[D2z] at hl
          rw[D2z,D2z,D2z,D2z,Z2z] at hq
          obtain⟨⟨⟨⟨q1,q2⟩,q3⟩,q4⟩,q5⟩:=hq
          have l1:X.env.kindOf x=some .local:=by unfold Env.kindOf;rw[G.sce];simpa using hl.1
          have l2:X.env.kindOf y=some .local:=by unfold Env.kindOf;rw[G.sce];simpa using hl.2
          have hxy:x≠y:=by simpa using q2
          have hpl : py.line = px.line := by have : px.line = py.line := by simpa using q1
                                             exact this.symm
          have f1:(foldedForSure 8 a&&foldedForSure 8 b)=false:=by
            rcases q3 with q | q
            · rw[(Bv q).1];rfl
            · rw[(Bv q).1,O3z]
          have f2:(constantsAlone 8 a&&constantsAlone 8 b)=false:=by
            rcases q3 with q | q
            · rw[(Bv q).2];rfl
            · rw[(Bv q).2,O3z]
          refine⟨x,px,y,py,a,b,k2,p2,rfl,rfl,l1,l2,hxy,q4,q5,?_⟩
          unfold swappedStores
          have ed:([x,y]:List Str).eraseDups.length=2:=by
            have:(y==x)=false:=by simpa using hxy.symm
            simp[List.eraseDups_cons,this]
          have al1:[a,b].all (foldedForSure 8)=false:=by simpa using f1
          have al2:[a,b].all (constantsAlone 8)=false:=by simpa using f2
          simp only[al1,al2,nR G]
          generalize hst:[a,b].any _=sb
          have hsb:sb=false:=by
            rw[<- hst,Z3z,Z3z,List.any_nil,Bool.or_false,U0z]
            clear hst f1 f2 al1 al2 q3
            refine⟨?_,?_⟩
            · cases a<;>first | rfl | (simp[aG] at q4)
            · cases b<;>first | rfl | (simp[aG] at q5)
          generalize hf:List.filterMap _ [Expr.Name x px,Expr.Name y py]=nm
          have hnm:nm=[x,y]:=by
            rw[<- hf]
            simp[W0z,l1,l2,hpl,Expr.pos]
          rw[hsb,hnm]
          simp only[ed]
          rfl
        · split at h<;>cases h
      · cases h
    · split at h<;>cases h
    · cases h
  | _=>simp[swp] at h
end
def XOk(X:Cx)(σ:St)(E:XK):Prop:=∀ z0 H s e s',Inv X z0 σ H s->CX1 X.prog X.w X.stack H s E e s'->X.xe e s'
def zX(X:Cx)(σ:St)(E:XK):Prop:=∀ z0 H s (C e:Addr) h' args,Inv X z0 σ H s->Heap.MadeExcOf s.heap h' e (.ref C) args->E (.ref C) none H->X.xe (.ref e) { s with heap:=h' }
def EX(X:Cx)(c:Str)(Hs H:Hp)(E:XK):Prop:=∀ C H' Hs',PySem.W.nsIn X.K mainGlobals c=some (some (.ref C))->Ext Hs H Hs' H'->E (.ref C) none H'
theorem EX.step{c:Str}{Hs H Hs1 H1:Hp}{E:XK}(h:EX X c Hs H E)(e:Ext Hs H Hs1 H1):EX X c Hs1 H1 E:=fun C H' Hs' hn e'=>h C H' Hs' hn (e.trans e')
def EvX(X:Cx)(ρ:Rho)(e:Expr)(c:Str):Prop:=∀ σ H Hs E,Same Hs H->dh X.K Hs ρ σ->EX X c Hs H E->XOk X σ E->∀ Q,qp X e σ H Q
def EvXA(X:Cx)(ρ:Rho)(es:List Expr)(c:Str):Prop:=∀ σ H Hs E,Same Hs H->dh X.K Hs ρ σ->EX X c Hs H E->XOk X σ E->∀ Q,wj X es σ H Q
section
variable {X:Cx} {ρ:Rho} {cx:Cxt} {k:Nat} {sc scope:Scope}
theorem Gp{f:Addr}{fd:FuncData}{ps:List Str}{sp:Sp}{E:XK}{z0:List (Addr×Obj)}{σ:St}{H:Hp}{s:Shared}{Q:VK}{us:List Value}{vs:List V}(F:FnOk X.prog X.w X.K X.mg X.base (CX1 X.prog X.w) k f fd ps sp)(hr:Room k X.A)(hb:Binds X.K fd ps [])(hx:XOk X σ E)
  (I:Inv X z0 σ H s) (r:Vals vs us) (h:sp vs H Q E):wpAny (model X.prog X.w) X.A (call (.ref f) us) (EP X z0 σ Q) X.xe s:=by
 have hl:(us++([]:List Value)).length=ps.length:=by rw[S2z,<- r.length];exact F.len _ _ _ _ h
 have hb':=hb s us I.kIn hl;rw[S2z] at hb';refine wpAny_call (H4z (F.run X.A X.stack s H ⟨us,[]⟩ us vs Q E hr I.env0 hb' r h) fun r s' hq=>?_)
 cases r with
 | error e=>exact hx z0 H s e s' I hq
 | ok fl =>
  cases fl with
  | ret u=>exact I.after hq
  | next=>exact False.elim hq
  | brk=>exact False.elim hq
  | cont=>exact False.elim hq
theorem Cr{f:Str}{es:List Expr}{c:Str}{p pos:Pos}(G:Good cx k X sc)(hg:Gl X f)(hf:cx.fns.contains f=true)(hne:es≠[])(hp:∀ e∈es,aG e=true)(h:EvXA X ρ es c\/∃ ds,EvA X ρ es ds/\cx.callx f ds=some c):
  EvX X ρ (.Call (.Name f p) es [] pos) c:=by
 obtain⟨hdb,a,fd,ps,_,har,hm,hk,hb,F⟩:=G.fns f hf
 cases es with
 | nil=>exact absurd rfl hne
 | cons e es =>
  intro σ H Hs E hs hst hE hx Q z0 s I;refine J1z (jT I hg hm ?_ hdb);refine PySem.W.callWith_K (h₀:=X.base) I.ok.mod.kin hk ?_ (ak (hp e (by simp))) (fL fun e' he=>hp e' (Q0z _ he));rcases h with h | ⟨ds,hA,hc⟩
  ·exact thn (h σ H Hs E hs hst hE hx (fun _ _=>False) pos z0 s I) fun us s1 ⟨vs,H1,I1,r,q⟩=>q.elim
  ·refine thn (hA σ H Hs (fun vs H1=>∃ Hs1,Ext Hs H Hs1 H1/\aU X.K Hs1 ds vs) hs hst (fun vs H1 Hs1 E1 r1=>⟨Hs1,E1,r1⟩) pos z0 s I) fun us s1 ⟨vs,H1,I1,r,Hs1,E1,r1⟩=>⟨I1.kIn,?_⟩
   exact Gp F G.room hb hx I1 r ⟨by rw[<- r1.length,har ds c hc],Hs1,ds,E1.sub,r1,.inr ⟨c,hc,hE.step E1⟩⟩
theorem ud(cx:Cxt):∀ (n:Nat) {k:Nat} {X:Cx} {sc:Scope} {ρ:Rho} {e:Expr} {c:Str},Good cx k X sc->X.N=ρ.map (·.1)->evx cx n sc ρ e=some c->EvX X ρ e c
 | 0,k,X,sc,ρ,e,c,_,_,h=>by exact nomatch (show(Option.none:Option Str)=some c from h)
 | n+1,k,X,sc,ρ,e,c,G,hN,h=>by
  have ih:∀ e d,ev cx n sc ρ e=some d->Ev X ρ e d/\∀ b,d=.bl b->EvT X ρ e b:=fun e d h=>cZ cx n G hN h;simp only[evx] at h;split at h
  ·rename_i x p args pos
   split at h
   ·rename_i hc
    simp only[D2z] at hc;obtain⟨⟨⟨hgl,hne⟩,hpl⟩,hfn⟩:=hc
    have hg:Gl X x:=by
     have e:sc.names.lookup x=some .globalImplicit:=by unfold mZ at hgl;simpa using hgl
     show X.env.scope.names.lookup x=_;rw[G.sce,e]
    have hp:∀ e∈args,aG e=true:=fun e he=>M2z.mp hpl e he;refine Cr G hg hfn (fun q=>by rw[q] at hne;exact absurd hne (by decide)) hp ?_;split at h
    ·rename_i ds hds
     exact .inr ⟨ds,(fQ (fun e _ d hd=>⟨(ih e d hd).1,bf hd⟩) hds).1,h⟩
    ·cases h
   ·cases h
  ·rename_i cc a b pos
   split at h
   ·rename_i hc
    have hc':=(ih _ _ (fB hc)).2 _ rfl;have ha:=ud cx n G hN h;intro σ H Hs E hs hst hE hx Q;exact(mQ d9 aq aq).sem (hc' σ H Hs _ hs hst fun H1 Hs1 E1=>vM (ha σ H1 Hs1 E E1.sub (hst.same E1.vis) (hE.step E1) hx Q))
   ·rename_i hc
    have hc':=(ih _ _ (fB hc)).2 _ rfl;have ha:=ud cx n G hN h;intro σ H Hs E hs hst hE hx Q;exact(mQ d9 aq aq).sem (hc' σ H Hs _ hs hst fun H1 Hs1 E1=>yw (ha σ H1 Hs1 E E1.sub (hst.same E1.vis) (hE.step E1) hx Q))
   ·cases h
  ·cases h
end
section
variable {X:Cx} {ρ:Rho} {cx:Cxt} {k F:Nat} {sc scope:Scope} {Hs0 H0:Hp} {e:Expr} {d:D}
theorem Ii{y:Expr}(h:Pb cx sc y=true):Ab cx sc "list" [y]=.al/\aG y=true:=by
 unfold Pb at h;split at h
 ·exact⟨rfl,rfl⟩
 ·rename_i f p1 as p2
  rw[D2z] at h
  have hb:bC cx sc f=none:=by
   unfold bC;rw[K5z h.1]
   cases q:cx.blt.lookup f with
   | none=>rfl
   | some z=>rw[q] at h;exact absurd h.2 (by simp)
  refine⟨?_,rfl⟩;simp only[Ab,qm,hb];rfl
 ·cases h
theorem xY{n:Nat}{y:Expr}{p1 p3:Pos}(h:ev cx n sc ρ (.Call (.Name lnm p1) [y] [] p3)=some v)(hb:bC cx sc lnm=some "list")(hw:Ab cx sc "list" [y]=.al):∃ m d es,ev cx m sc ρ y=some d/\items d=some es/\v=.lst es:=by
 cases n with
 | zero=>exact nomatch (show(Option.none:Option D)=some v from h)
 | succ n =>
  unfold bC at hb;split at hb
  ·rename_i hg
   have h':(match Ab cx sc "list" [y] with
    | .lr1 a=>do let j <- (ev cx n sc ρ a).bind asI;if cC j&&szl j.toNat then some (.lst (cQ 0 j)) else none
    | .lr2 a a'=>do let i <- (ev cx n sc ρ a).bind asI;let j <- (ev cx n sc ρ a').bind asI;if cC i&&cC j&&szl (j-i).toNat then some (.lst (cQ i j)) else none
    | .tr1 a=>if true then none else none
    | .tv a=>if true then none else none
    | .ls a=>if true then none else none
    | .al=>do let ds <- lq (ev cx n sc ρ) [y];DE.blt "list" ds)=some v:=by
    rw[<- h];simp only[ev,hg,J5z,hb];rfl
   rw[hw] at h';obtain⟨ds,h1,h2⟩:=aP h';simp only[lq] at h1;obtain⟨d',g1,g2⟩:=aP h1;obtain⟨_,g3,g4⟩:=aP g2;cases g3;cases g4;obtain⟨es,g5,g6⟩:=aP (show(items d' >>=fun l=>some (D.lst l))=some v from h2);cases g6;exact⟨n,d',es,g1,g5,rfl⟩
  ·cases hb
theorem Dy{n:Nat}{es:List D}(G:Good cx k X sc)(hN:X.N=ρ.map (·.1))(ho:O4 cx sc e=true)(he:ev cx n sc ρ e=some (.lst es)):Pq X ρ e es:=by
 unfold O4 at ho;split at ho
 ·rename_i lnm p1 y p3
  simp only[D2z] at ho;obtain⟨q2,q3⟩:=ho
  have hb:bC cx sc lnm=some "list":=by simpa using q2
  obtain⟨hw,hpl⟩:=Ii q3;obtain⟨m,d',es',g1,g2,g3⟩:=xY he hb hw;cases g3;obtain⟨hg,hm,rfl⟩:=bJ G hb;intro σ H Hs Q hs hst hq;refine(oX (jh (X:=X)) hg hm (by decide +kernel) (bw aq cV (ak hpl)) (by decide) (by decide) (ak hpl) rfl).sem ?_;refine(cZ cx m G hN g1).1 σ H Hs _ hs hst fun v H7 Hs7 E7 r7=>?_;obtain⟨q,us,rfl,k1,k2⟩:=jK r7 g2;exact⟨q,us,rfl,k1.imp E7.sub.seq E7.sub.tup,fun b hb7=>hq b us Hs7 _ (Ext.acc E7 (E7.all.free hb7) (E7.sub.free hb7)) (E7.all.free hb7) (E7.sub.free hb7) bh k2⟩
 ·cases n with
  | zero=>exact nomatch (show(Option.none:Option D)=some _ from he)
  | succ n =>
   obtain⟨tg,iter,ifs,l,out,rfl,hok,hI,hp,hz,hgo,e1,hE⟩:=j5 G hN he;cases e1;obtain⟨ok1,ok2,ok3⟩:=dI G hok;intro σ H Hs Q hs hst hq;exact(mR G.calm ok1 ok2 ok3 jO (fun Xc C=>⟨gW,fW,aq⟩) (dU hp)).sem (j4 G hN hok hI hz hgo hE hs hst hq)
 ·rename_i a op b p0
  cases n with
  | zero=>exact nomatch (show(Option.none:Option D)=some _ from he)
  | succ n =>
   simp only[D2z] at ho
   cases op<;>first | (simp[aaF] at ho;done) | skip
   obtain⟨x,h1,he⟩:=aP (show(ev cx n sc ρ a >>=fun x=>ev cx n sc ρ b >>=fun y=>binop .Add x y)=some (D.lst es) from he);obtain⟨y,h2,he⟩:=aP he
   have key:∀ x y:D,binop .Add x y=some (D.lst es)->∃ xs ys,x=.lst xs/\y=.lst ys/\szl (xs.length+ys.length)=true/\xs++ys=es:=fun x y h=>by
    cases x<;>cases y<;>simp[binop] at h
    exact⟨_,_,rfl,rfl,h.1,h.2⟩
   obtain⟨xs,ys,rfl,rfl,hz,rfl⟩:=key x y he;intro σ H Hs Q hs hst hq;refine(ju xM aq aq).sem ((cZ cx n G hN h1).1 σ H Hs _ hs hst fun u H1 Hs1 E1 r1=>(cZ cx n G hN h2).1 σ H1 Hs1 _ E1.sub (hst.same E1.vis) fun v H2 Hs2 E2 r2=>?_);obtain⟨p,us,rfl,g1,g2⟩:=bG (Rep.same E2.vis _ u r1);obtain⟨q,ws,rfl,g3,g4⟩:=bG r2;have E:=E1.trans E2;have l1:=g2.length;have l2:=g4.length;exact⟨p,q,us,ws,rfl,rfl,E2.sub.seq g1,E2.sub.seq g3,by have:=fK hz;omega,fun l hl=>hq l (us++ws) Hs2 _ (Ext.acc E (E.all.free hl) (E.sub.free hl)) (E.all.free hl) (E.sub.free hl) bh (g2.append g4)⟩
 ·cases ho
theorem Js{tg iter elt:Expr}{l:List D}{dss:List (List D)}(G:Good cx k X sc)(hN:X.N=ρ.map (·.1))(hok:iz sc scope=true)(hI:EvI X ρ tg iter l)(hz:szl l.length=true)(hlen:dss.length=l.length)
  (hs1:∀ Xc,CompOf X scope Xc->∀ (i:Nat) d,l[i]?=some d->∃ ρ1 es,gw scope tg d (bM scope ρ)=some ρ1/\dss[i]?=some es/\(Xc.N=ρ1.map (·.1)->Pq Xc ρ1 elt es))
  {σ:St} {H Hs:Hp} {Q:VK} (hs:Same Hs H) (hst:dh X.K Hs ρ σ) (hq:∀ a bs Hs' H',Ext Hs H Hs' H'->OO X.K H Hs' H' a bs dss->Q (.ref a) H') :
  qG X scope (qF X tg iter) (qW X.N scope.names) (fun Xc=>Cd Xc tg) (fun Xc=>rB Xc []) (fun Xc=>qp Xc elt) σ H Q:=by
 obtain⟨ok1,ok2,ok3⟩:=dI G hok;refine hI σ H Hs _ hs hst fun J H1 Hs1 E1 hJ acc hacc Xc C=>?_;have GC:=G.comp C hok;have OC:=Owns.comp (scope:=scope) G C
 have hNc:∀ ρ1:Rho,ρ1.map (·.1)=scope.names.map (·.1)->Xc.N=ρ1.map (·.1):=fun ρ1 h=>by rw[C.N,h]
 have a1:Hs1 acc=none:=E1.sub.free hacc;have a0:H acc=none:=E1.all.free hacc
 let W:Nat->Nat->St->Hp->Prop:=fun i m σc H3=>m=l.length-i/\i<=l.length/\∃ Hs3 bs,Ext Hs1 H1 Hs3 H3/\OO X.K H Hs3 H3 acc bs (dss.take i)/\σc.length=scope.names.length/\dh X.K Hs3 (bM scope ρ) σc
 refine⟨W,⟨l.length,rfl,S4z _,Hs1,[],Ext.acc (.refl E1.sub) hacc a1,⟨bh,a1,a0,.nil,by simp,by simp,fun j b e=>by simp at e⟩,by simp[qW],j6 hN (hst.same E1.vis)⟩,?_⟩;rintro i m σc H3 ⟨rfl,hi,Hs3,bs,E3,o3,l3,s3⟩;obtain⟨st3,go3⟩:=hJ Hs3 H3 E3.vis E3.sub
 by_cases hlt:i<l.length
 ·have hd:l[i]?=some l[i]:=List.getElem?_eq_getElem hlt
  obtain⟨gi,yi⟩:=go3 i l[i] hd;refine .inr ⟨gi,fun σ' H'=>W (i+1) (l.length-(i+1)) σ' H',fun σ' H' w=>⟨_,by omega,w⟩,fun x H4 y4=>?_⟩;obtain⟨Hs4,E4,rx⟩:=yi x H4 y4;obtain⟨ρ1,es,k1,k4,kO⟩:=hs1 Xc C i l[i] hd;have s4:dh X.K Hs4 (bM scope ρ) σc:=s3.same E4.vis;have KE:=lK (K:=Xc.K) (Hs:=Hs4) (ρ:=ρ) (n:=scope.names.length) ok2 rfl;refine rJ (X:=Xc) (scope:=scope) (Hs:=Hs4) GC.calm OC GC.nd E4.sub (hNc _ dO) KE k1 ⟨dO,l3,by rw[C.K];exact s4,by rw[C.K];exact s4⟩ (by rw[C.K];exact rx) fun σ5 hN5 p5=>?_;obtain⟨_,l5,s5,s5'⟩:=p5;refine El (f:=fun _=>none) (ifs:=[]) (b:=true) (fun _ _ h=>nomatch h) rfl E4.sub s5 fun H6 Hs6 E6=>vM ?_;have E46:=E4.trans E6;have o6:=o3.step E46;have E16:Ext Hs1 H1 Hs6 H6:=E3.trans E46;refine kO hN5 σ5 H6 Hs6 _ E6.sub (s5.same E6.vis) fun b us Hs7 H7 E7 hb6 hbs hb7 g2=>?_;have o7:=o6.step E7;have E17:Ext Hs1 H1 Hs7 H7:=E16.trans E7
  have ne:acc≠b:=fun w=>by have:=o6.1;rw[w,hb6] at this;cases this
  refine⟨bs.map V.ref,o7.1,?_,rfl,hlt,Hs7,bs++[b],?_,?_,l5,?_⟩
  ·have:=rQ hz
   have:=o7.2.2.2.2.2.1;rw[U2z,this,A2z];omega
  ·exact Ext.acc E17 hacc o7.2.1
  ·have b0:H b=none:=E1.all.free (E16.all.free hb6)
   have ln:=o7.2.2.2.2.2.1
   have old:∀ (j:Nat) b',bs[j]?=some b'->b'≠b/\b'≠acc:=fun j b' e=>by
    obtain⟨_,_,_,_,_,m4,_⟩:=o6.2.2.2.2.2.2 j b' e;refine⟨fun w=>?_,fun w=>o6.2.2.2.2.1 (by rw[<- w];exact List.mem_of_getElem? e)⟩;rw[w,hb6] at m4;cases m4
   refine⟨by rw[bh,C3z];rfl,o7.2.1,o7.2.2.1,?_,?_,?_,fun j b' e=>?_⟩
   ·rw[List.nodup_append]
    refine⟨o7.2.2.2.1,by simp,fun x' hx' y' hy'=>?_⟩;obtain⟨j,e⟩:=List.mem_iff_getElem?.mp hx';rw[List.mem_singleton.mp hy'];exact(old j x' e).1
   ·rw[D3z,not_or]
    exact⟨o7.2.2.2.2.1,by simpa using ne⟩
   ·rw[K1z,ln,A2z,A2z,List.length_singleton]
    omega
   ·by_cases hj:j<bs.length
    ·rw[List.getElem?_append_left hj] at e
     obtain⟨m1,m2,ds,ws,m3,m4,m5⟩:=o7.2.2.2.2.2.2 j b' e;obtain⟨n1,n2⟩:=old j b' e;refine⟨m1,m2,ds,ws,?_,by rw[aY n2];exact m4,m5⟩;rw[ln,A2z] at hj;rw[List.getElem?_take] at m3 ⊢;rw[K5z (by omega)] at m3 ⊢;exact m3
    ·rw[List.getElem?_append_right (by omega)] at e
     have ej:j-bs.length=0:=by
      rcases O1z (j-bs.length) with z | z
      ·exact z
      ·rw[List.getElem?_eq_none (by simp;omega)] at e;cases e
     rw[ej] at e
     have eb:b=b':=by simpa using e
     subst eb
     have jl:j=i:=by
      rw[ln,A2z] at hj ej;omega
     subst jl;refine⟨hbs,b0,es,us,?_,by rw[aY (I5z ne)];exact hb7,by rw[<- C.K];exact g2⟩;rw[List.getElem?_take,K5z (by omega)];exact k4
  ·rw[<- C.K]
   exact s5'.same (E6.trans E7).vis
 ·have hi':i=l.length:=by omega
  subst hi';refine .inl ⟨st3,hq acc bs Hs3 H3 (E1.trans E3) ?_⟩;rw[<- hlen,List.take_length] at o3;exact o3
theorem OO.low{K:Z3}{H0 H1 Hs H:Hp}{bs:List Addr}{dss:List (List D)}(h:OO K H1 Hs H a bs dss)(q:∀ b,H1 b=none->H0 b=none):OO K H0 Hs H a bs dss:=by
 obtain⟨h1,h2,h3,h4,h5,h6,h7⟩:=h;refine⟨h1,h2,q _ h3,h4,h5,h6,fun j b e=>?_⟩;obtain⟨k1,k2,k3⟩:=h7 j b e;exact⟨k1,q _ k2,k3⟩
theorem tK:∀ {ds:List D} {dss:List (List D)},Ae ds=some dss->dss.length=ds.length/\∀ (i:Nat) d,ds[i]?=some d->∃ es,d=.lst es/\dss[i]?=some es
 | [],dss,h=>by cases h;exact⟨rfl,fun i d e=>by simp at e⟩
 | d::ds,dss,h=>by
  cases d with
  | lst es =>
   simp only[Ae,L0z] at h;obtain⟨r,h1,rfl⟩:=h;obtain⟨g1,g2⟩:=tK h1;refine⟨by simp[g1],fun i d e=>?_⟩
   cases i with
   | zero=>simp at e;subst e;exact⟨es,rfl,rfl⟩
   | succ i=>exact g2 i d (by simpa using e)
  | _=>simp[Ae] at h
theorem lQ{f:D->Option (Option D)}:∀ {l out:List D},(∀ d∈l,f d≠some none)->bH f l=some out->out.length=l.length/\∀ (i:Nat) d,l[i]?=some d->∃ v,f d=some (some v)/\out[i]?=some v
 | [],out,_,h=>by cases h;exact⟨rfl,fun i d e=>by simp at e⟩
 | d::l,out,hn,h=>by
  rcases j8 h with⟨v,o',f1,f2,rfl⟩ | ⟨f1,_⟩
  ·obtain⟨g1,g2⟩:=lQ (fun d hd=>hn d (Q0z _ hd)) f2
   refine⟨by simp[g1],fun i d e=>?_⟩
   cases i with
   | zero=>simp at e;subst e;exact⟨v,f1,rfl⟩
   | succ i=>exact g2 i d (by simpa using e)
  ·exact absurd f1 (hn d F1z)
theorem Qu{x:Str}{px pos:Pos}{dss:List (List D)}(G:GoodS cx k X sc)(hN:X.N=ρ.map (·.1))(hx:ownIn sc x=true)(hc:(ρ.map (·.1)).contains x=true)(hoo:ooE cx sc e=true)(hon:jP (frz F e ρ) x=true)(he:ev cx F sc (frz F e ρ) e=some d)(hd:xU d=some dss):
  Runs X Hs0 H0 ρ (.nxt (cL (frz F e ρ) x (.oo dss))) (iG X (.Assign [.Name x px] e pos)):=by
 obtain⟨ox,of⟩:=G.own.own x hx
 have hN':X.N=(frz F e ρ).map (·.1):=by rw[aM];exact hN
 unfold ooE at hoo;split at hoo
 ·rename_i elt y' pt iter a0 scope p4
  cases F with
  | zero=>exact nomatch (show(Option.none:Option D)=some d from he)
  | succ F =>
   obtain⟨tg,iter',ifs,l,out,hg,hok,hI,hp,hz,hgo,rfl,hE⟩:=j5 G.good hN' he;cases hg;obtain⟨ok1,ok2,ok3⟩:=dI G.good hok;intro σ H Hs D h _ hn hr;obtain⟨i,hi⟩:=bT hc;obtain⟨Hs1,sm1,h1⟩:=h.frozen (F+1) (.ListComp elt [⟨.Name y' pt,iter,[],0⟩] scope p4);generalize hρ:frz (F+1) (.ListComp elt [⟨.Name y' pt,iter,[],0⟩] scope p4) ρ=ρ' at *
   have nm:ρ'.map (·.1)=ρ.map (·.1):=by rw[<- hρ,aM]
   have hf:∀ d o,pP cx F sc scope ρ' (.Name y' pt) elt [] d=some o->∃ ρ1 v,gw scope (.Name y' pt) d (bM scope ρ')=some ρ1/\ev cx F (kE scope sc) ρ1 elt=some v/\o=some v:=fun d o h=>by
    obtain⟨ρ1,h1,h⟩:=aP h;obtain⟨b,h2,h⟩:=aP h;cases h2;simp only[J5z,L0z] at h;obtain⟨v,h3,h4⟩:=h;exact⟨ρ1,v,h1,h3,h4.symm⟩
   obtain⟨n1,n2⟩:=lQ (fun d _ h=>by obtain⟨_,_,_,_,h⟩:=hf d _ h;cases h) hgo
   obtain⟨m1,m2⟩:=tK (show Ae out=some dss from hd)
   have hnd:(ρ'.map (·.1)).Nodup:=by rw[nm,<- hN];exact G.good.nd
   have hi':X.N[i]?=some x:=by rw[hN];exact hi
   have rd:qG X scope (qF X (.Name y' pt) iter) (qW X.N scope.names) (fun Xc=>Cd Xc (.Name y' pt)) (fun Xc=>rB Xc []) (fun Xc=>qp Xc elt) σ H (fun v H1=>D.nx (σ.set i (some v)) H1):=by
    refine Js (dss:=dss) G.good hN' hok hI hz (by rw[m1,n1]) (fun Xc C j dd hj=>?_) h1.ext.sub h1.sh fun a bs Hs' H' E o=>?_
    ·obtain⟨v,f1,f2⟩:=n2 j dd hj
     obtain⟨ρ1,v',b1,b2,b3⟩:=hf dd _ f1;cases b3;obtain⟨es',g3,g4⟩:=m2 j v f2;subst g3;exact⟨ρ1,es',b1,g4,fun hN1=>Dy (G.good.comp C hok) hN1 hoo b2⟩
    ·exact hn _ _ Hs' H' rfl (sm1.trans E.vis) (by rw[aJ,nm];exact hN) ((h1.step E).own2 hnd (by rw[nm];exact hi) (o.low fun b q=>h1.ext.all.free q) (Bs hnd (by rw[nm];exact hi) hon))
   cases hsw:(X.env.blockKind==.function&&X.env.kindOf x==some .local&&px.line==p4.line && !(scope.names.any fun(n,k)=>n==x&&(k==.local||k==.cell))) with
   | true =>
    have e1:swapsWith (.ListComp elt [⟨.Name y' pt,iter,[],0⟩] scope p4) (some (.Name x px)) pos.line X.env=pure true:=by rw[<- hsw];rfl
    rw[D2z,D2z,D2z] at hsw
    have hl:X.env.scope.names.lookup x=some .local:=by simpa[Env.kindOf] using hsw.1.1.2
    exact PS.sem (wZ G.good.nd hi' hl G.good.calm ok1 ok2 ok3 jO (fun Xc C=>⟨gW,fW,aq⟩) (dU hp) e1) rd
   | false =>
    have e1:swapsWith (.ListComp elt [⟨.Name y' pt,iter,[],0⟩] scope p4) (some (.Name x px)) pos.line X.env=pure false:=by rw[<- hsw];rfl
    exact PS.sem (jd G.good.nd hi' ox (mR G.good.calm ok1 ok2 ok3 jO (fun Xc C=>⟨gW,fW,aq⟩) (dU hp)) e1 of) rd
 ·cases hoo
theorem jN{o i:Expr}(h:aG i=true):∀ v,assign (.Subscript o i pos) env v=(do
   let ov <- holding [v] (eval o env)
   let iv <- holding [v,ov] (eval i env)
   standAt pos
   holding [v,ov,iv] (setItem ov iv v)
   release [v,ov,iv] []):=by
 intro v
 cases i<;>first | rfl | (exact absurd h (by simp[aG]))
theorem aU.set{K:Z3}{H:Hp}{d:D}(hv:Rep K H d v):∀ {ds:List D} {vs:List V} (n:Nat),aU K H ds vs->aU K H (ds.set n d) (vs.set n v)
 | [],vs,n,h=>by
  have:vs=[]:=by simpa[aU] using h
  subst this;simpa[aU] using h
 | e::ds,vs,n,h=>by
  simp only[aU] at h;obtain⟨w,r,rfl,h1,h2⟩:=h
  cases n with
  | zero=>exact .cons hv h2
  | succ n=>exact .cons h1 (aU.set hv n h2)
theorem qI{tg:Expr}{l:Nat}(he:ev cx F sc ρ e=some d)(hc:aX e=false):swapsWithSole [tg] e l env=pure false:=by
 show swapsWith e (some tg) l env=pure false
 exact eO he fun a b c p q=>by rw[q] at hc;cases hc
theorem jJ{o i:Expr}:swappedStores [.Subscript o i pos] e env=pure none:=by
 cases e<;>rfl
theorem Ge{x:Str}{i1 i2:Expr}{dss:List (List D)}{ds:List D}{j1 j2:Int}{n1 n2:Nat}{px tp tp2 pos:Pos}(G:GoodS cx k X sc)(hN:X.N=ρ.map (·.1))(hx:ρ.lookup x=some (.oo dss))(ho:ownIn sc x=true)(hp:aA x=true)(hfr:aX e=false)
  (q1:ev cx F sc (frz F e ρ) e=some d) (q2:ev cx F sc (frz F i1 ρ) i1=some (.int j1)) (q3:ixD dss.length j1=some n1) (q4:dss[n1]?=some ds) (q5:ev cx F sc (frz F i2 ρ) i2=some (.int j2)) (q6:ixD ds.length j2=some n2) (q7:dZ d=true) :
  Runs X Hs0 H0 ρ (.nxt (cL ρ x (.oo (dss.set n1 (ds.set n2 d))))) (iG X (.Assign [.Subscript (.Subscript (.Name x px) i1 tp) i2 tp2] e pos)):=by
 have hNf:∀ e,X.N=(frz F e ρ).map (·.1):=fun e=>by rw[aM];exact hN
 obtain⟨i,hi,_⟩:=cR hx
 have nd:(ρ.map (·.1)).Nodup:=by rw[<- hN];exact G.good.nd
 intro σ H Hs D h _ hn hr;obtain⟨⟨ad,bs,k1,k2⟩,_⟩:=h.oo i x dss hi;unfold aA at hp;rw[D2z,D5z,D5z] at hp;have vis:Vis X.env.scope x:=(G.own.own x ho).1.elim .inl fun q=>.inr (.inl q)
 have hNi:X.N[i]?=some x:=by rw[hN,List.getElem?_map,hi];rfl
 have pv:∀ {pp:Pos},PE X (.Name x pp) (Kh i):=fun {pp}=>gY hNi vis (by simpa using hp.1) (by simpa using hp.2);have ll:=k2.2.2.2.2.2.1
 have nlt:n1<bs.length:=by
  rw[ll];exact(List.getElem?_eq_some_iff.mp q4).1
 obtain⟨b,hb⟩:∃ b,bs[n1]?=some b:=⟨_,List.getElem?_eq_getElem nlt⟩;refine PS.sem (sX aq (xG (G7 yt pv aq (jC (bf q2))) aq set_list (jN (bf q5))) (qI q1 hfr) jJ rfl) ?_;obtain⟨Hs1,sm1,shp,h1⟩:=h.frozen2 F e;refine(cZ cx F G.good (hNf e) q1).1 σ H Hs1 _ h1.ext.sub h1.sh fun v1 H1 Hs4 E1 r1=>?_;obtain⟨Hs7,B1,r1'⟩:=fP h.ext.sub sm1 shp E1 q7 r1;have hB1:=h.step B1;obtain⟨Hs2,sm2,h2⟩:=hB1.frozen F i1;refine⟨.ref ad,k1,(cZ cx F G.good (hNf i1) q2).1 σ H1 Hs2 _ h2.ext.sub h2.sh fun v2 H2 Hs5 E2 r2=>?_⟩;have B2:Ext Hs7 H1 Hs7 H2:=⟨.refl _,E2.all,hB1.ext.sub.trans E2.all,fun _ _ _ h=>h⟩;have hB2:=hB1.step B2;have o2:=(k2.step B1).step B2;refine⟨ad,bs.map V.ref,j1,.ref b,rfl,aF r2,.of o2.1,?_,?_⟩
 ·unfold atI
  rw[U2z,ll,<- pB,q3];show(bs.map V.ref)[n1]?=_;rw[List.getElem?_map,hb];rfl
 obtain⟨Hs3,sm3,h3⟩:=hB2.frozen F i2;refine(cZ cx F G.good (hNf i2) q5).1 σ H2 Hs3 _ h3.ext.sub h3.sh fun v3 H3 Hs6 E3 r3=>?_;have B3:Ext Hs7 H2 Hs7 H3:=⟨.refl _,E3.all,hB2.ext.sub.trans E3.all,fun _ _ _ h=>h⟩;have o3:=o2.step B3;obtain⟨m1,m2,ds',us,m3,m4,m5⟩:=o3.2.2.2.2.2.2 n1 b hb;rw[q4] at m3;cases m3;have nab:ad≠b:=fun w=>o3.2.2.2.2.1 (by rw[w];exact List.mem_of_getElem? hb);refine⟨b,us,j2,n2,rfl,aF r3,m4,by rw[<- m5.length,<- pB];exact q6,?_⟩;refine hn _ _ Hs7 _ rfl B1.vis (by rw[aJ];exact hN) ((hB2.step B3).app2 nd hi k1 m1 m2 (bs':=bs) ⟨by rw[aY nab];exact o3.1,o3.2.1,o3.2.2.1,o3.2.2.2.1,o3.2.2.2.2.1,by rw[V2z];exact o3.2.2.2.2.2.1,fun jj b' e=>?_⟩)
 by_cases hjj:n1=jj
 ·subst hjj
  rw[hb] at e;cases e;refine⟨m1,m2,ds.set n2 d,us.set n2 v1,?_,bh,aU.set r1' n2 m5⟩;rw[List.getElem?_set,K5z rfl,K5z (by rw[<- ll];exact nlt)]
 ·obtain⟨m1',m2',ds',us',m3',m4',m5'⟩:=o3.2.2.2.2.2.2 jj b' e
  refine⟨m1',m2',ds',us',?_,?_,m5'⟩
  ·rw[List.getElem?_set,L5z hjj];exact m3'
  ·rw[aY]
   ·exact m4'
   ·intro w
    rw[w] at e;exact hjj ((List.getElem?_inj nlt o3.2.2.2.1).mp (hb.trans e.symm))
end
section
variable {X:Cx} {pos:Pos}
end
section
variable {X:Cx} {ρ:Rho} {cx:Cxt} {k F:Nat} {sc scope:Scope} {Hs0 H0:Hp} {e:Expr} {d:D}
theorem Kr{es:List Expr}{kt:Nat}{pt pos:Pos}(G:GoodS cx k X sc)(hN:X.N=ρ.map (·.1))(hs:(swp sc es e).isSome=true)(he:ev cx F sc (frz F e ρ) e=some d)(hl:items d=some l)(hb:bindNames sc es l (frz F e ρ)=some ρ'):
  Runs X Hs0 H0 ρ (.nxt ρ') (iG X (.Assign [.Tuple es kt pt] e pos)):=by
 have hN':X.N=(frz F e ρ).map (·.1):=by rw[aM];exact hN
 obtain⟨b,hb'⟩:=Option.isSome_iff_exists.mp hs
 cases b with
 | false =>
  have hw:=Ko (kt:=kt) (pt:=pt) G.good hb'
  have hso:swapsWithSole [.Tuple es kt pt] e pos.line X.env=pure false:=by
   show swapsWith e (some (.Tuple es kt pt)) pos.line X.env=pure false
   by_cases hc:∃ a b c p,e=.ListComp a b c p
   ·obtain⟨a,b,c,p,rfl⟩:=hc
    rfl
   ·exact eO he fun a b c p q=>hc ⟨a,b,c,p,q⟩
  intro σ H Hs D h _ hn hr;exact PS.sem (sX aq gW hso hw rfl) (Cm G hN he h fun v Hs' H' sm h' r=>vH G h'.ext.sub hN' tQ hl hb h' r fun σ' hN2 p=>hn ρ' σ' Hs' H' rfl sm hN2 p)
 | true =>
  obtain⟨x,px,y,py,a,b,k2,p2,rfl,rfl,lx,ly,hxy,pa,pb,hw⟩:=Ga (kt:=kt) (pt:=pt) G.good hb'
  cases F with
  | zero=>simp[ev] at he
  | succ F =>
   simp only[ev] at he;obtain⟨ds,h1,he⟩:=aP he;split at he
   ·cases he
    simp only[items,Y1z] at hl;subst hl;have hA:=(fQ (fun e _ d hd=>⟨(cZ cx F G.good hN' hd).1,bf hd⟩) h1).1
    have hlen:ds.length=2:=by have:=(fX (env:=X.env) hb).2.2;simpa using this.symm
    obtain⟨d1,d2,rfl⟩:∃ d1 d2,ds=[d1,d2]:=by
     match ds,hlen with
     | [d1,d2],_=>exact⟨d1,d2,rfl⟩
    simp only[bindNames] at hb;split at hb
    ·rename_i c1
     split at hb
     ·rename_i c2
      cases hb;rw[D2z] at c1 c2;rw[aJ] at c2;obtain⟨i,hi⟩:=bT c1.2;obtain⟨j,hj⟩:=bT c2.2
      have hij:i≠j:=fun z=>by rw[z,hj] at hi;cases hi;exact hxy rfl
      intro σ H Hs D h _ hn hr;obtain⟨Hs1,sm1,h1'⟩:=h.frozen (F+1) (.Tuple [a,b] k2 p2);refine PS.sem (Lg G.good.calm G.good.nd (by rw[hN'];exact hi) (by rw[hN'];exact hj) hij lx ly je hw rfl) (hA σ H Hs1 _ h1'.ext.sub h1'.sh fun vs H' Hs' E r=>?_);obtain⟨v,w,rfl,r1,r2⟩:=Gv r
      have nd:((frz (F+1) (.Tuple [a,b] k2 p2) ρ).map (·.1)).Nodup:=by rw[<- hN'];exact G.good.nd
      have g1:=(h1'.step E).set nd hi r1;have g2:=g1.set (by rw[aJ];exact nd) (by rw[aJ];exact hj) r2;exact⟨v,w,rfl,hn _ _ Hs' H' rfl (sm1.trans E.vis) (by rw[aJ,aJ];exact hN') g2⟩
     ·cases hb
    ·cases hb
   ·cases he
theorem Runs.frz0{t:TS}{e:Expr}(h:Runs X Hs0 H0 (frz 0 e ρ) fl t):Runs X Hs0 H0 ρ fl t:=by
 intro σ H Hs D hd hN hn hr;obtain⟨Hs1,sm1,h1⟩:=hd.frozen 0 e;exact h σ H Hs1 D h1 (by rw[aM];exact hN) (fun ρ' σ' Hs' H' q sm hN' h'=>hn ρ' σ' Hs' H' q (sm1.trans sm) hN' h') hr
theorem wJ{x:Str}{px ap cp pos:Pos}(G:GoodS cx k X sc)(hN:X.N=ρ.map (·.1))(hx:(frz F e ρ).lookup x=some (.ow ds))(ho:ownIn sc x=true)(hp:aA x=true)(hline:(ap.endLine==cp.line)=true)(hz:szl (ds.length+1)=true)(he:ev cx F sc (frz F e ρ) e=some d):
  Runs X Hs0 H0 ρ (.nxt (cL (frz F e ρ) x (.ow (ds++[d])))) (iG X (.Expr (.Call (.Attribute (.Name x px) "append" ap) [e] [] cp) pos)):=by
 have hN':X.N=(frz F e ρ).map (·.1):=by rw[aM];exact hN
 obtain⟨i,hi,_⟩:=cR hx
 have nd:((frz F e ρ).map (·.1)).Nodup:=by rw[<- hN'];exact G.good.nd
 have hpl:=bf he;intro σ H Hs D h _ hn hr;obtain⟨Hs1,sm1,h1⟩:=h.frozen F e;obtain⟨a,vs,k1,k2,k3,k4,k5⟩:=h1.ow i x ds hi;unfold aA at hp;rw[D2z,D5z,D5z] at hp;have vis:Vis X.env.scope x:=(G.own.own x ho).1.elim .inl fun q=>.inr (.inl q);refine PS.sem (iI (qP H0z PySem.F.slot_list_append PySem.F.type_list_append jR (gY (i:=i) (by rw[hN',List.getElem?_map,hi];rfl) vis (by simpa using hp.1) (by simpa using hp.2)) (bw aq cV (ak hpl)) rfl (by rw[ak hpl];rfl) hline (ak hpl) rfl) rfl) ?_;refine⟨_,k1,.inl ⟨rfl,vs,.of k2⟩,?_⟩;refine(cZ cx F G.good hN' he).1 σ H Hs1 _ h1.ext.sub h1.sh fun v H' Hs' E r=>?_;have h2:=h1.step E;refine⟨a,vs,v,rfl,rfl,E.all _ _ k2,by have:=k3.length;have:=rQ hz;omega,?_⟩;exact hn _ _ Hs' _ rfl (sm1.trans E.vis) (by rw[aJ];exact hN') (h2.app nd hi k1 (aU.append (aU.same E.vis ds vs k3) (.cons r .nil)))
theorem uN{x:Str}{px ap cp pos:Pos}(G:GoodS cx k X sc)(hN:X.N=ρ.map (·.1))(hx:ρ.lookup x=some (.ow ds))(ho:ownIn sc x=true)(hp:aA x=true)(hline:(ap.endLine==cp.line)=true)(hz:szl (ds.length+1)=true)(he:ev cx F sc (frz F e ρ) e=some d)(hfl:dZ d=true):
  Runs X Hs0 H0 ρ (.nxt (cL ρ x (.ow (ds++[d])))) (iG X (.Expr (.Call (.Attribute (.Name x px) "append" ap) [e] [] cp) pos)):=by
 have hN':X.N=(frz F e ρ).map (·.1):=by rw[aM];exact hN
 obtain⟨i,hi,_⟩:=cR hx
 have nd:(ρ.map (·.1)).Nodup:=by rw[<- hN];exact G.good.nd
 have hpl:=bf he;intro σ H Hs D h _ hn hr;obtain⟨Hs1,sm1,shp,h1⟩:=h.frozen2 F e;obtain⟨a,vs,k1,k2,k3,k4,k5⟩:=h.ow i x ds hi;unfold aA at hp;rw[D2z,D5z,D5z] at hp;have vis:Vis X.env.scope x:=(G.own.own x ho).1.elim .inl fun q=>.inr (.inl q);refine PS.sem (iI (qP H0z PySem.F.slot_list_append PySem.F.type_list_append jR (gY (i:=i) (by rw[hN,List.getElem?_map,hi];rfl) vis (by simpa using hp.1) (by simpa using hp.2)) (bw aq cV (ak hpl)) rfl (by rw[ak hpl];rfl) hline (ak hpl) rfl) rfl) ?_;refine⟨_,k1,.inl ⟨rfl,vs,.of k2⟩,?_⟩;refine(cZ cx F G.good hN' he).1 σ H Hs1 _ h1.ext.sub h1.sh fun v H' Hs' E r=>?_;obtain⟨Hs3,E3,r3⟩:=fP h.ext.sub sm1 shp E hfl r;have h2:=h.step E3;refine⟨a,vs,v,rfl,rfl,E3.all _ _ k2,by have:=k3.length;have:=rQ hz;omega,?_⟩;exact hn _ _ Hs3 _ rfl E3.vis (by rw[aJ];exact hN) (h2.app nd hi k1 (aU.append (aU.same E3.vis ds vs k3) (.cons r3 .nil)))
theorem Gf{x:Str}{ie:Expr}{ds:List D}{j:Int}{n:Nat}{px tp pos:Pos}(G:GoodS cx k X sc)(hN:X.N=ρ.map (·.1))(hx:(frz F ie (frz F e ρ)).lookup x=some (.ow ds))(ho:ownIn sc x=true)(hp:aA x=true)(hfr:aX e=false)
  (q1:ev cx F sc (frz F ie (frz F e ρ)) e=some d) (q4:ev cx F sc (frz F ie (frz F e ρ)) ie=some (.int j)) (q5:ixD ds.length j=some n) :
  Runs X Hs0 H0 ρ (.nxt (cL (frz F ie (frz F e ρ)) x (.ow (ds.set n d)))) (iG X (.Assign [.Subscript (.Name x px) ie tp] e pos)):=by
 have hN':X.N=(frz F ie (frz F e ρ)).map (·.1):=by rw[aM,aM];exact hN
 obtain⟨i,hi,_⟩:=cR hx
 have nd:((frz F ie (frz F e ρ)).map (·.1)).Nodup:=by rw[<- hN'];exact G.good.nd
 intro σ H Hs D h _ hn hr;obtain⟨Hs1,sm1,h1⟩:=h.frozen F e;obtain⟨Hs3,sm3,h3⟩:=h1.frozen F ie;obtain⟨ad,vs,k1,k2,k3,k4,k5⟩:=h3.ow i x ds hi;unfold aA at hp;rw[D2z,D5z,D5z] at hp;have vis:Vis X.env.scope x:=(G.own.own x ho).1.elim .inl fun q=>.inr (.inl q)
 have hNi:X.N[i]?=some x:=by rw[hN',List.getElem?_map,hi];rfl
 have pv:∀ {pp:Pos},PE X (.Name x pp) (Kh i):=fun {pp}=>gY hNi vis (by simpa using hp.1) (by simpa using hp.2);refine PS.sem (sX aq (xG pv aq set_list (jN (bf q4))) (qI q1 hfr) jJ rfl) ?_;refine(cZ cx F G.good hN' q1).1 σ H Hs3 _ h3.ext.sub h3.sh fun v1 H1 Hs4 E1 r1=>?_;refine⟨.ref ad,k1,(cZ cx F G.good hN' q4).1 σ H1 Hs4 _ E1.sub (h3.sh.same E1.vis) fun v3 H3 Hs6 E3 r3=>?_⟩;have E:=E1.trans E3;refine⟨ad,vs,j,n,rfl,aF r3,E.all _ _ k2,by rw[<- k3.length,<- pB];exact q5,?_⟩;exact hn _ _ Hs6 _ rfl (sm1.trans (sm3.trans E.vis)) (by rw[aJ];exact hN') ((h3.step E).app nd hi k1 (aU.set (Rep.same E3.vis _ _ r1) n (aU.same E.vis ds vs k3)))
theorem Aw{x:Str}{ie:Expr}{ds:List D}{j:Int}{n:Nat}{px tp pos:Pos}(G:GoodS cx k X sc)(hN:X.N=ρ.map (·.1))(hx:ρ.lookup x=some (.ow ds))(ho:ownIn sc x=true)(hp:aA x=true)(hfr:aX e=false)
  (q1:ev cx F sc (frz F e ρ) e=some d) (q4:ev cx F sc (frz F e ρ) ie=some (.int j)) (q5:ixD ds.length j=some n) (hfl:dZ d=true) :
  Runs X Hs0 H0 ρ (.nxt (cL ρ x (.ow (ds.set n d)))) (iG X (.Assign [.Subscript (.Name x px) ie tp] e pos)):=by
 have hN':X.N=(frz F e ρ).map (·.1):=by rw[aM];exact hN
 obtain⟨i,hi,_⟩:=cR hx
 have nd:(ρ.map (·.1)).Nodup:=by rw[<- hN];exact G.good.nd
 intro σ H Hs D h _ hn hr;obtain⟨Hs1,sm1,shp,h1⟩:=h.frozen2 F e;obtain⟨ad,vs,k1,k2,k3,k4,k5⟩:=h.ow i x ds hi;unfold aA at hp;rw[D2z,D5z,D5z] at hp;have vis:Vis X.env.scope x:=(G.own.own x ho).1.elim .inl fun q=>.inr (.inl q)
 have hNi:X.N[i]?=some x:=by rw[hN,List.getElem?_map,hi];rfl
 have pv:∀ {pp:Pos},PE X (.Name x pp) (Kh i):=fun {pp}=>gY hNi vis (by simpa using hp.1) (by simpa using hp.2);refine PS.sem (sX aq (xG pv aq set_list (jN (bf q4))) (qI q1 hfr) jJ rfl) ?_;refine(cZ cx F G.good hN' q1).1 σ H Hs1 _ h1.ext.sub h1.sh fun v1 H1 Hs4 E1 r1=>?_;refine⟨.ref ad,k1,(cZ cx F G.good hN' q4).1 σ H1 Hs4 _ E1.sub (h1.sh.same E1.vis) fun v3 H3 Hs6 E3 r3=>?_⟩;have E:=E1.trans E3;obtain⟨Hs7,E7,r7⟩:=fP h.ext.sub sm1 shp E hfl (Rep.same E3.vis _ _ r1);refine⟨ad,vs,j,n,rfl,aF r3,E.all _ _ k2,by rw[<- k3.length,<- pB];exact q5,?_⟩;exact hn _ _ Hs7 _ rfl E7.vis (by rw[aJ];exact hN) ((h.step E7).app nd hi k1 (aU.set r7 n (aU.same E7.vis ds vs k3)))
theorem Ax{x:Str}{px pos:Pos}(G:GoodS cx k X sc)(hN:X.N=ρ.map (·.1))(hx:ownIn sc x=true)(hc:(ρ.map (·.1)).contains x=true)(hrd:rdA e=true)(he:ev cx F sc (frz F e ρ) e=some d)(hfl:dZ d=true):
  Runs X Hs0 H0 ρ (.nxt (cL ρ x (.sh d))) (iG X (.Assign [.Name x px] e pos)):=by
 obtain⟨ox,of⟩:=G.own.own x hx
 have hN':X.N=(frz F e ρ).map (·.1):=by rw[aM];exact hN
 obtain⟨i,hi⟩:=bT hc
 have nd:(ρ.map (·.1)).Nodup:=by rw[<- hN];exact G.good.nd
 intro σ H Hs D h _ hn hr;obtain⟨Hs1,sm1,shp,h1⟩:=h.frozen2 F e
 have hsw:=eO (t:=some (.Name x px)) (l:=pos.line) (env:=X.env) he fun a b c p q=>by rw[q] at hrd;cases hrd
 refine PS.sem (jd (i:=i) G.good.nd (by rw[hN];exact hi) ox aq hsw of) ?_
 refine(cZ cx F G.good hN' he).1 σ H Hs1 _ h1.ext.sub h1.sh fun v H' Hs' E r=>?_;obtain⟨Hs3,E3,r3⟩:=fP h.ext.sub sm1 shp E hfl r;exact hn _ _ Hs3 _ rfl E3.vis (by rw[aJ];exact hN) ((h.step E3).set nd hi r3)
theorem Kv{x:Str}{px pos:Pos}(G:GoodS cx k X sc)(hN:X.N=ρ.map (·.1))(hx:ownIn sc x=true)(hc:(ρ.map (·.1)).contains x=true)(hno:kZ (frz F e ρ) x=true)(hl:xW cx sc e=true)(he:ev cx F sc (frz F e ρ) e=some (.lst ds)):
  Runs X Hs0 H0 ρ (.nxt (cL (frz F e ρ) x (.ow ds))) (iG X (.Assign [.Name x px] e pos)):=by
 have hN':X.N=(frz F e ρ).map (·.1):=by rw[aM];exact hN
 obtain⟨ox,of⟩:=G.own.own x hx
 have hfr:aX e=false:=by cases e<;>first | rfl | (simp[xW] at hl;done)
 have hown:O4 cx sc e=true:=by
  unfold xW at hl;split at hl
  ·exact hl
  ·cases hl
 refine rW G hN hx hc hno fun i hi σ H Hs D hs hst hq=>?_
 have hsw:=eO (t:=some (.Name x px)) (l:=pos.line) (env:=X.env) he fun a b c p q=>by rw[q] at hfr;cases hfr
 exact PS.sem (jd (i:=i) G.good.nd hi ox aq hsw of) (Dy G.good hN' hown he σ H Hs _ hs hst fun acc vs Hs' H' E a1 a2 a3 r=>hq acc vs Hs' H' E a1 a2 a3 r)
theorem yN(l:Addr)(xs:Array Value)(n:Nat)(b:Addr)(ys:Array Value)(m:Nat)(dd:Option Addr)(sl:Array (Option Value))(c0:¬(!xs.isEmpty&&Builtin.List.listTooLong (xs.size+ys.size))=true)(c1:xs.size<=sizeLine)(c2:xs.size+ys.size<=sizeLine+1):
  Meets (Builtin.«list.extend» ⟨[.ref l,.ref b],[]⟩) (fun _ R s=>s.heap.get? l=some { cls:=.type "list",data:=.seq xs n }/\s.heap.get? b=some { cls:=.type "list",dict:=dd,data:=.seq ys m,slots:=sl } /\
   R (.ok (.ret Value.none)) { s with heap:=s.heap.update l (Obj.mapSeq fun x=>x++ys),toks:=s.toks }) :=
 .of_wp fun prog w A R s h=>by
  obtain⟨hp,g,d,tk,os⟩:=s;obtain⟨hl,hb,h⟩:=h;have f1:=sub_list_list;have f2:=AutoSeq1.sub_tuple_list;have f3:=AutoSeq1.sub_list_tuple
  have z:(xs++ys).size<=sizeLine+1:=by rw[Array.size_append];exact c2
  wp_walk using(wpAny_updateSeq hl rfl (hz:=c1) (_hz':=z)),F0z hl,F0z hb;exact⟨_,rfl,h⟩
def QM(K:Z3):V->List V->Hp->VK->Prop:=fun x vs H Q=>∃ l b xs zs,x=.ref l/\vs=[.ref b]/\H l=some (.lst xs)/\SqL K H b zs/\xs.length+zs.length<=sizeLine/\Q .non (upd H l (.lst (xs++zs)))
theorem HX:MtM X "list.extend" (QM X.K):=by
 intro z0 s σ H x vs v us Q I rx rv h;obtain⟨l,b,xs,zs,rfl,rfl,hH,hB,hz,q⟩:=h;cases (show v=Value.ref l from rx);obtain⟨u,rfl,ru⟩:=rv.one;cases (show u=Value.ref b from ru);obtain⟨z,its,n,r,hl,e⟩:=I.lstM hH;obtain⟨its2,r2,pl,hz2⟩:=I.list hB;have hl2:=r2.length;obtain⟨⟨c2,dd2,data2,sl2⟩,n2,e2,hc2,hd2,hs2⟩:=pl;simp only at hc2 hs2
 have hsz:its.toArray.size+its2.toArray.size<=sizeLine:=by rw[R1z,R1z];omega
 have lng:¬ (!its.toArray.isEmpty&&Builtin.List.listTooLong (its.toArray.size+its2.toArray.size))=true:=fun w=>by
  rw[mV hsz,O3z] at w;cases w
 obtain⟨h3,h4⟩:=(show dd2=none/\data2=.seq its2.toArray n2 from⟨hd2,hs2⟩);subst hc2 h4;refine B5z F.slot_list_extend ⟨_,e,rfl⟩ F.entry_list_extend (F.args_list_extend_2 _ _) (yN l its.toArray n b its2.toArray n2 dd2 sl2 lng (by rw[R1z];omega) (by omega)) ⟨e,e2,?_⟩;exact⟨.non,_,I.lset (its':=its++its2) hH e (by simp) (r.append r2) (by rw[K1z];omega),rfl,q⟩
theorem vh(l:Addr)(xs:Array Value)(n:Nat)(b:Addr)(ys:Array Value)(m:Nat)(dd:Option Addr)(sl:Array (Option Value))(c0:¬(!xs.isEmpty&&Builtin.List.listTooLong (xs.size+ys.size))=true)(c1:xs.size<=sizeLine)(c2:xs.size+ys.size<=sizeLine+1):
  Meets (Builtin.«list.extend» ⟨[.ref l,.ref b],[]⟩) (fun _ R s=>s.heap.get? l=some { cls:=.type "list",data:=.seq xs n }/\s.heap.get? b=some { cls:=.type "tuple",dict:=dd,data:=.seq ys m,slots:=sl } /\
   R (.ok (.ret Value.none)) { s with heap:=s.heap.update l (Obj.mapSeq fun x=>x++ys),toks:=s.toks }) :=
 .of_wp fun prog w A R s h=>by
  obtain⟨hp,g,d,tk,os⟩:=s;obtain⟨hl,hb,h⟩:=h;have f1:=sub_list_list;have f2:=AutoSeq1.sub_tuple_list;have f3:=AutoSeq1.sub_list_tuple;have f4:=isSubtype_tuple_tuple
  have z:(xs++ys).size<=sizeLine+1:=by rw[Array.size_append];exact c2
  wp_walk using(wpAny_updateSeq hl rfl (hz:=c1) (_hz':=z)),F0z hl,F0z hb;exact⟨_,rfl,h⟩
def QL(K:Z3):V->List V->Hp->VK->Prop:=fun x vs H Q=>∃ l b xs zs,x=.ref l/\vs=[.ref b]/\H l=some (.lst xs)/\SqT K H b zs/\xs.length+zs.length<=sizeLine/\Q .non (upd H l (.lst (xs++zs)))
theorem HW:MtM X "list.extend" (QL X.K):=by
 intro z0 s σ H x vs v us Q I rx rv h;obtain⟨l,b,xs,zs,rfl,rfl,hH,hB,hz,q⟩:=h;cases (show v=Value.ref l from rx);obtain⟨u,rfl,ru⟩:=rv.one;cases (show u=Value.ref b from ru);obtain⟨z,its,n,r,hl,e⟩:=I.lstM hH;obtain⟨its2,r2,pl,hz2⟩:=I.tuple hB;have hl2:=r2.length;obtain⟨⟨c2,dd2,data2,sl2⟩,e2,hc2,n2,hs2⟩:=pl;simp only at hc2 hs2
 have hsz:its.toArray.size+its2.toArray.size<=sizeLine:=by rw[R1z,R1z];omega
 have lng:¬ (!its.toArray.isEmpty&&Builtin.List.listTooLong (its.toArray.size+its2.toArray.size))=true:=fun w=>by
  rw[mV hsz,O3z] at w;cases w
 subst hc2 hs2;refine B5z F.slot_list_extend ⟨_,e,rfl⟩ F.entry_list_extend (F.args_list_extend_2 _ _) (vh l its.toArray n b its2.toArray n2 dd2 sl2 lng (by rw[R1z];omega) (by omega)) ⟨e,e2,?_⟩;exact⟨.non,_,I.lset (its':=its++its2) hH e (by simp) (r.append r2) (by rw[K1z];omega),rfl,q⟩
theorem wI{x:Str}{px ap cp pos:Pos}(G:GoodS cx k X sc)(hN:X.N=ρ.map (·.1))(hx:(frz F e ρ).lookup x=some (.ow ds))(ho:ownIn sc x=true)(hp:aA x=true)(hline:(ap.endLine==cp.line)=true)(hz:szl (ds.length+zs.length)=true)(he:ev cx F sc (frz F e ρ) e=some (.lst zs)):
  Runs X Hs0 H0 ρ (.nxt (cL (frz F e ρ) x (.ow (ds++zs)))) (iG X (.Expr (.Call (.Attribute (.Name x px) "extend" ap) [e] [] cp) pos)):=by
 have hN':X.N=(frz F e ρ).map (·.1):=by rw[aM];exact hN
 obtain⟨i,hi,_⟩:=cR hx
 have nd:((frz F e ρ).map (·.1)).Nodup:=by rw[<- hN'];exact G.good.nd
 have hpl:=bf he;intro σ H Hs D h _ hn hr;obtain⟨Hs1,sm1,h1⟩:=h.frozen F e;obtain⟨a,vs,k1,k2,k3,k4,k5⟩:=h1.ow i x ds hi;unfold aA at hp;rw[D2z,D5z,D5z] at hp;have vis:Vis X.env.scope x:=(G.own.own x ho).1.elim .inl fun q=>.inr (.inl q);refine PS.sem (iI (qP H0z PySem.F.slot_list_extend PySem.F.type_list_extend HX (gY (i:=i) (by rw[hN',List.getElem?_map,hi];rfl) vis (by simpa using hp.1) (by simpa using hp.2)) (bw aq cV (ak hpl)) rfl (by rw[ak hpl];rfl) hline (ak hpl) rfl) rfl) ?_;refine⟨_,k1,.inl ⟨rfl,vs,.of k2⟩,?_⟩;refine(cZ cx F G.good hN' he).1 σ H Hs1 _ h1.ext.sub h1.sh fun v H' Hs' E r=>?_;have h2:=h1.step E;obtain⟨b,us,rfl,g1,g2⟩:=bG r;refine⟨a,b,vs,us,rfl,rfl,E.all _ _ k2,E.sub.seq g1,by have:=k3.length;have:=g2.length;have:=fK hz;omega,?_⟩;exact hn _ _ Hs' _ rfl (sm1.trans E.vis) (by rw[aJ];exact hN') (h2.app nd hi k1 (aU.append (aU.same E.vis ds vs k3) g2))
theorem uM{x:Str}{px ap cp pos:Pos}(G:GoodS cx k X sc)(hN:X.N=ρ.map (·.1))(hx:(frz F e ρ).lookup x=some (.ow ds))(ho:ownIn sc x=true)(hp:aA x=true)(hline:(ap.endLine==cp.line)=true)(hz:szl (ds.length+zs.length)=true)(he:ev cx F sc (frz F e ρ) e=some (.tup zs)):
  Runs X Hs0 H0 ρ (.nxt (cL (frz F e ρ) x (.ow (ds++zs)))) (iG X (.Expr (.Call (.Attribute (.Name x px) "extend" ap) [e] [] cp) pos)):=by
 have hN':X.N=(frz F e ρ).map (·.1):=by rw[aM];exact hN
 obtain⟨i,hi,_⟩:=cR hx
 have nd:((frz F e ρ).map (·.1)).Nodup:=by rw[<- hN'];exact G.good.nd
 have hpl:=bf he;intro σ H Hs D h _ hn hr;obtain⟨Hs1,sm1,h1⟩:=h.frozen F e;obtain⟨a,vs,k1,k2,k3,k4,k5⟩:=h1.ow i x ds hi;unfold aA at hp;rw[D2z,D5z,D5z] at hp;have vis:Vis X.env.scope x:=(G.own.own x ho).1.elim .inl fun q=>.inr (.inl q);refine PS.sem (iI (qP H0z PySem.F.slot_list_extend PySem.F.type_list_extend HW (gY (i:=i) (by rw[hN',List.getElem?_map,hi];rfl) vis (by simpa using hp.1) (by simpa using hp.2)) (bw aq cV (ak hpl)) rfl (by rw[ak hpl];rfl) hline (ak hpl) rfl) rfl) ?_;refine⟨_,k1,.inl ⟨rfl,vs,.of k2⟩,?_⟩;refine(cZ cx F G.good hN' he).1 σ H Hs1 _ h1.ext.sub h1.sh fun v H' Hs' E r=>?_;have h2:=h1.step E;obtain⟨b,us,rfl,g1,g2⟩:=bZ r;refine⟨a,b,vs,us,rfl,rfl,E.all _ _ k2,E.sub.tup g1,by have:=k3.length;have:=g2.length;have:=fK hz;omega,?_⟩;exact hn _ _ Hs' _ rfl (sm1.trans E.vis) (by rw[aJ];exact hN') (h2.app nd hi k1 (aU.append (aU.same E.vis ds vs k3) g2))
theorem Gg(G:GoodS cx k X sc)(hN:X.N=ρ.map (·.1))(he:ev cx F sc (frz F e ρ) e=some d)(hc:∀ a b c p,e≠.ListComp a b c p):Runs X Hs0 H0 ρ (.nxt (frz F e ρ)) (iG X (.Expr e pos)):=by
 intro σ H Hs D h _ hn hr;exact PS.sem (iI aq (eO he hc)) (Cm G hN he h fun v Hs' H' sm h' r=>hn _ _ Hs' H' rfl sm (by rw[aM];exact hN) h')
theorem BZ{f:Rho->Stmt->Option Fl}(hf:∀ ρ s fl,X.N=ρ.map (·.1)->f ρ s=some fl->Runs X Hs0 H0 ρ fl (iG X s)):∀ (l:List Stmt) (ρ:Rho) (fl:Fl),X.N=ρ.map (·.1)->jo f l ρ=some fl->Runs X Hs0 H0 ρ fl (iD X l)
 | [],ρ,fl,hN,h=>by
  simp only[jo,Y1z] at h;subst h;intro σ H Hs D h _ hn hr;exact PSs.sem wY (hn _ _ Hs H rfl (.refl _) hN h)
 | s::r,ρ,fl,hN,h=>by
  simp only[jo] at h;obtain⟨fl1,h1,h2⟩:=aP h;intro σ H Hs D hd _ hn hr;refine PSs.sem (mK Dr dR) (hf ρ s fl1 hN h1 σ H Hs _ hd hN (fun ρ' σ' Hs' H' q sm hN' hd'=>?_) fun d v Hs' H' q E rr=>?_)
  ·subst q
   exact BZ hf r ρ' fl hN' h2 σ' H' Hs' D hd' hN' (fun ρ2 σ2 Hs2 H2 q2 sm2=>hn ρ2 σ2 Hs2 H2 q2 (sm.trans sm2)) hr
  ·subst q
   cases h2;exact hr d v Hs' H' rfl E rr
theorem Kw{tg iter:Expr}{body:List Stmt}{l:List D}{fl:Fl}{pos:Pos}{f:D->Rho->Option Fl}(G:GoodS cx k X sc)(hN:X.N=ρ.map (·.1))(hI:evI cx (fO tg) (ev cx F sc (frz F iter ρ)) sc iter=some l)
  (hf:∀ d ρ1 fl,f d ρ1=some fl->X.N=ρ1.map (·.1)->∃ ρ2,gw sc tg d ρ1=some ρ2/\(X.N=ρ2.map (·.1)->Runs X Hs0 H0 ρ2 fl (iD X body))) (h:bV f l (frz F iter ρ)=some fl):Runs X Hs0 H0 ρ fl (iG X (.For tg iter body [] pos)):=by
 have hN':X.N=(frz F iter ρ).map (·.1):=by rw[aM];exact hN
 obtain⟨hI',hp⟩:=yS (tg:=tg) (ρ:=frz F iter ρ) G.good (fun e d h=>⟨(cZ cx F G.good hN' h).1,bf h⟩) hI;intro σ H Hs D hd _ hn hr;obtain⟨Hs1,sm1,h1⟩:=hd.frozen F iter;refine PS.sem (Lh G.pass G.good.calm jO gW dR (dU hp)) (hI' σ H Hs1 _ h1.ext.sub h1.sh fun J H2 Hs2 E2 hJ=>?_)
 let W:Nat->Nat->St->Hp->Prop:=fun i m σ H=>m=l.length-i/\i<=l.length/\∃ ρi Hsi,Same Hs2 Hsi/\Hd X.K Hs0 H0 Hsi H ρi σ/\X.N=ρi.map (·.1)/\bV f (l.drop i) ρi=some fl
 refine⟨W,⟨l.length,rfl,S4z _,_,Hs2,.refl _,h1.step E2,hN',by simpa using h⟩,?_⟩;rintro i m σi Hi ⟨rfl,hi,ρi,Hsi,sm,hdi,hNi,gi⟩;obtain⟨stp,go⟩:=hJ Hsi Hi sm hdi.ext.sub
 by_cases hlt:i<l.length
 ·obtain⟨g1,g2⟩:=go i l[i] (List.getElem?_eq_getElem hlt)
  refine .inr ⟨g1,fun σ' H'=>W (i+1) (l.length-(i+1)) σ' H',fun σ' H' w=>⟨_,by omega,w⟩,fun x H' y=>?_⟩;obtain⟨Hs3,E3,rx⟩:=g2 x H' y;rw[D0z hlt] at gi;simp only[bV] at gi;obtain⟨fl1,b1,b2⟩:=aP gi;obtain⟨ρ2,c1,c2⟩:=hf _ _ _ b1 hNi;have hd3:=hdi.step E3;refine rJ G.good.calm G.own G.good.nd hd3.ext.sub hNi (tQ (Hs0:=Hs0) (H0:=H0) (H:=H')) c1 hd3 rx fun σ' hN2 p=>?_;refine c2 hN2 σ' H' Hs3 _ p hN2 (fun ρ' σ'' Hs' H'' q sm4 hN3 hd4=>?_) fun d v Hs' H'' q E rr=>?_
  ·subst q
   exact⟨rfl,hlt,ρ',Hs',sm.trans (E3.vis.trans sm4),hd4,hN3,b2⟩
  ·subst q
   cases b2;exact hr d v Hs' H'' rfl E rr
 ·have hi':i=l.length:=by omega
  subst hi';refine .inl ⟨stp,?_⟩;rw[List.drop_length] at gi;simp only[bV,Y1z] at gi;exact hn ρi σi Hsi Hi gi.symm (sm1.trans (E2.vis.trans sm)) hNi hdi
theorem Av{c:Expr}{body:List Stmt}{fl:Fl}{pos:Pos}{f:Rho->Option Fl}{m:Nat}(G:GoodS cx k X sc)(hN:X.N=ρ.map (·.1))(hf:∀ ρ fl,X.N=ρ.map (·.1)->f ρ=some fl->Runs X Hs0 H0 ρ fl (iD X body))
  (h:rO (fun ρ=>((ev cx F sc (frz F c ρ) c).bind asB).map fun b=>(frz F c ρ,b)) f m ρ=some fl):Runs X Hs0 H0 ρ fl (iG X (.While c body [] pos)):=by
 intro σ H Hs D hd _ hn hr
 let W:Nat->St->Hp->Prop:=fun m σ H=>∃ ρi Hsi,Same Hs Hsi/\Hd X.K Hs0 H0 Hsi H ρi σ/\X.N=ρi.map (·.1)/\rO (fun ρ=>((ev cx F sc (frz F c ρ) c).bind asB).map fun b=>(frz F c ρ,b)) f m ρi=some fl
 refine PS.sem (Bg G.pass d9 dR) ⟨W,⟨m,ρ,Hs,.refl _,hd,hN,h⟩,?_⟩;rintro m σi Hi ⟨ρi,Hsi,sm,hdi,hNi,gi⟩
 cases m with
 | zero=>simp[rO] at gi
 | succ m =>
  simp only[rO] at gi;split at gi
  ·cases gi
  ·rename_i ρ1 b hb
   obtain⟨b',h1,h2⟩:=L0z.mp hb;cases h2;have he:=fB h1
   have hN':X.N=(frz F c ρi).map (·.1):=by rw[aM];exact hNi
   refine NZ G hNi he hdi fun Hs' H' sm' h'=>?_
   cases b with
   | true =>
    rw[K5z rfl] at gi ⊢;split at gi
    ·cases gi
    ·rename_i d hfd
     cases gi;refine⟨fun σ' H'=>W m σ' H',fun σ' H' w=>⟨m,F2z _,w⟩,?_⟩
     exact hf _ _ hN' hfd σi H' Hs' _ h' hN' (fun ρ2 σ2 Hs2 H2 q2=>by cases q2) fun d2 v Hs2 H2 q2 E rr=>by cases q2;exact hr d v Hs2 H2 rfl E rr
    ·rename_i ρ' hfd
     refine⟨fun σ' H'=>W m σ' H',fun σ' H' w=>⟨m,F2z _,w⟩,?_⟩
     refine hf _ _ hN' hfd σi H' Hs' _ h' hN' (fun ρ2 σ2 Hs2 H2 q2 sm2 hN2 hd2=>?_) fun d2 v Hs2 H2 q2=>by cases q2
     cases q2;exact⟨_,Hs2,sm.trans (sm'.trans sm2),hd2,hN2,gi⟩
   | false =>
    rw[L5z G1z] at gi ⊢;cases gi;exact hn _ _ Hs' H' rfl (sm.trans sm') hN' h'
end
section
variable {X:Cx} {ρ:Rho} {cx:Cxt} {k F:Nat} {sc scope:Scope} {Hs0 H0:Hp} {e:Expr} {d:D}
theorem Qc{s:Stmt}{D:Ends}{H:Hp}(h:iG X.nox s D σ H):iG X s D σ H:=fun z0 s0 I=>X4z (h z0 s0 (I.wish _)) (fun _ _ q=>q.unwish) fun _ _ z=>False.elim z
abbrev Cx.pinned(X:Cx)(pn:List (Addr×Obj))(xe:Value->Shared->Prop):Cx:={ X with pn:=pn,xe:=xe }
theorem Inv.repin{H:Hp}{s:Shared}(I:Inv (X.pinned pn xe) z0 σ H s)(h:∀ p∈pn'++pins',p∈pn++z0):Inv (X.pinned pn' xe') pins' σ H s :=
 ⟨⟨I.ok.mod,I.ok.kind,I.ok.glob,I.ok.blt,I.ok.above,I.ok.inj,I.ok.has,I.ok.cab,I.ok.hd,I.ok.frames,I.ok.stk,I.ok.exf,I.ok.bs,I.ok.bsz,I.ok.noex,I.ok.exfs,I.ok.funs,I.ok.frf⟩,I.os,I.bare,I.base,I.loc,I.cell,I.free,I.freeC,fun p hp=>I.pin p (h p hp),I.hok,I.len⟩
theorem Good.wish(G:Good cx k X sc)(E:Value->Shared->Prop):Good cx k (X.wish E) sc:=⟨G.calm,G.room,G.sce,G.kind,G.nd,G.cst,G.blt,G.exs,G.fns,G.kw⟩
theorem GoodS.nox(G:GoodS cx k X sc):GoodS cx k X.nox sc:=⟨G.good.wish _,⟨G.own.own⟩,PassesOwn.never,G.stk⟩
theorem GoodS.pin_nox(G:GoodS cx k X sc)(pn:List (Addr×Obj))(E:Value->Shared->Prop):GoodS cx k (X.pinned pn E).nox sc:=⟨⟨G.good.calm,G.good.room,G.good.sce,G.good.kind,G.good.nd,G.good.cst,G.good.blt,G.good.exs,G.good.fns,G.good.kw⟩,⟨G.own.own⟩,PassesOwn.never,G.stk⟩
theorem GoodS.calm'(G:GoodS cx k X sc)(b:Bool):GoodS { cx with rs:=b } k X sc:=⟨⟨G.good.calm,G.good.room,G.good.sce,G.good.kind,G.good.nd,G.good.cst,G.good.blt,G.good.exs,G.good.fns,G.good.kw⟩,G.own,G.pass,G.stk⟩
def zW(rs:Bool)(X:Cx)(Hs0 H0:Hp)(ρ:Rho)(c:Str)(ρ':Rho)(t:TS):Prop:=∀ σ H Hs D,Hd X.K Hs0 H0 Hs H ρ σ->X.N=ρ.map (·.1) ->
 (∀ σ' Hs' H',Same Hs Hs'->X.N=ρ'.map (·.1)->Hd X.K Hs0 H0 Hs' H' ρ' σ'->∃ E,EX X c Hs' H' E/\XOk X σ' E/\(rs=true->zX X σ' E))->t D σ H
theorem tV{rs:Bool}{f:Rho->Stmt->Option Fl}{g:Rho->Stmt->Option (Str×Rho)}{c:Str}(hf:∀ ρ s fl,X.N=ρ.map (·.1)->f ρ s=some fl->Runs X.nox Hs0 H0 ρ fl (iG X.nox s))(hg:∀ ρ s c ρ',X.N=ρ.map (·.1)->g ρ s=some (c,ρ')->zW rs X Hs0 H0 ρ c ρ' (iG X s)):
  ∀ (l:List Stmt) (ρ:Rho),X.N=ρ.map (·.1)->gQ f g l ρ=some (c,ρ')->zW rs X Hs0 H0 ρ c ρ' (iD X l)
 | [],ρ,hN,h=>by simp[gQ] at h
 | s::r,ρ,hN,h=>by
  simp only[gQ] at h;intro σ H Hs D hd _ hx;refine PSs.sem (mK Dr dR) ?_;split at h
  ·rename_i ρ1 h1
   refine Qc (hf ρ s _ hN h1 σ H Hs _ hd hN (fun ρ2 σ2 Hs2 H2 q sm hN2 hd2=>?_) fun d v Hs2 H2 q _ _=>nomatch q);cases q;exact tV hf hg r ρ1 hN2 h σ2 H2 Hs2 D hd2 hN2 fun σ3 Hs3 H3 sm3=>hx σ3 Hs3 H3 (sm.trans sm3)
  ·cases h
  ·exact hg ρ s c ρ' hN h σ H Hs _ hd hN hx
theorem Ek{c:Str}(G:Good cx k X sc)(hN:X.N=ρ.map (·.1))(he:evx cx F sc (frz F e ρ) e=some c){σ:St}{H Hs:Hp}{rs:Bool}{Q:VK}(h:Hd X.K Hs0 H0 Hs H ρ σ)
  (hx:∀ σ' Hs' H',Same Hs Hs'->X.N=(frz F e ρ).map (·.1)->Hd X.K Hs0 H0 Hs' H' (frz F e ρ) σ'->∃ E,EX X c Hs' H' E/\XOk X σ' E/\(rs=true->zX X σ' E)):qp X e σ H Q:=by
 obtain⟨Hs1,sm1,h1⟩:=h.frozen F e
 have hN':X.N=(frz F e ρ).map (·.1):=by rw[aM];exact hN
 obtain⟨E,e1,e2,_⟩:=hx σ Hs1 H sm1 hN' h1;exact ud cx F G hN' he σ H Hs1 E h1.ext.sub h1.sh e1 e2 Q
theorem Di{t:Option Expr}{l:Nat}{c:Str}(he:evx cx F sc ρ e=some c)(hc:aX e=false):swapsWith e t l env=pure false:=by
 cases F with
 | zero=>exact nomatch (show(Option.none:Option Str)=some c from he)
 | succ F =>
  cases e<;>first | rfl | (exact nomatch (show(Option.none:Option Str)=some c from he)) | (exact absurd hc (by simp[aX]))
theorem Hd.drop{K:Z3}{Hs0 H0 Hs H:Hp}{x:Str}{i:Nat}(h:Hd K Hs0 H0 Hs H ρ σ)(hn:(ρ.map (·.1)).Nodup)(hi:(ρ.map (·.1))[i]?=some x):Hd K Hs0 H0 Hs H (cL ρ x .no) (σ.set i none):=by
 have hl:i<σ.length:=by have:=(List.getElem?_eq_some_iff.mp hi).1;rw[h.len];simpa using this
 refine⟨h.ext,by rw[V2z,h.len];have:=congrArg List.length (aJ ρ x .no);simpa using this.symm,fun j y d e=>?_,fun j y ds e=>?_,fun j j' y y' ds es a hjj e1 e2 e3 e4=>?_,fun j y dss e=>?_⟩
 ·rw[aV hn hi j] at e
  split at e
  ·cases e
  ·rename_i hj
   obtain⟨v,q1,q2⟩:=h.sh j y d e;exact⟨v,by rw[List.getElem?_set_ne (fun z=>hj z.symm)];exact q1,q2⟩
 ·rw[aV hn hi j] at e
  split at e
  ·cases e
  ·rename_i hj
   obtain⟨a,vs,q1,q2⟩:=h.ow j y ds e;exact⟨a,vs,by rw[List.getElem?_set_ne (fun z=>hj z.symm)];exact q1,q2⟩
 ·rw[aV hn hi j] at e1
  rw[aV hn hi j'] at e2;split at e1
  ·cases e1
  ·rename_i hj
   split at e2
   ·cases e2
   ·rename_i hj'
    rw[List.getElem?_set_ne (fun z=>hj z.symm)] at e3;rw[List.getElem?_set_ne (fun z=>hj' z.symm)] at e4;exact h.dis j j' y y' ds es a hjj e1 e2 e3 e4
 ·rw[aV hn hi j] at e
  split at e
  ·cases e
  ·rename_i hj
   obtain⟨⟨a,bs,k1,k2⟩,k3⟩:=h.oo j y dss e;refine⟨⟨a,bs,by rw[List.getElem?_set_ne (fun z=>hj z.symm)];exact k1,k2⟩,fun l z s hl' g=>?_⟩;rw[aV hn hi l] at g;split at g
   ·cases g;rfl
   ·exact k3 l z s hl' g
theorem Aq{hs:List ExceptHandler}{o f:List Stmt}{c n kn:Str}(h:uK hs o f=some (c,n,kn)):∃ np p1 p2 p3 hp,hs=[.ExceptHandler (some (.Name c np)) (some n) [.Assign [.Name kn p1] (.Name n p2) p3] hp]/\o=[]/\f=[]:=by
 unfold uK at h;split at h
 ·split at h
  ·rename_i hq
   cases h;have e:=C5z.mp hq;subst e;exact⟨_,_,_,_,_,rfl,rfl,rfl⟩
  ·cases h
 ·cases h
theorem Ks{body:List Stmt}{c c' n kn:Str}{ρ':Rho}{np p1 p2 p3 hp pos:Pos}(G:GoodS cx k X sc)(hN:X.N=ρ.map (·.1))
  (hb:∀ pn xe,zW false (X.pinned pn xe) Hs0 H0 ρ c' ρ' (iD (X.pinned pn xe) body)) (hgl:mZ cx sc c=true) (ht:c=cx.top) (hin:cx.exs.contains c'=true) (hne:n≠kn) (hpn:aA n=true) (ln:sc.names.lookup n=some .local) (lk:sc.names.lookup kn=some .local) (cn:(ρ.map (·.1)).contains n=true) (ck:(ρ.map (·.1)).contains kn=true) (hpc:aA c=true) :
  Runs X Hs0 H0 ρ (.nxt (cL (cL ρ' kn (.sh (.exc c'))) n .no)) (iG X (.Try body [.ExceptHandler (some (.Name c np)) (some n) [.Assign [.Name kn p1] (.Name n p2) p3] hp] [] [] pos)):=by
 intro σ H Hs D hd _ hn hr z0 s I;obtain⟨C,M,e1,e2,_,_,e3,_⟩:=G.good.exs.cls c' hin
 have hg:Gl X c:=by
  have e:sc.names.lookup c=some .globalImplicit:=by unfold mZ at hgl;simpa using hgl
  show X.env.scope.names.lookup c=_;rw[G.good.sce,e]
 have hm:X.mg c=some (.ref M):=by rw[ht];exact G.good.exs.glob _ _ e2
 unfold aA at hpn hpc;rw[D2z,D5z,D5z] at hpn hpc;obtain⟨i,hi⟩:=bT cn;obtain⟨j,hj⟩:=bT ck
 have hij:i≠j:=fun z=>by subst z;rw[hi] at hj;cases hj;exact hne rfl
 rw[arm_exec_Try];refine Y4z (V3z (wpAny_tryStmt_except ?_))
 let xe:Value->Shared->Prop:=fun e s₁=>wpAny (model X.prog X.w) X.A (noteFrame e X.env) (fun _ s₂=>wpAny (model X.prog X.w) X.A (setFlight e none) (fun _ s₃=>wpAny (model X.prog X.w) X.A (handleBy e X.env [.ExceptHandler (some (.Name c np)) (some n) [.Assign [.Name kn p1] (.Name n p2) p3] hp]) (SP X z0 D) X.xe s₃) X.xe s₂) X.xe s₁
 have run:=hb (X.pn++z0) xe σ H Hs { nx:=fun _ _=>False,rt:=fun _ _=>False } hd hN ?_ [] s (Inv.repin (X:=X) (pn:=X.pn) (z0:=z0) I fun p hp=>by simpa using hp)
 ·refine X4z run (fun f s1 q=>?_) fun e s1 q=>q
  cases f with
  | next=>obtain⟨_,_,_,z⟩:=q;exact z.elim
  | brk=>obtain⟨_,_,_,z⟩:=q;exact z.elim
  | cont=>obtain⟨_,_,_,z⟩:=q;exact z.elim
  | ret u=>obtain⟨_,_,_,_,_,z⟩:=q;exact z.elim
 ·intro σ1 Hs1 H1 sm1 hN1 hd1
  refine⟨fun cls _ H2=>cls=.ref C/\∃ Hs2,Ext Hs1 H1 Hs2 H2,fun C2 H2 Hs2 q E=>⟨?_,Hs2,E⟩,?_,fun z=>nomatch z⟩
  ·have q':PySem.W.nsIn X.K mainGlobals c'=some (some (.ref C2)):=q
   rw[e1] at q';cases q';rfl
  ·intro pins2 H2 s2 e s3 I2 hcx
   obtain⟨ea,cls,H3,rfl,Fl,hn3,rfl,Hs3,E3⟩:=hcx;have I2':Inv (X.pinned (X.pn++z0) X.xe) pins2 σ1 H2 s2:=Inv.repin (X:=X) I2 fun p hp=>hp
   have nd1:(ρ'.map (·.1)).Nodup:=by rw[<- hN1];exact G.good.nd
   have hi1:(ρ'.map (·.1))[i]?=some n:=by rw[<- hN1];show X.N[i]?=_;rw[hN];exact hi
   have hj1:(ρ'.map (·.1))[j]?=some kn:=by rw[<- hN1];show X.N[j]?=_;rw[hN];exact hj
   refine caught (X:=X.pinned (X.pn++z0) X.xe) (Mc:=M) I2' Fl hn3 G.stk hg hm (by simpa using hpc.1) e3 G.good.nd (i:=i) (j:=j) (by show X.N[i]?=_;rw[hN];exact hi) (by show X.N[j]?=_;rw[hN];exact hj) hij
    (by show X.env.scope.names.lookup n=_;rw[G.good.sce];exact ln) (by show X.env.scope.names.lookup kn=_;rw[G.good.sce];exact lk) (by simpa using hpn.1) (by simpa using hpn.2) fun s4 I4=>?_
   have I5:Inv X z0 ((σ1.set j (some (.ref ea))).set i none) (upd H3 ea (.ext (isX ea (.ref C)))) s4:=Inv.repin (X:=X) (pn':=X.pn) I4 fun p hp=>R0z _ hp;have E4:Ext Hs3 H3 (upd Hs3 ea (.ext (isX ea (.ref C)))) (upd H3 ea (.ext (isX ea (.ref C)))):=Ext.new E3.sub _ hn3
   have hd4:Hd X.K Hs0 H0 (upd Hs3 ea (.ext (isX ea (.ref C)))) (upd H3 ea (.ext (isX ea (.ref C)))) (cL ρ' kn (.sh (.exc c'))) (σ1.set j (some (.ref ea))):=((Hd.step hd1 E3).step E4).set nd1 hj1 (by
    simp only[Rep]
    exact⟨ea,C,rfl,e1,bh⟩)
   have hd5:=hd4.drop (by rw[aJ];exact nd1) (i:=i) (x:=n) (by rw[aJ];exact hi1)
   exact⟨_,_,I5,hn _ _ _ _ rfl (sm1.trans (E3.vis.trans E4.vis)) (by rw[aJ,aJ];exact hN1) hd5⟩
end
mutual
theorem uL(cx:Cxt)(F:Nat):∀ (n:Nat) {k:Nat} {X:Cx} {sc:Scope} {ρ:Rho} {s:Stmt} {fl:Fl} {Hs0 H0:Hp},GoodS cx k X sc->X.N=ρ.map (·.1)->DE.st cx F n sc ρ s=some fl->Runs X Hs0 H0 ρ fl (iG X s)
 | 0,k,X,sc,ρ,s,fl,Hs0,H0,_,_,h=>by simp[DE.st] at h
 | n+1,k,X,sc,ρ,s,fl,Hs0,H0,G,hN,h=>by
  have block:∀ (l:List Stmt) (ρ:Rho) (fl:Fl),X.N=ρ.map (·.1)->jo (fun ρ s=>DE.st cx F n sc ρ s) l ρ=some fl->Runs X Hs0 H0 ρ fl (iD X l):=BZ fun ρ s fl hN h=>uL cx F n G hN h
  cases s with
  | Pass pos =>
   simp only[DE.st,Y1z] at h;subst h;intro σ H Hs D hd _ hn hr;exact PS.sem GJ (hn _ _ Hs H rfl (.refl _) hN hd)
  | Return v pos =>
   simp only[DE.st] at h
   cases v with
   | none =>
    simp only[Y1z] at h;subst h;intro σ H Hs D hd _ hn hr;exact PS.sem GF (hr .non .non Hs H rfl hd.ext (by simp[Rep]))
   | some e =>
    simp only[L0z] at h;obtain⟨d,he,rfl⟩:=h;intro σ H Hs D hd _ hn hr;exact PS.sem (Lf aq) (Cm G hN he hd fun v Hs' H' sm h' r=>hr d v Hs' H' rfl h'.ext r)
  | Assign tgs e pos =>
   simp only[DE.st] at h;split at h
   ·split at h
    ·rename_i hc
     rw[D2z] at hc;split at h
     ·rename_i hoo
      rw[D2z] at hoo;obtain⟨d,he,h⟩:=Option.bind_eq_some_iff.mp h;obtain⟨dss,hd,rfl⟩:=L0z.mp h;exact Qu G hN hc.1 hc.2 hoo.1 hoo.2 he hd
     ·split at h
      ·rename_i hle
       rw[D2z] at hle;obtain⟨d,he,h⟩:=Option.bind_eq_some_iff.mp h;obtain⟨ds,hd,rfl⟩:=L0z.mp h
       cases d<;>simp[Ia] at hd
       subst hd;exact Kv G hN hc.1 hc.2 hle.2 hle.1 he
      ·split at h
       ·split at h
        ·rename_i hno
         simp only[L0z] at h;obtain⟨d,he,rfl⟩:=h;exact Runs.frz0 (e:=e) (wH G (by rw[aM];exact hN) hc.1 (by rw[aM];exact hc.2) (fun _=>hno) he)
        ·cases h
       ·rename_i hno
        split at h
        ·rename_i hrd
         obtain⟨d,he,h⟩:=Option.bind_eq_some_iff.mp h;split at h
         ·rename_i hfl
          cases h;exact Ax G hN hc.1 hc.2 hrd he hfl
         ·cases h
        ·simp only[L0z] at h
         obtain⟨d,he,rfl⟩:=h;refine wH G hN hc.1 hc.2 (fun hf=>?_) he;rw[hf,A4z] at hno;simpa using hno
    ·cases h
   ·split at h
    ·rename_i hs
     obtain⟨d,he,h⟩:=aP h;obtain⟨l,hl,h⟩:=aP h;simp only[L0z] at h;obtain⟨ρ',hb,rfl⟩:=h;rcases Z2z _ _ |>.mp hs with hs | hs
     ·exact Kr G hN hs he hl hb
     ·cases hs
    ·cases h
   ·split at h
    ·rename_i x px
     split at h
     ·simp at h
     ·split at h
      ·rename_i ds hx
       split at h
       ·rename_i hc
        simp only[D2z,X1z] at hc;obtain⟨d,h1,h⟩:=aP h;obtain⟨j,h4,h⟩:=aP h;obtain⟨n,h5,h⟩:=aP h;cases h;exact Gf G hN hx hc.1.1 hc.1.2 hc.2 h1 (cH h4) h5
       ·cases h
      ·split at h
       ·rename_i ds hx'
        split at h
        ·rename_i hc
         simp only[D2z,X1z] at hc;obtain⟨d,h1,h⟩:=aP h;obtain⟨j,h4,h⟩:=aP h;obtain⟨n,h5,h⟩:=aP h;split at h
         ·rename_i hfl
          cases h;exact Aw G hN hx' hc.1.1 hc.1.2 hc.2 h1 (cH h4) h5 hfl
         ·cases h
        ·cases h
       ·cases h
      ·cases h
    ·split at h
     ·rename_i dss hx
      split at h
      ·rename_i hc
       rw[D2z,D2z] at hc;obtain⟨d,h1,h⟩:=aP h;obtain⟨j1,h2,h⟩:=aP h;obtain⟨n1,h3,h⟩:=aP h;obtain⟨ds,h4,h⟩:=aP h;obtain⟨j2,h5,h⟩:=aP h;obtain⟨n2,h6,h⟩:=aP h;split at h
       ·rename_i h7
        cases h;exact Ge G hN hx hc.1.1 hc.1.2 (by simpa using hc.2) h1 (cH h2) h3 h4 (cH h5) h6 h7
       ·cases h
      ·cases h
     ·cases h
    ·cases h
   ·cases h
  | Expr v pos =>
   simp only[DE.st] at h;split at h
   ·rename_i x px m ap e cp
    split at h
    ·rename_i ds hx
     split at h
     ·rename_i hc
      rw[D2z,D2z] at hc;obtain⟨⟨c1,c2⟩,c4⟩:=hc;split at h
      ·rename_i hc2
       rw[D2z] at hc2;simp only[L0z] at h;obtain⟨d,he,rfl⟩:=h
       have em:m="append":=by simpa using hc2.1
       subst em;exact wJ G hN hx c1 c2 c4 hc2.2 he
      ·split at h
       ·rename_i hc3
        obtain⟨d,he,h⟩:=aP h
        have em:m="extend":=by simpa using hc3
        subst em;split at h
        ·split at h
         ·rename_i hz
          cases h;exact wI G hN hx c1 c2 c4 hz he
         ·cases h
        ·split at h
         ·rename_i hz
          cases h;exact uM G hN hx c1 c2 c4 hz he
         ·cases h
        ·cases h
       ·cases h
     ·cases h
    ·split at h
     ·rename_i ds hx
      split at h
      ·rename_i hc
       rw[D2z,D2z,D2z,D2z] at hc;obtain⟨⟨⟨c1,c2⟩,c4⟩,c5,c6⟩:=hc;obtain⟨d,he,h⟩:=aP h
       have em:m="append":=by simpa using c5
       subst em;split at h
       ·rename_i hfl
        cases h;exact uN G hN hx c1 c2 c4 c6 he hfl
       ·cases h
      ·cases h
     ·cases h
    ·cases h
   ·cases h
   ·cases h
   ·rename_i h1 h3 h4
    simp only[L0z] at h;obtain⟨d,he,rfl⟩:=h;exact Gg G hN he fun a b c p q=>h3 a b c p q
  | If c a b pos =>
   simp only[DE.st] at h;obtain⟨t,h1,h⟩:=aP h;have he:=fB h1;intro σ H Hs D hd _ hn hr;refine PS.sem (GK d9 dR dR) (Ja G hN he hd fun Hs' H' sm h'=>?_)
   cases t with
   | true =>
    simp only[J5z] at h;exact vM (block a _ fl hN h σ H' Hs' D h' hN (fun ρ2 σ2 Hs2 H2 q2 sm2=>hn ρ2 σ2 Hs2 H2 q2 (sm.trans sm2)) hr)
   | false =>
    simp only[L1z,H5z] at h;exact yw (block b _ fl hN h σ H' Hs' D h' hN (fun ρ2 σ2 Hs2 H2 q2 sm2=>hn ρ2 σ2 Hs2 H2 q2 (sm.trans sm2)) hr)
  | For tg iter body orelse pos =>
   simp only[DE.st] at h;split at h
   ·obtain⟨l,hI,h⟩:=aP h
    refine Kw G hN hI (fun d ρ1 fl hf hN1=>?_) h;obtain⟨ρ2,g1,g2⟩:=aP hf;exact⟨ρ2,g1,fun hN2=>block body ρ2 fl hN2 g2⟩
   ·cases h
  | While c body orelse pos =>
   simp only[DE.st] at h;split at h
   ·exact Av G hN (fun ρ fl hN h=>block body ρ fl hN h) h
   ·cases h
  | Try body handlers orelse final pos =>
   simp only[DE.st] at h;split at h
   ·rename_i c n' kn hto
    obtain⟨np,p1,p2,p3,hp,rfl,rfl,rfl⟩:=Aq hto;split at h
    ·rename_i fl' hfl
     cases h;have hb:Runs X.nox Hs0 H0 ρ fl (iD X.nox body):=BZ (fun ρ s fl hN h=>uL cx F n G.nox hN h) body ρ fl hN hfl;intro σ H Hs D hd _ hn hr z0 s I;rw[arm_exec_Try];refine Y4z (V3z (wpAny_tryStmt_except ?_));refine X4z (hb σ H Hs D hd hN hn hr z0 s (I.wish _)) (fun f s1 q=>?_) fun _ _ z=>z.elim;have q':=q.unwish
     cases f with
     | next=>exact Q2z q'
     | brk=>exact q'
     | cont=>exact q'
     | ret u=>exact q'
    ·split at h
     ·rename_i c' ρ1 hx
      split at h
      ·rename_i hc
       cases h;simp only[D2z] at hc;obtain⟨⟨⟨⟨⟨⟨⟨⟨⟨h1,h2⟩,h3⟩,h4⟩,h5⟩,h6⟩,h7⟩,h8⟩,h9⟩,h10⟩:=hc;refine Ks G hN (fun pn xe=>?_) h1 (by simpa using h2) h3 (by simpa using h4) h5 (by simpa using h6) (by simpa using h7) h8 h9 h10;exact tV (X:=X.pinned pn xe) (fun ρ s fl hN h=>uL cx F n (G.pin_nox pn xe) hN h) (fun ρ s c ρ' hN h=>wF { cx with rs:=false } F n ((G.pin_nox pn xe).calm' false) hN h) body ρ hN hx
      ·cases h
     ·cases h
   ·cases h
  | _=>exact nomatch (show(Option.none:Option Fl)=some fl from h)
theorem wF(cx:Cxt)(F:Nat):∀ (n:Nat) {k:Nat} {X:Cx} {sc:Scope} {ρ:Rho} {s:Stmt} {c:Str} {ρ':Rho} {Hs0 H0:Hp},GoodS cx k X.nox sc->X.N=ρ.map (·.1)->DE.stx cx F n sc ρ s=some (c,ρ')->zW cx.rs X Hs0 H0 ρ c ρ' (iG X s)
 | 0,k,X,sc,ρ,s,c,ρ',Hs0,H0,_,_,h=>by simp[DE.stx] at h
 | n+1,k,X,sc,ρ,s,c,ρ',Hs0,H0,G,hN,h=>by
  have GX:Good cx k X sc:=⟨G.good.calm,G.good.room,G.good.sce,G.good.kind,G.good.nd,G.good.cst,G.good.blt,G.good.exs,G.good.fns,G.good.kw⟩
  have block:∀ (l:List Stmt) (ρ:Rho) (c:Str) (ρ':Rho),X.N=ρ.map (·.1)->gQ (fun ρ s=>DE.st cx F n sc ρ s) (fun ρ s=>DE.stx cx F n sc ρ s) l ρ=some (c,ρ')->zW cx.rs X Hs0 H0 ρ c ρ' (iD X l):=fun l ρ c ρ' hN h =>
   tV (fun ρ s fl hN h=>uL cx F n G hN h) (fun ρ s c ρ' hN h=>wF cx F n G hN h) l ρ hN h
  simp only[DE.stx] at h;split at h
  ·rename_i cc np txt j p1 cpos pos
   split at h
   ·rename_i hc
    cases h;simp only[D2z] at hc;obtain⟨⟨⟨h1,h2⟩,h3⟩,h4⟩:=hc;obtain⟨C,M,e1,_,e2,_⟩:=GX.exs.cls c h3
    have hg:Gl X c:=by
     have e:sc.names.lookup c=some .globalImplicit:=by unfold mZ at h2;simpa using h2
     show X.env.scope.names.lookup c=_;rw[GX.sce,e]
    unfold aA at h4;rw[D2z,D5z] at h4;intro σ H Hs D hd _ hx z0 s I;obtain⟨E,x1,x2,x3⟩:=hx σ Hs H (.refl _) hN hd;exact Bc I GX.room.hd hg (GX.exs.glob _ _ e1) (by simpa using h4.1) e2 fun s2 h' e args I2 hm=>x3 h1 z0 H s2 C e h' args I2 hm (x1 C H Hs e1 (.refl hd.ext.sub))
   ·cases h
  ·rename_i e pos
   split at h
   ·cases h
   ·rename_i hfr
    obtain⟨c1,h1,h2⟩:=L0z.mp h;cases h2;intro σ H Hs D hd _ hx;exact PS.sem (iI aq (Di h1 (by simpa using hfr))) (Ek GX hN h1 hd hx)
  ·rename_i x px e pos
   split at h
   ·cases h
   ·rename_i hfr
    obtain⟨c1,h1,h2⟩:=L0z.mp h;cases h2;intro σ H Hs D hd _ hx z0 s I;exact wpAny_Assign_Name (thn (Ek (Q:=fun _ _=>False) GX hN h1 hd hx z0 s I) fun v s1 ⟨_,_,_,_,q⟩=>q.elim) (Di h1 (by simpa using hfr))
  ·rename_i cc a b pos
   split at h
   ·rename_i kk hk
    have he:=fB hk
    have hN':X.N=(frz F cc ρ).map (·.1):=by rw[aM];exact hN
    intro σ H Hs D hd _ hx;obtain⟨Hs1,sm1,h1⟩:=hd.frozen F cc;refine PS.sem (GK d9 dR dR) ((cZ cx F GX hN' he).2 kk rfl σ H Hs1 _ h1.ext.sub h1.sh fun H' Hs' E=>?_);have h2:=h1.step E
    cases kk with
    | true=>exact vM (block a _ c ρ' hN' h σ H' Hs' D h2 hN' fun σ3 Hs3 H3 sm3=>hx σ3 Hs3 H3 ((sm1.trans E.vis).trans sm3))
    | false=>exact yw (block b _ c ρ' hN' h σ H' Hs' D h2 hN' fun σ3 Hs3 H3 sm3=>hx σ3 Hs3 H3 ((sm1.trans E.vis).trans sm3))
   ·rename_i hk
    split at h
    ·rename_i e hn
     obtain⟨c1,h1,h2⟩:=L0z.mp h;cases h2;unfold qR at hn;split at hn
     ·rename_i f as ks p1 p2
      cases hn
      have hN':X.N=(frz F (.UnaryOp .Not (.Call f as ks p1) p2) ρ).map (·.1):=by rw[aM];exact hN
      intro σ H Hs D hd _ hx;obtain⟨Hs1,sm1,hd1⟩:=hd.frozen F (.UnaryOp .Not (.Call f as ks p1) p2);obtain⟨E,e1,e2,_⟩:=hx σ Hs1 H sm1 hN' hd1;exact PS.sem (GK (Dq (Dp aq)) dR dR) (ud cx F GX hN' h1 σ H Hs1 E hd1.ext.sub hd1.sh e1 e2 _)
     ·cases hn
    ·cases h
  ·cases h
end
structure FunAt (K:Z3) (mg:Str->Option Value) (f:Str) (fd:Fd):Prop where
 ex:∃ (nm:Str) (t:Stmt) (a:Addr) (g:FuncData),mg f=some (.ref a)/\Fun K nm nm t a g/\Binds K g fd.ps []/\fd.body=cu t/\fd.sc=bx t
 fs:FnScope fd.N fd.ps fd.sc
 nd:(f==("__debug__":Str))=false
structure Text (w:World) (K:Z3) (mg:Str->Option Value) (P:Pg):Prop where
 cst:∀ x d,P.cst.lookup x=some d->∃ v u,(∀ H,Rep K H d v)/\mg x=some u/\RelV v u
 blt:∀ x b,P.blt.lookup x=some b->mg x=none/\x=Str.ofString b
 fns:∀ f fd,P.defs.lookup f=some fd->FunAt K mg f fd
 exs:XText K mg P.exs P.top
 kw:KnW K w
def Pn(ps:List (Str×Str)):D:=.dic (ps.map fun p=>.inr p.1) (ps.map fun p=>.str p.2)
def dEs(o:Obj):Array DictEntry:=match o.data with | .dict es _=>es | _ => #[]
def dN(o:Obj):Nat:=match o.data with | .dict _ n=>n | _=>0
def isS(x:Str):Value->Bool
 | .str y _=>x==y
 | _=>false
theorem Eb{x:Str}{v:Value}(h:isS x v=true):∃ t,v=.str x t:=by
 unfold isS at h;split at h
 ·rename_i y t
  have e:x=y:=by simpa using h
  subst e;exact⟨t,rfl⟩
 ·cases h
def chk:List (Str×Str)->List DictEntry->Bool
 | [],[]=>true
 | p::r,e::es=>isS p.1 e.key&&isS p.2 e.val&&chk r es
 | _,_=>false
theorem EY{K:Z3}{H:Hp}:∀ {ps:List (Str×Str)} {es:List DictEntry},chk ps es=true->∃ kvs:List (Key×V),kvs.map (·.1)=ps.map (fun p=>Sum.inr p.1)/\aU K H (ps.map fun p=>D.str p.2) (kvs.map (·.2))/\Paired (fun(p:Key×V) (e:DictEntry)=>(∃ x t,p.1=.inr x/\e.key=.str x t)/\RelV p.2 e.val) kvs es
 | [],[],_=>⟨[],rfl,.nil,.nil⟩
 | p::r,e::es,h=>by
  simp only[chk,D2z] at h;obtain⟨⟨h1,h2⟩,h3⟩:=h;obtain⟨kvs,g1,g2,g3⟩:=EY (K:=K) (H:=H) h3;obtain⟨t,e1⟩:=Eb h1;obtain⟨t',e2⟩:=Eb h2;exact⟨(.inr p.1,.str p.2)::kvs,by simp[g1],.cons (by simp[Rep]) g2,.cons ⟨⟨p.1,t,rfl,e1⟩,⟨t',e2⟩⟩ g3⟩
 | [],_::_,h=>by simp[chk] at h
 | _::_,[],h=>by simp[chk] at h
theorem Ol{K:Z3}{H H':Hp}{ps:List (Str×Str)}{kvs:List (Key×V)}(h:aU K H (ps.map fun p=>D.str p.2) (kvs.map (·.2))):aU K H' (ps.map fun p=>D.str p.2) (kvs.map (·.2)):=by
 generalize kvs.map (·.2)=vs at h ⊢
 induction ps generalizing vs with
 | nil=>simpa[aU] using h
 | cons p r ih =>
  simp only[W3z,aU] at h ⊢;obtain⟨v,q,h1,h2,h3⟩:=h;exact⟨v,q,h1,by simpa[Rep] using h2,ih _ h3⟩
theorem cD{K:Z3}{x:Str}{ps:List (Str×Str)}(X:K.In h)(G:h.Ns mainGlobals mg)(a:Addr)(o:Obj)(e:PySem.W.nsIn K mainGlobals x=some (some (.ref a)))(l:K.lookup a=some o)(ex:o.ExactDict)(hd:o.data=.dict (dEs o) (dN o))(hc:(chk ps (dEs o).toList&&o9 (ps.map (·.1)))=true)(hs:(a==sysModules)=false):
  ∃ v u,(∀ H,Rep K H (Pn ps) v)/\mg x=some u/\RelV v u:=by
 rw[D2z] at hc;obtain⟨kvs,g1,g2,g3⟩:=EY (K:=K) (H:=fun _=>none) hc.1
 have nd:(kvs.map (·.1)).Nodup:=by
  rw[g1];have n:=jQ hc.2
  have q:(ps.map fun p=>(Sum.inr p.1:Key))=(ps.map (·.1)).map Sum.inr:=by simp
  rw[q];exact List.Pairwise.map _ (fun a b hab z=>hab (Sum.inr.inj z)) n
 refine⟨.ref a,_,fun H=>?_,B4z X G e,rfl⟩;unfold Pn;simp only[Rep];exact⟨a,kvs,rfl,.inr ⟨o,dEs o,dN o,l,ex,hd,hs,nd,g3⟩,g1,Ol g2⟩
theorem lG{α:Type}:∀ {l:List (Str×α)} {x:Str},(l.map (·.1)).contains x=true->∃ a,l.lookup x=some a
 | [],x,h=>by simp at h
 | (y,a)::r,x,h=>by
  rw[E2z]
  cases hb:x==y with
  | true=>exact⟨a,rfl⟩
  | false =>
   refine lG ?_;rw[W3z,List.contains_cons,hb,Bool.false_or] at h;exact h
theorem wG{K:Z3}{H:Hp}{fd:Fd}(S:FnScope fd.N fd.ps fd.sc)(hl:ds.length=fd.ps.length)(r:aU K H ds vs):
  fd.N=(cX fd ds).map (·.1)/\(start fd.N vs).length=(cX fd ds).length/\∀ (i:Nat) (x:Str) (s:Sl),(cX fd ds)[i]?=some (x,s)->(s=.no\/∃ d v,s=.sh d/\(start fd.N vs)[i]?=some (some v)/\Rep K H d v):=by
 have lv:=r.length
 have lz:(fd.ps.zip (ds.map Sl.sh)).length=fd.ps.length:=by rw[B3z,U2z];omega
 have hpl:fd.ps.length<=fd.N.length:=by have:=congrArg List.length S.pre;rw[A2z] at this;omega
 refine⟨?_,?_,fun i x s e=>?_⟩
 ·unfold cX
  rw[C3z,M4z,List.map_fst_zip (by rw[U2z];omega)]
  have:(fd.N.drop fd.ps.length).map ((fun p:Str×Sl=>p.1)∘fun x=>(x,Sl.no))=fd.N.drop fd.ps.length:=by
   rw[show((fun p:Str×Sl=>p.1)∘fun x=>(x,Sl.no))=id from rfl,T4z]
  rw[this]
  conv=>lhs;rw[<- List.take_append_drop fd.ps.length fd.N,S.pre]
 ·unfold start cX
  rw[K1z,K1z,lz];simp;omega
 ·unfold cX at e
  by_cases hi:i<fd.ps.length
  ·rw[List.getElem?_append_left (by rw[lz];exact hi),List.getElem?_zip_eq_some] at e
   obtain⟨_,e2⟩:=e;rw[List.getElem?_map] at e2;obtain⟨d,e3,rfl⟩:=L0z.mp e2;obtain⟨v,g1,g2⟩:=r.get e3;refine .inr ⟨d,v,rfl,?_,g2⟩;unfold start;rw[List.getElem?_append_left (by rw[U2z];omega),List.getElem?_map,g1];rfl
  ·rw[List.getElem?_append_right (by rw[lz];omega),List.getElem?_map] at e
   obtain⟨y,_,e3⟩:=L0z.mp e;cases e3;exact .inl rfl
section
variable {P:Program} {w:World} {K:Z3} {mg:Str->Option Value} {base:Heap} {T:Pg} {F:Nat}
abbrev vR(c:Str->List D->Option Rs):Str->List D->Option D:=fun f ds=>Rs.val? (c f ds)
abbrev xR(c:Str->List D->Option Rs):Str->List D->Option Str:=fun f ds=>Rs.exc? (c f ds)
theorem jz{o:Option Rs}{d:D}(h:Rs.val? o=some d):o=some (.val d):=by
 unfold Rs.val? at h;split at h
 ·cases h;rfl
 ·cases h
theorem jE{o:Option Rs}{c:Str}(h:Rs.exc? o=some c):o=some (.exc c):=by
 unfold Rs.exc? at h;split at h
 ·cases h;rfl
 ·cases h
theorem jF{k:Nat}{f:Str}{fd:Fd}(hf:T.defs.lookup f=some fd):∀ ds r,fH T F k f ds=some r->ds.length=fd.ps.length:=by
 intro ds d h
 cases k with
 | zero=>simp[nP] at h
 | succ k =>
  simp only[kh,hf] at h;split at h
  ·rename_i hl;simpa using hl
  ·cases h
theorem Fun.okX{x qual:Str}{st:Stmt}{f:Addr}{fd:FuncData}{N ps:List Str}{k:Nat}{sp:Sp}(F:Fun K x qual st f fd)(S:FnScope N ps (bx st))(len:∀ vs H Q E,sp vs H Q E->vs.length=ps.length)
  (hbody : ∀ (cdv : Value) (A : Around) (outer : List Env) (s : Shared) (H : Hp) (vs : List V) (Q : VK) (E : XK), Room k (A.deeper (envOfC qual (bx st) s.heap.objs.size f cdv)) -> sp vs H Q E ->
   ∃ t,PSs (iT (CX1 P w) P w K mg base N qual (bx st) f cdv A outer s H E) (cu st) t/\t { nx:=fun _ H'=>Q .non H',rt:=Q } (start N vs) H):FnOk P w K mg base (CX1 P w) (k+1) f fd ps sp:=by
 obtain⟨oc,od,kV,doc,pm,an,cdv,ct,osl,rfl,lk,hcd⟩:=F.ex;exact Yb lk hcd S len fun A outer s H vs Q E hr hsp=>hbody cdv A outer s H vs Q E hr hsp
theorem Fv(X:Text w K mg T):∀ (k:Nat) (nm f:Str) (fd:Fd) (t:Stmt) (a:Addr) (g:FuncData),T.defs.lookup f=some fd->Fun K nm nm t a g->fd.body=cu t->fd.sc=bx t->FnScope fd.N fd.ps fd.sc->FnOk P w K mg base (CX1 P w) k a g fd.ps (spX K (vR (fH T F k)) (xR (fH T F k)) f fd.ps)
  | 0,nm,f,fd,t,a,g,hf,Fn,hb,hs,S=>by
    refine⟨fun vs H Q E h=>h.1,fun A outer s H args us vs Q E _ _ _ _ h=>?_⟩
    obtain⟨_,Hs,ds,_,_,⟨d,hc,_⟩ | ⟨c,hc,_⟩⟩:=h
    · have:=jz hc;simp[nP] at this
    · have:=jE hc;simp[nP] at this
  | k+1,nm,f,fd,t,a,g,hf,Fn,hb,hs,S=>by
    refine Fun.okX (N:=fd.N) Fn (by rw[<- hs];exact S) (fun vs H Q E h=>h.1) fun cdv A outer s H vs Q E hr h=>?_
    obtain⟨hlv,Hs,ds,hsm,rl,hcase⟩:=h
    have hld:ds.length=fd.ps.length:=by
      rcases hcase with⟨d,hc,_⟩ | ⟨c,hc,_⟩
      · exact jF hf ds _ (jz hc)
      · exact jF hf ds _ (jE hc)
    have unf:fH T F (k+1) f ds=pW (T.cx (fH T F k)) F fd.sc fd.body (cX fd ds):=by
      simp only[kh,hf]
      rw[K5z (by simpa using hld)]
    obtain⟨s1,s2,s3⟩:=wG S hld rl
    refine⟨iD _ (cu t),dR,?_⟩
    have G:GoodS (T.cx (fH T F k)) k (iT (CX1 P w) P w K mg base fd.N nm (bx t) a cdv A outer s H E).nox fd.sc :=
      { good := { calm := rfl, room := hr, sce := hs.symm, kind := S.kind, nd := S.nd, cst := X.cst, blt := X.blt, exs := X.exs, kw := X.kw
                  fns:=fun f' hf'=>by
                    obtain⟨fd',hl'⟩:=lG (l:=T.defs) hf'
                    have FA:=X.fns f' fd' hl'
                    obtain⟨nm',t',a',g',m1,m2,m3,m4,m5⟩:=FA.ex
                    exact⟨FA.nd,a',g',fd'.ps,fun ds d h=>jF hl' ds _ (jz h),fun ds c h=>jF hl' ds _ (jE h),m1,m2.kp,m3,Fv X k nm' f' fd' t' a' g' hl' m2 m4 m5 FA.fs⟩ }
        own:=⟨fun x hx=>⟨by
          unfold ownIn at hx
          rw[Z2z] at hx
          show(bx t).names.lookup x=_\/(bx t).names.lookup x=_
          rw[<- hs]
          exact hx.imp (fun q=>by simpa using q) (fun q=>by simpa using q),.inl rfl⟩⟩
        pass:=PassesOwn.never
        stk:=⟨rfl,rfl⟩ }
    have noow:∀ (i:Nat) (x:Str) (ds':List D),(cX fd ds)[i]?=some (x,.ow ds')->False:=fun i x ds' e=>by
      rcases s3 i x _ e with q | ⟨d',v,q,q1,q2⟩
      · cases q
      · cases q
    have hd:Hd K Hs H Hs H (cX fd ds) (start fd.N vs):=by
      refine⟨.refl hsm,s2,fun i x d e=>?_,fun i x ds' e=>(noow i x ds' e).elim,fun i j x y ds' es a' _ e=>(noow i x ds' e).elim,fun i x dss e=>by
        rcases s3 i x _ e with q | ⟨d',v,q,q1,q2⟩
        · cases q
        · cases q⟩
      rcases s3 i x _ e with q | ⟨d',v,q,q1,q2⟩
      · cases q
      · cases q
        exact⟨v,q1,q2⟩
    rcases hcase with⟨d,hc,hq⟩ | ⟨c,hc,hq⟩
    · have hc':=jz hc
      rw[unf] at hc'
      unfold pW at hc'
      intro z0 s0 I
      have fin:∀ fl,jo (fun ρ s=>DE.st (T.cx (fH T F k)) F F fd.sc ρ s) fd.body (cX fd ds)=some fl->(match fl with | .ret d'=>d'=d | .nxt _=>d=.non)->iD (iT (CX1 P w) P w K mg base fd.N nm (bx t) a cdv A outer s H E).nox (cu t) { nx:=fun _ H'=>Q .non H',rt:=Q } (start fd.N vs) H:=by
        intro fl hg hfl
        rw[hb] at hg
        refine BZ (fun ρ s fl hN h=>uL _ F F G hN h) (cu t) (cX fd ds) fl s1 hg (start fd.N vs) H Hs _ hd s1 (fun ρ' σ' Hs' H' q _ _ hd'=>?_) fun d' v Hs' H' q E' r=>?_
        · subst q
          have e:d=.non:=hfl
          subst e
          exact hq .non H' Hs' hd'.ext (by simp[Rep])
        · subst q
          have e:d'=d:=hfl
          subst e
          exact hq v H' Hs' E' r
      have key:iD (iT (CX1 P w) P w K mg base fd.N nm (bx t) a cdv A outer s H E).nox (cu t) { nx:=fun _ H'=>Q .non H',rt:=Q } (start fd.N vs) H:=by
        split at hc'
        · rename_i d' hg;cases hc';exact fin _ hg rfl
        · rename_i ρ' hg;cases hc';exact fin _ hg rfl
        · split at hc'<;>cases hc'
      exact X4z (key z0 s0 (I.wish _)) (fun _ _ q=>q.unwish) fun _ _ z=>False.elim z
    · have hc':=jE hc
      rw[unf] at hc'
      unfold pW at hc'
      split at hc'
      · cases hc'
      · cases hc'
      · split at hc'
        · rename_i c' ρ' hg
          cases hc'
          rw[hb] at hg
          refine tV (rs:=true) (X:=iT (CX1 P w) P w K mg base fd.N nm (bx t) a cdv A outer s H E) (fun ρ s fl hN h=>uL _ F F G hN h) (fun ρ s c ρ' hN h=>wF _ F F G hN h) (cu t) (cX fd ds) s1 hg (start fd.N vs) H Hs _ hd s1 fun σ1 Hs1 H1 _ _ hd1=>?_
          refine⟨E,fun C H2 Hs2 q E2=>hq C H2 Hs2 q (hd1.ext.trans E2),fun z0 H2 s2 e s3 I2 hcx=>xJ z0 σ1 H2 s2 e s3 I2 hcx,fun _ z0 H2 s2 C e h' args I2 hm hE=>uO I2 hm hE⟩
        · cases hc'
theorem FnOk.calm{k:Nat}{f:Addr}{fd:FuncData}{sp:Sp}(F:FnOk P w K mg base (CX1 P w) k f fd ps sp)(h:∀ vs H Q E,sp vs H Q E->sp vs H Q E0):FnOk P w K mg base CX0 k f fd ps sp :=
 ⟨F.len,fun A outer s H args us vs Q E hr he hb hv hs=>H4z (F.run A outer s H args us vs Q E0 hr he hb hv (h _ _ _ _ hs)) fun r s' q=>by
  cases r with
  | error e=>obtain⟨_,_,_,_,_,_,z⟩:=(show CX1 P w outer H s E0 e s' from q);exact z.elim
  | ok fl=>cases fl<;>exact q⟩
def rY(K:Z3):Sp:=fun vs H Q _=>∃ (a:Addr) (ns:List Int),vs=[.ref a]/\SqL K H a (ns.map V.int)/\ns.length<=63/\∀ H',Q (.bl true) H'
theorem M6{k:Nat}{f:Str}{fd:Fd}{t:Stmt}{a:Addr}{g:FuncData}(X:Text w K mg T)(hf:T.defs.lookup f=some fd)(Fn:Fun K f f t a g)(hb:fd.body=cu t)(hs:fd.sc=bx t)(S:FnScope fd.N fd.ps fd.sc)(h1:fd.ps.length=1)
  (hlaw:∀ ns:List Int,ns.length<=63->aB T F k f [.lst (ns.map D.int)]=some (.bl true)):FnOk P w K mg base CX0 k a g fd.ps (rY K):=by
 refine FnOk.calm ((Fv (F:=F) X k f f fd t a g hf Fn hb hs S).imp fun vs H Q E h=>?_) fun _ _ _ _ h=>h;obtain⟨p,ns,rfl,hS,hl,q⟩:=h;refine⟨by rw[h1];rfl,H,[.lst (ns.map D.int)],.refl _,.cons ?_ .nil,.inl ⟨.bl true,by have:=hlaw ns hl;rw[f9] at this;exact this,fun v H' Hs' _ r=>by rw[dz r];exact q H'⟩⟩;simp only[Rep];exact⟨p,ns.map V.int,rfl,hS,mH (fun x=>by simp[Rep]) ns⟩
end
end L2
namespace DE
open PySem
def Ls{α:Type}(m:Nat)(h:Nat->α):List α:=(List.range m).map h
theorem aR{α:Type}{m:Nat}{h:Nat->α}:(Ls m h).length=m:=by simp[Ls]
theorem cB{α:Type}{m i:Nat}{h:Nat->α}(hi:i<m):(Ls m h)[i]?=some (h i):=by simp[Ls,hi]
theorem dj{α:Type}{m:Nat}{h g:Nat->α}(e:∀ i,i<m->h i=g i):Ls m h=Ls m g:=by
 unfold Ls;exact C1z fun i hi=>e i (List.mem_range.mp hi)
theorem lU{α β:Type}{m:Nat}{h:Nat->α}{f:α->β}:(Ls m h).map f=Ls m fun i=>f (h i):=by
 unfold Ls;rw[M4z];rfl
theorem Ot{α β:Type}{m:Nat}{h:Nat->α}{g:Nat->β}:(Ls m h).zip (Ls m g)=Ls m fun i=>(h i,g i):=by
 apply List.ext_getElem?;intro i
 by_cases hi:i<m
 ·rw[cB hi,List.getElem?_zip_eq_some]
  exact⟨cB hi,cB hi⟩
 ·rw[List.getElem?_eq_none (by rw[B3z,aR,aR];omega),List.getElem?_eq_none (by rw[aR];omega)]
theorem gJ{α:Type}{m:Nat}{h:Nat->α}:Ls (m+1) h=Ls m h++[h m]:=by
 unfold Ls;rw[List.range_succ,C3z];rfl
theorem z6{α:Type}{m k:Nat}{h:Nat->α}(hk:k<=m):(Ls m h).take k=Ls k h:=by
 apply List.ext_getElem?;intro i;rw[List.getElem?_take];split
 ·rw[cB (by omega),cB (by omega)]
 ·rw[List.getElem?_eq_none (by rw[aR];omega)]
theorem JB{α:Type}{m k:Nat}{h:Nat->α}:(Ls m h).drop k=Ls (m-k) fun i=>h (k+i):=by
 apply List.ext_getElem?;intro i;rw[List.getElem?_drop]
 by_cases hi:k+i<m
 ·rw[cB hi,cB (by omega)]
 ·rw[List.getElem?_eq_none (by rw[aR];omega),List.getElem?_eq_none (by rw[aR];omega)]
theorem lR{m:Nat}{h:Nat->D}{j:Nat}(hj:j<m):atD (Ls m h) (j:Int)=some (h j):=by
 unfold atD ixD;rw[aR,K5z (by omega),K5z (by omega)];simp[cB hj]
theorem iV{j:Nat}{d:D}(h:l[j]?=some d):atD l (j:Int)=some d:=by
 have hj:=(List.getElem?_eq_some_iff.mp h).1;unfold atD ixD;rw[K5z (by omega),K5z (by omega)];simpa using h
theorem wU{lo hi:Int}:cQ lo hi=Ls (hi-lo).toNat fun k=>.int (lo+(k:Int)):=rfl
theorem wW{n:Nat}:cQ 0 (n:Int)=Ls n fun k=>.int k:=by
 unfold cQ Ls;simp
def Xk(cx:Cxt)(sc:Scope)(ρ:Rho)(x:Str):Option D:=if aA x then(match sc.names.lookup x with
    | some .local=>(match ρ.lookup x with | some (.sh d)=>some d | _=>none)
    | some .cell=>(match ρ.lookup x with | some (.sh d)=>some d | _=>none)
    | some .free=>(match ρ.lookup x with | some (.sh d)=>some d | _=>none)
    | some .globalImplicit=>cx.cst.lookup x
    | _=>none) else none
def cnOf(c:Const):Option D:=(match c with
    | .none=>some .non
    | .bool b=>some (.bl b)
    | .int i=>some (.int i)
    | .str x=>some (.str x)
    | _=>none)
section
variable {cx:Cxt} {n:Nat} {sc scope:Scope} {ρ:Rho} {a b c e:Expr} {es:List Expr} {p q:Pos} {x y z d:D} {ds:List D} {nm:Str} {op op':CmpOp}
theorem xName(h:Xk cx sc ρ nm=some d):ev cx (n+1) sc ρ (.Name nm p)=some d:=h
theorem ao{k:Const}{j:Nat}(h:cnOf k=some d):ev cx (n+1) sc ρ (.Constant k j p)=some d:=h
theorem bD(h1:ev cx n sc ρ a=some x)(h2:ev cx n sc ρ b=some y)(h:binop o x y=some d):ev cx (n+1) sc ρ (.BinOp a o b p)=some d:=by
 simp only[ev,h1,h2];exact h
theorem Oz{t:Bool}(h1:ev cx n sc ρ a=some (.bl t)):ev cx (n+1) sc ρ (.UnaryOp .Not a p)=some (.bl (!t)):=by
 simp only[ev,h1];rfl
theorem dG(h1:ev cx n sc ρ a=some (.bl true)):ev cx (n+1) sc ρ (.UnaryOp .Not a p)=some (.bl false):=Oz h1
theorem ji(h1:ev cx n sc ρ a=some (.bl false)):ev cx (n+1) sc ρ (.UnaryOp .Not a p)=some (.bl true):=Oz h1
theorem OD{i:Int}(h1:ev cx n sc ρ a=some (.int i)):ev cx (n+1) sc ρ (.UnaryOp .USub a p)=some (.int (-i)):=by
 simp only[ev,h1];rfl
theorem jm(h1:ev cx n sc ρ a=some (.bl true))(h2:cW .And (ev cx n sc ρ) (b::es)=some d):cW .And (ev cx n sc ρ) (a::b::es)=some d:=by
 simp only[cW,h1];exact h2
theorem oA(h1:ev cx n sc ρ a=some (.bl false)):cW .And (ev cx n sc ρ) (a::b::es)=some (.bl false):=by
 simp only[cW,h1];rfl
theorem lW(h1:ev cx n sc ρ a=some (.bl false))(h2:cW .Or (ev cx n sc ρ) (b::es)=some d):cW .Or (ev cx n sc ρ) (a::b::es)=some d:=by
 simp only[cW,h1];exact h2
theorem Dg(h1:ev cx n sc ρ a=some (.bl true)):cW .Or (ev cx n sc ρ) (a::b::es)=some (.bl true):=by
 simp only[cW,h1];rfl
theorem iW(h1:ev cx n sc ρ a=some d):cW o (ev cx n sc ρ) [a]=some d:=h1
theorem bL(h:cW o (ev cx n sc ρ) es=some d):ev cx (n+1) sc ρ (.BoolOp o es p)=some d:=h
theorem bK(h1:ev cx n sc ρ a=some x)(h2:ev cx n sc ρ b=some y)(h:cmpop op x y=some d):ev cx (n+1) sc ρ (.Compare a [op] [b] p)=some d:=by
 simp only[ev,h1,h2];exact h
theorem uG(h1:ev cx n sc ρ a=some x)(h2:ev cx n sc ρ b=some y)(h:cmpop op x y=some (.bl true))(h3:ev cx n sc ρ c=some z)(h4:cmpop op' y z=some d)(hp:aG c=true:=by rfl):ev cx (n+1) sc ρ (.Compare a [op,op'] [b,c] p)=some d:=by
 simp only[ev,h1,h2,h3,hp];show((cmpop op x y).bind asB).bind _=_;rw[h];exact h4
theorem J4(h1:ev cx n sc ρ c=some (.bl true))(h2:ev cx n sc ρ a=some d):ev cx (n+1) sc ρ (.IfExp c a b p)=some d:=by
 simp only[ev,h1];exact h2
theorem J6(h1:ev cx n sc ρ c=some (.bl false))(h2:ev cx n sc ρ b=some d):ev cx (n+1) sc ρ (.IfExp c a b p)=some d:=by
 simp only[ev,h1];exact h2
theorem aK{f:Expr->Option D}:lq f []=some []:=rfl
theorem aj{f:Expr->Option D}(h1:f a=some x)(h2:lq f es=some ds):lq f (a::es)=some (x::ds):=by
 simp only[lq,h1,h2];rfl
theorem qj{j:Nat}(h1:lq (ev cx n sc ρ) es=some ds)(hz:szl ds.length=true):ev cx (n+1) sc ρ (.Tuple es j p)=some (.tup ds):=by
 simp only[ev,h1];show(if szl ds.length=true then _ else _)=_;rw[K5z hz]
theorem Aa(h1:lq (ev cx n sc ρ) es=some ds)(hz:szl ds.length=true):ev cx (n+1) sc ρ (.List es p)=some (.lst ds):=by
 simp only[ev,h1];show(if szl ds.length=true then _ else _)=_;rw[K5z hz]
theorem Gd{x:D}{i:Int}{xs:List D}(h:items x=some xs):JG x (.int i)=atD xs i:=by cases x<;>simp[items] at h<;>subst h<;>rfl
theorem xIx{i:Int}{xs:List D}(h1:ev cx n sc ρ a=some x)(h2:ev cx n sc ρ b=some (.int i))(h3:items x=some xs)(h4:atD xs i=some d)(hs:aG b=true:=by rfl):ev cx (n+1) sc ρ (.Subscript a b p)=some d:=by
 simp only[ev,h1];show Option.bind _ _=_
 cases b<;>first | (simp[aG] at hs;done) | (simp only[h2];show JG x (.int i)=some d;rw[Gd h3];exact h4)
theorem PK{y:D}(h1:ev cx n sc ρ a=some x)(h2:ev cx n sc ρ b=some y)(h:JG x y=some d)(hs:aG b=true:=by rfl):ev cx (n+1) sc ρ (.Subscript a b p)=some d:=by
 simp only[ev,h1];show Option.bind _ _=_
 cases b<;>first | (simp[aG] at hs;done) | (simp only[h2];exact h)
def oI(cx:Cxt)(n:Nat)(sc:Scope)(ρ:Rho):Option Expr->Option (Option Int)
 | none=>some none
 | some e=>(ev cx n sc ρ e).bind fun d=>(asI d).map some
theorem xSl{xs:List D}{lo hi:Option Expr}{l u:Option Int}(h1:ev cx n sc ρ a=some (.tup xs))(h2:oI cx n sc ρ lo=some l)(h3:oI cx n sc ρ hi=some u)(h4:(gj xs.length 0 l==0&&gj xs.length xs.length u==xs.length)=false):
  ev cx (n+1) sc ρ (.Subscript a (.Slice lo hi none q) p)=some (.tup (nG xs l u)):=by
 unfold oI at h2 h3;simp only[ev,h1,bind,J2z]
 have e:∀ (A B:Option (Option Int)),A=some l->B=some u->(A.bind fun l=>B.bind fun h=>if(gj xs.length 0 l==0&&gj xs.length xs.length h==xs.length)=true then some (D.tup xs) else some (D.tup (nG xs l h)))=some (.tup (nG xs l u)):=by
  intro A B ha hb;subst ha hb;simp only[J2z,h4,L1z,H5z]
 exact e _ _ h2 h3
theorem xSlW{xs:List D}{lo hi:Option Expr}{l u:Option Int}(h1:ev cx n sc ρ a=some (.tup xs))(h2:oI cx n sc ρ lo=some l)(h3:oI cx n sc ρ hi=some u)(h4:(gj xs.length 0 l==0&&gj xs.length xs.length u==xs.length)=true):
  ev cx (n+1) sc ρ (.Subscript a (.Slice lo hi none q) p)=some (.tup xs):=by
 unfold oI at h2 h3;simp only[ev,h1,bind,J2z]
 have e:∀ (A B:Option (Option Int)),A=some l->B=some u->(A.bind fun l=>B.bind fun h=>if(gj xs.length 0 l==0&&gj xs.length xs.length h==xs.length)=true then some (D.tup xs) else some (D.tup (nG xs l h)))=some (.tup xs):=by
  intro A B ha hb;subst ha hb;simp only[J2z,h4,J5z]
 exact e _ _ h2 h3
theorem xSlL{lo hi:Option Expr}{l u:Option Int}(h1:ev cx n sc ρ a=some (.lst us))(h2:oI cx n sc ρ lo=some l)(h3:oI cx n sc ρ hi=some u):
  ev cx (n+1) sc ρ (.Subscript a (.Slice lo hi none q) p)=some (.lst (nG us l u)):=by
 unfold oI at h2 h3;simp only[ev,h1,bind,J2z]
 have e:∀ (A B:Option (Option Int)),A=some l->B=some u->(A.bind fun l=>B.bind fun h=>some (D.lst (nG us l h)))=some (.lst (nG us l u)):=by
  intro A B ha hb;subst ha hb;rfl
 exact e _ _ h2 h3
theorem uW:oI cx n sc ρ none=some none:=rfl
theorem uV{i:Int}(h:ev cx n sc ρ e=some (.int i)):oI cx n sc ρ (some e)=some (some i):=by
 simp only[oI,h];rfl
theorem nW{t:Expr}{T:String}(hg:bC cx sc nm=some "isinstance")(ht:tyOf cx sc t=some T)(hk:gD T=true)(h1:ev cx n sc ρ a=some x)(h:lM T x=c')(hxo:xOf cx sc t=none:=by rfl)(hne:isExc x=false:=by rfl):ev cx (n+1) sc ρ (.Call (.Name nm q) [a,t] [] p)=some (.bl c'):=by
 unfold bC at hg;split at hg
 ·rename_i hgl
  subst h;simp only[ev,hgl,hg,h1,ht,J5z,hxo,bind,J2z]
  cases x<;>first | (show(if gD T=true then _ else _)=_;rw[K5z hk]) | exact absurd hne (by simp[isExc])
 ·cases hg
theorem bU{B:String}(hg:bC cx sc nm=some B)(hw:Ab cx sc B es=.al)(hn:(B=="isinstance"||es.isEmpty)=false)(h1:lq (ev cx n sc ρ) es=some ds)(h:blt B ds=some d):ev cx (n+1) sc ρ (.Call (.Name nm q) es [] p)=some d:=by
 rw[U0z] at hn;unfold bC at hg;split at hg
 ·rename_i hgl
  simp only[ev,hgl,hg,J5z];split
  ·rename_i he;cases he;simp at hn
  ·rename_i he;cases he
   simp only[hw,hn.2,h1,L1z,H5z];exact h
  ·rename_i he;cases he
 ·cases hg
def isFn(cx:Cxt)(sc:Scope)(nm:Str)(es:List Expr):Bool:=mZ cx sc nm&&(cx.blt.lookup nm).isNone&&cx.fns.contains nm && !es.isEmpty
theorem au(hf:isFn cx sc nm es=true)(h1:lq (ev cx n sc ρ) es=some ds)(h:cx.call nm ds=some d):ev cx (n+1) sc ρ (.Call (.Name nm q) es [] p)=some d:=by
 unfold isFn at hf;rw[D2z,D2z,D2z] at hf;obtain⟨⟨⟨h2,h3⟩,h4⟩,h5⟩:=hf
 have h3':cx.blt.lookup nm=none:=by simpa using h3
 simp only[ev,h2,h3',h4,h5,X3z,J5z,h1];exact h
theorem wR1{tup:Bool}{j:Int}(hw:qm cx sc e=.r1 a)(h1:ev cx n sc ρ a=some (.int j))(hz:cC j=true):evI cx tup (ev cx n sc ρ) sc e=some (cQ 0 j):=by
 unfold evI;rw[hw];simp only[h1,J2z,asI];show(if cC j=true then _ else _)=_;rw[K5z hz]
theorem wR2{tup:Bool}{i j:Int}(hw:qm cx sc e=.r2 a b)(h1:ev cx n sc ρ a=some (.int i))(h2:ev cx n sc ρ b=some (.int j))(hz:(cC i&&cC j)=true):evI cx tup (ev cx n sc ρ) sc e=some (cQ i j):=by
 unfold evI;rw[hw];simp only[h1,h2,J2z,asI];show(if(cC i&&cC j)=true then _ else _)=_;rw[K5z hz]
theorem wZp{xs ys:List D}(hw:qm cx sc e=.zp a b)(h1:ev cx n sc ρ a=some (.tup xs))(h2:ev cx n sc ρ b=some (.tup ys)):evI cx true (ev cx n sc ρ) sc e=some ((xs.zip ys).map fun q=>.tup [q.1,q.2]):=by
 unfold evI;rw[hw];simp only[h1,h2,bind,J2z];rfl
theorem wRvI{tup:Bool}{xs:List D}(hw:qm cx sc e=.rv a)(h1:ev cx n sc ρ a=some (.lst xs)):evI cx tup (ev cx n sc ρ) sc e=some xs.reverse:=by
 unfold evI;rw[hw];simp only[h1,J2z,Ia];rfl
theorem wEn{xs:List D}(hw:qm cx sc e=.en a)(h1:ev cx n sc ρ a=some (.tup xs)):evI cx true (ev cx n sc ρ) sc e=some (enD xs):=by
 unfold evI;rw[hw];simp only[h1,bind,J2z];rfl
theorem wSq{tup:Bool}{xs:List D}(hw:qm cx sc e=.sq)(h1:ev cx n sc ρ e=some x)(h2:items x=some xs):evI cx tup (ev cx n sc ρ) sc e=some xs:=by
 unfold evI;rw[hw];simp only[h1,J2z];exact h2
theorem aL{f:D->Option (Option D)}{h g:Nat->D}:∀ {m:Nat},(∀ i,i<m->f (h i)=some (some (g i)))->bH f (Ls m h)=some (Ls m g):=by
 have key:∀ (l:List Nat),(∀ i∈l,f (h i)=some (some (g i)))->bH f (l.map h)=some (l.map g):=by
  intro l
  induction l with
  | nil=>intro _;rfl
  | cons i r ih =>
   intro hi;simp only[W3z,bH,hi i F1z,ih fun j hj=>hi j (Q0z _ hj)];rfl
 intro m hm;exact key _ fun i hi=>hm i (List.mem_range.mp hi)
theorem iB{f:D->Option (Option D)}{t:D->Bool}{g:D->D}:∀ {l:List D},(∀ x∈l,f x=some (if t x then some (g x) else none))->bH f l=some ((l.filter t).map g)
 | [],_=>rfl
 | x::r,h=>by
  have h1:=h x F1z;have h2:=iB (l:=r) fun y hy=>h y (Q0z _ hy);simp only[bH,h1]
  cases ht:t x with
  | true=>simp only[J5z,L2z,ht,W3z,h2];rfl
  | false=>simp only[L1z,H5z,L2z,ht];exact h2
def cF(cx:Cxt)(n:Nat)(sc scope:Scope)(ρ:Rho)(tg elt:Expr)(ifs:List Expr):D->Option (Option D):=fun d=>do
 let ρ1 <- gw scope tg d (bM scope ρ)
 let b <- m6 (ev cx n (kE scope sc) ρ1) ifs
 if b then(ev cx n (kE scope sc) ρ1 elt).map some else some none
theorem bI(h1:gw scope tg x (bM scope ρ)=some ρ1)(h2:ev cx n (kE scope sc) ρ1 elt=some d):cF cx n sc scope ρ tg elt [] x=some (some d):=by
 simp only[cF,h1,m6];show Option.map some (ev cx n (kE scope sc) ρ1 elt)=_;rw[h2];rfl
theorem nQ{t:Bool}(h1:gw scope tg x (bM scope ρ)=some ρ1)(h3:ev cx n (kE scope sc) ρ1 c=some (.bl t))(h2:ev cx n (kE scope sc) ρ1 elt=some d):cF cx n sc scope ρ tg elt [c] x=some (if t then some d else none):=by
 simp only[cF,h1,m6,h3,h2,bind,J2z,asB]
 cases t<;>rfl
theorem bF{tg elt iter:Expr}(hok:iz sc scope=true)(hI:evI cx (fO tg) (ev cx n sc ρ) sc iter=some l)(hz:szl l.length=true)(hgo:bH (cF cx n sc scope ρ tg elt ifs) l=some out):
  ev cx (n+1) sc ρ (.ListComp elt [⟨tg,iter,ifs,0⟩] scope p)=some (.lst out):=by
 simp only[ev,hok,hI];show(if szl l.length=true then(bH (cF cx n sc scope ρ tg elt ifs) l).bind (fun out=>some (D.lst out)) else none)=some (D.lst out);rw[K5z hz,hgo];rfl
variable {F:Nat} {f:Rho->Stmt->Option Fl} {r:List Stmt} {fl:Fl} {m:Nat}
abbrev blk(cx:Cxt)(F m:Nat)(sc:Scope):List Stmt->Rho->Option Fl:=jo (fun ρ s=>st cx F m sc ρ s)
theorem cT:blk cx F m sc [] ρ=some (.nxt ρ):=rfl
def qC(cx:Cxt)(F m:Nat)(sc:Scope)(r:List Stmt):Fl->Option Fl
 | .ret d=>some (.ret d)
 | .nxt ρ'=>blk cx F m sc r ρ'
theorem gSt{s:Stmt}(h:st cx F m sc ρ s=some fl1)(k:qC cx F m sc r fl1=some fl):blk cx F m sc (s::r) ρ=some fl:=by
 show(st cx F m sc ρ s).bind _=_;rw[h]
 cases fl1<;>exact k
theorem bN(h:ev cx F sc (frz F e ρ) e=some d):blk cx F (m+1) sc (.Return (some e) p::r) ρ=some (.ret d):=by
 refine gSt (fl1:=.ret d) ?_ rfl;simp only[st,h];rfl
theorem iw(ho:(ownIn sc nm&&(ρ.map (·.1)).contains nm)=true)(h:ev cx F sc (frz F e ρ) e=some d)(k:blk cx F (m+1) sc r (cL (frz F e ρ) nm (kJ e d))=some fl)(hoo:(ooE cx sc e&&jP (frz F e ρ) nm)=false:=by rfl)(hno:(aX e && !kZ (frz F e ρ) nm)=false:=by rfl)(hle:xW cx sc e=false:=by rfl)(hrd:rdA e=false:=by rfl):blk cx F (m+1) sc (.Assign [.Name nm px] e p::r) ρ=some fl:=by
 refine gSt (fl1:=.nxt _) ?_ k;simp only[st,h,K5z ho,hoo,hno,hle,hrd,K3z,L1z,H5z];rfl
theorem X3(hf:frz F e ρ=ρ')(ho:(ownIn sc nm&&(ρ.map (·.1)).contains nm)=true)(h:ev cx F sc ρ' e=some (.lst ds))(hoo:ooE cx sc e=false)(hle:(xW cx sc e&&kZ ρ' nm)=true)(k:blk cx F (m+1) sc r (cL ρ' nm (.ow ds))=some fl):blk cx F (m+1) sc (.Assign [.Name nm px] e p::r) ρ=some fl:=by
 subst hf;refine gSt (fl1:=.nxt _) ?_ k;simp only[st,K5z ho,hoo,hle,h,K3z,L1z,H5z,J5z];rfl
theorem yJ{dss:List (List D)}(hf:frz F e ρ=ρ')(ho:(ownIn sc nm&&(ρ.map (·.1)).contains nm)=true)(h:ev cx F sc ρ' e=some d)(hd:xU d=some dss)(hoo:(ooE cx sc e&&jP ρ' nm)=true)(k:blk cx F (m+1) sc r (cL ρ' nm (.oo dss))=some fl):blk cx F (m+1) sc (.Assign [.Name nm px] e p::r) ρ=some fl:=by
 subst hf;refine gSt (fl1:=.nxt _) ?_ k;simp only[st,h,K5z ho,K5z hoo,J2z,hd,X2z]
theorem XS{dss:List (List D)}{j1 j2:Int}{n1 n2:Nat}(hx:ρ.lookup nm=some (.oo dss))(ho:(ownIn sc nm&&aA nm && !aX e)=true)(h:ev cx F sc (frz F e ρ) e=some d)(h1:ev cx F sc (frz F i1 ρ) i1=some (.int j1))(h2:ixD dss.length j1=some n1)(h3:dss[n1]?=some ds)(h4:ev cx F sc (frz F i2 ρ) i2=some (.int j2))(h5:ixD ds.length j2=some n2)(h6:dZ d=true)(k:blk cx F (m+1) sc r (cL ρ nm (.oo (dss.set n1 (ds.set n2 d))))=some fl):blk cx F (m+1) sc (.Assign [.Subscript (.Subscript (.Name nm px) i1 tp) i2 tp2] e p::r) ρ=some fl:=by
 refine gSt (fl1:=.nxt _) ?_ k;simp only[st,hx,ho,J5z,h,h1,h2,h3,h4,h5,h6,asI,bind,J2z]
theorem gTup{es:List Expr}{j:Nat}(hs:(swp sc es e).isSome=true)(h:ev cx F sc (frz F e ρ) e=some d)(hl:items d=some l)(hb:bindNames sc es l (frz F e ρ)=some ρ')(k:blk cx F (m+1) sc r ρ'=some fl):blk cx F (m+1) sc (.Assign [.Tuple es j q] e p::r) ρ=some fl:=by
 refine gSt (fl1:=.nxt _) ?_ k;simp only[st,h,hs,Bool.true_or,J5z,hl,bind,J2z,hb,X2z]
def n8:Expr->Bool
 | .Call (.Name ..) _ _ _=>true
 | _=>false
theorem yH(hx:n8 e=true)(h:ev cx F sc (frz F e ρ) e=some d)(k:blk cx F (m+1) sc r (frz F e ρ)=some fl):blk cx F (m+1) sc (.Expr e p::r) ρ=some fl:=by
 unfold n8 at hx;split at hx
 ·refine gSt (fl1:=.nxt _) ?_ k
  simp only[st,h,X2z]
 ·cases hx
theorem X7{px ap cp:Pos}{M:Str}(hx:(frz F e ρ).lookup nm=some (.ow ds))(ho:(ownIn sc nm&&aA nm&&ap.endLine==cp.line)=true)(hM:(M=="append")=true)(hz:szl (ds.length+1)=true)(h:ev cx F sc (frz F e ρ) e=some d)(k:blk cx F (m+1) sc r (cL (frz F e ρ) nm (.ow (ds++[d])))=some fl):
  blk cx F (m+1) sc (.Expr (.Call (.Attribute (.Name nm px) M ap) [e] [] cp) p::r) ρ=some fl:=by
 refine gSt (fl1:=.nxt _) ?_ k;simp only[st,hx,ho,hM,hz,X3z,J5z,h,X2z]
theorem Pk{px ap cp:Pos}{M:Str}(hx:(frz F e ρ).lookup nm=some (.ow ds))(ho:(ownIn sc nm&&aA nm&&ap.endLine==cp.line)=true)(hM:(M=="append")=false)(hM2:(M=="extend")=true)(hz:szl (ds.length+zs.length)=true)(h:ev cx F sc (frz F e ρ) e=some (.lst zs))(k:blk cx F (m+1) sc r (cL (frz F e ρ) nm (.ow (ds++zs)))=some fl):
  blk cx F (m+1) sc (.Expr (.Call (.Attribute (.Name nm px) M ap) [e] [] cp) p::r) ρ=some fl:=by
 refine gSt (fl1:=.nxt _) ?_ k;simp only[st,hx,ho,hM,hM2,K3z,L1z,H5z,J5z,h,bind,J2z,hz]
theorem m7{A B:List Stmt}(h:ev cx F sc (frz F c ρ) c=some (.bl true))(k:blk cx F m sc A ρ=some fl1)(k2:qC cx F (m+1) sc r fl1=some fl):blk cx F (m+1) sc (.If c A B p::r) ρ=some fl:=by
 refine gSt ?_ k2;have k':jo (fun ρ s=>st cx F m sc ρ s) A ρ=some fl1:=k;simp only[st,h,bind,J2z,asB,J5z,k']
theorem Ny{A B:List Stmt}(h:ev cx F sc (frz F c ρ) c=some (.bl false))(k:blk cx F m sc B ρ=some fl1)(k2:qC cx F (m+1) sc r fl1=some fl):blk cx F (m+1) sc (.If c A B p::r) ρ=some fl:=by
 refine gSt ?_ k2;have k':jo (fun ρ s=>st cx F m sc ρ s) B ρ=some fl1:=k;simp only[st,h,bind,J2z,asB,L1z,H5z,k']
theorem lu(h:ev cx F sc (frz F c ρ) c=some (.bl false))(k:blk cx F (m+1) sc r ρ=some fl):blk cx F (m+1) sc (.If c A [] p::r) ρ=some fl :=
 Ny h cT k
theorem fZ{f:D->Rho->Option Fl}{h:Nat->D}{R:Nat->Rho}{N:Nat}(hs:∀ i,i<N->f (h i) (R i)=some (.nxt (R (i+1)))):bV f (Ls N h) (R 0)=some (.nxt (R N)):=by
  have key:∀ (j i:Nat),i+j=N->bV f ((List.range' i j).map h) (R i)=some (.nxt (R N)):=by
    intro j
    induction j with
    | zero => intro i hi; have : i = N := by omega
              subst this;rfl
    | succ j ih =>
      intro i hi
      rw[List.range'_succ,W3z]
      simp only[bV,hs i (by omega)]
      exact ih (i+1) (by omega)
  have:=key N 0 (by omega)
  rw[<- List.range_eq_range'] at this
  exact this
def fF(cx:Cxt)(F m:Nat)(sc:Scope)(tg:Expr)(body:List Stmt):D->Rho->Option Fl:=fun d ρ=>do let ρ1 <- gw sc tg d ρ;jo (fun ρ s=>st cx F m sc ρ s) body ρ1
theorem dF(h1:gw sc tg d ρ=some ρ1)(h2:blk cx F m sc body ρ1=some fl):fF cx F m sc tg body d ρ=some fl:=by
 have h2':jo (fun ρ s=>st cx F m sc ρ s) body ρ1=some fl:=h2;simp only[fF,h1];exact h2'
theorem gFor{tg iter:Expr}(hI:evI cx (fO tg) (ev cx F sc (frz F iter ρ)) sc iter=some l)(hgo:bV (fF cx F m sc tg body) l (frz F iter ρ)=some fl1)(k2:qC cx F (m+1) sc r fl1=some fl):blk cx F (m+1) sc (.For tg iter body [] p::r) ρ=some fl:=by
 refine gSt ?_ k2;have hgo':bV (fun d ρ=>(gw sc tg d ρ).bind fun ρ1=>jo (fun ρ s=>st cx F m sc ρ s) body ρ1) l (frz F iter ρ)=some fl1:=hgo;simp only[st,hI,bind,J2z,hgo']
theorem Ip{c:Expr}(hgo:rO (fun ρ=>((ev cx F sc (frz F c ρ) c).bind asB).map fun b=>(frz F c ρ,b)) (fun ρ=>blk cx F m sc body ρ) whF ρ=some (.nxt ρ2))(k2:blk cx F (m+1) sc r ρ2=some fl):blk cx F (m+1) sc (.While c body [] p::r) ρ=some fl:=by
 refine gSt (fl1:=.nxt ρ2) ?_ k2;have hgo':rO (fun ρ=>((ev cx F sc (frz F c ρ) c).bind asB).map fun b=>(frz F c ρ,b)) (fun ρ=>jo (fun ρ s=>st cx F m sc ρ s) body ρ) whF ρ=some (.nxt ρ2):=hgo;simp only[st,hgo']
theorem J8{f:Rho->Option Fl}{c:Expr}{N:Nat}(hc:frz F c ρ=ρ1)(h:ev cx F sc ρ1 c=some (.bl true))(hf:f ρ1=some (.nxt ρ2))(k:rO (fun ρ=>((ev cx F sc (frz F c ρ) c).bind asB).map fun b=>(frz F c ρ,b)) f N ρ2=some fl):rO (fun ρ=>((ev cx F sc (frz F c ρ) c).bind asB).map fun b=>(frz F c ρ,b)) f (N+1) ρ=some fl:=by
 subst hc;simp only[rO,h,J2z,asB,X2z,J5z,hf];exact k
theorem Dh{f:Rho->Option Fl}{c:Expr}{N:Nat}(hc:frz F c ρ=ρ1)(h:ev cx F sc ρ1 c=some (.bl false)):rO (fun ρ=>((ev cx F sc (frz F c ρ) c).bind asB).map fun b=>(frz F c ρ,b)) f (N+1) ρ=some (.nxt ρ1):=by
 subst hc;simp only[rO,h,J2z,asB,X2z,L1z,H5z]
abbrev cxN(P:Pg)(F k:Nat):Cxt:=⟨P.cst,P.blt,P.defs.map (·.1),P.exs,P.top,true,aB P F k,jw P F k⟩
theorem Jr{k:Nat}:P.cx (fH P F k)=cxN P F k:=by
 have e1:aB P F k=fun f ds=>Rs.val? (fH P F k f ds):=by funext f ds;exact f9
 have e2:jw P F k=fun f ds=>Rs.exc? (fH P F k f ds):=by funext f ds;exact uw
 unfold cxN;rw[e1,e2];rfl
theorem bO{k:Nat}{f:Str}{fd:Fd}(hf:P.defs.lookup f=some fd)(hl:(ds.length==fd.ps.length)=true)(h:blk (cxN P F k) F F fd.sc fd.body (cX fd ds)=some (.ret d)):aB P F (k+1) f ds=some d:=by
 have h':jo (fun ρ s=>st (cxN P F k) F F fd.sc ρ s) fd.body (cX fd ds)=some (.ret d):=h;rw[f9];simp only[kh,hf,hl,J5z,pW,Jr,h',Rs.val?]
theorem uE{k:Nat}{f:Str}{fd:Fd}(hf:P.defs.lookup f=some fd)(hl:(ds.length==fd.ps.length)=true)(h:blk (cxN P F k) F F fd.sc fd.body (cX fd ds)=some (.nxt ρ')):aB P F (k+1) f ds=some .non:=by
 have h':jo (fun ρ s=>st (cxN P F k) F F fd.sc ρ s) fd.body (cX fd ds)=some (.nxt ρ'):=h;rw[f9];simp only[kh,hf,hl,J5z,pW,Jr,h',Rs.val?]
def Ag(cx:Cxt)(F m:Nat)(sc:Scope)(l:List Stmt)(ρ:Rho)(c:Str):Prop:=jo (fun ρ s=>st cx F m sc ρ s) l ρ=none/\∃ ρ',gQ (fun ρ s=>st cx F m sc ρ s) (fun ρ s=>stx cx F m sc ρ s) l ρ=some (c,ρ')
theorem uD{k:Nat}{f:Str}{fd:Fd}{c:Str}(hf:P.defs.lookup f=some fd)(hl:(ds.length==fd.ps.length)=true)(h:Ag (cxN P F k) F F fd.sc fd.body (cX fd ds) c):jw P F (k+1) f ds=some c/\aB P F (k+1) f ds=none:=by
 obtain⟨h1,ρ',h2⟩:=h;rw[uw,f9];simp only[kh,hf,hl,J5z,pW,Jr,h1,h2,Rs.exc?,Rs.val?];trivial
theorem CZ{s:Stmt}{c:Str}(h1:st cx F m sc ρ s=some (.nxt ρ1))(h2:Ag cx F m sc r ρ1 c):Ag cx F m sc (s::r) ρ c:=by
 obtain⟨h3,ρ',h4⟩:=h2;refine⟨?_,ρ',?_⟩
 ·show(st cx F m sc ρ s).bind _=_
  rw[h1];exact h3
 ·simp only[gQ,h1];exact h4
theorem nT{s:Stmt}{ρ1:Rho}{c:Str}(h1:st cx F m sc ρ s=none)(h2:stx cx F m sc ρ s=some (c,ρ1)):Ag cx F m sc (s::r) ρ c:=by
 refine⟨?_,ρ1,?_⟩
 ·show(st cx F m sc ρ s).bind _=_
  rw[h1];rfl
 ·simp only[gQ,h1];exact h2
theorem lX{A B:List Stmt}{np p1 cpos rp:Pos}{txt:Str}{j:Nat}(h:ev cx F sc (frz F c ρ) c=some (.bl true))(hr:(cx.rs&&mZ cx sc cn&&cx.exs.contains cn&&aA cn)=true):
  Ag cx F (m+2) sc (.If c (.Raise (some (.Call (.Name cn np) [.Constant (.str txt) j p1] [] cpos)) none rp::A) B p::r) ρ cn:=by
 refine nT (ρ1:=frz F c ρ) ?_ ?_
 ·simp only[st,h,bind,J2z,asB,J5z]
  rfl
 ·simp only[stx,h,J2z,asB,J5z,gQ]
  simp only[st,K5z hr]
theorem Pu(hx:n8 e=true)(h:ev cx F sc (frz F e ρ) e=none)(h2:evx cx F sc (frz F e ρ) e=some cn):Ag cx F (m+1) sc (.Expr e p::r) ρ cn:=by
 refine nT (ρ1:=frz F e ρ) ?_ ?_
 ·unfold n8 at hx
  split at hx
  ·simp only[st,h,E3z]
  ·cases hx
 ·unfold n8 at hx
  split at hx
  ·simp only[stx,aX,L1z,H5z,h2,X2z]
  ·cases hx
theorem iY{c:Str}(hf:(isFn cx sc nm es&&es.all aG)=true)(h1:lq (ev cx n sc ρ) es=some ds)(h:cx.callx nm ds=some c)(h0:cx.call nm ds=none):evx cx (n+1) sc ρ (.Call (.Name nm q) es [] p)=some c/\ev cx (n+1) sc ρ (.Call (.Name nm q) es [] p)=none:=by
 unfold isFn at hf;simp only[D2z] at hf;obtain⟨⟨⟨⟨h2,h3⟩,h4⟩,h5⟩,h6⟩:=hf
 have h3':cx.blt.lookup nm=none:=by simpa using h3
 constructor
 ·simp only[evx,h2,h5,h6,h4,X3z,J5z,h1,h]
 ·simp only[ev,h2,h3',J5z,h4,h5,X3z,h1,bind,J2z,h0]
end
abbrev row(n:Nat)(f:Nat->Int):D:=.tup (Ls n fun j=>.int (f j))
abbrev tbl(m n:Nat)(f:Nat->Nat->Int):D:=.tup (Ls m fun i=>.tup (Ls n fun j=>.int (f i j)))
def lC:Nat->(Nat->Int)->Int
 | 0,_=>0
 | n+1,f=>lC n f+f n
theorem Jy{f:Nat->Int}:∀ {n:Nat},jy (Ls n fun i=>D.int (f i))=some (Ls n f):=by
 have key:∀ l:List Nat,jy (l.map fun i=>D.int (f i))=some (l.map f):=by
  intro l
  induction l with
  | nil=>rfl
  | cons a r ih=>simp only[W3z,jy,ih];rfl
 intro n;exact key _
theorem Dj{f:Nat->Int}:∀ {n:Nat},(Ls n f).sum=lC n f
 | 0=>rfl
 | n+1=>by rw[gJ,List.sum_append,Dj];simp[lC]
theorem Fi{n:Nat}{h:Nat->D}:blt "len" [.tup (Ls n h)]=some (.int n):=by
 show some (D.int ((Ls n h).length:Int))=_;rw[aR]
theorem aaS{n:Nat}{f:Nat->Int}:blt "sum" [.lst (Ls n fun i=>.int (f i))]=some (.int (lC n f)):=by
 show(jy (Ls n fun i=>D.int (f i))).bind (fun is=>some (D.int is.sum))=_;rw[Jy,J2z,Dj]
theorem gK:blt "tuple" [.lst l]=some (.tup l):=rfl
theorem gM{n:Nat}(h:n<=100000):szl n=true:=by unfold szl;exact L3z h
theorem cJ{α:Type}{n:Nat}{h:Nat->α}(hn:n<=100000):szl (Ls n h).length=true:=by rw[aR];exact gM hn
theorem QD{n:Nat}(h:n<=100000):cC (n:Int)=true:=by
 unfold cC;rw[L3z (by omega),L3z (by omega)];rfl
theorem oLe{i j:Int}(h:i<=j):cmpop .LtE (.int i) (.int j)=some (.bl true):=by
 show some (D.bl (decide (i<=j)))=_;rw[L3z h]
theorem oLt{i j:Int}(h:i<j):cmpop .Lt (.int i) (.int j)=some (.bl true):=by
 show some (D.bl (decide (i<j)))=_;rw[L3z h]
theorem Mh{i j:Int}(h:¬ i<j):cmpop .Lt (.int i) (.int j)=some (.bl false):=by
 show some (D.bl (decide (i<j)))=_;rw[O2z h]
theorem uX{i j:Int}(h:i=j):cmpop .Eq (.int i) (.int j)=some (.bl true):=by
 subst h;show some (D.bl (i==i))=_;rw[G2z]
theorem sY{i j:Int}(h:i≠j):cmpop .Eq (.int i) (.int j)=some (.bl false):=by
 show some (D.bl (i==j))=_;rw[A1z.mpr h]
theorem YL{i j:Int}(h:i=j):cmpop .NotEq (.int i) (.int j)=some (.bl false):=by
 subst h;show some (D.bl (!(i==i)))=_;rw[G2z];rfl
theorem Dc{i j:Int}(h:small i=true\/small j=true):binop .Mult (.int i) (.int j)=some (.int (i*j)):=by
 show(if(small i||small j||(mid i&&mid j))=true then _ else _)=_;rw[K5z (by rw[Z2z,Z2z];exact .inl h)]
theorem lB{i j:Int}(h:mid i=true)(h':mid j=true):binop .Mult (.int i) (.int j)=some (.int (i*j)):=by
 show(if(small i||small j||(mid i&&mid j))=true then _ else _)=_;rw[K5z (by rw[h,h'];simp)]
theorem JT{i j:Int}(h:0<j):binop .Mod (.int i) (.int j)=some (.int (i%j)):=by
 show(if decide (0<j)=true then _ else _)=_;rw[K5z (L3z h)]
theorem bDiv{i j:Int}(h:0<j)(h':j<1073741824):binop .FloorDiv (.int i) (.int j)=some (.int (i / j)):=by
 show(if(decide (0<j)&&decide (j<1073741824))=true then _ else _)=_;rw[K5z (by rw[L3z h,L3z h'];rfl)]
mutual
theorem yZ:∀ d:D,dep d<1000->deq d d=true
 | .non,_=>rfl
 | .bl b,_=>by simp[deq]
 | .int i,_=>by simp[deq]
 | .str x,_=>by simp[deq]
 | .tup xs,h=>by simp only[deq];exact nq xs (by simp only[dep] at h;omega)
 | .lst xs,h=>by simp only[deq];exact nq xs (by simp only[dep] at h;omega)
 | .exc c,h=>absurd h (by simp[dep])
 | .dic _ _,h=>absurd h (by simp[dep])
theorem nq:∀ ds:List D,deps ds<1000->nZ ds ds=true
 | [],_=>rfl
 | d::ds,h=>by
  simp only[deps] at h;simp only[nZ,yZ d (by omega),nq ds (by omega),X3z]
end
theorem oEq{x y:D}(h1:dep x<=50)(h2:dep y<=50):cmpop .Eq x y=some (.bl (deq x y)):=by
 show(if(decide (dep x<=50)&&decide (dep y<=50))=true then some (D.bl (deq x y)) else none)=_;rw[L3z h1,L3z h2];rfl
theorem oNe{x y:D}(h1:dep x<=50)(h2:dep y<=50):cmpop .NotEq x y=some (.bl (!deq x y)):=by
 show(if(decide (dep x<=50)&&decide (dep y<=50))=true then some (D.bl (!deq x y)) else none)=_;rw[L3z h1,L3z h2];rfl
theorem fu{b:Nat}:∀ {l:List D},(∀ d∈l,dep d<=b)->deps l<=b
 | [],_=>S4z _
 | d::r,h=>by
  simp only[deps];exact Nat.max_le.mpr ⟨h d F1z,fu fun e he=>h e (Q0z _ he)⟩
theorem rE{n:Nat}{f:Nat->Int}:dep (row n f)<=1:=by
 simp only[dep]
 have:=fu (b:=0) (l:=Ls n fun j=>D.int (f j)) fun d hd=>by
  unfold Ls at hd;obtain⟨i,_,rfl⟩:=List.mem_map.mp hd;simp[dep]
 omega
theorem zu{m n:Nat}{f:Nat->Nat->Int}:dep (tbl m n f)<=2:=by
 simp only[dep]
 have:=fu (b:=1) (l:=Ls m fun i=>D.tup (Ls n fun j=>D.int (f i j))) fun d hd=>by
  unfold Ls at hd;obtain⟨i,_,rfl⟩:=List.mem_map.mp hd;exact rE (f:=f i)
 omega
section
variable {cx:Cxt} {n:Nat} {sc scope:Scope} {ρ:Rho} {a b c e:Expr} {es:List Expr} {p q:Pos} {x y z d:D} {ds:List D} {nm:Str}
theorem vK{tup:Bool}{j:Nat}(hw:qm cx sc e=.r1 a)(h1:ev cx n sc ρ a=some (.int j))(hz:j<=100000):evI cx tup (ev cx n sc ρ) sc e=some (Ls j fun k=>.int k):=by
 rw[wR1 hw h1 (QD hz),wW]
theorem PN{m:Nat}{h g:Nat->D}(hw:qm cx sc e=.zp a b)(h1:ev cx n sc ρ a=some (.tup (Ls m h)))(h2:ev cx n sc ρ b=some (.tup (Ls m g))):evI cx true (ev cx n sc ρ) sc e=some (Ls m fun i=>.tup [h i,g i]):=by
 rw[wZp hw h1 h2,Ot,lU]
theorem Ac{tup:Bool}{xs:List D}(hw:qm cx sc e=.sq)(h1:ev cx n sc ρ e=some (.tup xs)):evI cx tup (ev cx n sc ρ) sc e=some xs:=wSq hw h1 rfl
theorem vQ{m j:Nat}{h:Nat->D}(h1:ev cx n sc ρ a=some (.tup (Ls m h)))(h2:ev cx n sc ρ b=some (.int j))(hj:j<m)(hs:aG b=true)(hd:h j=d):ev cx (n+1) sc ρ (.Subscript a b p)=some d:=hd▸xIx h1 h2 rfl (lR hj) hs
theorem PB{m:Nat}{h:Nat->D}(h1:ev cx n sc ρ a=some (.tup (Ls m h)))(h2:ev cx n sc ρ b=some (.int 0))(hj:0<m)(hs:aG b=true)(hd:h 0=d):ev cx (n+1) sc ρ (.Subscript a b p)=some d:=hd▸xIx h1 h2 rfl (lR (j:=0) hj) hs
theorem Aj{m j:Nat}{h:Nat->D}(h1:ev cx n sc ρ a=some (.lst (Ls m h)))(h2:ev cx n sc ρ b=some (.int j))(hj:j<m)(hs:aG b=true)(hd:h j=d):ev cx (n+1) sc ρ (.Subscript a b p)=some d:=hd▸xIx h1 h2 rfl (lR hj) hs
end
abbrev plc(q:Nat)(c:Nat->Nat):D:=.tup (Ls q fun j=>.int ((c j:Nat):Int))
theorem Oj{m a:Nat}{h:Nat->D}(ha:a<=m):nG (Ls m h) (some (a:Int)) none=Ls (m-a) fun i=>h (a+i):=by
 unfold nG
 have e1:gj (Ls m h).length 0 (some (a:Int))=a:=by
  unfold gj;rw[aR];simp only;rw[L5z (by omega)];omega
 have e2:gj (Ls m h).length (Ls m h).length none=m:=aR;rw[e1,e2,JB,z6 (Q4z _)]
theorem Eu{m a:Nat}{h:Nat->D}(ha:a<=m):nG (Ls m h) none (some (a:Int))=Ls a h:=by
 unfold nG;have e1:gj (Ls m h).length 0 none=0:=rfl
 have e2:gj (Ls m h).length (Ls m h).length (some (a:Int))=a:=by
  unfold gj;rw[aR];simp only;rw[L5z (by omega)];omega
 rw[e1,e2,List.drop_zero,Nat.sub_zero,z6 ha]
section
variable {cx:Cxt} {n:Nat} {sc scope:Scope} {ρ:Rho} {a b c e:Expr} {es:List Expr} {p q:Pos} {x y z d:D} {ds:List D} {nm:Str}
theorem JZ{m j:Nat}{h:Nat->D}(h1:ev cx n sc ρ a=some (.tup (Ls m h)))(h2:ev cx n sc ρ b=some (.int j))(hj:0<j)(hm:0<m)(hjm:j<=m):ev cx (n+1) sc ρ (.Subscript a (.Slice (some b) none none q) p)=some (.tup (Ls (m-j) fun i=>h (j+i))):=by
 rw[xSl h1 (uV h2) uW,Oj hjm]
 have:(gj (Ls m h).length 0 (some (j:Int))==0)=false:=by
  unfold gj;rw[aR];simp only;rw[L5z (by omega)]
  have:min (j:Int).toNat m≠0:=by omega
  exact A1z.mpr this
 rw[this];rfl
end
theorem Oc{m:Nat}{h:Nat->D}:enD (Ls m h)=Ls m fun i=>.tup [.int i,h i]:=by
 apply List.ext_getElem?;intro i;unfold enD;rw[List.getElem?_map,List.getElem?_zipIdx]
 by_cases hi:i<m
 ·rw[cB hi,cB hi];simp
 ·rw[List.getElem?_eq_none (by rw[aR];omega),List.getElem?_eq_none (by rw[aR];omega)];rfl
theorem wEnL{cx:Cxt}{n:Nat}{a e:Expr}{m:Nat}{h:Nat->D}(hw:qm cx sc e=.en a)(h1:ev cx n sc ρ a=some (.tup (Ls m h))):evI cx true (ev cx n sc ρ) sc e=some (Ls m fun i=>.tup [.int i,h i]):=by
 rw[wEn hw h1,Oc]
theorem Yr{α β:Type}(d:α)(g:α->β)(l:List α):l.map g=Ls l.length fun i=>g (l.getD i d):=by
 apply List.ext_getElem?;intro i
 by_cases hi:i<l.length
 ·rw[List.getElem?_map,cB hi,List.getElem?_eq_getElem hi,List.getD_eq_getElem?_getD,List.getElem?_eq_getElem hi];rfl
 ·rw[List.getElem?_eq_none (by rw[U2z];omega),List.getElem?_eq_none (by rw[aR];omega)]
theorem JH{i j:Int}(h:¬ i<=j):cmpop .LtE (.int i) (.int j)=some (.bl false):=by
 show some (D.bl (decide (i<=j)))=_;rw[O2z h]
theorem oGt{i j:Int}:cmpop .Gt (.int i) (.int j)=some (.bl (decide (j<i))):=rfl
theorem oNeB{b:Bool}:cmpop .NotEq (.bl b) (.bl b)=some (.bl false):=by cases b<;>rfl
theorem YQ{i j:Int}:cmpop .LtE (.int i) (.int j)=some (.bl (decide (i<=j))):=rfl
section
variable {cx:Cxt} {n:Nat} {sc scope:Scope} {ρ:Rho} {a b c e:Expr} {es:List Expr} {p q:Pos} {x y z d:D} {ds:List D} {nm:Str} {F m:Nat} {r:List Stmt} {fl:Fl} {op op':CmpOp}
theorem Ak(h1:ev cx n sc ρ a=some x)(h2:ev cx n sc ρ b=some y)(h:cmpop op x y=some (.bl false))(hp:aG c=true:=by rfl):ev cx (n+1) sc ρ (.Compare a [op,op'] [b,c] p)=some (.bl false):=by
 simp only[ev,hp,Bool.not_true,L1z,H5z,h1,h2,bind,J2z,h,asB]
theorem X5{px ap cp:Pos}{M:Str}(hx:(frz F e ρ).lookup nm=some (.ow ds))(ho:(ownIn sc nm&&aA nm&&ap.endLine==cp.line)=true)(hM:(M=="append")=false)(hM2:(M=="extend")=true)(hz:szl (ds.length+zs.length)=true)(h:ev cx F sc (frz F e ρ) e=some (.tup zs))(k:blk cx F (m+1) sc r (cL (frz F e ρ) nm (.ow (ds++zs)))=some fl):
  blk cx F (m+1) sc (.Expr (.Call (.Attribute (.Name nm px) M ap) [e] [] cp) p::r) ρ=some fl:=by
 refine gSt (fl1:=.nxt _) ?_ k;simp only[st,hx,ho,hM,hM2,K3z,L1z,H5z,J5z,h,bind,J2z,hz]
end
section
variable {cx:Cxt} {n:Nat} {sc scope:Scope} {ρ:Rho} {a b c e:Expr} {es:List Expr} {p q:Pos} {x y z d:D} {ds:List D} {nm:Str} {F m:Nat} {r:List Stmt} {fl:Fl}
theorem XR{body o f:List Stmt}{hs:List ExceptHandler}{t:Str×Str×Str}(ht:uK hs o f=some t)(h:blk cx F m sc body ρ=some fl1)(k:qC cx F (m+1) sc r fl1=some fl):blk cx F (m+1) sc (.Try body hs o f p::r) ρ=some fl:=by
 obtain⟨t1,t2,t3⟩:=t;refine gSt ?_ k;have h':jo (fun ρ s=>st cx F m sc ρ s) body ρ=some fl1:=h;simp only[st,ht,h']
theorem XM{body o f:List Stmt}{hs:List ExceptHandler}{t e1 kn c':Str}{ρ':Rho}(ht:uK hs o f=some (t,e1,kn))(h1:jo (fun ρ s=>st cx F m sc ρ s) body ρ=none)(h2:gQ (fun ρ s=>st cx F m sc ρ s) (fun ρ s=>stx { cx with rs:=false } F m sc ρ s) body ρ=some (c',ρ'))
  (hc:(mZ cx sc t&&t==cx.top&&cx.exs.contains c'&&e1 !=kn&&aA e1&&sc.names.lookup e1==some .local&&sc.names.lookup kn==some .local&&(ρ.map (·.1)).contains e1&&(ρ.map (·.1)).contains kn&&aA t)=true)
  (k:blk cx F (m+1) sc r (cL (cL ρ' kn (.sh (.exc c'))) e1 .no)=some fl):blk cx F (m+1) sc (.Try body hs o f p::r) ρ=some fl:=by
 refine gSt (fl1:=.nxt _) ?_ k;simp only[st,ht,h1,h2,K5z hc]
end
section
variable {cx:Cxt} {n:Nat} {sc scope:Scope} {ρ:Rho} {a b c e:Expr} {p q:Pos}
theorem Py{i:Nat}(h1:ev cx n sc ρ a=some (.tup us))(h2:ev cx n sc ρ b=some (.int i))(hi:i<us.length):ev cx (n+1) sc ρ (.Subscript a (.Slice none (some b) none q) p)=some (.tup (us.take i)):=by
 have e1:gj us.length us.length (some (i:Int))=i:=by unfold gj;simp only;rw[L5z (by omega)];omega
 rw[xSl h1 uW (uV h2)]
 ·unfold nG
  rw[e1];show some (D.tup ((us.drop 0).take (i-0)))=_;rw[List.drop_zero,Nat.sub_zero]
 ·rw[e1]
  have:(i==us.length)=false:=by rw[A1z];omega
  rw[this,O3z]
theorem vP{i:Nat}(h1:ev cx n sc ρ a=some (.tup us))(h2:ev cx n sc ρ b=some (.int i))(h0:0<i)(hi:i<=us.length):ev cx (n+1) sc ρ (.Subscript a (.Slice (some b) none none q) p)=some (.tup (us.drop i)):=by
 have e1:gj us.length 0 (some (i:Int))=i:=by unfold gj;simp only;rw[L5z (by omega)];omega
 rw[xSl h1 (uV h2) uW]
 ·unfold nG
  rw[e1];show some (D.tup ((us.drop i).take (us.length-i)))=_;rw[List.take_of_length_le (by rw[B2z];omega)]
 ·rw[e1]
  have:(i==0)=false:=by rw[A1z];omega
  rw[this,K3z]
end
theorem iR{x:D}:∀ {l:List D},x∈l->dep x<=deps l
 | y::l,h=>by
  simp only[deps];rcases List.mem_cons.mp h with rfl | h
  ·omega
  ·have:=iR h;omega
theorem zQ(h:us.length+vs.length<=100000):binop .Add (.tup us) (.tup vs)=some (.tup (us++vs)):=by
 show(if szl (us.length+vs.length)=true then _ else _)=_;rw[K5z (gM h)]
theorem zA{b:Nat}(h1:deps us<=b)(h2:deps vs<=b):deps (us++vs)<=b:=by
 induction us with
 | nil=>exact h2
 | cons x r ih =>
  simp only[deps] at h1;simp only[List.cons_append,deps];have:=ih (by omega);omega
theorem CJ{b i:Nat}(h:deps us<=b):deps (us.take i)<=b:=fu fun d hd=>F4z (iR (List.mem_of_mem_take hd)) h
theorem CK{b i:Nat}(h:deps us<=b):deps (us.drop i)<=b:=fu fun d hd=>F4z (iR (List.mem_of_mem_drop hd)) h
theorem bY{f:D->Option (Option D)}{g:D->D}:∀ {l:List D},(∀ x∈l,f x=some (some (g x)))->bH f l=some (l.map g)
 | [],_=>rfl
 | x::l,h=>by
  simp only[bH,h x F1z,bind,J2z,bY (l:=l) fun y hy=>h y (Q0z _ hy),X2z,W3z]
theorem rK{l:List D}{t:D->Bool}:blt "all" [.lst (l.map fun x=>.bl (t x))]=some (.bl (l.all t)):=by
 have key:∀ l:List D,qx (l.map fun x=>.bl (t x))=some (l.map t):=by
  intro l
  induction l with
  | nil=>rfl
  | cons a r ih=>simp only[W3z,qx,ih];rfl
 show(qx (l.map fun x=>.bl (t x))).bind (fun bs=>some (D.bl (bs.all id)))=_;rw[key,J2z,List.all_map];rfl
theorem jX{f:D->Rho->Option Fl}{ok:D->Bool}{P:Rho->Prop}{r:D}:∀ {l:List D} {ρ:Rho},P ρ->(∀ x∈l,∀ ρ,P ρ->(ok x=true->∃ ρ',P ρ'/\f x ρ=some (.nxt ρ'))/\(ok x=false->f x ρ=some (.ret r))) ->
  (l.all ok=true->∃ ρ',P ρ'/\bV f l ρ=some (.nxt ρ'))/\(l.all ok=false->bV f l ρ=some (.ret r))
 | [],ρ,hP,_=>⟨fun _=>⟨ρ,hP,rfl⟩,fun h=>absurd h (by simp)⟩
 | x::l,ρ,hP,h=>by
  obtain⟨h1,h2⟩:=h x F1z ρ hP
  cases ho:ok x with
  | true =>
   obtain⟨ρ',hP',e⟩:=h1 ho;obtain⟨i1,i2⟩:=jX (l:=l) hP' fun y hy=>h y (Q0z _ hy);simp only[Y3z,ho,A4z];refine⟨fun q=>?_,fun q=>?_⟩
   ·obtain⟨ρ2,h3,h4⟩:=i1 q
    exact⟨ρ2,h3,by simp only[bV,e];exact h4⟩
   ·simp only[bV,e];exact i2 q
  | false =>
   simp only[Y3z,ho,K3z];refine⟨fun q=>absurd q (by decide),fun _=>?_⟩;simp only[bV,h2 ho];rfl
theorem pH{f:D->Rho->Option Fl}{R:List D->Rho}{whole:List D}(h:∀ pre x post,pre++x::post=whole->f x (R pre)=some (.nxt (R (pre++[x])))):∀ {l pre:List D},pre++l=whole->bV f l (R pre)=some (.nxt (R whole))
 | [],pre,e=>by rw[S2z] at e;rw[e];rfl
 | x::l,pre,e=>by
  simp only[bV,h pre x l e];exact pH h (l:=l) (pre:=pre++[x]) (by rw[T1z];exact e)
def Ig:List D->Sl
 | []=>.no
 | x::r=>.sh (r.getLastD x)
theorem u6:∀ (l:List D) (x:D),Ig (l++[x])=.sh x
 | [],x=>rfl
 | y::l,x=>by
  show Sl.sh ((l++[x]).getLastD y)=_;simp
theorem O8{x:D}(h:dep x<1000):isExc x=false:=by cases x<;>first | rfl | exact absurd h (by simp[dep])
def nOw:Sl->Bool
 | .ow _=>false
 | .oo _=>false
 | _=>true
def fG(ρ:Rho):Bool:=ρ.all fun p=>nOw p.2
theorem cU{F:Nat}{e:Expr}(h:fG ρ=true):frz F e ρ=ρ:=by
 unfold frz
 conv=>rhs;rw[<- T4z ρ]
 apply C1z;intro p hp;have:=M2z.mp h p hp;obtain⟨x,s⟩:=p
 cases s<;>first | rfl | simp[nOw] at this
theorem zH{x:Str}(h:fG ρ=true):kZ ρ x=true:=by
 unfold kZ;rw[M2z];intro p hp;have:=M2z.mp h p hp;obtain⟨y,s⟩:=p
 cases s<;>first | (simp[nOw] at this;done) | simp[Pj]
section
variable {cx:Cxt} {sc:Scope} {ρ:Rho} {c e:Expr} {p:Pos} {d:D} {nm:Str} {F m:Nat} {r:List Stmt} {fl:Fl}
theorem cSet(hc:fG ρ=true)(ho:(ownIn sc nm&&(ρ.map (·.1)).contains nm)=true)(h:ev cx F sc ρ e=some d)(k:blk cx F (m+1) sc r (cL ρ nm (kJ e d))=some fl)(hoo:(ooE cx sc e&&jP ρ nm)=false:=by rfl)(hle:xW cx sc e=false:=by rfl)(hrd:rdA e=false:=by rfl):blk cx F (m+1) sc (.Assign [.Name nm px] e p::r) ρ=some fl:=by
 refine iw ho (by rw[cU hc];exact h) ?_ (by rw[cU hc];exact hoo) (by rw[cU hc,zH hc];simp) hle hrd
 rw[cU hc];exact k
theorem oY(h:aX e=false):ooE cx sc e=false:=by
 cases e<;>first | rfl | exact absurd h (by simp[aX])
theorem oJ(h:aX e=false):kJ e d=.sh d:=by
 unfold kJ;split
 ·rw[h];rfl
 ·rfl
theorem eH(hf:frz F e ρ=ρ')(ho:(ownIn sc nm&&(ρ.map (·.1)).contains nm)=true)(hfr:aX e=false)(h:ev cx F sc ρ' e=some d)(k:blk cx F (m+1) sc r (cL ρ' nm (.sh d))=some fl)(hle:xW cx sc e=false:=by rfl)(hrd:rdA e=false:=by rfl):blk cx F (m+1) sc (.Assign [.Name nm px] e p::r) ρ=some fl:=by
 refine iw ho (by rw[hf];exact h) ?_ (by rw[oY hfr];rfl) (by rw[hfr];rfl) hle hrd
 rw[hf,oJ hfr];exact k
theorem m8{y:Str}{s:Sl}:frz F e ((y,s)::ρ)=(match s with | .ow ds=>if dX F y e then(y,.sh (.lst ds)) else(y,.ow ds) | .oo dss=>if dX F y e then(y,.sh (.lst (dss.map .lst))) else(y,.oo dss) | s=>(y,s))::frz F e ρ:=by
 cases s<;>rfl
theorem Ci{y:Str}{s:Sl}(h:nOw s=true):frz F e ((y,s)::ρ)=(y,s)::frz F e ρ:=by
 cases s<;>first | rfl | simp[nOw] at h
theorem Iv{y:Str}(h:dX F y e=true):frz F e ((y,.ow ds)::ρ)=(y,.sh (.lst ds))::frz F e ρ:=by
 show(if dX F y e=true then _ else _)::_=_;rw[K5z h];rfl
theorem pU(hc:fG ρ=true)(ho:(ownIn sc nm&&(ρ.map (·.1)).contains nm)=true)(hfr:aX e=false)(h:ev cx F sc ρ e=some d)(k:blk cx F (m+1) sc r (cL ρ nm (.sh d))=some fl)(hle:xW cx sc e=false:=by rfl)(hrd:rdA e=false:=by rfl):blk cx F (m+1) sc (.Assign [.Name nm px] e p::r) ρ=some fl:=cSet hc ho h (by rw[oJ hfr];exact k) (by rw[oY hfr];rfl) hle hrd
theorem JR{A B:List Stmt}(hc:fG ρ=true)(h:ev cx F sc ρ c=some (.bl true))(k:blk cx F m sc A ρ=some fl1)(k2:qC cx F (m+1) sc r fl1=some fl):blk cx F (m+1) sc (.If c A B p::r) ρ=some fl:=m7 (by rw[cU hc];exact h) k k2
theorem cIfF{A B:List Stmt}(hc:fG ρ=true)(h:ev cx F sc ρ c=some (.bl false))(k:blk cx F m sc B ρ=some fl1)(k2:qC cx F (m+1) sc r fl1=some fl):blk cx F (m+1) sc (.If c A B p::r) ρ=some fl:=Ny (by rw[cU hc];exact h) k k2
theorem ux(hc:fG ρ=true)(h:ev cx F sc ρ c=some (.bl false))(k:blk cx F (m+1) sc r ρ=some fl):blk cx F (m+1) sc (.If c A [] p::r) ρ=some fl:=cIfF hc h cT k
theorem CW(hc:fG ρ=true)(h:ev cx F sc ρ e=some d):blk cx F (m+1) sc (.Return (some e) p::r) ρ=some (.ret d):=bN (by rw[cU hc];exact h)
end
theorem J3{cx:Cxt}{n:Nat}{a b c:Expr}{p:Pos}(h1:ev cx n sc ρ c=some (.bl true))(h:evx cx n sc ρ a=some cn/\ev cx n sc ρ a=none):evx cx (n+1) sc ρ (.IfExp c a b p)=some cn/\ev cx (n+1) sc ρ (.IfExp c a b p)=none:=by
 constructor
 ·simp only[evx,h1,J2z,asB,h.1]
 ·simp only[ev,h1,bind,J2z,asB,J5z,h.2]
theorem J5{cx:Cxt}{n:Nat}{a b c:Expr}{p:Pos}(h1:ev cx n sc ρ c=some (.bl false))(h:evx cx n sc ρ b=some cn/\ev cx n sc ρ b=none):evx cx (n+1) sc ρ (.IfExp c a b p)=some cn/\ev cx (n+1) sc ρ (.IfExp c a b p)=none:=by
 constructor
 ·simp only[evx,h1,J2z,asB,h.1]
 ·simp only[ev,h1,bind,J2z,asB,L1z,H5z,h.2]
theorem Px{cx:Cxt}{F m:Nat}{e:Expr}{p:Pos}{r:List Stmt}{d:D}(hx:n8 e=true)(h:ev cx F sc (frz F e ρ) e=some d)(h2:Ag cx F (m+1) sc r (frz F e ρ) cn):Ag cx F (m+1) sc (.Expr e p::r) ρ cn:=by
 refine CZ ?_ h2;unfold n8 at hx;split at hx
 ·simp only[st,h,X2z]
 ·cases hx
theorem JX{cx:Cxt}{F m:Nat}{e:Expr}{p:Pos}{r:List Stmt}(hx:n8 e=true)(h:evx cx F sc (frz F e ρ) e=some cn/\ev cx F sc (frz F e ρ) e=none):Ag cx F (m+1) sc (.Expr e p::r) ρ cn:=Pu hx h.2 h.1
def RXs(cx:Cxt)(F m:Nat)(sc:Scope)(s:Stmt)(ρ:Rho)(c:Str)(ρ':Rho):Prop:=st cx F m sc ρ s=none/\st { cx with rs:=false } F m sc ρ s=none/\stx { cx with rs:=false } F m sc ρ s=some (c,ρ')
theorem KQ{cx:Cxt}{F m:Nat}{e:Expr}{p px:Pos}{nm c:Str}(hc:fG ρ=true)(hfr:aX e=false)(h:ev cx F sc ρ e=none)(h2:evx { cx with rs:=false } F sc ρ e=some c/\ev { cx with rs:=false } F sc ρ e=none):RXs cx F (m+1) sc (.Assign [.Name nm px] e p) ρ c ρ:=by
 refine⟨?_,?_,?_⟩
 ·simp only[st,cU hc,h,E3z,N2z,ite_self]
 ·simp only[st,cU hc,h2.2,E3z,N2z,ite_self]
 ·simp only[stx,cU hc,hfr,L1z,H5z,h2.1,X2z]
theorem XQ{cx:Cxt}{F m:Nat}{sc:Scope}{ρ ρ':Rho}{p:Pos}{s:Stmt}{r o f:List Stmt}{hs:List ExceptHandler}{t e1 kn c':Str}{fl:Fl}(ht:uK hs o f=some (t,e1,kn))(h:RXs cx F m sc s ρ c' ρ')
  (hc:(mZ cx sc t&&t==cx.top&&cx.exs.contains c'&&e1 !=kn&&aA e1&&sc.names.lookup e1==some .local&&sc.names.lookup kn==some .local&&(ρ.map (·.1)).contains e1&&(ρ.map (·.1)).contains kn&&aA t)=true)
  (k:blk cx F (m+1) sc r (cL (cL ρ' kn (.sh (.exc c'))) e1 .no)=some fl):blk cx F (m+1) sc (.Try [s] hs o f p::r) ρ=some fl:=by
 obtain⟨k1,k2,k3⟩:=h;refine XM ht ?_ ?_ hc k
 ·simp only[jo,k1,bind,N2z]
 ·simp only[gQ,k1,k3]
theorem YM{d:D}(h:dep d<=50):cmpop .NotEq d d=some (.bl false):=by
 rw[oNe h h,yZ d (by omega)];rfl
theorem JM{cx:Cxt}{p:Pos}{F m:Nat}{r A:List Stmt}{c:Expr}(hf:frz F c ρ=ρ')(h:ev cx F sc ρ' c=some (.bl false))(k:blk cx F (m+1) sc r ρ=some fl):blk cx F (m+1) sc (.If c A [] p::r) ρ=some fl:=lu (hf▸h) k
theorem vg{cx:Cxt}{p:Pos}{F m:Nat}{r A B:List Stmt}{c:Expr}(hf:frz F c ρ=ρ')(h:ev cx F sc ρ' c=some (.bl true))(k:blk cx F m sc A ρ=some (.nxt ρ2))(k2:blk cx F (m+1) sc r ρ2=some fl):blk cx F (m+1) sc (.If c A B p::r) ρ=some fl:=m7 (fl1:=.nxt ρ2) (hf▸h) k k2
def asV:Stmt->Expr
 | .Assign _ e _=>e
 | _=>.Name "" ⟨0,0,0,0⟩
def ifX:Stmt->Expr
 | .If c _ _ _=>c
 | _=>.Name "" ⟨0,0,0,0⟩
def ifS:Stmt->List Stmt
 | .If _ A _ _=>A
 | _=>[]
theorem j7{α:Type}{f:D->Option (Option D)}{h g:α->D}:∀ {l:List α},(∀ x∈l,f (h x)=some (some (g x)))->bH f (l.map h)=some (l.map g)
 | [],_=>rfl
 | x::l,q=>by
  simp only[W3z,bH,q x F1z,bind,J2z,j7 (l:=l) fun y hy=>q y (Q0z _ hy),X2z]
theorem nH{f:D->Option (Option D)}{t:D->Bool}(h:∀ x∈l,f x=some (if t x then some x else none)):bH f l=some (l.filter t):=by
 have:=iB (g:=fun x=>x) h
 rwa [List.map_id'] at this
theorem yI{cx:Cxt}{e:Expr}{p:Pos}{d:D}{F m:Nat}{r:List Stmt}{dss:List (List D)}{j1 j2:Int}{n1 n2:Nat}(f1:frz F e ρ=ρ1)(f2:frz F i1 ρ=ρ2)(f3:frz F i2 ρ=ρ3)(hx:ρ.lookup nm=some (.oo dss))(ho:(ownIn sc nm&&aA nm && !aX e)=true)(h:ev cx F sc ρ1 e=some d)(h1:ev cx F sc ρ2 i1=some (.int j1))(h2:ixD dss.length j1=some n1)(h3:dss[n1]?=some ds)(h4:ev cx F sc ρ3 i2=some (.int j2))(h5:ixD ds.length j2=some n2)(h6:dZ d=true)(k:blk cx F (m+1) sc r (cL ρ nm (.oo (dss.set n1 (ds.set n2 d))))=some fl):blk cx F (m+1) sc (.Assign [.Subscript (.Subscript (.Name nm px) i1 tp) i2 tp2] e p::r) ρ=some fl:=by
 subst f1 f2 f3;exact XS hx ho h h1 h2 h3 h4 h5 h6 k
abbrev lss(m n:Nat)(f:Nat->Nat->Int):List (List D):=Ls m fun i=>Ls n fun j=>.int (f i j)
theorem gG{n i:Nat}(h:i<n):ixD n (i:Int)=some i:=by
 unfold ixD;rw[K5z (by omega),K5z (by omega)];simp
theorem qe{α:Type}{m i:Nat}{h:Nat->α}{x:α}:(Ls m h).set i x=Ls m fun j=>if j=i then x else h j:=by
 apply List.ext_getElem?;intro j;rw[List.getElem?_set]
 by_cases hj:j<m
 ·rw[cB (h:=fun j=>if j=i then x else h j) hj]
  by_cases e:i=j
  ·subst e;simp[aR,hj]
  ·rw[L5z e,cB hj,L5z (fun q=>e q.symm)]
 ·by_cases e:i=j
  ·subst e;simp[aR,hj]
  ·rw[L5z e,List.getElem?_eq_none (by rw[aR];omega),List.getElem?_eq_none (by rw[aR];omega)]
def upd(f:Nat->Nat->Int)(a b:Nat)(v:Int):Nat->Nat->Int:=fun i j=>if i=a then(if j=b then v else f i j) else f i j
theorem xX{m n a b:Nat}{f:Nat->Nat->Int}{v:Int}(ha:a<m):(lss m n f).set a ((Ls n fun j=>D.int (f a j)).set b (.int v))=lss m n (upd f a b v):=by
 rw[qe,qe];refine dj fun i hi=>?_;unfold upd
 by_cases e:i=a
 ·subst e
  rw[K5z rfl];refine dj fun j hj=>?_;simp only[J5z]
  split<;>rfl
 ·simp only[e,H5z]
theorem tH(l:List (List D)):Ae (l.map D.lst)=some l:=by
 induction l with
 | nil=>rfl
 | cons a r ih=>simp only[W3z,Ae,ih,X2z]
theorem pA{m n:Nat}{f:Nat->Nat->Int}:xU (.lst (Ls m fun i=>.lst (Ls n fun j=>.int (f i j))))=some (lss m n f):=by
 show Ae (Ls m fun i=>D.lst (Ls n fun j=>.int (f i j)))=_;rw[<- lU (h:=fun i=>Ls n fun j=>D.int (f i j)) (f:=D.lst),tH]
theorem Iu{F:Nat}{e:Expr}{y:Str}{ρ ρ':Rho}{dss:List (List D)}(h:dX F y e=false)(q:frz F e ρ=ρ'):frz F e ((y,.oo dss)::ρ)=(y,.oo dss)::ρ':=by
 rw[m8,q];simp only[h,L1z,H5z]
theorem NK{F:Nat}{e:Expr}{y:Str}{ρ ρ':Rho}{dss:List (List D)}(h:dX F y e=true)(q:frz F e ρ=ρ'):frz F e ((y,.oo dss)::ρ)=(y,.sh (.lst (dss.map .lst)))::ρ':=by
 rw[m8,q];simp only[h,J5z]
theorem dD{x y:Str}{s:Sl}(h:nOw s=true)(q:jP ρ x=true):jP ((y,s)::ρ) x=true:=by
 unfold jP at q ⊢;rw[Y3z,q,C4z]
 cases s<;>first | (simp[nOw] at h;done) | simp[vD]
theorem dsm{n:Nat}{f:Nat->Nat->Int}{m:Nat}:(lss m n f).map D.lst=Ls m fun i=>.lst (Ls n fun j=>.int (f i j)):=lU
theorem Pz{cx:Cxt}{n:Nat}{p:Pos}(h:ev cx n sc ρ a=none):ev cx (n+1) sc ρ (.UnaryOp .Not a p)=none:=by
 simp only[ev,h];rfl
theorem PJ{cx:Cxt}{F m:Nat}{f:Expr}{as:List Expr}{ks:List Keyword}{p1 p2 p:Pos}{A B:List Stmt}{r:List Stmt}(h:evx cx (F+1) sc (frz (F+2) (.UnaryOp .Not (.Call f as ks p1) p2) ρ) (.Call f as ks p1)=some cn/\ev cx (F+1) sc (frz (F+2) (.UnaryOp .Not (.Call f as ks p1) p2) ρ) (.Call f as ks p1)=none)(h':evx cx (F+2) sc (frz (F+2) (.UnaryOp .Not (.Call f as ks p1) p2) ρ) (.Call f as ks p1)=some cn):Ag cx (F+2) (m+1) sc (.If (.UnaryOp .Not (.Call f as ks p1) p2) A B p::r) ρ cn:=by
 have e0:ev cx (F+2) sc (frz (F+2) (.UnaryOp .Not (.Call f as ks p1) p2) ρ) (.UnaryOp .Not (.Call f as ks p1) p2)=none:=Pz h.2;refine nT (ρ1:=frz (F+2) (.UnaryOp .Not (.Call f as ks p1) p2) ρ) ?_ ?_
 ·simp only[st,e0,bind,N2z]
 ·simp only[stx,e0,N2z,qR,h',X2z]
theorem aaP{cx:Cxt}{e:Expr}{p q:Pos}{d:D}{F m j:Nat}{r:List Stmt}{es:List Expr}(hc:fG ρ=true)(hs:(swp sc es e).isSome=true)(h:ev cx F sc ρ e=some d)(hl:items d=some l)(hb:bindNames sc es l ρ=some ρ')(k:blk cx F (m+1) sc r ρ'=some fl):blk cx F (m+1) sc (.Assign [.Tuple es j q] e p::r) ρ=some fl:=gTup hs (by rw[cU hc];exact h) hl (by rw[cU hc];exact hb) k
theorem NP{F:Nat}{e:Expr}{y:Str}{ρ ρ':Rho}{m n:Nat}{f:Nat->Nat->Int}(h:dX F y e=true)(q:frz F e ρ=ρ'):frz F e ((y,.oo (lss m n f))::ρ)=(y,.sh (.lst (Ls m fun i=>.lst (Ls n fun j=>.int (f i j)))))::ρ':=by rw[NK h q,dsm]
theorem Ft{a b:Bool}(ha:a=true)(hb:b=true):(a&&b)=true:=by rw[ha,hb];rfl
theorem Pa{p:Nat}:blt "max" [.int 0,.int ((p:Int)-1)]=some (.int ((p-1:Nat):Int)):=by
 show some (D.int (if(p:Int)-1>0 then(p:Int)-1 else 0))=_;congr 2
 split<;>omega
def qg(u d:Int):Prop:=0<d/\Int.gcd u d=1
def gc(u d:Int):Int:=(Int.gcd u d:Int)
def uZ(u d:Int):Int:=if d<0 then -(u / gc u d) else u / gc u d
def u0(u d:Int):Int:=if d<0 then -(d / gc u d) else d / gc u d
abbrev frD(u d:Int):D:=.tup [.int u,.int d]
abbrev loD(u d:Int):D:=frD (uZ u d) (u0 u d)
theorem pF{u d:Int}(h:d≠0):0<gc u d:=by
 have:=Int.gcd_pos_of_ne_zero_right u h;unfold gc;omega
theorem Np{u d:Int}:gc u d ∣ u:=Int.gcd_dvd_left u d
theorem Nr{u d:Int}:gc u d ∣ d:=Int.gcd_dvd_right u d
theorem aaG{u d:Int}:gc u d*(u / gc u d)=u:=Int.mul_ediv_cancel' (Int.gcd_dvd_left u d)
theorem XJ{u d:Int}:gc u d*(d / gc u d)=d:=Int.mul_ediv_cancel' (Int.gcd_dvd_right u d)
theorem MN{u d:Int}(h:d≠0):qg (uZ u d) (u0 u d):=by
 have g0:=pF (u:=u) h;have g1:Int.gcd (u / gc u d) (d / gc u d)=1:=Int.gcd_ediv_gcd_ediv_gcd (by unfold gc at g0;omega);have e:=XJ (u:=u) (d:=d);unfold qg uZ u0
 by_cases q:d<0
 ·simp only[q,J5z,Int.neg_gcd,Int.gcd_neg]
  refine⟨?_,g1⟩
  have:d / gc u d<0:=by
   apply Classical.byContradiction;intro hn;have:=Int.mul_nonneg (show 0<=gc u d by omega) (show 0<=d / gc u d by omega);omega
  omega
 ·simp only[q,H5z]
  refine⟨?_,g1⟩;apply Classical.byContradiction;intro hn;have:=Int.mul_nonneg (show 0<=gc u d by omega) (show 0 <= -(d / gc u d) by omega);rw[Int.mul_neg,e] at this;omega
theorem MP{u d:Int}(h:d≠0):uZ u d*d=u*u0 u d:=by
 have g0:=pF (u:=u) h;have a:=aaG (u:=u) (d:=d);have b:=XJ (u:=u) (d:=d)
 have key:∀ g x y:Int,g*x=u->g*y=d->x*d=u*y:=fun g x y h1 h2=>by rw[<- h1,<- h2];grind
 have k:=key _ _ _ a b;unfold uZ u0;split
 ·rw[Int.neg_mul,k,Int.mul_neg]
 ·exact k
theorem MF{u d v e:Int}(h1:qg u d)(h2:qg v e)(q:u*e=v*d):u=v/\d=e:=by
 obtain⟨d0,g1⟩:=h1;obtain⟨e0,g2⟩:=h2
 have a:d ∣ e:=by
  have z:Int.gcd d (u*e)=Int.gcd d e:=Int.gcd_mul_right_right_of_gcd_eq_one (by rw[Int.gcd_comm];exact g1)
  have w:d ∣ u*e:=⟨v,by rw[q];exact Int.mul_comm _ _⟩
  rw[Int.gcd_eq_natAbs_left w] at z;exact Int.gcd_eq_natAbs_left_iff_dvd.mp z.symm
 have b:e ∣ d:=by
  have z:Int.gcd e (v*d)=Int.gcd e d:=Int.gcd_mul_right_right_of_gcd_eq_one (by rw[Int.gcd_comm];exact g2)
  have w:e ∣ v*d:=⟨u,by rw[<- q];exact Int.mul_comm _ _⟩
  rw[Int.gcd_eq_natAbs_left w] at z;exact Int.gcd_eq_natAbs_left_iff_dvd.mp z.symm
 have de:d=e:=by
  have h1:=Int.le_of_dvd e0 a;have h2:=Int.le_of_dvd d0 b;omega
 subst de;refine⟨?_,rfl⟩;exact Int.eq_of_mul_eq_mul_right (by omega) q
theorem MJ{u d v e:Int}(h:d≠0)(hv:qg v e)(q:u*e=v*d):uZ u d=v/\u0 u d=e:=by
 refine MF (MN h) hv ?_;have:=MP (u:=u) h;have g:=pF (u:=u) h;refine Int.eq_of_mul_eq_mul_right h ?_;grind
theorem MK{u d:Int}(h:d≠0):(uZ u d).natAbs<=u.natAbs/\(u0 u d).natAbs<=d.natAbs:=by
 have g0:=pF (u:=u) h;have a:=aaG (u:=u) (d:=d);have b:=XJ (u:=u) (d:=d)
 have key:∀ x y:Int,gc u d*x=y->x.natAbs<=y.natAbs:=fun x y e=>by
  rw[<- e,P3z];exact M0z _ (by omega)
 have k1:=key _ _ a;have k2:=key _ _ b;unfold uZ u0;split
 ·rw[Q3z,Q3z];exact⟨k1,k2⟩
 ·exact⟨k1,k2⟩
theorem fdiv_neg{x g:Int}(hg:g≠0)(h:g ∣ x):x.fdiv (-g)=-(x / g):=by
 obtain⟨y,rfl⟩:=h;rw[Int.mul_ediv_cancel_left _ hg,show g*y=-g * -y by grind,Int.mul_fdiv_cancel_left _ (by omega)]
theorem nj{x g:Int}(hg:0<g):x.fdiv g=x / g:=Int.fdiv_eq_ediv_of_nonneg x (by omega)
theorem Ca{a b:Int}:Int.gcd b (a.fmod b)=Int.gcd a b:=by
 have e:=Int.fmod_def a b
 have h:a.fmod b=a+b*(-(a.fdiv b)):=by rw[e];grind
 rw[h,Int.gcd_add_mul_left_right,Int.gcd_comm]
theorem IK{a b:Int}(h:b≠0):(a.fmod b).natAbs<b.natAbs:=by
 by_cases q:0<b
 ·have h1:=Int.fmod_nonneg_of_pos a q
  have h2:=Int.fmod_lt_of_pos a q;omega
 ·have e:(-a).fmod (-b)=-(a.fmod b):=by simp
  have h1:=Int.fmod_nonneg_of_pos (-a) (b := -b) (by omega);have h2:=Int.fmod_lt_of_pos (-a) (b := -b) (by omega);omega
theorem Yo{i j:Int}(h:j≠0):binop .Mod (.int i) (.int j)=some (.int (i.fmod j)):=by
 show(if decide (0<j)=true then _ else _)=_
 by_cases q:0<j
 ·rw[K5z (L3z q),Int.fmod_eq_emod_of_nonneg i (by omega)]
 ·rw[L5z (by simpa using q),K5z (L3z h)]
theorem Dd{i j:Int}(h:j≠0)(h':j.natAbs.log2<9000):binop .FloorDiv (.int i) (.int j)=some (.int (i.fdiv j)):=by
 show(if(decide (0<j)&&decide (j<1073741824))=true then _ else _)=_
 by_cases q:0<j/\j<1073741824
 ·rw[K5z (by rw[L3z q.1,L3z q.2];rfl),nj q.1]
 ·rw[L5z (by rw[D2z,W1z,W1z];exact q),K5z (by rw[L3z h,L3z h'];rfl)]
abbrev qD(q:Rat):D:=frD q.num (q.den:Int)
theorem QX(q:Rat):0<(q.den:Int):=by have:=q.den_nz;omega
theorem Gy(q:Rat):qg q.num (q.den:Int):=⟨QX q,q.reduced⟩
theorem jt(q:Rat):(q.num:Rat)=q*(q.den:Rat):=by
 have h:(q.num:Rat) / (q.den:Rat)=q:=by rw[<- Rat.mkRat_eq_div,Rat.mkRat_self]
 have:(q.den:Rat)≠0:=by
  intro e;have:=q.den_nz;have e2:(q.den:Rat)=((0:Nat):Rat):=e;exact this (Rat.natCast_inj.mp e2)
 grind
theorem gU(q:Rat):(q.den:Rat)≠0:=by
 intro e;have e2:(q.den:Rat)=((0:Nat):Rat):=e;exact q.den_nz (Rat.natCast_inj.mp e2)
theorem i_ne{d:Int}(h:d≠0):(d:Rat)≠0:=by
 intro e;have e2:(d:Rat)=((0:Int):Rat):=e;exact h (Rat.intCast_inj.mp e2)
theorem JK{u d:Int}(h:d≠0):loD u d=qD ((u:Rat) / (d:Rat)):=by
 have hd:=i_ne h;have e:=jt ((u:Rat) / (d:Rat))
 have key:u*(((u:Rat) / (d:Rat)).den:Int)=((u:Rat) / (d:Rat)).num*d:=by
  apply Rat.intCast_inj.mp;rw[F3z,F3z,e];show(u:Rat)*((((u:Rat) / (d:Rat)).den:Nat):Rat)=_;grind
 obtain⟨a,b⟩:=MJ h (Gy _) key;show frD (uZ u d) (u0 u d)=frD _ _;rw[a,b]
def Qb(D B:Nat)(q:Rat):Prop:=∃ x:Int,q*(D:Rat)=(x:Rat)/\x.natAbs<=B
theorem Qb.num{D B:Nat}{q:Rat}(hD:0<D)(h:Qb D B q):q.num.natAbs<=B/\q.den<=D:=by
 obtain⟨x,h1,h2⟩:=h;have e:=jt q
 have key:q.num*(D:Int)=x*(q.den:Int):=by
  apply Rat.intCast_inj.mp;rw[F3z,F3z,e,<- h1];show q*(q.den:Rat)*(D:Rat)=q*(D:Rat)*(q.den:Rat);grind
 have k2:q.num.natAbs*D=x.natAbs*q.den:=by
  have:=congrArg Int.natAbs key;rw[P3z,P3z] at this;simpa using this
 have dv:q.den ∣ D:=by
  have:q.den ∣ q.num.natAbs*D:=⟨x.natAbs,by rw[k2,L4z]⟩;exact(Nat.Coprime.symm q.reduced).dvd_of_dvd_mul_left this
 obtain⟨c,rfl⟩:=dv
 have c0:0<c:=by
  rcases O1z c with e | e
  ·rw[e] at hD;omega
  ·exact e
 have dp:0<q.den:=Nat.pos_of_ne_zero q.den_nz;refine⟨?_,I0z _ c0⟩
 have k3:q.num.natAbs*c=x.natAbs:=by
  have:q.den*(q.num.natAbs*c)=q.den*x.natAbs:=by
   rw[<- Nat.mul_assoc,L4z q.den q.num.natAbs,Nat.mul_assoc,k2,L4z]
  exact Nat.eq_of_mul_eq_mul_left dp this
 have:=I0z q.num.natAbs c0;omega
theorem Qb.add{D B C:Nat}{p q:Rat}(h:Qb D B p)(k:Qb D C q):Qb D (B+C) (p+q):=by
 obtain⟨x,h1,h2⟩:=h;obtain⟨y,k1,k2⟩:=k;refine⟨x+y,?_,by omega⟩;rw[G3z,<- h1,<- k1];grind
theorem Qb.mul{D E B C:Nat}{p q:Rat}(h:Qb D B p)(k:Qb E C q):Qb (D*E) (B*C) (p*q):=by
 obtain⟨x,h1,h2⟩:=h;obtain⟨y,k1,k2⟩:=k;refine⟨x*y,?_,by rw[P3z];exact R3z h2 k2⟩;rw[F3z,<- h1,<- k1,Rat.natCast_mul];grind
theorem Qb.up{D B C:Nat}{p:Rat}(h:Qb D B p)(hc:B<=C):Qb D C p:=let ⟨x,h1,h2⟩:=h;⟨x,h1,F4z h2 hc⟩
theorem Qb.zero{D:Nat}:Qb D 0 0:=⟨0,by grind,by decide⟩
theorem Qb.one{D:Nat}:Qb D D 1:=⟨(D:Int),by show(1:Rat)*(D:Rat)=(D:Rat);grind,by simp⟩
def KB:Nat:=2^4400
def Sq(q:Rat):Prop:=q.num.natAbs<=KB/\q.den<=KB
theorem Qb.sq{D B:Nat}{q:Rat}(h:Qb D B q)(hD:0<D)(h1:D<=KB)(h2:B<=KB):Sq q:=by
 have:=h.num hD;exact⟨by omega,by omega⟩
def cN:Nat->(Nat->Rat)->Rat
 | 0,_=>0
 | n+1,g=>cN n g+g n
def mulQ(n:Nat)(F G:Nat->Nat->Rat):Nat->Nat->Rat:=fun i j=>cN n fun l=>F i l*G l j
theorem wA{D B:Nat}{g:Nat->Rat}:∀ {n:Nat},(∀ i,i<n->Qb D B (g i))->Qb D (n*B) (cN n g)
 | 0,_=>by rw[Nat.zero_mul];exact Qb.zero
 | n+1,h=>by
  rw[J4z];exact(wA fun i hi=>h i (by omega)).add (h n (by omega))
theorem Kp{a b:Rat}:((a.num*(b.den:Int)+b.num*(a.den:Int):Int):Rat) / (((a.den:Int)*(b.den:Int):Int):Rat)=a+b:=by
 rw[G3z,F3z,F3z,F3z,jt a,jt b];show(a*(a.den:Rat)*(b.den:Rat)+b*(b.den:Rat)*(a.den:Rat)) / ((a.den:Rat)*(b.den:Rat))=a+b;have:=gU a;have:=gU b;grind
theorem DQ{a b:Rat}:((a.num*b.num:Int):Rat) / (((a.den:Int)*(b.den:Int):Int):Rat)=a*b:=by
 rw[F3z,F3z,jt a,jt b];show(a*(a.den:Rat)*(b*(b.den:Rat))) / ((a.den:Rat)*(b.den:Rat))=a*b;have:=gU a;have:=gU b;grind
theorem yd{a b:Rat}:((a.num*(b.den:Int)-b.num*(a.den:Int):Int):Rat) / (((a.den:Int)*(b.den:Int):Int):Rat)=a-b:=by
 rw[H3z,F3z,F3z,F3z,jt a,jt b];show(a*(a.den:Rat)*(b.den:Rat)-b*(b.den:Rat)*(a.den:Rat)) / ((a.den:Rat)*(b.den:Rat))=a-b;have:=gU a;have:=gU b;grind
theorem o8{b:Rat}(h:b≠0):b.num≠0:=fun e=>h (by
 have:=jt b;rw[e] at this;have h0:=gU b;have:(0:Rat)=b*(b.den:Rat):=this
 grind)
theorem Er{a b:Rat}(hb:b≠0):((a.num*(b.den:Int):Int):Rat) / (((a.den:Int)*b.num:Int):Rat)=a / b:=by
 rw[F3z,F3z,jt a,jt b];show(a*(a.den:Rat)*(b.den:Rat)) / ((a.den:Rat)*(b*(b.den:Rat)))=a / b;have:=gU a;have:=gU b;grind
theorem DP{q:Rat}(h:0<=q):0<=q.num:=Rat.num_nonneg.mpr h
theorem Xj{q:Rat}(h:0<q):0<q.num:=by
 have:=DP (N4z h);have h2:=o8 (b:=q) (by intro e;rw[e] at h;exact absurd h (by decide));omega
section
variable {cx:Cxt} {sc:Scope} {ρ ρ' ρ2:Rho} {e:Expr} {p:Pos} {d:D} {nm:Str} {F m:Nat} {r:List Stmt} {fl:Fl} {ds:List D}
theorem aO{y:Str}{s:Sl}(h:nOw s=true)(r:fG ρ=true):fG ((y,s)::ρ)=true:=by
 unfold fG at r ⊢;rw[Y3z,h,r];rfl
theorem lA{tg iter:Expr}(hf:frz F iter ρ=ρ')(hI:evI cx (fO tg) (ev cx F sc ρ') sc iter=some l)(hgo:bV (fF cx F m sc tg body) l ρ'=some (.nxt ρ2))(k2:blk cx F (m+1) sc r ρ2=some fl):blk cx F (m+1) sc (.For tg iter body [] p::r) ρ=some fl:=by
 subst hf;exact gFor hI hgo k2
theorem yK(hf:frz F e ρ=ρ')(ho:(ownIn sc nm&&(ρ.map (·.1)).contains nm)=true)(h:ev cx F sc ρ' e=some d)(k:blk cx F (m+1) sc r (cL ρ' nm (kJ e d))=some fl)(hoo:(ooE cx sc e&&jP ρ' nm)=false:=by rfl)(hno:(aX e && !kZ ρ' nm)=false:=by rfl)(hle:xW cx sc e=false:=by rfl)(hrd:rdA e=false:=by rfl):blk cx F (m+1) sc (.Assign [.Name nm px] e p::r) ρ=some fl:=by
 subst hf;exact iw ho h k hoo hno hle hrd
theorem Ir(hf:frz F e ρ=ρ')(h:ev cx F sc ρ' e=some d):blk cx F (m+1) sc (.Return (some e) p::r) ρ=some (.ret d):=bN (by rw[hf];exact h)
theorem Cg{px ap cp:Pos}{M:Str}(hf:frz F e ρ=ρ')(hx:ρ'.lookup nm=some (.ow ds))(ho:(ownIn sc nm&&aA nm&&ap.endLine==cp.line)=true)(hM:(M=="append")=true)(hz:szl (ds.length+1)=true)(h:ev cx F sc ρ' e=some d)(k:blk cx F (m+1) sc r (cL ρ' nm (.ow (ds++[d])))=some fl):
  blk cx F (m+1) sc (.Expr (.Call (.Attribute (.Name nm px) M ap) [e] [] cp) p::r) ρ=some fl:=by
 subst hf;exact X7 hx ho hM hz h k
theorem kI{y:Str}(h:dX F y e=false)(q:frz F e ρ=ρ'):frz F e ((y,.ow ds)::ρ)=(y,.ow ds)::ρ':=by
 rw[m8,q];simp only[h,L1z,H5z]
theorem JN{y:Str}(h:dX F y e=true)(q:frz F e ρ=ρ'):frz F e ((y,.ow ds)::ρ)=(y,.sh (.lst ds))::ρ':=by rw[Iv h,q]
end
end DE
namespace M32
open PySem L2 DE
def top(i:Nat):Stmt:=PySem.Challenge.pw_minortables_k32_whole_taken_apart.main.body.getD i (.Pass ⟨0,0,0,0⟩)
def aH(t:Stmt):Fd:=⟨(eN t).args.map (·.arg),(eN t).args.map (·.arg)++(((bx t).names.filter fun p=>(p.2==.local||p.2==.cell) && !((eN t).args.map (·.arg)).contains p.1).map (·.1)),bx t,cu t⟩
def cs:List (Str×D):=[("MOST_LINES",.int 4),("UP",.str "up"),("DOWN",.str "down"),("SCALE",.str "scale"),("TURNED_WORDS",Pn [("up","down"),("down","up"),("scale","scale")])]
noncomputable def bl:List (Str×String):=[("len","len"),("all","all"),("sum","sum"),("tuple","tuple"),("list","list"),("min","min"),("max","max"),("abs","abs"),("int","int"),("bool","bool"),("isinstance","isinstance"),("range","range"),("zip","zip"),("enumerate","enumerate"),("reversed","reversed"),("sorted","sorted"),("ValueError","ValueError")]
def df:List (Str×Fd):=[(("is_whole":Str),aH (top 10)),(("is_whole_within":Str),aH (top 11)),(("is_short_tuple":Str),aH (top 12)),(("has_lines":Str),aH (top 13)),(("numbers_of":Str),aH (top 14)),(("has_table_form":Str),aH (top 15)),(("is_square":Str),aH (top 16)),(("is_place":Str),aH (top 17)),(("need_table":Str),aH (top 18)),(("need_square":Str),aH (top 19)),(("need_size":Str),aH (top 20)),(("common_measure":Str),aH (top 22)),(("lowest":Str),aH (top 23)),(("has_fraction_form":Str),aH (top 24)),(("is_fraction":Str),aH (top 25)),(("sum_of":Str),aH (top 26)),(("times_of":Str),aH (top 27)),(("less_of":Str),aH (top 28)),(("parted":Str),aH (top 29)),(("all_sum":Str),aH (top 30)),(("need_fraction_table":Str),aH (top 31)),(("row_as_fractions":Str),aH (top 32)),(("as_fractions":Str),aH (top 33)),(("column_of":Str),aH (top 35)),(("columns_of":Str),aH (top 36)),(("turned":Str),aH (top 37)),(("picked":Str),aH (top 38)),(("part_at":Str),aH (top 39)),(("plain_row":Str),aH (top 40)),(("plain":Str),aH (top 41)),(("without":Str),aH (top 43)),(("worth_of":Str),aH (top 44)),(("rest_worth":Str),aH (top 45)),(("signed_rest":Str),aH (top 46)),(("row_with_rests":Str),aH (top 47)),(("with_behind":Str),aH (top 48)),(("rising_tuples":Str),aH (top 49)),(("greatest_size":Str),aH (top 50)),(("minors_of_rows":Str),aH (top 51)),(("minors_of_size":Str),aH (top 52)),(("minors_in":Str),aH (top 53)),(("all_minors":Str),aH (top 54)),(("whole_minor":Str),aH (top 55)),(("none_below":Str),aH (top 57)),(("is_good":Str),aH (top 58)),(("is_step_of":Str),aH (top 64)),(("is_step":Str),aH (top 65)),(("need_steps":Str),aH (top 66)),(("row_by_column":Str),aH (top 67)),(("row_by_columns":Str),aH (top 68)),(("product_of":Str),aH (top 69)),(("table_of_step":Str),aH (top 70)),(("made_by":Str),aH (top 71)),(("turned_steps":Str),aH (top 72)),(("row_less":Str),aH (top 73)),(("down_steps":Str),aH (top 74)),(("corner_worth":Str),aH (top 75)),(("scale_steps":Str),aH (top 76)),(("can_be_taken_apart":Str),aH (top 77)),(("taken_apart":Str),aH (top 78)),(("_law_cell":Str),aH (top 80)),(("_law_pick":Str),aH (top 81)),(("_law_table":Str),aH (top 82)),(("_law_times":Str),aH (top 84)),(("_law_good_table":Str),aH (top 89)),(("_law_places":Str),aH (top 90)),(("_law_put":Str),aH (top 91)),(("_law_spoilt_thing":Str),aH (top 92)),(("_law_is_table":Str),aH (top 93)),(("_law_word":Str),aH (top 94)),(("_law_do":Str),aH (top 95)),(("law":Str),aH (top 96))]
noncomputable def xs:List Str:=["NoTable","NoFit","NoPlace","NoStep","NoSteps","NoText"]
def T:Pg:=⟨cs,bl,df,xs,"MinorError"⟩
def BnO(nm:Str)(t:Stmt):Prop:=∀ (kV doc pm:Value) (an:Option Addr) (cdv ct:Value) (us:List Value),us.length=(aH t).ps.length->bindArgs (PySem.W.fnOf nm nm (eN t) (cu t) (bx t) .none kV doc pm an cdv ct) ⟨us,[]⟩=pure ((aH t).ps.zip us)
def fsB(fd:Fd):Bool:=decide (fd.sc.kind=.function) && !fd.sc.isCoroutine && !fd.sc.isGenerator&&decide fd.N.Nodup&&decide (fd.N.take fd.ps.length=fd.ps)&&fd.ps.all (fun x=>decide (fd.sc.names.lookup x=some .local)||decide (fd.sc.names.lookup x=some .cell))&&fd.sc.names.all fun y=>decide (y.2≠.free)
theorem NQ{fd:Fd}(h:fsB fd=true):FnScope fd.N fd.ps fd.sc:=by
 unfold fsB at h;simp only[D2z,W1z,X1z,M2z,Z2z] at h;obtain⟨⟨⟨⟨⟨⟨h1,h2⟩,h3⟩,h4⟩,h5⟩,h6⟩,h7⟩:=h;exact⟨h1,h2,h3,h4,h5,h6,h7⟩
theorem aD{K:Z3}{h:Heap}{mg:Str->Option Value}{x nm:Str}{t:Stmt}(X:K.In h)(G:h.Ns mainGlobals mg)(f:Addr)(dc pm cd:Value)(hb:BnO nm t)(a:PySem.W.nsIn K mainGlobals x=some (some (.ref f)))
  (l:K.lookup f=some ⟨.type "function",none,.func (PySem.W.fnOf nm nm (eN t) (cu t) (bx t) .none .none dc pm none cd .none),#[]⟩) (c:(PySem.W.codeIn K cd nm&&PySem.W.keepIn K (.ref f)&&fsB (aH t) && !(x==("__debug__":Str)))=true):FunAt K mg x (aH t):=by
 simp only[D2z,X1z] at c;obtain⟨⟨⟨c,k⟩,hs⟩,hd⟩:=c;exact⟨⟨nm,t,f,_,B4z X G a,yL l c k,(yL l c k).binds hb,rfl,rfl⟩,NQ hs,hd⟩
theorem len1{us:List Value}(h:us.length=1):∃ a,us=[a]:=List.length_eq_one_iff.mp h
theorem len2{us:List Value}(h:us.length=2):∃ a b,us=[a,b]:=by cases us with | nil=>cases h | cons a r=>obtain⟨b,e⟩:=len1 (us:=r) (Nat.succ.inj h);exact⟨a,b,congrArg (List.cons a) e⟩
theorem yg{us:List Value}(h:us.length=3):∃ a b c,us=[a,b,c]:=by cases us with | nil=>cases h | cons a r=>obtain⟨b,c,e⟩:=len2 (us:=r) (Nat.succ.inj h);exact⟨a,b,c,congrArg (List.cons a) e⟩
theorem Xq{us:List Value}(h:us.length=4):∃ a b c d,us=[a,b,c,d]:=by cases us with | nil=>cases h | cons a r=>obtain⟨b,c,d,e⟩:=yg (us:=r) (Nat.succ.inj h);exact⟨a,b,c,d,congrArg (List.cons a) e⟩
theorem b10:BnO "is_whole" (top 10):=fun _ _ _ _ _ _ _ h=>by obtain⟨_,rfl⟩:=len1 h;rfl
theorem b11:BnO "is_whole_within" (top 11):=fun _ _ _ _ _ _ _ h=>by obtain⟨_,_,_,rfl⟩:=yg h;rfl
theorem b12:BnO "is_short_tuple" (top 12):=fun _ _ _ _ _ _ _ h=>by obtain⟨_,rfl⟩:=len1 h;rfl
theorem b13:BnO "has_lines" (top 13):=fun _ _ _ _ _ _ _ h=>by obtain⟨_,rfl⟩:=len1 h;rfl
theorem b14:BnO "numbers_of" (top 14):=fun _ _ _ _ _ _ _ h=>by obtain⟨_,rfl⟩:=len1 h;rfl
theorem b15:BnO "has_table_form" (top 15):=fun _ _ _ _ _ _ _ h=>by obtain⟨_,rfl⟩:=len1 h;rfl
theorem b16:BnO "is_square" (top 16):=fun _ _ _ _ _ _ _ h=>by obtain⟨_,rfl⟩:=len1 h;rfl
theorem b17:BnO "is_place" (top 17):=fun _ _ _ _ _ _ _ h=>by obtain⟨_,_,rfl⟩:=len2 h;rfl
theorem b18:BnO "need_table" (top 18):=fun _ _ _ _ _ _ _ h=>by obtain⟨_,rfl⟩:=len1 h;rfl
theorem b19:BnO "need_square" (top 19):=fun _ _ _ _ _ _ _ h=>by obtain⟨_,rfl⟩:=len1 h;rfl
theorem b20:BnO "need_size" (top 20):=fun _ _ _ _ _ _ _ h=>by obtain⟨_,_,rfl⟩:=len2 h;rfl
theorem b22:BnO "common_measure" (top 22):=fun _ _ _ _ _ _ _ h=>by obtain⟨_,_,rfl⟩:=len2 h;rfl
theorem b23:BnO "lowest" (top 23):=fun _ _ _ _ _ _ _ h=>by obtain⟨_,_,rfl⟩:=len2 h;rfl
theorem b24:BnO "has_fraction_form" (top 24):=fun _ _ _ _ _ _ _ h=>by obtain⟨_,rfl⟩:=len1 h;rfl
theorem b25:BnO "is_fraction" (top 25):=fun _ _ _ _ _ _ _ h=>by obtain⟨_,rfl⟩:=len1 h;rfl
theorem b26:BnO "sum_of" (top 26):=fun _ _ _ _ _ _ _ h=>by obtain⟨_,_,rfl⟩:=len2 h;rfl
theorem b27:BnO "times_of" (top 27):=fun _ _ _ _ _ _ _ h=>by obtain⟨_,_,rfl⟩:=len2 h;rfl
theorem b28:BnO "less_of" (top 28):=fun _ _ _ _ _ _ _ h=>by obtain⟨_,_,rfl⟩:=len2 h;rfl
theorem b29:BnO "parted" (top 29):=fun _ _ _ _ _ _ _ h=>by obtain⟨_,_,rfl⟩:=len2 h;rfl
theorem b30:BnO "all_sum" (top 30):=fun _ _ _ _ _ _ _ h=>by obtain⟨_,rfl⟩:=len1 h;rfl
theorem b31:BnO "need_fraction_table" (top 31):=fun _ _ _ _ _ _ _ h=>by obtain⟨_,rfl⟩:=len1 h;rfl
theorem b32:BnO "row_as_fractions" (top 32):=fun _ _ _ _ _ _ _ h=>by obtain⟨_,rfl⟩:=len1 h;rfl
theorem b33:BnO "as_fractions" (top 33):=fun _ _ _ _ _ _ _ h=>by obtain⟨_,rfl⟩:=len1 h;rfl
theorem b35:BnO "column_of" (top 35):=fun _ _ _ _ _ _ _ h=>by obtain⟨_,_,rfl⟩:=len2 h;rfl
theorem b36:BnO "columns_of" (top 36):=fun _ _ _ _ _ _ _ h=>by obtain⟨_,rfl⟩:=len1 h;rfl
theorem b37:BnO "turned" (top 37):=fun _ _ _ _ _ _ _ h=>by obtain⟨_,rfl⟩:=len1 h;rfl
theorem b38:BnO "picked" (top 38):=fun _ _ _ _ _ _ _ h=>by obtain⟨_,_,rfl⟩:=len2 h;rfl
theorem b39:BnO "part_at" (top 39):=fun _ _ _ _ _ _ _ h=>by obtain⟨_,_,_,rfl⟩:=yg h;rfl
theorem b40:BnO "plain_row" (top 40):=fun _ _ _ _ _ _ _ h=>by obtain⟨_,_,rfl⟩:=len2 h;rfl
theorem b41:BnO "plain" (top 41):=fun _ _ _ _ _ _ _ h=>by obtain⟨_,rfl⟩:=len1 h;rfl
theorem b43:BnO "without" (top 43):=fun _ _ _ _ _ _ _ h=>by obtain⟨_,_,_,rfl⟩:=yg h;rfl
theorem b44:BnO "worth_of" (top 44):=fun _ _ _ _ _ _ _ h=>by obtain⟨_,rfl⟩:=len1 h;rfl
theorem b45:BnO "rest_worth" (top 45):=fun _ _ _ _ _ _ _ h=>by obtain⟨_,_,_,rfl⟩:=yg h;rfl
theorem b46:BnO "signed_rest" (top 46):=fun _ _ _ _ _ _ _ h=>by obtain⟨_,_,_,rfl⟩:=yg h;rfl
theorem b47:BnO "row_with_rests" (top 47):=fun _ _ _ _ _ _ _ h=>by obtain⟨_,_,rfl⟩:=len2 h;rfl
theorem b48:BnO "with_behind" (top 48):=fun _ _ _ _ _ _ _ h=>by obtain⟨_,_,rfl⟩:=len2 h;rfl
theorem b49:BnO "rising_tuples" (top 49):=fun _ _ _ _ _ _ _ h=>by obtain⟨_,_,rfl⟩:=len2 h;rfl
theorem b50:BnO "greatest_size" (top 50):=fun _ _ _ _ _ _ _ h=>by obtain⟨_,rfl⟩:=len1 h;rfl
theorem b51:BnO "minors_of_rows" (top 51):=fun _ _ _ _ _ _ _ h=>by obtain⟨_,_,rfl⟩:=len2 h;rfl
theorem b52:BnO "minors_of_size" (top 52):=fun _ _ _ _ _ _ _ h=>by obtain⟨_,_,rfl⟩:=len2 h;rfl
theorem b53:BnO "minors_in" (top 53):=fun _ _ _ _ _ _ _ h=>by obtain⟨_,rfl⟩:=len1 h;rfl
theorem b54:BnO "all_minors" (top 54):=fun _ _ _ _ _ _ _ h=>by obtain⟨_,rfl⟩:=len1 h;rfl
theorem b55:BnO "whole_minor" (top 55):=fun _ _ _ _ _ _ _ h=>by obtain⟨_,rfl⟩:=len1 h;rfl
theorem b57:BnO "none_below" (top 57):=fun _ _ _ _ _ _ _ h=>by obtain⟨_,rfl⟩:=len1 h;rfl
theorem b58:BnO "is_good" (top 58):=fun _ _ _ _ _ _ _ h=>by obtain⟨_,rfl⟩:=len1 h;rfl
theorem b64:BnO "is_step_of" (top 64):=fun _ _ _ _ _ _ _ h=>by obtain⟨_,_,_,_,rfl⟩:=Xq h;rfl
theorem b65:BnO "is_step" (top 65):=fun _ _ _ _ _ _ _ h=>by obtain⟨_,_,rfl⟩:=len2 h;rfl
theorem b66:BnO "need_steps" (top 66):=fun _ _ _ _ _ _ _ h=>by obtain⟨_,_,rfl⟩:=len2 h;rfl
theorem b67:BnO "row_by_column" (top 67):=fun _ _ _ _ _ _ _ h=>by obtain⟨_,_,rfl⟩:=len2 h;rfl
theorem b68:BnO "row_by_columns" (top 68):=fun _ _ _ _ _ _ _ h=>by obtain⟨_,_,rfl⟩:=len2 h;rfl
theorem b69:BnO "product_of" (top 69):=fun _ _ _ _ _ _ _ h=>by obtain⟨_,_,rfl⟩:=len2 h;rfl
theorem b70:BnO "table_of_step" (top 70):=fun _ _ _ _ _ _ _ h=>by obtain⟨_,_,_,_,rfl⟩:=Xq h;rfl
theorem b71:BnO "made_by" (top 71):=fun _ _ _ _ _ _ _ h=>by obtain⟨_,_,rfl⟩:=len2 h;rfl
theorem b72:BnO "turned_steps" (top 72):=fun _ _ _ _ _ _ _ h=>by obtain⟨_,rfl⟩:=len1 h;rfl
theorem b73:BnO "row_less" (top 73):=fun _ _ _ _ _ _ _ h=>by obtain⟨_,_,_,rfl⟩:=yg h;rfl
theorem b74:BnO "down_steps" (top 74):=fun _ _ _ _ _ _ _ h=>by obtain⟨_,rfl⟩:=len1 h;rfl
theorem b75:BnO "corner_worth" (top 75):=fun _ _ _ _ _ _ _ h=>by obtain⟨_,_,rfl⟩:=len2 h;rfl
theorem b76:BnO "scale_steps" (top 76):=fun _ _ _ _ _ _ _ h=>by obtain⟨_,rfl⟩:=len1 h;rfl
theorem b77:BnO "can_be_taken_apart" (top 77):=fun _ _ _ _ _ _ _ h=>by obtain⟨_,rfl⟩:=len1 h;rfl
theorem b78:BnO "taken_apart" (top 78):=fun _ _ _ _ _ _ _ h=>by obtain⟨_,rfl⟩:=len1 h;rfl
theorem b80:BnO "_law_cell" (top 80):=fun _ _ _ _ _ _ _ h=>by obtain⟨_,_,rfl⟩:=len2 h;rfl
theorem b81:BnO "_law_pick" (top 81):=fun _ _ _ _ _ _ _ h=>by obtain⟨_,_,_,rfl⟩:=yg h;rfl
theorem b82:BnO "_law_table" (top 82):=fun _ _ _ _ _ _ _ h=>by obtain⟨_,_,_,_,rfl⟩:=Xq h;rfl
theorem b84:BnO "_law_times" (top 84):=fun _ _ _ _ _ _ _ h=>by obtain⟨_,_,rfl⟩:=len2 h;rfl
theorem b89:BnO "_law_good_table" (top 89):=fun _ _ _ _ _ _ _ h=>by obtain⟨_,_,_,rfl⟩:=yg h;rfl
theorem b90:BnO "_law_places" (top 90):=fun _ _ _ _ _ _ _ h=>by obtain⟨_,rfl⟩:=len1 h;rfl
theorem b91:BnO "_law_put" (top 91):=fun _ _ _ _ _ _ _ h=>by obtain⟨_,_,_,rfl⟩:=yg h;rfl
theorem b92:BnO "_law_spoilt_thing" (top 92):=fun _ _ _ _ _ _ _ h=>by obtain⟨_,_,_,rfl⟩:=yg h;rfl
theorem b93:BnO "_law_is_table" (top 93):=fun _ _ _ _ _ _ _ h=>by obtain⟨_,_,rfl⟩:=len2 h;rfl
theorem b94:BnO "_law_word" (top 94):=fun _ _ _ _ _ _ _ h=>by obtain⟨_,rfl⟩:=len1 h;rfl
theorem b95:BnO "_law_do" (top 95):=fun _ _ _ _ _ _ _ h=>by obtain⟨_,_,rfl⟩:=len2 h;rfl
theorem b96:BnO "law" (top 96):=fun _ _ _ _ _ _ _ h=>by obtain⟨_,rfl⟩:=len1 h;rfl
theorem in_of{α:Type}{Q:Str->α->Prop}:∀ {l:List (Str×α)},(∀ p∈l,Q p.1 p.2)->∀ f fd,l.lookup f=some fd->Q f fd
 | (y,e)::r,hp,f,fd,h=>by
  rw[E2z] at h
  cases hb:f==y with
  | true =>
   rw[hb] at h
   have e1:f=y:=by simpa using hb
   cases h;subst e1;exact hp _ F1z
  | false =>
   rw[hb] at h;exact in_of (fun p hm=>hp p (Q0z _ hm)) f fd h
theorem aC{α:Type}{Q:α->Prop}{a:α}{l:List α}(h:Q a)(t:∀ p∈l,Q p):∀ p∈a::l,Q p:=List.forall_mem_cons.mpr ⟨h,t⟩
theorem aN{α:Type}{Q:α->Prop}:∀ p∈([]:List α),Q p:=List.forall_mem_nil _
theorem cA{K:Z3}{x:Str}{i:Int}(X:K.In h)(G:h.Ns mainGlobals mg)(tk:Tok)(e:PySem.W.nsIn K mainGlobals x=some (some (.int i tk))):∃ v u,(∀ H,Rep K H (D.int i) v)/\mg x=some u/\RelV v u:=⟨.int i,_,fun _=>by simp[Rep],B4z X G e,⟨_,rfl⟩⟩
theorem cS{K:Z3}{x y:Str}(X:K.In h)(G:h.Ns mainGlobals mg)(tk:Tok)(e:PySem.W.nsIn K mainGlobals x=some (some (.str y tk))):∃ v u,(∀ H,Rep K H (D.str y) v)/\mg x=some u/\RelV v u:=⟨.str y,_,fun _=>by simp[Rep],B4z X G e,⟨_,rfl⟩⟩
theorem bA{K:Z3}{x:Str}{b:String}(X:K.In h)(G:h.Ns mainGlobals mg)(e:PySem.W.nsIn K mainGlobals x=some none)(q:x=Str.ofString b):mg x=none/\x=Str.ofString b:=⟨PySem.W.mg_none_of X G e,q⟩
theorem Xr:T.defs.lookup ("law":Str)=some (aH (top 96)):=by rfl'
theorem fin{l:PySem.W.OpenLaw}{w:World}{K:Z3}{h:Heap}{mg:Str->Option Value}{fa:Addr}(hlaw:∀ ns:List Int,ns.length<=63->aB T 60 40 "law" [.lst (ns.map D.int)]=some (.bl true))(TX:Text w K mg T)(X:K.In h)(G:h.Ns mainGlobals mg)(hfa:mg "law"=some (.ref fa))(f:Addr)(dc pm cd:Value)(a:PySem.W.nsIn K mainGlobals "law"=some (some (.ref f)))
  (lk:K.lookup f=some ⟨.type "function",none,.func (PySem.W.fnOf "law" "law" (eN (top 96)) (cu (top 96)) (bx (top 96)) .none .none dc pm none cd .none),#[]⟩) (c:PySem.W.codeIn K cd "law"=true) (kp:PySem.W.keepIn K (.ref f)=true) :
  ∃ fd:FuncData,(∀ (s:Shared) (v:Value),BindsTo s fd ⟨[v],[]⟩ [("_law_script",v)])/\∀ base:Heap,K.In base->base.Ns mainGlobals mg->FnOk l.prog w K mg base CX0 40 fa fd ["_law_script"] (rY K):=by
 have e:=hfa.symm.trans (B4z X G a);cases e;refine⟨_,fun s v=>.of_eq (b96 .none dc pm none cd .none [v] rfl),fun base _ _=>?_⟩;exact M6 (fd:=aH (top 96)) (t:=top 96) (f:="law") TX Xr (yL lk c kp) rfl rfl (NQ (by decide +kernel)) rfl hlaw
theorem walk{l:PySem.W.OpenLaw}{q:Program}{loose:List Str}{XP:(Str->Option Value)->Heap->Prop}{YP:World->Heap->Prop}{d:DefRec}{K:Params->Z3}(hn:l.most=some 63)(hdf:d.params.defaults=[])
  (hY:∀ (w:World) (h:Heap),YP w h->(K w.params).In h)
  (F : ∀ (w : World) (mg : Str -> Option Value) (fa : Addr) (h : Heap), (K w.params).In h -> h.Ns mainGlobals mg -> mg d.name = some (.ref fa) ->
   ∃ fd:FuncData,(∀ (s:Shared) (u:Value),BindsTo s fd ⟨[u],[]⟩ [("_law_script",u)])/\∀ base:Heap,(K w.params).In base->base.Ns mainGlobals mg->FnOk l.prog w (K w.params) mg base CX0 40 fa fd ["_law_script"] (rY (K w.params))) :
  PySem.W.WalkO q loose XP YP l.row.toRowW d [] (fun f vs=>PySem.call f vs) :=
 L2.FN (n:=63) (k:=40) (x:="_law_script") (CX:=fun _=>CX0) (sp:=fun w=>rY (K w.params)) hn (by decide) hdf ⟨rfl,by decide,by decide⟩ hY F (fun _ _ a ns hl _ hS=>⟨a,ns,rfl,hS,hl,fun _=>rfl⟩) fun _ _ _ _ _ z=>z
end M32
local macro_rules | `(tactic| walk_at "xs") => `(tactic| first | exact DE.Fi | exact DE.bLenL | exact DE.aaS | rfl | assumption | omega)
local macro_rules | `(tactic| walk_at "xm") => `(tactic| first | exact DE.aK | (refine' DE.aj ?hA ?hB; (case hA => walk_at "xv"); (case hB => walk_at "xm")))
local macro_rules | `(tactic| walk_at "xi") => `(tactic| first
 | (refine' DE.Ac ?hA ?hB; (case hA => rfl); (case hB => walk_at "xv"))
 | (refine' DE.wSq ?hA ?hB ?hC; (case hA => rfl); (case hB => walk_at "xv"); (case hC => rfl))
 | (refine' DE.vK ?hA ?hB ?hC; (case hA => rfl); (case hB => walk_at "xv"); (case hC => omega))
 | (refine' DE.wR2 ?hA ?hB ?hC ?hD; (case hA => rfl); (case hB => walk_at "xv"); (case hC => walk_at "xv"); (case hD => walk_at "xs"))
 | (refine' DE.PN ?hA ?hB ?hC; (case hA => rfl); (case hB => walk_at "xv"); (case hC => walk_at "xv"))
 | (refine' DE.wRvLL ?hA ?hB; (case hA => rfl); (case hB => walk_at "xv"))
 | (refine' DE.wEnL ?hA ?hB; (case hA => rfl); (case hB => walk_at "xv")))
local macro_rules | `(tactic| walk_at "xl") => `(tactic| (refine' DE.bF ?hA ?hB ?hC (DE.aL ?hD); (case hA => rfl); (case hB => walk_at "xi"); (case hC => (exact DE.cJ (by omega))); (case hD => (intro i hi; refine' DE.bI ?hE ?hF; (case hE => rfl); (case hF => walk_at "xv")))))
local macro_rules | `(tactic| walk_at "xv") => `(tactic| first
 | exact DE.xName rfl
 | exact DE.ao rfl
 | (refine' DE.bD ?hA ?hB ?hC; (case hA => walk_at "xv"); (case hB => walk_at "xv"); (case hC => walk_at "xs"))
 | (refine' DE.bK ?hA ?hB ?hC; (case hA => walk_at "xv"); (case hB => walk_at "xv"); (case hC => walk_at "xs"))
 | (refine' DE.PB ?hA ?hB ?hC ?hD ?hE; (case hA => walk_at "xv"); (case hB => walk_at "xv"); (case hC => omega); (case hD => rfl); (case hE => rfl))
 | (refine' DE.vQ ?hA ?hB ?hC ?hD ?hE; (case hA => walk_at "xv"); (case hB => walk_at "xv"); (case hC => omega); (case hD => rfl); (case hE => rfl))
 | (refine' DE.Aj ?hA ?hB ?hC ?hD ?hE; (case hA => walk_at "xv"); (case hB => walk_at "xv"); (case hC => omega); (case hD => rfl); (case hE => rfl))
 | (refine' DE.nW ?hA ?hB ?hC ?hD ?hE ?hF ?hG; (case hA => rfl); (case hB => rfl); (case hC => rfl); (case hD => walk_at "xv"); (case hE => rfl); (case hF => rfl); (case hG => rfl))
 | (refine' DE.bU ?hA ?hB ?hC ?hD ?hE; (case hA => rfl); (case hB => rfl); (case hC => rfl); (case hD => walk_at "xm"); (case hE => walk_at "xs"))
 | (refine' DE.au ?hA ?hB ?hC; (case hA => rfl); (case hB => walk_at "xm"); (case hC => walk_at "xc"))
 | (refine' DE.xLr1n ?hA ?hB ?hC ?hD; (case hA => rfl); (case hB => rfl); (case hC => walk_at "xv"); (case hD => omega))
 | (refine' DE.qj ?hA ?hB; (case hA => walk_at "xm"); (case hB => rfl))
 | (refine' DE.Aa ?hA ?hB; (case hA => walk_at "xm"); (case hB => rfl))
 | walk_at "xl"
 | (refine' DE.OD ?hA; (case hA => walk_at "xv"))
 | (refine' DE.Oz ?hA; (case hA => walk_at "xv")))
local macro_rules|`(tactic|nofun)=>`(tactic|walk_at "xv")
namespace M32
open PySem DE
theorem Jw{F:Nat}{f:Str}:aB P F 0 f ds=none:=by rw[f9,nP];rfl
def whole:D->Bool
 | .int _=>true
 | _=>false
theorem is_whole(k:Nat){d:D}(h:dep d<1000):aB T 60 (k+1) "is_whole" [d]=some (.bl (whole d)):=by
 cases d with
 | exc c=>exact absurd h (by simp[dep])
 | dic _ _=>exact absurd h (by simp[dep])
 | _=>rfl'
def within(l m:Int):D->Bool
 | .int i=>decide (l<=i)&&decide (i<=m)
 | _=>false
theorem yx(k:Nat){d:D}{l m:Int}(h:dep d<1000):aB T 60 (k+2) "is_whole_within" [d,.int l,.int m]=some (.bl (within l m d)):=by
 cases hw:whole d with
 | false =>
  have e:within l m d=false:=by cases d<;>first | rfl | simp[whole] at hw
  rw[e];refine bO (fd:=aH (top 11)) rfl rfl (bN (bL (oA ?_)));refine' au ?L32a_1a ?L32a_1b ?L32a_1c;(case L32a_1a=>rfl);(case L32a_1b=>walk_at "xm");(case L32a_1c=>exact hw▸is_whole k h)
 | true =>
  cases d<;>simp[whole] at hw
  rename_i i;refine bO (fd:=aH (top 11)) rfl rfl (bN (bL (jm ?_ (iW ?_))))
  ·refine' au ?L32a_2a ?L32a_2b ?L32a_2c;(case L32a_2a=>rfl);(case L32a_2b=>walk_at "xm");(case L32a_2c=>exact is_whole k (by simp[dep]))
  ·by_cases h1:l<=i
   ·have e:within l m (.int i)=decide (i<=m):=by simp[within,h1]
    rw[e];exact uG (by nofun) (by nofun) (oLe h1) (by nofun) YQ
   ·have e:within l m (.int i)=false:=by simp[within,h1]
    rw[e];exact Ak (by nofun) (by nofun) (JH h1)
def aZ:D->Bool
 | .tup us=>decide (1<=us.length)&&decide (us.length<=4)
 | _=>false
theorem jx:blt "len" [.tup us]=some (.int (us.length:Int)):=rfl
theorem iu(k:Nat){d:D}(h:dep d<1000):aB T 60 (k+1) "is_short_tuple" [d]=some (.bl (aZ d)):=by
 cases ht:lM "tuple" d with
 | false =>
  have e:aZ d=false:=by cases d<;>first | rfl | simp[lM] at ht
  rw[e];exact bO (fd:=aH (top 12)) rfl rfl (bN (bL (oA (nW rfl rfl rfl (by nofun) ht rfl (O8 h)))))
 | true =>
  cases d<;>simp[lM] at ht
  rename_i us;refine bO (fd:=aH (top 12)) rfl rfl (bN (bL (jm (nW rfl rfl rfl (by nofun) rfl) (iW ?_))))
  by_cases h1:1<=us.length
  ·have e:aZ (.tup us)=decide ((us.length:Int)<=4):=by
    simp only[aZ,h1,decide_true,A4z];exact decide_eq_decide.mpr (by omega)
   rw[e];refine uG (by nofun) (y:=.int (us.length:Int)) ?_ (oLe (by omega)) (by nofun) YQ;refine' bU ?L32a_3a ?L32a_3b ?L32a_3c ?L32a_3d ?L32a_3e;(case L32a_3a=>rfl);(case L32a_3b=>rfl);(case L32a_3c=>rfl);(case L32a_3d=>walk_at "xm");(case L32a_3e=>exact jx)
  ·have e:aZ (.tup us)=false:=by simp only[aZ];rw[O2z h1];rfl
   rw[e];refine Ak (by nofun) (y:=.int (us.length:Int)) ?_ (JH (by omega));refine' bU ?L32a_4a ?L32a_4b ?L32a_4c ?L32a_4d ?L32a_4e;(case L32a_4a=>rfl);(case L32a_4b=>rfl);(case L32a_4c=>rfl);(case L32a_4d=>walk_at "xm");(case L32a_4e=>exact jx)
theorem at0{z:D}{zs:List D}:atD (z::zs) 0=some z:=iV (j:=0) rfl
def u5:D->Nat
 | .tup us=>us.length
 | _=>0
def lens(us:List D):Bool:=us.all fun r=>u5 r==u5 (us.headD .non)
def cj:D->Bool
 | .tup us=>aZ (.tup us)&&us.all aZ&&lens us
 | _=>false
theorem dH{d:D}(h:aZ d=true):∃ us,d=.tup us/\1<=us.length/\us.length<=4:=by
 cases d<;>simp[aZ] at h
 rename_i us;exact⟨us,rfl,by omega,by omega⟩
theorem nD(h:dep (.tup us)<1000):∀ x∈us,dep x<1000:=fun x hx=>by
 have:=iR hx;simp only[dep] at h;omega
theorem has_lines(k:Nat){d:D}(h:dep d<1000):aB T 60 (k+2) "has_lines" [d]=some (.bl (cj d)):=by
 cases hs:aZ d with
 | false =>
  have e:cj d=false:=by cases d<;>first | rfl | (simp only[cj,hs];rfl)
  rw[e];refine bO (fd:=aH (top 13)) rfl rfl (m7 (fl1:=.ret (.bl false)) (bL (Dg (ji ?_))) (bN (by nofun)) rfl);refine' au ?L32a_5a ?L32a_5b ?L32a_5c;(case L32a_5a=>rfl);(case L32a_5b=>walk_at "xm");(case L32a_5c=>exact hs▸iu k h)
 | true =>
  obtain⟨us,rfl,g1,g4⟩:=dH hs;have hd:=nD h
  cases ha:us.all aZ with
  | false =>
   have e:cj (.tup us)=false:=by simp only[cj,ha,O3z,K3z]
   rw[e];refine bO (fd:=aH (top 13)) rfl rfl (m7 (fl1:=.ret (.bl false)) (bL (lW (dG ?_) (iW (ji ?_)))) (bN (by nofun)) rfl)
   ·refine' au ?L32a_6a ?L32a_6b ?L32a_6c;(case L32a_6a=>rfl);(case L32a_6b=>walk_at "xm");(case L32a_6c=>exact hs▸iu k h)
   ·refine bU rfl rfl rfl (aj (bF (l:=us) rfl (wSq rfl (by nofun) rfl) (gM (by omega)) (bY (g:=fun x=>.bl (aZ x)) fun x hx=>bI rfl ?_)) aK) (by rw[rK,ha])
    refine' au ?L32a_7a ?L32a_7b ?L32a_7c;(case L32a_7a=>rfl);(case L32a_7b=>walk_at "xm");(case L32a_7c=>exact iu k (hd x hx))
  | true =>
   have e:cj (.tup us)=lens us:=by simp only[cj,ha,hs,A4z]
   rw[e];refine bO (fd:=aH (top 13)) rfl rfl (lu (bL (lW (dG ?_) (iW (dG ?_)))) (bN ?_))
   ·refine' au ?L32a_8a ?L32a_8b ?L32a_8c;(case L32a_8a=>rfl);(case L32a_8b=>walk_at "xm");(case L32a_8c=>exact hs▸iu k h)
   ·refine bU rfl rfl rfl (aj (bF (l:=us) rfl (wSq rfl (by nofun) rfl) (gM (by omega)) (bY (g:=fun x=>.bl (aZ x)) fun x hx=>bI rfl ?_)) aK) (by rw[rK,ha])
    refine' au ?L32a_9a ?L32a_9b ?L32a_9c;(case L32a_9a=>rfl);(case L32a_9b=>walk_at "xm");(case L32a_9c=>exact iu k (hd x hx))
   ·refine bU rfl rfl rfl (aj (bF (l:=us) rfl (wSq rfl (by nofun) rfl) (gM (by omega)) (bY (g:=fun x=>.bl (u5 x==u5 (us.headD .non))) fun x hx=>bI rfl ?_)) aK) rK
    obtain⟨ys,rfl,y1,y4⟩:=dH (M2z.mp ha x hx)
    cases us with
    | nil=>simp at g1
    | cons z zs =>
     obtain⟨ws,rfl,w1,w4⟩:=dH (M2z.mp ha z (by simp));refine bK (x:=.int (ys.length:Int)) (y:=.int (ws.length:Int)) ?_ ?_ ?_
     ·refine' bU ?L32a_10a ?L32a_10b ?L32a_10c ?L32a_10d ?L32a_10e;(case L32a_10a=>rfl);(case L32a_10b=>rfl);(case L32a_10c=>rfl);(case L32a_10d=>walk_at "xm");(case L32a_10e=>exact jx)
     ·refine bU rfl rfl rfl (aj ?_ aK) jx
      exact xIx (by nofun) (by nofun) rfl at0
     ·show some (D.bl ((ys.length:Int)==(ws.length:Int)))=_
      congr 2;show _=(ys.length==ws.length);rw[Bool.eq_iff_iff];simp only[C5z];omega
def cY:D->List D
 | .tup us=>us
 | _=>[]
def nums:List D->List D
 | []=>[]
 | r::rs=>cY r++nums rs
theorem oZ:∀ (a:List D) (r:D),nums (a++[r])=nums a++cY r
 | [],r=>by simp[nums]
 | x::a,r=>by simp[nums,oZ a r]
theorem gZ:∀ {us:List D},us.all aZ=true->(nums us).length<=4*us.length
 | [],_=>by simp[nums]
 | r::us,h=>by
  rw[Y3z,D2z] at h;obtain⟨ys,rfl,y1,y4⟩:=dH h.1;have:=gZ h.2;simp only[nums,cY,K1z,I2z];omega
theorem numbers_of(k:Nat)(h4:us.length<=4)(ha:us.all aZ=true):aB T 60 (k+1) "numbers_of" [.tup us]=some (.lst (nums us)):=by
 have hl:=gZ ha
 have key:∀ (s:Sl),(s=.no\/∃ d,s=.sh d)->blk (cxN T 60 k) 60 60 (aH (top 14)).sc ((aH (top 14)).body.drop 2) [("table",.sh (.tup us)),("told",.ow (nums us)),("row",s)]=some (.ret (.lst (nums us))):=by
  intro s hs;rcases hs with rfl | ⟨d,rfl⟩
  ·exact bN (by nofun)
  ·exact bN (by nofun)
 refine bO (fd:=aH (top 14)) rfl rfl (iw rfl (d:=.lst []) (by nofun) (gFor (l:=us) (fl1:=.nxt [("table",.sh (.tup us)),("told",.ow (nums us)),("row",Ig us)]) (wSq rfl (by nofun) rfl) ?_ (key _ ?_)))
 ·refine pH (R:=fun pre=>[("table",.sh (.tup us)),("told",.ow (nums pre)),("row",Ig pre)]) (whole:=us) (fun pre x post e=>?_) (pre:=[]) rfl
  have hx:aZ x=true:=M2z.mp ha x (by rw[<- e];simp)
  have hp:pre.all aZ=true:=by rw[<- e,List.all_append,D2z] at ha;exact ha.1
  have hl2:=gZ hp
  have hl3:pre.length<=us.length:=by rw[<- e];simp
  obtain⟨ys,rfl,y1,y4⟩:=dH hx;rw[oZ,u6,show cY (.tup ys)=ys from rfl];exact dF rfl (X5 rfl rfl rfl rfl (gM (by omega)) (by nofun) cT)
 ·cases us with
  | nil=>exact .inl rfl
  | cons x r=>exact .inr ⟨_,rfl⟩
def fD(d:D):Bool:=cj d&&(nums (cY d)).all whole
theorem xZ{d:D}(h:cj d=true):∃ us,d=.tup us/\1<=us.length/\us.length<=4/\us.all aZ=true/\lens us=true:=by
 cases d<;>simp only[cj,D2z] at h<;>try (cases h;done)
 rename_i us;obtain⟨us',e,h1,h4⟩:=dH h.1.1;cases e;exact⟨us,rfl,h1,h4,h.1.2,h.2⟩
theorem jD{x:D}:∀ {us:List D},x∈nums us->∃ r∈us,x∈cY r
 | r::us,h=>by
  simp only[nums,D3z] at h;rcases h with h | h
  ·exact⟨r,by simp,h⟩
  ·obtain⟨r',h1,h2⟩:=jD h
   exact⟨r',Q0z _ h1,h2⟩
theorem Bt(h:dep (.tup us)<1000):∀ x∈nums us,dep x<1000:=fun x hx=>by
 obtain⟨r,h1,h2⟩:=jD hx;have h3:=nD h r h1
 cases r<;>simp only[cY] at h2<;>try (cases h2;done)
 exact nD h3 x h2
theorem tU(k:Nat){d:D}(h:dep d<1000):aB T 60 (k+3) "has_table_form" [d]=some (.bl (fD d)):=by
 cases hl:cj d with
 | false =>
  have e:fD d=false:=by simp only[fD,hl,K3z]
  rw[e];refine bO (fd:=aH (top 15)) rfl rfl (bN (bL (oA ?_)));refine' au ?L32a_11a ?L32a_11b ?L32a_11c;(case L32a_11a=>rfl);(case L32a_11b=>walk_at "xm");(case L32a_11c=>exact hl▸has_lines k h)
 | true =>
  obtain⟨us,rfl,g1,g4,ga,_⟩:=xZ hl
  have e:fD (.tup us)=(nums us).all whole:=by simp only[fD,hl,A4z,cY]
  have hn:=gZ ga;have hd:=Bt h;rw[e];refine bO (fd:=aH (top 15)) rfl rfl (bN (bL (jm ?_ (iW ?_))))
  ·refine' au ?L32a_12a ?L32a_12b ?L32a_12c;(case L32a_12a=>rfl);(case L32a_12b=>walk_at "xm");(case L32a_12c=>exact hl▸has_lines k h)
  ·refine bU rfl rfl rfl (aj (bF (l:=nums us) rfl (wSq rfl (au rfl (by walk_at "xm") (numbers_of (k+1) g4 ga)) rfl) (gM (by omega)) (bY (g:=fun x=>.bl (whole x)) fun x hx=>bI rfl ?_)) aK) rK
   refine' au ?L32a_13a ?L32a_13b ?L32a_13c;(case L32a_13a=>rfl);(case L32a_13b=>walk_at "xm");(case L32a_13c=>exact is_whole (k+1) (hd x hx))
theorem HJ(k:Nat){d:D}(h:dep d<1000)(hf:fD d=true):aB T 60 (k+4) "need_table" [d]=some .non:=by
 refine uE (fd:=aH (top 18)) rfl rfl (lu (dG ?_) cT);refine' au ?L32a_14a ?L32a_14b ?L32a_14c;(case L32a_14a=>rfl);(case L32a_14b=>walk_at "xm");(case L32a_14c=>exact hf▸tU k h)
theorem HN(k:Nat){d:D}(h:dep d<1000)(hf:fD d=false):jw T 60 (k+4) "need_table" [d]=some "NoTable"/\aB T 60 (k+4) "need_table" [d]=none:=by
 refine uD (fd:=aH (top 18)) rfl rfl (lX (ji ?_) rfl);refine' au ?L32a_15a ?L32a_15b ?L32a_15c;(case L32a_15a=>rfl);(case L32a_15b=>walk_at "xm");(case L32a_15c=>exact hf▸tU k h)
theorem eZ{m:Nat}{h:Nat->D}:aZ (.tup (Ls m h))=(decide (1<=m)&&decide (m<=4)):=by simp only[aZ,aR]
theorem gA{m:Nat}{h:Nat->D}{x:D}(hx:x∈Ls m h):∃ i,i<m/\x=h i:=by
 unfold Ls at hx;obtain⟨i,hi,rfl⟩:=List.mem_map.mp hx;exact⟨i,List.mem_range.mp hi,rfl⟩
theorem yF{m:Nat}{h:Nat->D}(hm:1<=m):(Ls m h).headD .non=h 0:=by
 obtain⟨m',rfl⟩:∃ m',m=m'+1:=⟨m-1,by omega⟩;unfold Ls;rw[List.range_succ_eq_map];rfl
theorem Cj{m n:Nat}{f:Nat->Nat->Int}(h1:1<=m)(h2:1<=n):fD (tbl m n f)=(decide (m<5)&&decide (n<5)):=by
 by_cases hm:m<=4
 ·by_cases hn:n<=4
  ·have e1:cj (tbl m n f)=true:=by
    show(aZ (tbl m n f)&&(Ls m fun i=>row n (f i)).all aZ&&lens (Ls m fun i=>row n (f i)))=true;rw[eZ,L3z h1,L3z hm]
    have a1:(Ls m fun i=>row n (f i)).all aZ=true:=by
     rw[M2z];intro x hx;obtain⟨i,_,rfl⟩:=gA hx;rw[eZ,L3z h2,L3z hn];rfl
    have a2:lens (Ls m fun i=>row n (f i))=true:=by
     unfold lens;rw[M2z,yF h1];intro x hx;obtain⟨i,_,rfl⟩:=gA hx;simp[u5,aR]
    rw[a1,a2];rfl
   have e2:(nums (cY (tbl m n f))).all whole=true:=by
    rw[M2z];intro x hx;obtain⟨r,hr,hx⟩:=jD hx;obtain⟨i,_,rfl⟩:=gA (show r∈Ls m fun i=>row n (f i) from hr);obtain⟨j,_,rfl⟩:=gA (show x∈Ls n fun j=>D.int (f i j) from hx);rfl
   unfold fD;rw[e1,e2,L3z (show m<5 by omega),L3z (show n<5 by omega)]
  ·have e1:cj (tbl m n f)=false:=by
    show(aZ (tbl m n f)&&(Ls m fun i=>row n (f i)).all aZ&&lens (Ls m fun i=>row n (f i)))=false
    have a1:(Ls m fun i=>row n (f i)).all aZ=false:=by
     rw[Z1z];refine⟨row n (f 0),?_,?_⟩
     ·unfold Ls;exact List.mem_map.mpr ⟨0,List.mem_range.mpr (by omega),rfl⟩
     ·rw[eZ,O2z hn];simp
    rw[a1,O3z,K3z]
   unfold fD;rw[e1,O2z (show ¬ n<5 by omega),O3z,K3z]
 ·have e1:cj (tbl m n f)=false:=by
   show(aZ (tbl m n f)&&(Ls m fun i=>row n (f i)).all aZ&&lens (Ls m fun i=>row n (f i)))=false;rw[eZ,O2z hm,O3z,K3z,K3z]
  unfold fD;rw[e1,O2z (show ¬ m<5 by omega),K3z,K3z]
theorem Iw{m n:Nat}{f:Nat->Nat->Int}(h1:1<=m)(h2:m<=4)(h3:1<=n)(h4:n<=4):fD (tbl m n f)=true:=by rw[Cj h1 h3,L3z (by omega),L3z (by omega)];rfl
theorem need_table(k:Nat){m n:Nat}{f:Nat->Nat->Int}(h1:1<=m)(h2:m<=4)(h3:1<=n)(h4:n<=4):aB T 60 (k+4) "need_table" [tbl m n f]=some .non :=
 HJ k (N1z zu (by decide)) (Iw h1 h2 h3 h4)
theorem fJ(k:Nat){i l h:Int}(h1:l<=i)(h2:i<=h):aB T 60 (k+2) "is_whole_within" [.int i,.int l,.int h]=some (.bl true):=by
 rw[yx k (by simp[dep])];simp[within,h1,h2]
theorem column_of(k:Nat){m n j:Nat}{f:Nat->Nat->Int}(hj:j<n)(h2:m<=4):aB T 60 (k+1) "column_of" [tbl m n f,.int j]=some (row m fun i=>f i j):=by
 refine bO (fd:=aH (top 35)) rfl rfl (bN ?_);refine' bU ?L32a_16a ?L32a_16b ?L32a_16c ?L32a_16d ?L32a_16e;(case L32a_16a=>rfl);(case L32a_16b=>rfl);(case L32a_16c=>rfl);(case L32a_16d=>walk_at "xm");(case L32a_16e=>exact gK)
theorem columns_of(k:Nat){m n:Nat}{f:Nat->Nat->Int}(h1:1<=m)(h2:m<=4)(h4:n<=4):aB T 60 (k+2) "columns_of" [tbl m n f]=some (tbl n m fun i j=>f j i):=by
 refine bO (fd:=aH (top 36)) rfl rfl (bN ?_);refine bU rfl rfl rfl (aj ?_ aK) gK;refine' bF ?L32a_17a ?L32a_17b ?L32a_17c (aL ?L32a_17d);(case L32a_17a=>rfl);(case L32a_17b=>walk_at "xi");(case L32a_17c=>exact cJ (by omega))
 case L32a_17d =>
  intro i hi;refine' bI ?L32a_17e ?L32a_17f;(case L32a_17e=>rfl)
  case L32a_17f =>
   refine' au ?L32a_18a ?L32a_18b ?L32a_18c;(case L32a_18a=>rfl);(case L32a_18b=>walk_at "xm");(case L32a_18c=>exact column_of _ hi h2)
theorem picked(k:Nat){n q:Nat}{f:Nat->Int}{c:Nat->Nat}(h4:q<=4)(hc:∀ j,j<q->c j<n):aB T 60 (k+1) "picked" [row n f,plc q c]=some (row q fun j=>f (c j)):=by
 refine bO (fd:=aH (top 38)) rfl rfl (bN (bU rfl rfl rfl (aj ?_ aK) gK));refine' bF ?L32a_20a ?L32a_20b ?L32a_20c (aL ?L32a_20d);(case L32a_20a=>rfl);(case L32a_20b=>walk_at "xi");(case L32a_20c=>exact cJ (by omega))
 case L32a_20d =>
  intro j hj;refine' bI ?L32a_20e ?L32a_20f;(case L32a_20e=>rfl)
  case L32a_20f =>
   refine' vQ ?L32a_21a ?L32a_21b ?L32a_21c ?L32a_21d ?L32a_21e;(case L32a_21a=>nofun);(case L32a_21b=>nofun);(case L32a_21c=>exact hc j hj);(case L32a_21d=>rfl);(case L32a_21e=>rfl)
theorem part_at(k:Nat){m n q p:Nat}{f:Nat->Nat->Int}{r c:Nat->Nat}(g2:q<=4)(g4:p<=4)
  (hr:∀ j,j<q->r j<m) (hc:∀ j,j<p->c j<n):aB T 60 (k+2) "part_at" [tbl m n f,plc q r,plc p c]=some (tbl q p fun i j=>f (r i) (c j)):=by
 refine bO (fd:=aH (top 39)) rfl rfl (bN (bU rfl rfl rfl (aj ?_ aK) gK))
 ·refine' bF ?L32a_22a ?L32a_22b ?L32a_22c (aL ?L32a_22d);(case L32a_22a=>rfl);(case L32a_22b=>walk_at "xi");(case L32a_22c=>exact cJ (by omega))
  case L32a_22d =>
   intro i hi;refine' bI ?L32a_22e ?L32a_22f;(case L32a_22e=>rfl)
   case L32a_22f =>
    refine' au ?a1 (aj ?a2 (aj ?a3 aK)) (picked _ g4 hc);(case a1=>rfl)
    ·refine' vQ ?L32a_23a ?L32a_23b ?L32a_23c ?L32a_23d ?L32a_23e;(case L32a_23a=>nofun);(case L32a_23b=>nofun);(case L32a_23c=>exact hr i hi);(case L32a_23d=>rfl);(case L32a_23e=>rfl)
    ·nofun
def Sm(m n:Nat)(f:Nat->Nat->Int):Prop:=∀ i j,i<m->j<n->small (f i j)=true
noncomputable def vB(ns:List Int)(k:Nat):Int:=if k<ns.length then ns.getD k 0 else if ns=[] then 0 else ns.getD (k%ns.length) 0*31+k
def eF(ns:List Int)(k:Nat):Int:=(vB ns k+6151*((k:Int)+1))*40692%2147483399
def pickN(ns:List Int)(k many:Nat):Nat:=((eF ns k*eF ns k+eF ns k / 31)%2147483629%(many:Int)).toNat
theorem cG{ns:List Int}{k many:Nat}(h:0<many):pickN ns k many<many:=by
 unfold pickN;have h1:=I3z ((eF ns k*eF ns k+eF ns k / 31)%2147483629) (show(many:Int)≠0 by omega);have h2:=Int.emod_lt_of_pos ((eF ns k*eF ns k+eF ns k / 31)%2147483629) (show(0:Int)<many by omega);omega
abbrev scr(ns:List Int):D:=.lst (ns.map D.int)
theorem mC{ns:List Int}:blt "len" [scr ns]=some (.int (ns.length:Int)):=by
 show some (D.int ((ns.map D.int).length:Int))=_;rw[U2z]
theorem Dk{ns:List Int}{k:Nat}(h:k<ns.length):atD (ns.map D.int) (k:Int)=some (.int (ns.getD k 0)):=by
 refine iV ?_;rw[List.getElem?_map,List.getElem?_eq_getElem h,List.getD_eq_getElem?_getD,List.getElem?_eq_getElem h];rfl
theorem Gj{ns:List Int}:dep (scr ns)<=50:=by
 simp only[dep]
 have:=fu (b:=0) (l:=ns.map D.int) fun d hd=>by
  obtain⟨i,_,rfl⟩:=List.mem_map.mp hd;simp[dep]
 omega
theorem cell(k:Nat)(ns:List Int)(kk:Nat):aB T 60 (k+1) "_law_cell" [scr ns,.int kk]=some (.int (vB ns kk)):=by
 unfold vB
 by_cases h:kk<ns.length
 ·rw[K5z h]
  refine bO (fd:=aH (top 80)) rfl rfl (m7 (fl1:=.ret (.int (ns.getD kk 0))) (bK (by nofun) (bU rfl rfl rfl (by walk_at "xm") mC) (oLt (by omega))) (bN ?_) rfl);exact xIx (by nofun) (by nofun) rfl (Dk h)
 ·rw[L5z h]
  by_cases e:ns=[]
  ·subst e
   rw[K5z rfl];refine bO (fd:=aH (top 80)) rfl rfl (lu (bK (by nofun) (bU rfl rfl rfl (by walk_at "xm") (mC (ns:=[]))) (Mh (by simp))) (m7 (fl1:=.ret (.int 0)) (bK (by nofun) (by nofun) rfl) (bN (by nofun)) rfl))
  ·rw[L5z e]
   have hl:0<ns.length:=List.length_pos_iff.mpr e;refine bO (fd:=aH (top 80)) rfl rfl (lu (bK (by nofun) (bU rfl rfl rfl (by walk_at "xm") mC) (Mh (by omega))) (lu (bK (y:=.lst []) (by nofun) (by nofun) ?_) (bN ?_)))
   ·rw[oEq Gj (by simp[dep,deps])]
    cases ns with
    | nil=>exact absurd rfl e
    | cons a r=>rfl
   ·refine bD (bD (x:=.int (ns.getD (kk%ns.length) 0)) (xIx (i:=((kk%ns.length:Nat):Int)) (by nofun) ?_ rfl (Dk (Nat.mod_lt _ hl))) (by nofun) (Dc (.inr (by decide)))) (by nofun) rfl
    refine bD (by nofun) (bU rfl rfl rfl (by walk_at "xm") mC) ?_;rw[JT (by omega)];rfl
theorem pick(k:Nat)(ns:List Int)(kk:Nat){many:Nat}(h:0<many):aB T 60 (k+2) "_law_pick" [scr ns,.int kk,.int many]=some (.int ((pickN ns kk many:Nat):Int)):=by
 have d0:=I3z ((vB ns kk+6151*((kk:Int)+1))*40692) (show(2147483399:Int)≠0 by decide);have d1:=Int.emod_lt_of_pos ((vB ns kk+6151*((kk:Int)+1))*40692) (show(0:Int)<2147483399 by decide)
 have e:((pickN ns kk many:Nat):Int)=(eF ns kk*eF ns kk+eF ns kk / 31)%2147483629%(many:Int):=by
  unfold pickN;exact Int.toNat_of_nonneg (I3z _ (by omega))
 rw[e];refine bO (fd:=aH (top 81)) rfl rfl (iw rfl (d:=.int (eF ns kk)) ?_ (bN ?_))
 ·refine bD (bD (bD (x:=.int (vB ns kk)) (y:=.int (6151*((kk:Int)+1))) ?_ ?_ rfl) (by nofun) (Dc (.inr (by decide)))) (by nofun) (JT (by decide))
  ·refine' au ?L32a_24a ?L32a_24b ?L32a_24c;(case L32a_24a=>rfl);(case L32a_24b=>walk_at "xm");(case L32a_24c=>exact cell _ ns kk)
  ·exact bD (by nofun) (bD (by nofun) (by nofun) rfl) (Dc (.inl (by decide)))
 ·refine bD (bD (bD (bD (by nofun) (by nofun) (Dc (.inl ?_))) (bD (by nofun) (by nofun) (bDiv (by decide) (by decide))) rfl) (by nofun) (JT (by decide))) (by nofun) (JT (by omega))
  unfold small;unfold eF;rw[L3z (by omega),L3z (by omega)];rfl
theorem jk{cx:Cxt}{n:Nat}{e:Expr}{d d':D}(h:ev cx n sc ρ e=some d)(q:d=d'):ev cx n sc ρ e=some d':=q▸h
def vL:Nat->Nat
 | 0=>0
 | 1=>0
 | 2=>1
 | _=>4
theorem Ib(p:Nat):vL p<=4:=by unfold vL;split<;>omega
def Ar(ns:List Int)(at':Nat):Nat->Nat->Int:=fun i j=>((pickN ns (at'+1+8*i+j) (6+vL (pickN ns at' 4)):Nat):Int)-((vL (pickN ns at' 4):Nat):Int)
def Qz:Nat->Sl
 | 0=>.no
 | i+1=>.sh (.int i)
def O1(ns:List Int)(a m n low:Nat)(md:List D)(rw:Sl):Rho:=[("_law_script",.sh (scr ns)),("_law_at",.sh (.int a)),("_law_rows",.sh (.int m)),("_law_columns",.sh (.int n)),("_law_low",.sh (.int low)),("_law_made",.ow md),("_law_row",rw)]
theorem table(k:Nat)(ns:List Int)(a:Nat){m n:Nat}(hm:m<=4)(hn:n<=4):aB T 60 (k+3) "_law_table" [scr ns,.int a,.int m,.int n]=some (tbl m n (Ar ns a)):=by
 have hp:=cG (ns:=ns) (k:=a) (many:=4) (by omega);refine bO (fd:=aH (top 82)) rfl rfl (iw rfl (d:=.int ((vL (pickN ns a 4):Nat):Int)) ?_ (iw rfl (d:=.lst []) (by nofun) (gFor (l:=Ls m fun i=>.int i) (fl1:=.nxt (O1 ns a m n (vL (pickN ns a 4)) (Ls m fun i=>row n (Ar ns a i)) (Qz m))) ?_ ?_ (bN (bU rfl rfl rfl (by walk_at "xm") gK)))))
 ·refine xIx (x:=.lst [.int 0,.int 0,.int 1,.int 4]) (i:=((pickN ns a 4:Nat):Int)) (by nofun) ?_ rfl ?_
  ·refine au rfl (by walk_at "xm") (pick (k+0) ns a (many:=4) (by omega))
  ·generalize pickN ns a 4=p at hp
   match p,hp with
   | 0,_=>rfl
   | 1,_=>rfl
   | 2,_=>rfl
   | 3,_=>rfl
 ·walk_at "xi"
 ·refine fZ (R:=fun i=>O1 ns a m n (vL (pickN ns a 4)) (Ls i fun i=>row n (Ar ns a i)) (Qz i)) fun i hi=>?_
  refine dF (ρ1:=O1 ns a m n (vL (pickN ns a 4)) (Ls i fun i=>row n (Ar ns a i)) (.sh (.int i))) rfl ?_;show _=some (Fl.nxt (O1 ns a m n (vL (pickN ns a 4)) (Ls (i+1) fun i=>row n (Ar ns a i)) (Qz (i+1))));rw[gJ];refine X7 (d:=row n (Ar ns a i)) rfl rfl rfl (gM (by rw[aR];omega)) ?_ rfl;refine bU rfl rfl rfl (aj ?_ aK) gK;refine' bF ?L32a_25a ?L32a_25b ?L32a_25c (aL ?L32a_25d);(case L32a_25a=>rfl);(case L32a_25b=>walk_at "xi");(case L32a_25c=>exact cJ (by omega))
  case L32a_25d =>
   intro j hj;refine' bI ?L32a_25e ?L32a_25f;(case L32a_25e=>rfl)
   case L32a_25f =>
    refine bD (x:=.int ((pickN ns (a+1+8*i+j) (6+vL (pickN ns a 4)):Nat):Int)) (au rfl (aj ?_ (aj ?_ (aj ?_ aK))) (pick (k+0) ns (a+1+8*i+j) (many:=6+vL (pickN ns a 4)) (by omega))) (by nofun) rfl
    ·nofun
    ·refine jk (bD (bD (bD (by nofun) (by nofun) rfl) (bD (by nofun) (by nofun) (Dc (.inl (by decide)))) rfl) (by nofun) rfl) (congrArg D.int (by omega))
    ·refine jk (bD (by nofun) (by nofun) rfl) (congrArg D.int (by omega))
theorem turned(k:Nat){m n:Nat}{f:Nat->Nat->Int}(h1:1<=m)(h2:m<=4)(h3:1<=n)(h4:n<=4):aB T 60 (k+5) "turned" [tbl m n f]=some (tbl n m fun i j=>f j i):=by
 refine bO (fd:=aH (top 37)) rfl rfl (yH rfl (d:=.non) ?_ (bN ?_))
 ·refine' au ?L32a_26a ?L32a_26b ?L32a_26c;(case L32a_26a=>rfl);(case L32a_26b=>walk_at "xm");(case L32a_26c=>exact need_table k h1 h2 h3 h4)
 ·refine' au ?L32a_27a ?L32a_27b ?L32a_27c;(case L32a_27a=>rfl);(case L32a_27b=>walk_at "xm");(case L32a_27c=>exact columns_of (k+2) h1 h2 h4)
def mul(n:Nat)(f g:Nat->Nat->Int):Nat->Nat->Int:=fun i j=>lC n fun l=>f i l*g l j
def dl(i j:Nat):Int:=if j=i then 1 else 0
theorem plain_row(k:Nat){n i:Nat}(h4:n<=4):aB T 60 (k+1) "plain_row" [.int n,.int i]=some (row n (dl i)):=by
 refine bO (fd:=aH (top 40)) rfl rfl (bN (bU rfl rfl rfl (aj ?_ aK) gK));refine' bF ?L32a_28a ?L32a_28b ?L32a_28c (aL ?L32a_28d);(case L32a_28a=>rfl);(case L32a_28b=>walk_at "xi");(case L32a_28c=>exact cJ (by omega))
 case L32a_28d =>
  intro j hj;refine' bI ?L32a_28e ?L32a_28f;(case L32a_28e=>rfl)
  case L32a_28f =>
   by_cases e:j=i
   ·have:dl i j=1:=K5z e
    rw[this];exact J4 (bK (by nofun) (by nofun) (uX (by omega))) (by nofun)
   ·have:dl i j=0:=L5z e
    rw[this];exact J6 (bK (by nofun) (by nofun) (sY (by omega))) (by nofun)
theorem need_size(k:Nat){n:Nat}(h1:1<=n)(h4:n<=4):aB T 60 (k+3) "need_size" [.int n,.int 4]=some .non:=by
 refine uE (fd:=aH (top 20)) rfl rfl (lu (dG ?_) cT);refine' au ?L32a_29a ?L32a_29b ?L32a_29c;(case L32a_29a=>rfl);(case L32a_29b=>walk_at "xm");(case L32a_29c=>exact fJ k (by omega) (by omega))
theorem plain(k:Nat){n:Nat}(h1:1<=n)(h4:n<=4):aB T 60 (k+4) "plain" [.int n]=some (tbl n n dl):=by
 refine bO (fd:=aH (top 41)) rfl rfl (yH rfl (d:=.non) ?_ (bN (bU rfl rfl rfl (aj ?_ aK) gK)))
 ·refine' au ?L32a_30a ?L32a_30b ?L32a_30c;(case L32a_30a=>rfl);(case L32a_30b=>walk_at "xm");(case L32a_30c=>exact need_size k h1 h4)
 ·refine' bF ?L32a_31a ?L32a_31b ?L32a_31c (aL ?L32a_31d);(case L32a_31a=>rfl);(case L32a_31b=>walk_at "xi");(case L32a_31c=>exact cJ (by omega))
  case L32a_31d =>
   intro i hi;refine' bI ?L32a_31e ?L32a_31f;(case L32a_31e=>rfl)
   case L32a_31f =>
    refine' au ?L32a_32a ?L32a_32b ?L32a_32c;(case L32a_32a=>rfl);(case L32a_32b=>walk_at "xm");(case L32a_32c=>exact plain_row (k+2) h4)
def skip(j b:Nat):Nat:=if b<j then b else b+1
def sg(b:Nat)(w:Int):Int:=if b%2=1 then -w else w
def sub(f:Nat->Nat->Int)(r c:Nat):Nat->Nat->Int:=fun a b=>f (skip r a) (skip c b)
def det:Nat->(Nat->Nat->Int)->Int
 | 0,_=>1
 | n+1,f=>lC (n+1) fun j=>f 0 j*sg (0+j) (det n (sub f 0 j))
def cof(n:Nat)(f:Nat->Nat->Int)(r c:Nat):Int:=sg (r+c) (det (n-1) (sub f r c))
theorem Ou{m r:Nat}{h:Nat->D}(hr:r<m):Ls r h++Ls (m-(r+1)) (fun i=>h (r+1+i))=Ls (m-1) fun i=>h (skip r i):=by
 apply List.ext_getElem?;intro i
 by_cases h1:i<r
 ·rw[List.getElem?_append_left (by rw[aR];exact h1),cB h1,cB (by omega)]
  simp[skip,h1]
 ·rw[List.getElem?_append_right (by rw[aR];omega),aR]
  by_cases h2:i<m-1
  ·rw[cB (by omega),cB h2]
   simp only[skip,h1,H5z];rw[show r+1+(i-r)=i+1 by omega]
  ·rw[List.getElem?_eq_none (by rw[aR];omega),List.getElem?_eq_none (by rw[aR];omega)]
section
variable {cx:Cxt} {n:Nat} {sc:Scope} {ρ:Rho} {a b a2 b2:Expr} {p p2 q q2:Pos} {op:Pos}
theorem Fy{m j:Nat}{h:Nat->D}(h1:ev cx n sc ρ a=some (.tup (Ls m h)))(h2:ev cx n sc ρ b=some (.int j))(hj:j<m):ev cx (n+1) sc ρ (.Subscript a (.Slice none (some b) none q) p)=some (.tup (Ls j h)):=by
 rw[xSl h1 uW (uV h2),Eu (by omega)]
 have:(gj (Ls m h).length (Ls m h).length (some (j:Int))==(Ls m h).length)=false:=by
  unfold gj;rw[aR];simp only;rw[L5z (by omega)];exact A1z.mpr (by omega)
 rw[this,O3z]
theorem Yx{m r:Nat}{h:Nat->D}(h1:ev cx n sc ρ a=some (.tup (Ls m h)))(h2:ev cx n sc ρ b=some (.int r))(h3:ev cx n sc ρ a2=some (.tup (Ls m h)))(h4:ev cx n sc ρ b2=some (.int ((r:Int)+1)))(hr:r<m)(hm:m<=100000):
  ev cx (n+2) sc ρ (.BinOp (.Subscript a (.Slice none (some b) none q) p) .Add (.Subscript a2 (.Slice (some b2) none none q2) p2) op)=some (.tup (Ls (m-1) fun i=>h (skip r i))):=by
 refine bD (Fy h1 h2 hr) (JZ (j:=r+1) h3 (by rw[h4];rfl) (by omega) (by omega) (by omega)) ?_
 rw[<- Ou hr];show(if szl ((Ls r h).length+(Ls (m-(r+1)) _).length)=true then _ else _)=_;rw[K5z (by rw[aR,aR];exact gM (by omega))]
end
theorem without(k:Nat){m n r c:Nat}{f:Nat->Nat->Int}(hr:r<m)(hc:c<n)(h2:m<=4)(h4:n<=4):aB T 60 (k+1) "without" [tbl m n f,.int r,.int c]=some (tbl (m-1) (n-1) (sub f r c)):=by
 refine bO (fd:=aH (top 43)) rfl rfl (iw rfl (d:=.tup (Ls (m-1) fun i=>row n (f (skip r i)))) ?_ (bN (bU rfl rfl rfl (aj ?_ aK) gK)))
 ·refine Yx (h:=fun i=>row n (f i)) ?_ ?_ ?_ ?_ hr (by omega)
  ·nofun
  ·nofun
  ·nofun
  ·exact bD (by nofun) (by nofun) rfl
 ·refine' bF ?L32a_33a ?L32a_33b ?L32a_33c (aL ?L32a_33d);(case L32a_33a=>rfl);(case L32a_33b=>walk_at "xi");(case L32a_33c=>exact cJ (by omega))
  case L32a_33d =>
   intro i hi;refine' bI ?L32a_33e ?L32a_33f;(case L32a_33e=>rfl)
   case L32a_33f =>
    refine Yx (h:=fun j=>.int (f (skip r i) j)) ?_ ?_ ?_ ?_ hc (by omega)
    ·nofun
    ·nofun
    ·nofun
    ·exact bD (by nofun) (by nofun) rfl
theorem uH(k:Nat){n:Nat}{f:Nat->Nat->Int}(h4:n+1<=4)(hs:Sm (n+1) (n+1) f)(ih:∀ r c,r<n+1->c<n+1->aB T 60 k "worth_of" [tbl n n (sub f r c)]=some (.int (det n (sub f r c)))):
  (∀ r c,r<n+1->c<n+1->aB T 60 (k+2) "signed_rest" [tbl (n+1) (n+1) f,.int r,.int c]=some (.int (cof (n+1) f r c)))/\aB T 60 (k+4) "worth_of" [tbl (n+1) (n+1) f]=some (.int (det (n+1) f)):=by
 have rest:∀ r c,r<n+1->c<n+1->aB T 60 (k+1) "rest_worth" [tbl (n+1) (n+1) f,.int r,.int c]=some (.int (det n (sub f r c))):=by
  intro r c hr hc;refine bO (fd:=aH (top 45)) rfl rfl (bN ?_);refine au rfl (aj ?_ aK) (ih r c hr hc)
  cases k with
  | zero=>have:=ih r c hr hc;rw[Jw] at this;cases this
  | succ k=>refine' au ?L32a_34a ?L32a_34b ?L32a_34c;(case L32a_34a=>rfl);(case L32a_34b=>walk_at "xm");(case L32a_34c=>exact without k hr hc h4 h4)
 have sgn:∀ r c,r<n+1->c<n+1->aB T 60 (k+2) "signed_rest" [tbl (n+1) (n+1) f,.int r,.int c]=some (.int (cof (n+1) f r c)):=by
  intro r c hr hc;refine bO (fd:=aH (top 46)) rfl rfl (iw rfl (d:=.int (det n (sub f r c))) ?_ (bN ?_))
  ·refine' au ?L32a_35a ?L32a_35b ?L32a_35c;(case L32a_35a=>rfl);(case L32a_35b=>walk_at "xm");(case L32a_35c=>exact rest r c hr hc)
  ·unfold cof sg
   by_cases q:(r+c)%2=1
   ·rw[K5z q]
    refine J4 (bK (x:=.int (((r+c)%2:Nat):Int)) (jk (bD (bD (by nofun) (by nofun) rfl) (by nofun) (JT (by decide))) (congrArg D.int (by omega))) (by nofun) (uX (by omega))) (OD ?_)
    nofun
   ·rw[L5z q]
    refine J6 (bK (x:=.int (((r+c)%2:Nat):Int)) (jk (bD (bD (by nofun) (by nofun) rfl) (by nofun) (JT (by decide))) (congrArg D.int (by omega))) (by nofun) (sY (by omega))) ?_
    nofun
 refine⟨sgn,?_⟩
 have rows:aB T 60 (k+3) "row_with_rests" [tbl (n+1) (n+1) f,.int 0]=some (.lst (Ls (n+1) fun c=>.tup [.int (f 0 c),.int (cof (n+1) f 0 c)])):=by
  refine bO (fd:=aH (top 47)) rfl rfl (bN ?_);refine' bF ?L32a_36a ?L32a_36b ?L32a_36c (aL ?L32a_36d);(case L32a_36a=>rfl);(case L32a_36b=>walk_at "xi");(case L32a_36c=>exact cJ (by omega))
  case L32a_36d =>
   intro c hc;refine' bI ?L32a_36e ?L32a_36f;(case L32a_36e=>rfl)
   case L32a_36f =>
    refine qj (aj (by nofun) (aj ?_ aK)) rfl;refine au rfl (aj ?_ (aj ?_ (aj ?_ aK))) (sgn 0 c (by omega) hc)
    ·nofun
    ·nofun
    ·nofun
 refine bO (fd:=aH (top 44)) rfl rfl (lu (bK (x:=.int ((n+1:Nat):Int)) ?_ (by nofun) (sY (by omega))) (bN ?_))
 ·nofun
 ·have e:det (n+1) f=lC (n+1) fun j=>f 0 j*cof (n+1) f 0 j:=rfl
  rw[e];refine bU rfl rfl rfl (aj ?_ aK) aaS;refine' bF ?a1 ?a2 ?a3 (aL ?a4);(case a1=>rfl)
  case a2 =>
   refine wSq rfl (x:=.lst (Ls (n+1) fun c=>.tup [.int (f 0 c),.int (cof (n+1) f 0 c)])) ?_ rfl;refine' au ?L32a_37a ?L32a_37b ?L32a_37c;(case L32a_37a=>rfl);(case L32a_37b=>walk_at "xm");(case L32a_37c=>exact rows)
  case a3=>exact cJ (by omega)
  case a4 =>
   intro c hc;refine' bI ?b1 (bD ?b2 ?b3 (Dc (.inl (hs 0 c (by omega) hc))));(case b1=>rfl);(case b2=>nofun);(case b3=>nofun)
theorem worth:∀ (n k:Nat) {f:Nat->Nat->Int},n<=4->Sm n n f->aB T 60 (k+4*n+1) "worth_of" [tbl n n f]=some (.int (det n f))
 | 0,k,f,_,_=>by
  show aB T 60 (k+1) "worth_of" [.tup []]=some (.int 1);rfl'
 | n+1,k,f,h,hs=>by
  have q:=uH (k+4*n+1) h hs fun r c hr hc=>worth n k (by omega) fun i j hi hj=>hs _ _ (by unfold skip;split<;>omega) (by unfold skip;split<;>omega)
  have e:k+4*(n+1)+1=k+4*n+1+4:=by omega
  rw[e];exact q.2
theorem whole_minor(k n:Nat){f:Nat->Nat->Int}(h1:1<=n)(h4:n<=4)(hs:Sm n n f):aB T 60 (k+4*n+5) "whole_minor" [tbl n n f]=some (.int (det n f)):=by
 have sq:aB T 60 (k+4*n+3) "is_square" [tbl n n f]=some (.bl true):=by
  refine bO (fd:=aH (top 16)) rfl rfl (bN (bK (x:=.int n) ?_ ?_ (uX rfl)))
  ·nofun
  ·nofun
 have ns:aB T 60 (k+4*n+4) "need_square" [tbl n n f]=some .non:=by
  refine uE (fd:=aH (top 19)) rfl rfl (lu (dG ?_) cT);refine' au ?L32a_38a ?L32a_38b ?L32a_38c;(case L32a_38a=>rfl);(case L32a_38b=>walk_at "xm");(case L32a_38c=>exact sq)
 refine bO (fd:=aH (top 55)) rfl rfl (yH rfl (d:=.non) ?_ (yH rfl (d:=.non) ?_ (bN ?_)))
 ·refine' au ?L32a_39a ?L32a_39b ?L32a_39c;(case L32a_39a=>rfl);(case L32a_39b=>walk_at "xm");(case L32a_39c=>exact need_table (k+4*n) h1 h4 h1 h4)
 ·refine' au ?L32a_40a ?L32a_40b ?L32a_40c;(case L32a_40a=>rfl);(case L32a_40b=>walk_at "xm");(case L32a_40c=>exact ns)
 ·refine au rfl (by walk_at "xm") ?_
  have q:=worth n (k+3) h4 hs;rw[show k+3+4*n+1=k+4*n+4 by omega] at q;exact q
def gF(d:D)(s1 s2:Sl):Rho:=[("_law_thing",.sh d),("_law_most",.sh .non),("_law_row",s1),("_law_one",s2)]
def SlK(s:Sl):Prop:=s=.no\/∃ d,s=.sh d
def bB(i j:Nat):Stmt:=(aH (top i)).body.getD j (.Pass ⟨0,0,0,0⟩)
def bR:Stmt->List Stmt
 | .For _ _ b _ _=>b
 | _=>[]
def gk:Stmt->Expr
 | .For t _ _ _ _=>t
 | _=>.Name "" ⟨0,0,0,0⟩
abbrev s93:Scope:=(aH (top 93)).sc
abbrev f93:Stmt:=bB 93 3
abbrev i93:Stmt:=(bR f93).getD 0 (.Pass ⟨0,0,0,0⟩)
theorem inner(k:Nat){d:D}(h2:SlK s2){r x:D}(hx:dep x<1000):
  (whole x=true->∃ ρ',(∃ s,SlK s/\ρ'=gF d (.sh r) s)/\fF (cxN T 60 k) 60 58 s93 (gk i93) (bR i93) x (gF d (.sh r) s2)=some (.nxt ρ')) /\
  (whole x=false->fF (cxN T 60 k) 60 58 s93 (gk i93) (bR i93) x (gF d (.sh r) s2)=some (.ret (.bl false))):=by
 cases hw:whole x with
 | false =>
  refine⟨fun q=>(nomatch q),fun _=>?_⟩
  cases hb:lM "bool" x with
  | true =>
   cases x<;>simp[lM] at hb
   refine dF rfl (m7 (fl1:=.ret (.bl false)) (bL (lW (dG (nW rfl rfl rfl (by nofun) rfl)) (Dg (nW rfl rfl rfl (by nofun) rfl)))) (bN (by nofun)) rfl)
  | false =>
   have hi:lM "int" x=false:=by cases x<;>first | rfl | (simp[whole] at hw;done) | (simp[lM] at hb;done)
   refine dF rfl (m7 (fl1:=.ret (.bl false)) (bL (Dg (ji (nW rfl rfl rfl (by nofun) hi rfl (O8 hx))))) (bN (by nofun)) rfl)
 | true =>
  cases x<;>simp[whole] at hw
  rename_i i;refine⟨fun _=>⟨_,⟨.sh (.int i),.inr ⟨_,rfl⟩,rfl⟩,?_⟩,fun q=>nomatch q⟩;exact dF rfl (lu (bL (lW (dG (nW rfl rfl rfl (by nofun) rfl)) (lW (nW rfl rfl rfl (by nofun) rfl) (iW (bL (oA (bK (by nofun) (by nofun) rfl))))))) cT)
theorem outer(k:Nat){d:D}(h1:SlK s1)(h2:SlK s2){x:D}(hx:dep x<1000)(hs:aZ x=true):
  ((cY x).all (whole)=true->∃ ρ',(∃ s s',SlK s/\SlK s'/\ρ'=gF d s s')/\fF (cxN T 60 k) 60 59 s93 (gk f93) (bR f93) x (gF d s1 s2)=some (.nxt ρ')) /\
  ((cY x).all (whole)=false->fF (cxN T 60 k) 60 59 s93 (gk f93) (bR f93) x (gF d s1 s2)=some (.ret (.bl false))):=by
 obtain⟨ys,rfl,y1,y4⟩:=dH hs
 have go:=jX (f:=fF (cxN T 60 k) 60 58 s93 (gk i93) (bR i93)) (ok:=whole) (r:=.bl false) (P:=fun ρ=>∃ s,SlK s/\ρ=gF d (.sh (.tup ys)) s) (l:=ys) (ρ:=gF d (.sh (.tup ys)) s2) ⟨s2,h2,rfl⟩ fun x hx' ρ hP=>by
  obtain⟨s,hs,rfl⟩:=hP;exact inner k hs (nD hx x hx')
 have hF:frz 60 (.Name "_law_row" ⟨0,0,0,0⟩) (gF d (.sh (.tup ys)) s2)=gF d (.sh (.tup ys)) s2:=by rcases h2 with rfl | ⟨z,rfl⟩<;>rfl
 refine⟨fun q=>?_,fun q=>?_⟩
 ·obtain⟨ρ',⟨s,hs,rfl⟩,hg⟩:=go.1 q
  refine⟨gF d (.sh (.tup ys)) s,⟨.sh (.tup ys),s,.inr ⟨_,rfl⟩,hs,rfl⟩,?_⟩;rcases h2 with rfl | ⟨z,rfl⟩
  ·exact dF rfl (gFor (l:=ys) (wSq rfl (by nofun) rfl) hg rfl)
  ·exact dF rfl (gFor (l:=ys) (wSq rfl (by nofun) rfl) hg rfl)
 ·have hg:=go.2 q
  rcases h2 with rfl | ⟨z,rfl⟩
  ·exact dF rfl (gFor (l:=ys) (wSq rfl (by nofun) rfl) hg rfl)
  ·exact dF rfl (gFor (l:=ys) (wSq rfl (by nofun) rfl) hg rfl)
def nY(d:D):Bool:=cj d&&(cY d).all fun r=>(cY r).all (whole)
theorem zq:deq (.lst l) (.lst [])=l.isEmpty:=by cases l<;>rfl
theorem zy{b:Nat}{t:D->Bool}(h:deps us<=b):dep (.lst ((us.filter t).map id))<=b+1:=by
 simp only[dep]
 have:=fu (b:=b) (l:=(us.filter t).map id) fun d hd=>by
  rw[T4z] at hd;exact F4z (iR (List.mem_filter.mp hd).1) h
 omega
theorem M7(k:Nat){d:D}(h:dep d<=40):aB T 60 (k+1) "_law_is_table" [d,.non]=some (.bl (nY d)):=by
 cases ht:lM "tuple" d with
 | false =>
  have e:nY d=false:=by cases d<;>first | rfl | (simp[lM] at ht;done)
  rw[e];exact bO (fd:=aH (top 93)) rfl rfl (m7 (fl1:=.ret (.bl false)) (bL (Dg (ji (nW rfl rfl rfl (by nofun) ht rfl (O8 (by omega)))))) (bN (by nofun)) rfl)
 | true =>
  cases d<;>simp[lM] at ht
  rename_i us
  have hus:deps us<=39:=by simp only[dep] at h;omega
  have hd:∀ x∈us,dep x<1000:=fun x hx=>by have:=iR hx;omega
  by_cases g1:1<=us.length
  rotate_left
  ·have e:nY (.tup us)=false:=by
    have:aZ (.tup us)=false:=by simp only[aZ];rw[O2z g1];rfl
    simp only[nY,cj,this,K3z]
   rw[e];exact bO (fd:=aH (top 93)) rfl rfl (m7 (fl1:=.ret (.bl false)) (bL (lW (dG (nW rfl rfl rfl (by nofun) rfl)) (iW (ji (Ak (by nofun) (bU rfl rfl rfl (by walk_at "xm") jx) (JH (by omega))))))) (bN (by nofun)) rfl)
  by_cases g4:us.length<=4
  rotate_left
  ·have e:nY (.tup us)=false:=by
    have:aZ (.tup us)=false:=by simp only[aZ];rw[O2z g4,O3z]
    simp only[nY,cj,this,K3z]
   rw[e];exact bO (fd:=aH (top 93)) rfl rfl (m7 (fl1:=.ret (.bl false)) (bL (lW (dG (nW rfl rfl rfl (by nofun) rfl)) (iW (ji (uG (by nofun) (bU rfl rfl rfl (by walk_at "xm") jx) (oLe (by omega)) (by nofun) (JH (by omega))))))) (bN (by nofun)) rfl)
  have hs:aZ (.tup us)=true:=by simp only[aZ];rw[L3z g1,L3z g4];rfl
  refine bO (fd:=aH (top 93)) rfl rfl (lu (bL (lW (dG (nW rfl rfl rfl (by nofun) rfl)) (iW (dG (uG (by nofun) (bU rfl rfl rfl (by walk_at "xm") jx) (oLe (by omega)) (by nofun) (oLe (by omega))))))) ?_)
  have c2:∀ b,(us.filter fun x => !lM "tuple" x).isEmpty=b->ev (cxN T 60 k) 60 s93 (gF (.tup us) .no .no) (match bB 93 1 with | .If c _ _ _=>c | _=>.Name "" ⟨0,0,0,0⟩)=some (.bl (!b)):=by
   intro b hb;have hne:=zy (t:=fun x => !lM "tuple" x) hus;refine bK (x:=.lst ((us.filter fun x => !lM "tuple" x).map id)) (y:=.lst []) (bF (l:=us) rfl (wSq rfl (by nofun) rfl) (gM (by omega)) (iB fun x hx=>nQ rfl (Oz (nW rfl rfl rfl (by nofun) rfl rfl (O8 (hd x hx)))) (by nofun))) (by nofun) ?_;rw[oNe (by omega) (by simp[dep,deps]),zq,T4z,hb]
  cases ha:us.all (lM "tuple") with
  | false =>
   have e:nY (.tup us)=false:=by
    have:us.all aZ=false:=by
     rw[Z1z] at ha ⊢;obtain⟨x,hx,hn⟩:=ha;exact⟨x,hx,fun q=>hn (by obtain⟨ys,rfl,_⟩:=dH q;rfl)⟩
    simp only[nY,cj,this,O3z,K3z]
   rw[e];refine m7 (fl1:=.ret (.bl false)) (c2 false ?_) (bN (by nofun)) rfl;rw[Z1z] at ha;obtain⟨x,hx,hn⟩:=ha;rw[List.isEmpty_eq_false_iff];exact List.ne_nil_of_mem (List.mem_filter.mpr ⟨hx,by simpa using hn⟩)
  | true =>
   refine lu (c2 true ?_) ?_
   ·rw[List.isEmpty_iff,N0z]
    intro x hx;simpa using M2z.mp ha x hx
   have htup:∀ x∈us,∃ ys,x=.tup ys:=fun x hx=>by
    have:=M2z.mp ha x hx
    cases x<;>simp[lM] at this
    exact⟨_,rfl⟩
   obtain⟨z,zs,hz⟩:∃ z zs,us=z::zs:=by
    cases us with
    | nil=>simp at g1
    | cons z zs=>exact⟨z,zs,rfl⟩
   obtain⟨ws,hw⟩:=htup z (by rw[hz];simp)
   have at0':atD us 0=some (.tup ws):=by rw[hz,hw];exact at0
   have hhead:us.headD .non=.tup ws:=by rw[hz,hw];rfl
   by_cases w1:1<=ws.length
   rotate_left
   ·have e:nY (.tup us)=false:=by
     have:us.all aZ=false:=by
      rw[Z1z];exact⟨z,by rw[hz];simp,by rw[hw];simp only[aZ];rw[O2z w1];simp⟩
     simp only[nY,cj,this,O3z,K3z]
    rw[e];exact m7 (fl1:=.ret (.bl false)) (bL (Dg (ji (Ak (by nofun) (bU rfl rfl rfl (aj (xIx (by nofun) (by nofun) rfl at0') aK) jx) (JH (by omega)))))) (bN (by nofun)) rfl
   by_cases w4:ws.length<=4
   rotate_left
   ·have e:nY (.tup us)=false:=by
     have:us.all aZ=false:=by
      rw[Z1z];exact⟨z,by rw[hz];simp,by rw[hw];simp only[aZ];rw[O2z w4];simp⟩
     simp only[nY,cj,this,O3z,K3z]
    rw[e];exact m7 (fl1:=.ret (.bl false)) (bL (Dg (ji (uG (by nofun) (bU rfl rfl rfl (aj (xIx (by nofun) (by nofun) rfl at0') aK) jx) (oLe (by omega)) (by nofun) (JH (by omega)))))) (bN (by nofun)) rfl
   have c3:∀ b,(us.filter fun x => !(u5 x==ws.length)).isEmpty=b->ev (cxN T 60 k) 60 s93 (gF (.tup us) .no .no) (match bB 93 2 with | .If c _ _ _=>c | _=>.Name "" ⟨0,0,0,0⟩)=some (.bl (!b)):=by
    intro b hb;have hne:=zy (t:=fun x => !(u5 x==ws.length)) hus;refine bL (lW (dG (uG (by nofun) (bU rfl rfl rfl (aj (xIx (by nofun) (by nofun) rfl at0') aK) jx) (oLe (by omega)) (by nofun) (oLe (by omega)))) (iW ?_));refine bK (x:=.lst ((us.filter fun x => !(u5 x==ws.length)).map id)) (y:=.lst []) (bF (l:=us) rfl (wSq rfl (by nofun) rfl) (gM (by omega)) (iB fun x hx=>?_)) (by nofun) ?_
    ·obtain⟨ys,rfl⟩:=htup x hx
     refine nQ rfl (bK (x:=.int (ys.length:Int)) (y:=.int (ws.length:Int)) (bU rfl rfl rfl (by walk_at "xm") jx) (bU rfl rfl rfl (aj (xIx (by nofun) (by nofun) rfl at0') aK) jx) ?_) (by nofun);rw[oNe (by simp[dep]) (by simp[dep])];congr 2;show(!((ys.length:Int)==(ws.length:Int))) = !(ys.length==ws.length);congr 1;rw[Bool.eq_iff_iff];simp only[C5z];omega
    ·rw[oNe (by omega) (by simp[dep,deps]),zq,T4z,hb]
   cases hl:lens us with
   | false =>
    have e:nY (.tup us)=false:=by simp only[nY,cj,hl,O3z,K3z]
    rw[e];refine m7 (fl1:=.ret (.bl false)) (c3 false ?_) (bN (by nofun)) rfl;unfold lens at hl;rw[hhead,Z1z] at hl;obtain⟨x,hx,hn⟩:=hl;rw[List.isEmpty_eq_false_iff];exact List.ne_nil_of_mem (List.mem_filter.mpr ⟨hx,by simpa[u5] using hn⟩)
   | true =>
    have hl':∀ x∈us,u5 x=ws.length:=fun x hx=>by
     unfold lens at hl;rw[hhead] at hl;simpa[u5] using M2z.mp hl x hx
    have hsh:us.all aZ=true:=by
     rw[M2z];intro x hx;obtain⟨ys,rfl⟩:=htup x hx;have:=hl' _ hx;simp only[u5] at this;simp only[aZ,this];rw[L3z w1,L3z w4];rfl
    have e:nY (.tup us)=us.all fun r=>(cY r).all (whole):=by simp only[nY,cj,hs,hsh,hl,A4z,cY]
    rw[e];refine lu (c3 true ?_) ?_
    ·rw[List.isEmpty_iff,N0z]
     intro x hx;simp[hl' x hx]
    have go:=jX (f:=fF (cxN T 60 k) 60 59 s93 (gk f93) (bR f93)) (ok:=fun r=>(cY r).all (whole)) (r:=.bl false) (P:=fun ρ=>∃ s s',SlK s/\SlK s'/\ρ=gF (.tup us) s s') (l:=us) (ρ:=gF (.tup us) .no .no) ⟨.no,.no,.inl rfl,.inl rfl,rfl⟩ fun x hx ρ hP=>by
     obtain⟨s,s',q1,q2,rfl⟩:=hP;exact outer k q1 q2 (hd x hx) (M2z.mp hsh x hx)
    cases hq:us.all fun r=>(cY r).all (whole) with
    | true =>
     obtain⟨ρ',⟨s,s',q1,q2,rfl⟩,hg⟩:=go.1 hq;refine gFor (l:=us) (wSq rfl (by nofun) rfl) hg ?_
     rcases q1 with rfl | ⟨d1,rfl⟩<;>rcases q2 with rfl | ⟨d2,rfl⟩<;>exact bN (by nofun)
    | false=>exact gFor (l:=us) (wSq rfl (by nofun) rfl) (go.2 hq) rfl
theorem vU(k:Nat):aB T 60 (k+1) "_law_word" [.exc "NoTable"]=some (.str "no table"):=by rfl'
theorem sZ{t:D->Bool}:∀ us:List D,(nums us).all t=us.all fun r=>(cY r).all t
 | []=>rfl
 | r::us=>by simp only[nums,List.all_append,Y3z,sZ us]
theorem Ie(d:D):nY d=fD d:=by
 unfold nY fD;rw[sZ]
theorem Ni(k:Nat){d:D}(h:dep d<=40):aB T 60 (k+1) "_law_is_table" [d,.non]=some (.bl (fD d)):=Ie d▸M7 k h
theorem uT(k:Nat)(i:Int):aB T 60 (k+1) "_law_places" [.int i]=some (.lst [.tup []]):=by rfl'
def kS:Nat->Sl
 | 0=>.no
 | i+1=>.sh (.int i)
def qL(d:D)(l:List D)(s:Sl):Rho:=[("_law_thing",.sh d),("_law_made",.ow l),("_law_k",s)]
theorem K7(k:Nat)(d:D)(l:List D)(i:Nat):blk (cxN T 60 k) 60 60 (aH (top 90)).sc ((aH (top 90)).body.drop 2) (qL d l (kS i))=some (.ret (.lst l)):=by
 cases i with
 | zero=>exact bN (by nofun)
 | succ i=>exact bN (by nofun)
theorem uR(k:Nat){n:Nat}{f:Nat->Int}(hn:n<=5):aB T 60 (k+2) "_law_places" [row n f]=some (.lst (.tup []::Ls n fun j=>.tup [.int j])):=by
 refine bO (fd:=aH (top 90)) rfl rfl (iw rfl (d:=.lst [.tup []]) (by nofun) (m7 (fl1:=.nxt (qL (row n f) (.tup []::Ls n fun j=>.tup [.int j]) (kS n))) (nW rfl rfl rfl (by nofun) rfl) (gFor (l:=Ls n fun j=>.int j) (fl1:=.nxt (qL (row n f) (.tup []::Ls n fun j=>.tup [.int j]) (kS n))) (vK rfl (bU rfl rfl rfl (by walk_at "xm") Fi) (by omega)) ?_ rfl) (K7 _ _ _ _)));refine fZ (R:=fun i=>qL (row n f) (.tup []::Ls i fun j=>.tup [.int j]) (kS i)) fun i hi=>?_;rw[gJ];refine dF rfl (Pk (zs:=[.tup [.int i]]) rfl rfl rfl rfl (gM (by simp[aR];omega)) ?_ rfl);refine bF (l:=[.tup []]) rfl (wSq rfl (au rfl (aj (vQ (by nofun) (by nofun) hi rfl rfl) aK) (uT k (f i))) rfl) rfl ?_
 exact bY (g:=fun _=>.tup [.int i]) fun x hx=>by
  have e:x=.tup []:=by simpa using hx
  subst e;exact bI rfl (bD (by nofun) (by nofun) rfl)
def pl2(n:Nat):Nat->List D
 | 0=>[]
 | i+1=>pl2 n i++(.tup [.int i]::Ls n fun j=>.tup [.int i,.int j])
theorem qN(n:Nat):∀ i,(pl2 n i).length=i*(n+1)
 | 0=>by simp[pl2]
 | i+1=>by
  simp only[pl2,K1z,I2z,aR,qN n i];rw[Nat.add_mul];omega
theorem uQ(k:Nat){m n:Nat}{f:Nat->Nat->Int}(hm:m<=5)(hn:n<=5):aB T 60 (k+3) "_law_places" [tbl m n f]=some (.lst (.tup []::pl2 n m)):=by
 refine bO (fd:=aH (top 90)) rfl rfl (iw rfl (d:=.lst [.tup []]) (by nofun) (m7 (fl1:=.nxt (qL (tbl m n f) (.tup []::pl2 n m) (kS m))) (nW rfl rfl rfl (by nofun) rfl) (gFor (l:=Ls m fun j=>.int j) (fl1:=.nxt (qL (tbl m n f) (.tup []::pl2 n m) (kS m))) (vK rfl (bU rfl rfl rfl (by walk_at "xm") Fi) (by omega)) ?_ rfl) (K7 _ _ _ _)));refine fZ (R:=fun i=>qL (tbl m n f) (.tup []::pl2 n i) (kS i)) fun i hi=>?_;have hlen:=qN n i;have hb:i*(n+1)<=5*6:=R3z (by omega) (by omega);refine dF rfl (Pk (zs:=.tup [.int i]::Ls n fun j=>.tup [.int i,.int j]) rfl rfl rfl rfl (gM (by simp only[I2z,aR];omega)) ?_ rfl);refine bF (l:=.tup []::Ls n fun j=>.tup [.int j]) rfl (wSq rfl (au rfl (aj (vQ (by nofun) (by nofun) hi rfl rfl) aK) (uR k hn)) rfl) (gM (by simp only[I2z,aR];omega)) ?_;rw[bY (g:=fun x=>.tup (.int i::cY x)) fun x hx=>?_]
 ·rw[W3z,lU];rfl
 ·have hx':∃ ys,x=.tup ys/\ys.length<=1:=by
   rcases List.mem_cons.mp hx with rfl | hx
   ·exact⟨[],rfl,by simp⟩
   ·unfold Ls at hx
    obtain⟨j,_,rfl⟩:=List.mem_map.mp hx;exact⟨_,rfl,by simp⟩
  obtain⟨ys,rfl,hy⟩:=hx';exact bI rfl (bD (by nofun) (by nofun) (zQ (us:=[.int i]) (by simp;omega)))
inductive Pl (m n:Nat):D->Prop
 | top:Pl m n (.tup [])
 | row {i:Nat}:i<m->Pl m n (.tup [.int i])
 | at {i j:Nat}:i<m->j<n->Pl m n (.tup [.int i,.int j])
theorem xg{m n:Nat}{x:D}:∀ i,i<=m->x∈pl2 n i->Pl m n x
 | 0,_,h=>by simp[pl2] at h
 | i+1,hi,h=>by
  simp only[pl2,D3z,List.mem_cons] at h;rcases h with h | rfl | h
  ·exact xg i (by omega) h
  ·exact .row (by omega)
  ·unfold Ls at h
   obtain⟨j,hj,rfl⟩:=List.mem_map.mp h;exact .at (by omega) (List.mem_range.mp hj)
theorem qM(k:Nat){d new:D}:aB T 60 (k+1) "_law_put" [d,.tup [],new]=some new:=by
 refine bO (fd:=aH (top 91)) rfl rfl (m7 (fl1:=.ret new) (bK (by nofun) (by nofun) rfl) (bN (by nofun)) rfl)
theorem wX(k:Nat){i:Nat}{new v x:D}(hx:us[i]?=some x)(h5:us.length<=100)(hp:ps.length<=3)(hd:deps ps<=3)(h:aB T 60 k "_law_put" [x,.tup ps,new]=some v):aB T 60 (k+1) "_law_put" [.tup us,.tup (.int i::ps),new]=some (.tup (us.take i++[v]++us.drop (i+1))):=by
 have hi:i<us.length:=(List.getElem?_eq_some_iff.mp hx).1;refine bO (fd:=aH (top 91)) rfl rfl (lu (bK (x:=.tup (.int i::ps)) (y:=.tup []) (by nofun) (by nofun) ?_) (iw rfl (d:=.int i) (xIx (by nofun) (by nofun) rfl at0) (bN ?_)))
 ·rw[oEq (by simp only[dep,deps];omega) (by simp[dep,deps])];rfl
 ·refine bD (x:=.tup (us.take i++[v])) (y:=.tup (us.drop (i+1))) (bD (x:=.tup (us.take i)) (y:=.tup [v]) (Py (by nofun) (by nofun) hi) (qj (aj ?_ aK) rfl) (zQ (by simp;omega))) (vP (by nofun) ?_ (by omega) (by omega)) (zQ (by simp;omega))
  ·refine au rfl (aj (xIx (by nofun) (by nofun) rfl (iV hx)) (aj (x:=.tup ps) ?_ (aj (by nofun) aK))) h
   exact vP (us:=.int i::ps) (i:=1) (by nofun) (by nofun) (by omega) (by simp)
  ·exact bD (by nofun) (by nofun) rfl
theorem Jx:blt "len" [.lst us]=some (.int (us.length:Int)):=rfl
def wM(h:D):List D:=[.int 99,.int (-99),.int 100,.int (-100),.bl true,.non,.str "1",.tup [],.tup [.int 1,.int 2],.tup [.tup [.int 1]],.lst [.int 1,.int 2],.tup [h,h],.int 0,.int (-1)]
theorem Ay{h x:D}(hh:dep h<=2)(hx:x∈wM h):dep x<=3:=by
 simp only[wM,List.mem_cons,List.not_mem_nil,or_false] at hx
 rcases hx with rfl | rfl | rfl | rfl | rfl | rfl | rfl | rfl | rfl | rfl | rfl | rfl | rfl | rfl<;>simp[dep,deps]<;>omega
def kY(ns:List Int)(a:Nat)(t:D)(L:List D)(x h:D)(s:Sl):Rho:=[("_law_script",.sh (scr ns)),("_law_at",.sh (.int a)),("_law_thing",.sh t),("_law_places_here",.sh (.lst L)),("_law_place",.sh x),("_law_here",.sh h),("_law_k",s),("_law_some_here",.no)]
theorem get_some{l:List D}{i:Nat}(h:i<l.length):∃ x,l[i]?=some x/\x∈l:=⟨l[i],List.getElem?_eq_getElem h,List.getElem_mem h⟩
theorem qH(k:Nat){ns:List Int}{a:Nat}{t x h:D}{L:List D}{s:Sl}(hs:nOw s=true)(hh:dep h<=2)(hput:∀ new,dep new<=3->∃ v,dep v<=10/\aB T 60 (k+3) "_law_put" [t,x,new]=some v):
  ∃ v,dep v<=10/\blk (cxN T 60 (k+3)) 60 60 (aH (top 92)).sc ((aH (top 92)).body.drop 4) (kY ns a t L x h s)=some (.ret v):=by
 have hp:=cG (ns:=ns) (k:=a+1) (many:=14) (by decide);obtain⟨new,g1,g2⟩:=get_some (l:=wM h) (i:=pickN ns (a+1) 14) hp;obtain⟨v,v1,v2⟩:=hput new (Ay hh g2);refine⟨v,v1,?_⟩;have hq:aB T 60 (k+3) "_law_pick" [scr ns,.int ((a+1:Nat):Int),.int ((14:Nat):Int)]=some (.int ((pickN ns (a+1) 14:Nat):Int)):=pick (k+1) ns (a+1) (many:=14) (by decide)
 cases s with
 | ow ds=>simp[nOw] at hs
 | oo ds=>simp[nOw] at hs
 | no=>exact iw rfl (d:=.lst (wM h)) (by nofun) (bN (au rfl (aj (by nofun) (aj (by nofun) (aj (xIx (i:=((pickN ns (a+1) 14:Nat):Int)) (by nofun) (au rfl (aj (by nofun) (aj (bD (by nofun) (by nofun) rfl) (aj (by nofun) aK))) hq) rfl (iV g1)) aK))) v2))
 | sh d=>exact iw rfl (d:=.lst (wM h)) (by nofun) (bN (au rfl (aj (by nofun) (aj (by nofun) (aj (xIx (i:=((pickN ns (a+1) 14:Nat):Int)) (by nofun) (au rfl (aj (by nofun) (aj (bD (by nofun) (by nofun) rfl) (aj (by nofun) aK))) hq) rfl (iV g1)) aK))) v2))
theorem rF{i:Nat}{b:Nat}(h1:deps us<=b)(h2:dep v<=b):dep (.tup (us.take i++[v]++us.drop (i+1)))<=b+1:=by
 simp only[dep];have:=zA (zA (us:=us.take i) (vs:=[v]) (CJ h1) (by simp only[deps];omega)) (CK (i:=i+1) h1);omega
theorem Ky(k:Nat)(ns:List Int)(a:Nat){m n:Nat}{f:Nat->Nat->Int}(hm1:1<=m)(hm:m<=5)(hn:n<=5):∃ v,dep v<=10/\aB T 60 (k+4) "_law_spoilt_thing" [scr ns,.int a,tbl m n f]=some v:=by
 have hL:(D.tup []::pl2 n m).length=m*(n+1)+1:=by simp only[I2z,qN]
 have hp:=cG (ns:=ns) (k:=a) (many:=(D.tup []::pl2 n m).length) (by rw[hL];omega)
 obtain⟨x,g1,g2⟩:=get_some hp
 have hpl:Pl m n x:=by
  rcases List.mem_cons.mp g2 with rfl | g2
  ·exact .top
  ·exact xg m (Q4z _) g2
 have dt:dep (tbl m n f)<=2:=zu
 have drs:deps (Ls m fun i=>D.tup (Ls n fun j=>D.int (f i j)))<=1:=by simp only[dep] at dt;omega
 have drow:∀ i,deps (Ls n fun j=>D.int (f i j))<=0:=fun i=>by have:=rE (n:=n) (f:=f i);simp only[dep] at this;omega
 have head:∀ {s:Sl} {h v:D} {ps:List D},x=.tup ps->bV (fF (cxN T 60 (k+3)) 60 59 (aH (top 92)).sc (gk (bB 92 3)) (bR (bB 92 3))) ps (kY ns a (tbl m n f) (.tup []::pl2 n m) (.tup ps) (tbl m n f) .no)=some (.nxt (kY ns a (tbl m n f) (.tup []::pl2 n m) (.tup ps) h s)) ->
   blk (cxN T 60 (k+3)) 60 60 (aH (top 92)).sc ((aH (top 92)).body.drop 4) (kY ns a (tbl m n f) (.tup []::pl2 n m) (.tup ps) h s)=some (.ret v)->aB T 60 (k+4) "_law_spoilt_thing" [scr ns,.int a,tbl m n f]=some v:=by
  intro s h v ps hx hgo hret;rw[hx] at g1;refine bO (fd:=aH (top 92)) rfl rfl (iw rfl (d:=.lst (.tup []::pl2 n m)) ?_ (iw rfl (d:=.tup ps) ?_ (iw rfl (d:=tbl m n f) (by nofun) (gFor (l:=ps) (wSq rfl (by nofun) rfl) hgo hret))))
  ·refine' au ?L32b_1a ?L32b_1b ?L32b_1c;(case L32b_1a=>rfl);(case L32b_1b=>walk_at "xm");(case L32b_1c=>exact uQ k hm hn)
  ·refine xIx (by nofun) ?_ rfl (iV g1)
   refine au rfl (aj (by nofun) (aj (by nofun) (aj (bU rfl rfl rfl (by walk_at "xm") Jx) aK))) (pick (k+1) ns a ?_);rw[hL];omega
 cases hpl with
 | top =>
  obtain⟨v,v1,v2⟩:=qH (ns:=ns) (a:=a) (t:=tbl m n f) (x:=.tup []) (h:=tbl m n f) (L:=.tup []::pl2 n m) (s:=.no) k rfl dt fun new hnew=>⟨new,by omega,qM _⟩;exact⟨v,v1,head rfl rfl v2⟩
 | @row i hi =>
  obtain⟨v,v1,v2⟩:=qH (ns:=ns) (a:=a) (t:=tbl m n f) (x:=.tup [.int i]) (h:=row n (f i)) (L:=.tup []::pl2 n m) (s:=.sh (.int i)) k rfl (by have:=rE (n:=n) (f:=f i);omega) fun new hnew =>
   ⟨_,F4z (rF (b:=3) (F4z drs (by omega)) hnew) (by omega),wX (k+2) (ps:=[]) (cB hi) (by rw[aR];omega) (by simp) (by simp[deps]) (qM _)⟩
  refine⟨v,v1,head rfl ?_ v2⟩
  have:fF (cxN T 60 (k+3)) 60 59 (aH (top 92)).sc (gk (bB 92 3)) (bR (bB 92 3)) (.int i) (kY ns a (tbl m n f) (.tup []::pl2 n m) (.tup [.int i]) (tbl m n f) .no)=some (.nxt (kY ns a (tbl m n f) (.tup []::pl2 n m) (.tup [.int i]) (row n (f i)) (.sh (.int i)))) :=
   dF rfl (iw rfl (d:=row n (f i)) (xIx (by nofun) (by nofun) rfl (lR hi)) rfl)
  show bV _ [D.int i] _=_;simp only[bV,this];rfl
 | @«at» i j hi hj =>
  obtain⟨v,v1,v2⟩:=qH (ns:=ns) (a:=a) (t:=tbl m n f) (x:=.tup [.int i,.int j]) (h:=.int (f i j)) (L:=.tup []::pl2 n m) (s:=.sh (.int j)) k rfl (by simp[dep]) fun new hnew =>
   ⟨_,F4z (rF (b:=4) (F4z drs (by omega)) (rF (b:=3) (F4z (drow i) (by omega)) hnew)) (by omega),wX (k+2) (ps:=[.int j]) (cB hi) (by rw[aR];omega) (by simp) (by simp[deps,dep]) (wX (k+1) (ps:=[]) (cB hj) (by rw[aR];omega) (by simp) (by simp[deps]) (qM _))⟩
  refine⟨v,v1,head rfl ?_ v2⟩
  have e1:fF (cxN T 60 (k+3)) 60 59 (aH (top 92)).sc (gk (bB 92 3)) (bR (bB 92 3)) (.int i) (kY ns a (tbl m n f) (.tup []::pl2 n m) (.tup [.int i,.int j]) (tbl m n f) .no)=some (.nxt (kY ns a (tbl m n f) (.tup []::pl2 n m) (.tup [.int i,.int j]) (row n (f i)) (.sh (.int i)))) :=
   dF rfl (iw rfl (d:=row n (f i)) (xIx (by nofun) (by nofun) rfl (lR hi)) rfl)
  have e2:fF (cxN T 60 (k+3)) 60 59 (aH (top 92)).sc (gk (bB 92 3)) (bR (bB 92 3)) (.int j) (kY ns a (tbl m n f) (.tup []::pl2 n m) (.tup [.int i,.int j]) (row n (f i)) (.sh (.int i)))=some (.nxt (kY ns a (tbl m n f) (.tup []::pl2 n m) (.tup [.int i,.int j]) (.int (f i j)) (.sh (.int j)))) :=
   dF rfl (iw rfl (d:=.int (f i j)) (xIx (by nofun) (by nofun) rfl (lR hj)) rfl)
  show bV _ [D.int i,D.int j] _=_;simp only[bV,e1];show(fF _ _ _ _ _ _ _ _ >>=_)=_;rw[e2];rfl
theorem Lj(k:Nat)(ns:List Int)(kk:Nat){many:Nat}(h:0<many){i:Int}(hi:i=(kk:Int)){m:Int}(hm:m=(many:Int)):aB T 60 (k+2) "_law_pick" [scr ns,.int i,.int m]=some (.int ((pickN ns kk many:Nat):Int)):=by
 subst hi hm;exact pick k ns kk h
section
variable {cx:Cxt} {sc:Scope} {ρ ρ':Rho} {e:Expr} {p:Pos} {d:D} {nm:Str} {F m:Nat} {r:List Stmt} {fl:Fl} {y:Str} {s:Sl} {ds:List D}
theorem pG:frz F e []=[]:=rfl
theorem aW(h:nOw s=true)(q:frz F e ρ=ρ'):frz F e ((y,s)::ρ)=(y,s)::ρ':=by rw[Ci h,q]
end
def rC:Stmt->List Stmt
 | .For _ _ b _ _=>b
 | _=>[]
def Af:Stmt->Expr
 | .For t _ _ _ _=>t
 | _=>.Name "" ⟨0,0,0,0⟩
def pss:Stmt:=.Pass ⟨0,0,0,0⟩
theorem no_n{x:Str}:kZ [] x=true:=rfl
theorem pq{x y:Str}{s:Sl}(h:nOw s=true)(q:kZ ρ x=true):kZ ((y,s)::ρ) x=true:=by
 unfold kZ at q ⊢;rw[Y3z,q,C4z]
 cases s<;>first | (simp[nOw] at h;done) | simp[Pj]
theorem no_k{x y:Str}(q:kZ ρ x=true):kZ ((y,.ow ds)::ρ) x=true:=by
 unfold kZ at q ⊢;rw[Y3z,q,C4z];simp[Pj]
theorem HB{x:Str}{e:Expr}(q:kZ ρ x=true):(aX e && !kZ ρ x)=false:=by rw[q];simp
theorem dY{f:D->Rho->Option Fl}{h:Nat->D}{P:Nat->Rho->Prop}{N:Nat}(hs:∀ i ρ,i<N->P i ρ->∃ ρ',P (i+1) ρ'/\f (h i) ρ=some (.nxt ρ'))(h0:P 0 ρ):∃ ρ',P N ρ'/\bV f (Ls N h) ρ=some (.nxt ρ'):=by
 have key:∀ (n a:Nat) (ρ:Rho),a+n<=N->P a ρ->∃ ρ',P (a+n) ρ'/\bV f ((List.range' a n).map h) ρ=some (.nxt ρ'):=by
  intro n
  induction n with
  | zero=>intro a ρ _ hp;exact⟨ρ,hp,rfl⟩
  | succ n ih =>
   intro a ρ ha hp;obtain⟨ρ1,h1,h2⟩:=hs a ρ (by omega) hp;obtain⟨ρ2,h3,h4⟩:=ih (a+1) ρ1 (by omega) h1;refine⟨ρ2,by rw[show a+(n+1)=a+1+n by omega];exact h3,?_⟩;rw[List.range'_succ,W3z];simp only[bV,h2];exact h4
 obtain⟨ρ',h1,h2⟩:=key N 0 ρ (by omega) h0;rw[O4z] at h1;refine⟨ρ',h1,?_⟩;unfold Ls;rw[List.range_eq_range'];exact h2
def jq(o p:D)(md ro li co to k:Sl):Rho:=[("_law_one",.sh o),("_law_other",.sh p),("_law_made",md),("_law_row",ro),("_law_line",li),("_law_column",co),("_law_total",to),("_law_k",k)]
def lt1:Stmt:=(aH (top 84)).body.getD 1 pss
def lt2:Stmt:=(rC lt1).getD 1 pss
def lt3:Stmt:=(rC lt2).getD 1 pss
theorem Mw(k:Nat){m n p i j:Nat}{f g:Nat->Nat->Int}{md li:List D}(hk:nOw k0=true)(hj:j<p)(hs:∀ l,l<n->small (f i l)=true\/small (g l j)=true):
  ∃ k',nOw k'=true/\bV (fF (cxN T 60 k) 60 57 (aH (top 84)).sc (Af lt3) (rC lt3)) (Ls n fun l=>.int l) (jq (tbl m n f) (tbl n p g) (.ow md) (.sh (row n (f i))) (.ow li) (.sh (.int j)) (.sh (.int 0)) k0)=some (.nxt (jq (tbl m n f) (tbl n p g) (.ow md) (.sh (row n (f i))) (.ow li) (.sh (.int j)) (.sh (.int (mul n f g i j))) k')):=by
 have st:=dY (f:=fF (cxN T 60 k) 60 57 (aH (top 84)).sc (Af lt3) (rC lt3)) (h:=fun l=>.int l) (N:=n) (P:=fun l ρ=>∃ k',nOw k'=true/\ρ=jq (tbl m n f) (tbl n p g) (.ow md) (.sh (row n (f i))) (.ow li) (.sh (.int j)) (.sh (.int (lC l fun l=>f i l*g l j))) k') (ρ:=jq (tbl m n f) (tbl n p g) (.ow md) (.sh (row n (f i))) (.ow li) (.sh (.int j)) (.sh (.int 0)) k0) (fun l ρ hl hP=>by
  obtain⟨k1,hk1,e⟩:=hP;subst e;refine⟨_,⟨.sh (.int l),rfl,rfl⟩,?_⟩;refine dF (ρ1:=jq (tbl m n f) (tbl n p g) (.ow md) (.sh (row n (f i))) (.ow li) (.sh (.int j)) (.sh (.int (lC l fun l=>f i l*g l j))) (.sh (.int l))) rfl ?_;refine iw rfl (d:=.int (lC (l+1) fun l=>f i l*g l j)) ?_ rfl;refine bD (x:=.int (lC l fun l=>f i l*g l j)) (y:=.int (f i l*g l j)) (by nofun) (bD (x:=.int (f i l)) (y:=.int (g l j)) (vQ (m:=n) (j:=l) (h:=fun l=>.int (f i l)) ?_ ?_ hl rfl rfl) (vQ (m:=p) (j:=j) (h:=fun j=>.int (g l j)) (vQ (m:=n) (j:=l) (h:=fun l=>row p (g l)) ?_ ?_ hl rfl rfl) ?_ hj rfl rfl) (Dc (hs l hl))) rfl
  ·nofun
  ·nofun
  ·nofun
  ·nofun
  ·nofun) ⟨k0,hk,rfl⟩
 obtain⟨ρ',⟨k',h1,rfl⟩,h2⟩:=st;exact⟨k',h1,h2⟩
theorem Mx(k:Nat){m n p i:Nat}{f g:Nat->Nat->Int}{md:List D}{c0 t0 k0:Sl}(hc:nOw c0=true)(ht:nOw t0=true)(hk:nOw k0=true)(n1:1<=n)(n4:n<=4)(p4:p<=4)(hs:∀ l j,l<n->j<p->small (f i l)=true\/small (g l j)=true):
  ∃ c' t' k',nOw c'=true/\nOw t'=true/\nOw k'=true/\bV (fF (cxN T 60 k) 60 58 (aH (top 84)).sc (Af lt2) (rC lt2)) (Ls p fun l=>.int l) (jq (tbl m n f) (tbl n p g) (.ow md) (.sh (row n (f i))) (.ow []) c0 t0 k0)=some (.nxt (jq (tbl m n f) (tbl n p g) (.ow md) (.sh (row n (f i))) (.ow (Ls p fun j=>.int (mul n f g i j))) c' t' k')):=by
 have st:=dY (f:=fF (cxN T 60 k) 60 58 (aH (top 84)).sc (Af lt2) (rC lt2)) (h:=fun l=>.int l) (N:=p) (P:=fun j ρ=>∃ c' t' k',nOw c'=true/\nOw t'=true/\nOw k'=true/\ρ=jq (tbl m n f) (tbl n p g) (.ow md) (.sh (row n (f i))) (.ow (Ls j fun j=>.int (mul n f g i j))) c' t' k') (ρ:=jq (tbl m n f) (tbl n p g) (.ow md) (.sh (row n (f i))) (.ow []) c0 t0 k0) (fun j ρ hj hP=>by
  obtain⟨c1,t1,k1,hc1,ht1,hk1,e⟩:=hP;subst e;obtain⟨k2,hk2,go⟩:=Mw k (m:=m) (n:=n) (p:=p) (i:=i) (j:=j) (f:=f) (g:=g) (md:=md) (li:=Ls j fun j=>.int (mul n f g i j)) hk1 hj (fun l hl=>hs l j hl hj);refine⟨_,⟨.sh (.int j),.sh (.int (mul n f g i j)),k2,rfl,rfl,hk2,rfl⟩,?_⟩;rw[gJ];refine dF (ρ1:=jq (tbl m n f) (tbl n p g) (.ow md) (.sh (row n (f i))) (.ow (Ls j fun j=>.int (mul n f g i j))) (.sh (.int j)) t1 k1) rfl ?_;refine eH (ρ':=jq (tbl m n f) (tbl n p g) (.ow md) (.sh (row n (f i))) (.ow (Ls j fun j=>.int (mul n f g i j))) (.sh (.int j)) t1 k1) (d:=.int 0) (aW rfl (aW rfl (kI rfl (aW rfl (kI rfl (aW rfl (aW ht1 (aW hk1 pG)))))))) rfl rfl (by nofun) ?_;show blk _ _ _ _ _ (jq (tbl m n f) (tbl n p g) (.ow md) (.sh (row n (f i))) (.ow (Ls j fun j=>.int (mul n f g i j))) (.sh (.int j)) (.sh (.int 0)) k1)=_;refine lA (ρ':=jq (tbl m n f) (tbl n p g) (.ow md) (.sh (row n (f i))) (.ow (Ls j fun j=>.int (mul n f g i j))) (.sh (.int j)) (.sh (.int 0)) k1) (l:=Ls n fun l=>.int l) (aW rfl (aW rfl (kI rfl (aW rfl (kI rfl (aW rfl (aW rfl (aW hk1 pG)))))))) ?_ go ?_
  ·walk_at "xi"
  ·refine Cg (ρ':=jq (tbl m n f) (tbl n p g) (.ow md) (.sh (row n (f i))) (.ow (Ls j fun j=>.int (mul n f g i j))) (.sh (.int j)) (.sh (.int (mul n f g i j))) k2) (d:=.int (mul n f g i j)) (aW rfl (aW rfl (kI rfl (aW rfl (kI rfl (aW rfl (aW rfl (aW hk2 pG)))))))) rfl rfl rfl (gM (by rw[aR];omega)) (by nofun) rfl) ⟨c0,t0,k0,hc,ht,hk,rfl⟩
 obtain⟨ρ',⟨c',t',k',h1,h2,h3,rfl⟩,h4⟩:=st;exact⟨c',t',k',h1,h2,h3,h4⟩
theorem Mz(k:Nat){m n p:Nat}{f g:Nat->Nat->Int}(m4:m<=4)(n1:1<=n)(n4:n<=4)(p4:p<=4)(hs:∀ i l j,i<m->l<n->j<p->small (f i l)=true\/small (g l j)=true):
  ∃ r' l' c' t' k',nOw r'=true/\nOw l'=true/\nOw c'=true/\nOw t'=true/\nOw k'=true/\bV (fF (cxN T 60 k) 60 59 (aH (top 84)).sc (Af lt1) (rC lt1)) (Ls m fun i=>row n (f i)) (jq (tbl m n f) (tbl n p g) (.ow []) .no .no .no .no .no)=some (.nxt (jq (tbl m n f) (tbl n p g) (.ow (Ls m fun i=>row p (mul n f g i))) r' l' c' t' k')):=by
 have st:=dY (f:=fF (cxN T 60 k) 60 59 (aH (top 84)).sc (Af lt1) (rC lt1)) (h:=fun i=>row n (f i)) (N:=m) (P:=fun i ρ=>∃ r' l' c' t' k',nOw r'=true/\nOw l'=true/\nOw c'=true/\nOw t'=true/\nOw k'=true/\ρ=jq (tbl m n f) (tbl n p g) (.ow (Ls i fun i=>row p (mul n f g i))) r' l' c' t' k') (ρ:=jq (tbl m n f) (tbl n p g) (.ow []) .no .no .no .no .no) (fun i ρ hi hP=>by
  obtain⟨r1,l1,c1,t1,k1,hr1,hl1,hc1,ht1,hk1,e⟩:=hP;subst e;obtain⟨c2,t2,k2,hc2,ht2,hk2,go⟩:=Mx k (m:=m) (n:=n) (p:=p) (i:=i) (f:=f) (g:=g) (md:=Ls i fun i=>row p (mul n f g i)) hc1 ht1 hk1 n1 n4 p4 (fun l j hl hj=>hs i l j hi hl hj);refine⟨_,⟨.sh (row n (f i)),.sh (.lst (Ls p fun j=>.int (mul n f g i j))),c2,t2,k2,rfl,rfl,hc2,ht2,hk2,rfl⟩,?_⟩;rw[gJ];refine dF (ρ1:=jq (tbl m n f) (tbl n p g) (.ow (Ls i fun i=>row p (mul n f g i))) (.sh (row n (f i))) l1 c1 t1 k1) rfl ?_;refine yK (ρ':=jq (tbl m n f) (tbl n p g) (.ow (Ls i fun i=>row p (mul n f g i))) (.sh (row n (f i))) l1 c1 t1 k1) (d:=.lst []) (aW rfl (aW rfl (kI rfl (aW rfl (aW hl1 (aW hc1 (aW ht1 (aW hk1 pG)))))))) rfl (by nofun) ?_ rfl (HB (pq rfl (pq rfl (no_k (pq rfl (pq hl1 (pq hc1 (pq ht1 (pq hk1 no_n)))))))));show blk _ _ _ _ _ (jq (tbl m n f) (tbl n p g) (.ow (Ls i fun i=>row p (mul n f g i))) (.sh (row n (f i))) (.ow []) c1 t1 k1)=_;refine lA (ρ':=jq (tbl m n f) (tbl n p g) (.ow (Ls i fun i=>row p (mul n f g i))) (.sh (row n (f i))) (.ow []) c1 t1 k1) (l:=Ls p fun l=>.int l) (aW rfl (aW rfl (kI rfl (aW rfl (kI rfl (aW hc1 (aW ht1 (aW hk1 pG)))))))) ?_ go ?_
  ·walk_at "xi"
  ·refine Cg (ρ':=jq (tbl m n f) (tbl n p g) (.ow (Ls i fun i=>row p (mul n f g i))) (.sh (row n (f i))) (.sh (.lst (Ls p fun j=>.int (mul n f g i j)))) c2 t2 k2) (d:=row p (mul n f g i)) (aW rfl (aW rfl (kI rfl (aW rfl (JN rfl (aW hc2 (aW ht2 (aW hk2 pG)))))))) rfl rfl rfl (gM (by rw[aR];omega)) ?_ rfl
   exact bU rfl rfl rfl (by walk_at "xm") gK) ⟨.no,.no,.no,.no,.no,rfl,rfl,rfl,rfl,rfl,rfl⟩
 obtain⟨ρ',⟨r',l',c',t',k',h1,h2,h3,h4,h5,rfl⟩,h6⟩:=st;exact⟨r',l',c',t',k',h1,h2,h3,h4,h5,h6⟩
theorem BK(k:Nat){m n p:Nat}{f g:Nat->Nat->Int}(m4:m<=4)(n1:1<=n)(n4:n<=4)(p4:p<=4)(hs:Sm m n f\/Sm n p g):aB T 60 (k+1) "_law_times" [tbl m n f,tbl n p g]=some (tbl m p (mul n f g)):=by
 obtain⟨r',l',c',t',k',h1,h2,h3,h4,h5,go⟩:=Mz k (f:=f) (g:=g) m4 n1 n4 p4 (fun i l j hi hl hj=>hs.imp (fun q=>q i l hi hl) (fun q=>q l j hl hj));refine bO (fd:=aH (top 84)) rfl rfl (iw rfl (d:=.lst []) (by nofun) ?_);show blk _ _ _ _ _ (jq (tbl m n f) (tbl n p g) (.ow []) .no .no .no .no .no)=_;refine lA (ρ':=jq (tbl m n f) (tbl n p g) (.ow []) .no .no .no .no .no) (l:=Ls m fun i=>row n (f i)) (aW rfl (aW rfl (kI rfl (aW rfl (aW rfl (aW rfl (aW rfl (aW rfl pG)))))))) ?_ go ?_
 ·walk_at "xi"
 ·refine bN (bU rfl rfl rfl (aj (x:=.lst (Ls m fun i=>row p (mul n f g i))) ?_ aK) gK)
  nofun
section
variable {cx:Cxt} {sc:Scope} {ρ ρ':Rho} {e:Expr} {p:Pos} {d:D} {nm:Str} {F m:Nat} {r:List Stmt} {fl:Fl} {y:Str} {s:Sl} {ds:List D}
end
abbrev plL(l:List Nat):D:=.tup (l.map fun(k:Nat)=>D.int k)
theorem Ds(l:List Nat):plL l=plc l.length fun i=>l.getD i 0:=by
 show D.tup _=D.tup _;rw[Yr 0]
def subs(many:Nat):Nat->List (List Nat)
 | 0=>[[]]
 | s+1=>(subs many s).flatMap fun a=>(List.range' ((a.getLast?.map (· + 1)).getD 0) (many-(a.getLast?.map (· + 1)).getD 0)).map fun x=>a++[x]
theorem oO(k:Nat){n s:Nat}(h1:1<=n)(h4:n<=4)(s1:1<=s)(sn:s<=n):aB T 60 (k+2) "rising_tuples" [.int n,.int s]=some (.lst ((subs n s).map plL)):=by
 match n,s,h1,h4,s1,sn with
 | 1,1,_,_,_,_=>rfl'
 | 2,1,_,_,_,_=>rfl'
 | 2,2,_,_,_,_=>rfl'
 | 3,1,_,_,_,_=>rfl'
 | 3,2,_,_,_,_=>rfl'
 | 3,3,_,_,_,_=>rfl'
 | 4,1,_,_,_,_=>rfl'
 | 4,2,_,_,_,_=>rfl'
 | 4,3,_,_,_,_=>rfl'
 | 4,4,_,_,_,_=>rfl'
def okL(n:Nat)(l:List Nat):Bool:=l.all fun x=>decide (x<n)
theorem DK{n:Nat}{l:List Nat}(h:okL n l=true):∀ j,j<l.length->l.getD j 0<n:=by
 unfold okL at h;rw[M2z] at h;intro j hj;have:=h l[j] (List.getElem_mem _);rw[List.getD_eq_getElem?_getD,List.getElem?_eq_getElem hj];simpa using this
def Yp(n s:Nat):Bool:=(subs n s).all fun S=>okL n S&&decide (S.length=s)
theorem fV{n s:Nat}(h1:1<=n)(h4:n<=4)(s1:1<=s)(sn:s<=n):Yp n s=true/\(subs n s).length<=6:=by
 match n,s,h1,h4,s1,sn with
 | 1,1,_,_,_,_=>decide
 | 2,1,_,_,_,_=>decide
 | 2,2,_,_,_,_=>decide
 | 3,1,_,_,_,_=>decide
 | 3,2,_,_,_,_=>decide
 | 3,3,_,_,_,_=>decide
 | 4,1,_,_,_,_=>decide
 | 4,2,_,_,_,_=>decide
 | 4,3,_,_,_,_=>decide
 | 4,4,_,_,_,_=>decide
theorem wC{n s:Nat}{S:List Nat}(h1:1<=n)(h4:n<=4)(s1:1<=s)(sn:s<=n)(hS:S∈subs n s):okL n S=true/\S.length=s:=by
 have q:=M2z.mp (fV h1 h4 s1 sn).1 S hS;simp only[D2z,W1z] at q;exact q
def dM(f:Nat->Nat->Int)(R C:List Nat):Int:=det R.length fun i j=>f (R.getD i 0) (C.getD j 0)
def mnD(f:Nat->Nat->Int)(R C:List Nat):D:=.tup [plL R,plL C,.int (dM f R C)]
theorem ni{α:Type}{f:D->Rho->Option Fl}{g:α->D}{R:List α->Rho}{whole:List α}(h:∀ pre x post,pre++x::post=whole->f (g x) (R pre)=some (.nxt (R (pre++[x])))):∀ {l pre:List α},pre++l=whole->bV f (l.map g) (R pre)=some (.nxt (R whole))
 | [],pre,e=>by rw[S2z] at e;rw[e];rfl
 | x::l,pre,e=>by
  simp only[W3z,bV,h pre x l e];exact ni h (l:=l) (pre:=pre++[x]) (by rw[T1z];exact e)
def jU{α:Type}(g:α->D)(l:List α):Sl:=match l.getLast? with
 | none=>.no
 | some x=>.sh (g x)
theorem lJ{α:Type}{g:α->D}{l:List α}{x:α}:jU g (l++[x])=.sh (g x):=by simp[jU]
theorem tO{α:Type}(g:α->D)(l:List α):jU g l=.no\/∃ d,jU g l=.sh d:=by
 unfold jU;split
 ·exact .inl rfl
 ·exact .inr ⟨_,rfl⟩
structure Tb (m n:Nat) (f:Nat->Nat->Int):Prop where
 m1:1<=m
 m4:m<=4
 n1:1<=n
 n4:n<=4
 sm:Sm m n f
theorem lE(k:Nat){m n:Nat}{f:Nat->Nat->Int}{R C:List Nat}(t:Tb m n f)(hR:okL m R=true)(hC:okL n C=true)(hl:C.length=R.length)(h4:R.length<=4):
  aB T 60 (k+2) "part_at" [tbl m n f,plL R,plL C]=some (tbl R.length R.length fun i j=>f (R.getD i 0) (C.getD j 0))/\aB T 60 (k+4*R.length+1) "worth_of" [tbl R.length R.length fun i j=>f (R.getD i 0) (C.getD j 0)]=some (.int (dM f R C)):=by
 have r:=DK hR;have c:=DK hC;rw[hl] at c;refine⟨?_,worth R.length k h4 fun i j hi hj=>t.sm _ _ (r i hi) (c j hj)⟩;rw[Ds R,Ds C,hl];exact part_at k h4 h4 r c
theorem M5(l:List Nat):blt "len" [plL l]=some (.int (l.length:Int)):=by
 show some (D.int ((l.map fun(k:Nat)=>D.int k).length:Int))=_;rw[U2z]
def K4(t R:D)(md:List D)(c:Sl):Rho:=[("table",.sh t),("rows",.sh R),("told",.ow md),("columns",c)]
theorem rA(k:Nat){m n:Nat}{f:Nat->Nat->Int}{R:List Nat}(t:Tb m n f)(hR:okL m R=true)(g1:1<=R.length)(gn:R.length<=n):aB T 60 (k+4*R.length+2) "minors_of_rows" [tbl m n f,plL R]=some (.lst ((subs n R.length).map fun C=>mnD f R C)):=by
 have t':=t;obtain⟨m1,m4,n1,n4,hs⟩:=t'
 have key:∀ (s:Sl),(s=.no\/∃ d,s=.sh d)->blk (cxN T 60 (k+4*R.length+1)) 60 60 (aH (top 51)).sc ((aH (top 51)).body.drop 2) (K4 (tbl m n f) (plL R) ((subs n R.length).map fun C=>mnD f R C) s)=some (.ret (.lst ((subs n R.length).map fun C=>mnD f R C))):=by
  intro s hs;rcases hs with rfl | ⟨d,rfl⟩
  ·exact bN (by nofun)
  ·exact bN (by nofun)
 refine bO (fd:=aH (top 51)) rfl rfl (iw rfl (d:=.lst []) (by nofun) (gFor (l:=(subs n R.length).map plL) (fl1:=.nxt (K4 (tbl m n f) (plL R) ((subs n R.length).map fun C=>mnD f R C) (jU plL (subs n R.length)))) (wSq (x:=.lst ((subs n R.length).map plL)) rfl ?_ rfl) ?_ (key _ (tO _ _))))
 ·refine au rfl (aj (x:=.int n) ?_ (aj (x:=.int (R.length:Int)) ?_ aK)) (oO (k+4*R.length-1+0) n1 n4 g1 gn |> fun q=>by rw[show k+4*R.length-1+0+2=k+4*R.length+1 by omega] at q;exact q)
  ·nofun
  ·refine' bU ?L32n_1a ?L32n_1b ?L32n_1c ?L32n_1d ?L32n_1e;(case L32n_1a=>rfl);(case L32n_1b=>rfl);(case L32n_1c=>rfl);(case L32n_1d=>walk_at "xm");(case L32n_1e=>exact M5 R)
 ·refine ni (R:=fun pre=>K4 (tbl m n f) (plL R) (pre.map fun C=>mnD f R C) (jU plL pre)) (whole:=subs n R.length) (fun pre C post e=>?_) (pre:=[]) rfl
  have hC:=wC n1 n4 g1 gn (S:=C) (by rw[<- e];simp)
  have hz:pre.length<=6:=by
   have h6:=(fV n1 n4 g1 gn).2;rw[<- e] at h6;simp at h6;omega
  obtain⟨p1,p2⟩:=lE (k+4*R.length-1) t hR hC.1 hC.2 (by omega);obtain⟨q1,q2⟩:=lE k t hR hC.1 hC.2 (by omega);rw[show k+4*R.length-1+2=k+4*R.length+1 by omega] at p1;refine dF (ρ1:=K4 (tbl m n f) (plL R) (pre.map fun C=>mnD f R C) (.sh (plL C))) rfl ?_;show _=some (Fl.nxt (K4 (tbl m n f) (plL R) ((pre++[C]).map fun C=>mnD f R C) (jU plL (pre++[C]))));rw[C3z,lJ];refine X7 (d:=mnD f R C) rfl rfl rfl (gM (by rw[U2z];omega)) ?_ rfl;exact qj (aj (by nofun) (aj (by nofun) (aj (au rfl (aj (au rfl (by walk_at "xm") p1) aK) q2) aK))) rfl
theorem tM{α β:Type}{g:α->List β}{b:Nat}:∀ {l:List α},(∀ x∈l,(g x).length<=b)->(l.flatMap g).length<=l.length*b
 | [],_=>by simp
 | x::l,h=>by
  have h1:=h x F1z;have h2:=tM (l:=l) fun y hy=>h y (Q0z _ hy);simp only[List.flatMap_cons,K1z,I2z,J4z];omega
def mS(m n:Nat)(f:Nat->Nat->Int)(s:Nat):List D:=(subs m s).flatMap fun R=>(subs n s).map fun C=>mnD f R C
def mA(m n:Nat)(f:Nat->Nat->Int)(i:Nat):List D:=(List.range i).flatMap fun j=>mS m n f (j+1)
theorem DW{m n s:Nat}{f:Nat->Nat->Int}(m1:1<=m)(m4:m<=4)(n1:1<=n)(n4:n<=4)(s1:1<=s)(sm:s<=m)(sn:s<=n):(mS m n f s).length<=36:=by
 have h1:=(fV m1 m4 s1 sm).2;have h2:=(fV n1 n4 s1 sn).2
 have:=tM (l:=subs m s) (g:=fun R=>(subs n s).map fun C=>mnD f R C) (b:=6) fun R _=>by rw[U2z];exact h2
 unfold mS;omega
theorem DX{m n i:Nat}{f:Nat->Nat->Int}(m1:1<=m)(m4:m<=4)(n1:1<=n)(n4:n<=4)(im:i<=m)(in':i<=n):(mA m n f i).length<=i*36:=by
 have:=tM (l:=List.range i) (g:=fun j=>mS m n f (j+1)) (b:=36) fun j hj=>by
  have:=List.mem_range.mp hj;exact DW m1 m4 n1 n4 (by omega) (by omega) (by omega)
 rw[List.length_range] at this;exact this
theorem HY{m n i:Nat}{f:Nat->Nat->Int}:mA m n f (i+1)=mA m n f i++mS m n f (i+1):=by
 unfold mA;rw[List.range_succ,List.flatMap_append];simp
theorem dist{α β:Type}{g:α->List β}{l:List α}{x:α}:(l++[x]).flatMap g=l.flatMap g++g x:=by
 rw[List.flatMap_append];simp
def K3(t s:D)(md:List D)(c:Sl):Rho:=[("table",.sh t),("size",.sh s),("told",.ow md),("rows",c)]
theorem rm(k:Nat){m n s:Nat}{f:Nat->Nat->Int}(t:Tb m n f)(s1:1<=s)(hm:s<=m)(hn:s<=n):aB T 60 (k+4*s+3) "minors_of_size" [tbl m n f,.int s]=some (.lst (mS m n f s)):=by
 have t':=t;obtain⟨m1,m4,n1,n4,hs⟩:=t'
 have key:∀ (c:Sl),(c=.no\/∃ d,c=.sh d)->blk (cxN T 60 (k+4*s+2)) 60 60 (aH (top 52)).sc ((aH (top 52)).body.drop 2) (K3 (tbl m n f) (.int s) (mS m n f s) c)=some (.ret (.lst (mS m n f s))):=by
  intro c hc;rcases hc with rfl | ⟨d,rfl⟩
  ·exact bN (by nofun)
  ·exact bN (by nofun)
 refine bO (fd:=aH (top 52)) rfl rfl (iw rfl (d:=.lst []) (by nofun) (gFor (l:=(subs m s).map plL) (fl1:=.nxt (K3 (tbl m n f) (.int s) (mS m n f s) (jU plL (subs m s)))) (wSq (x:=.lst ((subs m s).map plL)) rfl ?_ rfl) ?_ (key _ (tO _ _))))
 ·refine au rfl (aj (x:=.int m) ?_ (aj (x:=.int s) ?_ aK)) (oO (k+4*s) m1 m4 s1 hm)
  ·nofun
  ·nofun
 ·refine ni (R:=fun pre=>K3 (tbl m n f) (.int s) (pre.flatMap fun R=>(subs n s).map fun C=>mnD f R C) (jU plL pre)) (whole:=subs m s) (fun pre R post e=>?_) (pre:=[]) rfl
  have hR:=wC m1 m4 s1 hm (S:=R) (by rw[<- e];simp)
  have h6:=(fV n1 n4 s1 hn).2
  have hz:(pre.flatMap fun R=>(subs n s).map fun C=>mnD f R C).length<=36:=by
   have h1:=(fV m1 m4 s1 hm).2;rw[<- e] at h1;simp at h1
   have:=tM (l:=pre) (g:=fun R=>(subs n s).map fun C=>mnD f R C) (b:=6) fun R _=>by rw[U2z];exact h6
   omega
  have mr:=rA k t hR.1 (by rw[hR.2];exact s1) (by rw[hR.2];exact hn)
  rw[hR.2] at mr;refine dF (ρ1:=K3 (tbl m n f) (.int s) (pre.flatMap fun R=>(subs n s).map fun C=>mnD f R C) (.sh (plL R))) rfl ?_;show _=some (Fl.nxt (K3 (tbl m n f) (.int s) ((pre++[R]).flatMap fun R=>(subs n s).map fun C=>mnD f R C) (jU plL (pre++[R]))));rw[dist,lJ];refine Pk rfl rfl rfl rfl (gM (by rw[U2z];omega)) ?_ rfl;exact au rfl (by walk_at "xm") mr
theorem greatest(k:Nat){m n:Nat}{f:Nat->Nat->Int}(h:1<=m):aB T 60 (k+1) "greatest_size" [tbl m n f]=some (.int ((min m n:Nat):Int)):=by
 refine bO (fd:=aH (top 50)) rfl rfl (bN (jk (bU (ds:=[.int m,.int n]) rfl rfl rfl (aj ?_ (aj ?_ aK)) rfl) ?_))
 ·nofun
 ·nofun
 ·congr 1
  by_cases q:(n:Int)<(m:Int)
  ·rw[K5z q];omega
  ·rw[L5z q];omega
def K5(t:D)(md:List D)(c:Sl):Rho:=[("table",.sh t),("told",.ow md),("size",c)]
def szS:Nat->Sl
 | 0=>.no
 | i+1=>.sh (.int (1+(i:Int)))
theorem minors_in(k:Nat){m n:Nat}{f:Nat->Nat->Int}(t:Tb m n f):aB T 60 (k+20) "minors_in" [tbl m n f]=some (.lst (mA m n f (min m n))):=by
 have t':=t;obtain⟨m1,m4,n1,n4,hs⟩:=t'
 have key:∀ (c:Sl),(c=.no\/∃ d,c=.sh d)->blk (cxN T 60 (k+19)) 60 60 (aH (top 53)).sc ((aH (top 53)).body.drop 2) (K5 (tbl m n f) (mA m n f (min m n)) c)=some (.ret (.lst (mA m n f (min m n)))):=by
  intro c hc;rcases hc with rfl | ⟨d,rfl⟩
  ·exact bN (by nofun)
  ·exact bN (by nofun)
 refine bO (fd:=aH (top 53)) rfl rfl (iw rfl (d:=.lst []) (by nofun) (gFor (l:=Ls (min m n) fun i=>.int (1+(i:Int))) (fl1:=.nxt (K5 (tbl m n f) (mA m n f (min m n)) (szS (min m n)))) ?_ ?_ (key _ ?_)))
 ·have e:cQ 1 (((min m n:Nat):Int)+1)=Ls (min m n) fun i=>.int (1+(i:Int)):=by
   rw[wU];congr 1;omega
  rw[<- e];refine wR2 rfl (by nofun) (bD (x:=.int ((min m n:Nat):Int)) ?_ (by nofun) rfl) ?_
  ·refine' au ?L32n_2a ?L32n_2b ?L32n_2c;(case L32n_2a=>rfl);(case L32n_2b=>walk_at "xm");(case L32n_2c=>exact greatest (k+18) m1)
  ·unfold cC
   simp only[D2z,W1z];omega
 ·refine fZ (R:=fun i=>K5 (tbl m n f) (mA m n f i) (szS i)) fun i hi=>?_
  have hl:=DX (f:=f) m1 m4 n1 n4 (i:=i) (by omega) (by omega);have hl2:=DW (f:=f) m1 m4 n1 n4 (s:=i+1) (by omega) (by omega) (by omega);refine dF (ρ1:=K5 (tbl m n f) (mA m n f i) (.sh (.int (1+(i:Int))))) rfl ?_;show _=some (Fl.nxt (K5 (tbl m n f) (mA m n f (i+1)) (.sh (.int (1+(i:Int))))));rw[HY];refine Pk rfl rfl rfl rfl (gM (by omega)) ?_ rfl;refine au rfl (aj (x:=tbl m n f) (by nofun) (aj (x:=.int ((i+1:Nat):Int)) (jk (by nofun) (congrArg D.int (by omega))) aK)) ?_;have q:=rm (k+16-4*(i+1)) t (s:=i+1) (by omega) (by omega) (by omega);rw[show k+16-4*(i+1)+4*(i+1)+3=k+19 by omega] at q;exact q
 ·cases h:min m n with
  | zero=>exact .inl rfl
  | succ i=>exact .inr ⟨_,rfl⟩
def nb:D->Bool
 | .tup [_,_,.int w]=>decide (0<=w)
 | _=>false
theorem none_below(k:Nat)(hL:∀ x∈L,∃ a b w,x=.tup [a,b,.int w])(hz:L.length<=1000):aB T 60 (k+1) "none_below" [.lst L]=some (.bl (L.all nb)):=by
 refine bO (fd:=aH (top 57)) rfl rfl (bN (bU rfl rfl rfl (aj (bF (l:=L) rfl (wSq (x:=.lst L) rfl (by nofun) rfl) (gM (by omega)) (bY (g:=fun x=>.bl (nb x)) fun x hx=>?_)) aK) rK));obtain⟨a,b,w,rfl⟩:=hL x hx;exact bI rfl (bK (x:=.int w) (y:=.int 0) (by nofun) (by nofun) rfl)
theorem Mu{m n i:Nat}{f:Nat->Nat->Int}:∀ x∈mA m n f i,∃ a b w,x=.tup [a,b,.int w]:=fun x hx=>by
 obtain⟨j,_,h⟩:=List.mem_flatMap.mp hx;obtain⟨R,_,h⟩:=List.mem_flatMap.mp h;obtain⟨C,_,h⟩:=List.mem_map.mp h;exact⟨_,_,_,h.symm⟩
def vf(m n:Nat)(f:Nat->Nat->Int):Bool:=(mA m n f (min m n)).all nb
theorem all_minors(k:Nat){m n:Nat}{f:Nat->Nat->Int}(t:Tb m n f):aB T 60 (k+21) "all_minors" [tbl m n f]=some (.lst (mA m n f (min m n))):=by
 refine bO (fd:=aH (top 54)) rfl rfl (yH rfl (d:=.non) ?_ (bN ?_))
 ·refine' au ?L32n_3a ?L32n_3b ?L32n_3c;(case L32n_3a=>rfl);(case L32n_3b=>walk_at "xm");(case L32n_3c=>exact need_table (k+16) t.m1 t.m4 t.n1 t.n4)
 ·refine' au ?L32n_4a ?L32n_4b ?L32n_4c;(case L32n_4a=>rfl);(case L32n_4b=>walk_at "xm");(case L32n_4c=>exact minors_in k t)
theorem is_good(k:Nat){m n:Nat}{f:Nat->Nat->Int}(t:Tb m n f):aB T 60 (k+22) "is_good" [tbl m n f]=some (.bl (vf m n f)):=by
 have hl:=DX (f:=f) t.m1 t.m4 t.n1 t.n4 (i:=min m n) (by omega) (by omega);have:=t.m4;refine bO (fd:=aH (top 58)) rfl rfl (bN (au rfl (aj (au rfl (by walk_at "xm") (all_minors k t)) aK) (none_below (k+20) Mu (by omega))))
def s3(g:Nat->D):Nat->Sl
 | 0=>.no
 | i+1=>.sh (g i)
section
variable {cx:Cxt} {sc:Scope} {ρ ρ':Rho} {e:Expr} {p:Pos} {d:D} {nm:Str} {F m:Nat} {r:List Stmt} {fl:Fl} {y:Str} {s:Sl} {ds:List D}
end
theorem aaM(f:Nat->Nat->Int):det 1 f=f 0 0:=by simp[det,lC,sg]
theorem Oh(f:Nat->Nat->Int):det 2 f=f 0 0*f 1 1-f 0 1*f 1 0:=by
 simp[det,lC,sg,sub,skip];grind
theorem JQ(f:Nat->Nat->Int):det 3 f=f 0 0*(f 1 1*f 2 2-f 1 2*f 2 1)-f 0 1*(f 1 0*f 2 2-f 1 2*f 2 0)+f 0 2*(f 1 0*f 2 1-f 1 1*f 2 0):=by
 have e:det 3 f=f 0 0*det 2 (sub f 0 0)+f 0 1 * -(det 2 (sub f 0 1))+f 0 2*det 2 (sub f 0 2):=by
  simp[det,lC,sg]
 rw[e,Oh,Oh,Oh];simp[sub,skip];grind
theorem det4(f:Nat->Nat->Int):det 4 f=f 0 0*det 3 (sub f 0 0)-f 0 1*det 3 (sub f 0 1)+f 0 2*det 3 (sub f 0 2)-f 0 3*det 3 (sub f 0 3):=by
 have e:det 4 f=f 0 0*det 3 (sub f 0 0)+f 0 1 * -(det 3 (sub f 0 1))+f 0 2*det 3 (sub f 0 2)+f 0 3 * -(det 3 (sub f 0 3)):=by
  simp only[show det 4 f=lC 4 (fun j=>f 0 j*sg (0+j) (det 3 (sub f 0 j))) from rfl,lC,sg];simp
 rw[e];grind
section
variable {cx:Cxt} {sc:Scope} {ρ ρ':Rho} {e:Expr} {p:Pos} {d:D} {nm:Str} {F m:Nat} {r:List Stmt} {fl:Fl} {y:Str} {s:Sl} {ds:List D}
end
def Bd(n:Nat)(B:Int)(g:Nat->Nat->Int):Prop:=∀ i j,i<n->j<n -> -B<=g i j/\g i j<=B
theorem Kq{n:Nat}{x:Nat->Int}{C:Int}(h:∀ l,l<n -> -C<=x l/\x l<=C):-((n:Int)*C)<=lC n x/\lC n x<=(n:Int)*C:=by
 induction n with
 | zero=>simp[lC]
 | succ n ih =>
  have h1:=ih fun l hl=>h l (by omega);have h2:=h n (by omega);simp only[lC]
  have e:((n+1:Nat):Int)*C=(n:Int)*C+C:=by rw[show((n+1:Nat):Int)=(n:Int)+1 by omega,Int.add_mul,Int.one_mul]
  rw[e];omega
theorem Ms{n:Nat}{f g:Nat->Nat->Int}{B:Int}(n4:n<=4)(hB:0<=B)(hf:Bd n B f)(hg:∀ i j,0<=g i j/\g i j<=3):Bd n (12*B) (mul n f g):=by
 intro i j hi hj
 have s:=Kq (n:=n) (x:=fun l=>f i l*g l j) (C:=3*B) fun l hl=>by
  have h1:=hf i l hi hl;have h2:=hg l j
  have h3:g l j=0\/g l j=1\/g l j=2\/g l j=3:=by omega
  rcases h3 with e | e | e | e<;>simp only[e]<;>omega
 have e:(n:Int)*(3*B)<=12*B:=by
  match n,n4 with
  | 0,_=>simp;omega
  | 1,_=>simp;omega
  | 2,_=>omega
  | 3,_=>omega
  | 4,_=>omega
 unfold mul;omega
theorem Yv{n:Nat}{B:Int}{g:Nat->Nat->Int}(hB:B<=10000000)(h:Bd n B g):Sm n n g:=fun i j hi hj=>by
 have:=h i j hi hj;unfold small;rw[L3z (by omega),L3z (by omega)];rfl
theorem Jq(i j:Nat):0<=dl i j/\dl i j<=3:=by unfold dl;split<;>omega
theorem vY{a b:Nat}{v:Int}(h0:0<=v)(h3:v<=3)(i j:Nat):0<=upd dl a b v i j/\upd dl a b v i j<=3:=by
 unfold upd;split
 ·split
  ·omega
  ·exact Jq i j
 ·exact Jq i j
def jr(ns:List Int)(a n:Nat)(ro co md k ba pl sh st wa li:Sl):Rho:=[("_law_script",.sh (scr ns)),("_law_at",.sh (.int a)),("_law_many",.sh (.int n)),("_law_row",ro),("_law_column",co),("_law_made",md),("_law_k",k),("_law_base",ba),("_law_place",pl),("_law_share",sh),("_law_step",st),("_law_way",wa),("_law_lines",li)]
theorem j9{ns:List Int}{a n:Nat}{ro co md k ba pl sh st wa li:Sl}(h1:nOw ro=true)(h2:nOw co=true)(h0:nOw md=true)(h3:nOw k=true)(h4:nOw ba=true)(h5:nOw pl=true)(h6:nOw sh=true)(h7:nOw st=true)(h8:nOw wa=true)(h9:nOw li=true):fG (jr ns a n ro co md k ba pl sh st wa li)=true :=
 aO rfl (aO rfl (aO rfl (aO h1 (aO h2 (aO h0 (aO h3 (aO h4 (aO h5 (aO h6 (aO h7 (aO h8 (aO h9 rfl))))))))))))
theorem Dz{x:Str}{ns:List Int}{a n:Nat}{ro co md k ba pl sh st wa li:Sl}(h1:nOw ro=true)(h2:nOw co=true)(h0:nOw md=true)(h3:nOw k=true)(h4:nOw ba=true)(h5:nOw pl=true)(h6:nOw sh=true)(h7:nOw st=true)(h8:nOw wa=true)(h9:nOw li=true):jP (jr ns a n ro co md k ba pl sh st wa li) x=true :=
 dD rfl (dD rfl (dD rfl (dD h1 (dD h2 (dD h0 (dD h3 (dD h4 (dD h5 (dD h6 (dD h7 (dD h8 (dD h9 rfl))))))))))))
def gFor:Stmt:=(aH (top 89)).body.getD 1 pss
abbrev gB(i:Nat):List Stmt:=(rC gFor).drop i
abbrev gSc:Scope:=(aH (top 89)).sc
theorem Ec{cx:Cxt}{N:Nat}{e:Expr}{i j:Nat}{p q:Pos}(hg:bC cx sc nm=some "int")(hw:Ab cx sc "int" [e]=.al)(h:ev cx N sc ρ e=some (.bl ((i:Int)==(j:Int)))):ev cx (N+1) sc ρ (.Call (.Name nm q) [e] [] p)=some (.int (dl i j)):=by
 refine jk (bU hg hw rfl (aj h aK) rfl) ?_;unfold dl b2i
 by_cases e:j=i
 ·subst e;simp
 ·rw[L5z e,A1z.mpr (by omega)];rfl
section
variable {ns:List Int} {a n:Nat} {ro co md kk ba pl sh st wa li:Sl}
theorem Ra(k:Nat)(n4:n<=4):ev (cxN T 60 k) 60 gSc (jr ns a n ro co md kk ba pl sh st wa li) (asV ((aH (top 89)).body.getD 0 pss))=some (tbl n n dl):=by
 refine bU rfl rfl rfl (aj ?_ aK) gK;refine' bF ?L32g_1a ?L32g_1b ?L32g_1c (aL ?L32g_1d);(case L32g_1a=>rfl);(case L32g_1b=>walk_at "xi");(case L32g_1c=>exact cJ (by omega))
 case L32g_1d =>
  intro i hi;refine' bI ?L32g_1e ?L32g_1f;(case L32g_1e=>rfl)
  case L32g_1f =>
   refine bU rfl rfl rfl (aj ?_ aK) gK;refine' bF ?L32g_2a ?L32g_2b ?L32g_2c (aL ?L32g_2d);(case L32g_2a=>rfl);(case L32g_2b=>walk_at "xi");(case L32g_2c=>exact cJ (by omega))
   case L32g_2d =>
    intro j hj;refine' bI ?L32g_2e ?L32g_2f;(case L32g_2e=>rfl)
    case L32g_2f =>
     exact Ec rfl rfl (bK (x:=.int i) (y:=.int j) (xName rfl) (xName rfl) rfl)
theorem ones(k:Nat)(n4:n<=4):ev (cxN T 60 k) 60 gSc (jr ns a n ro co md kk ba pl sh st wa li) (asV ((rC gFor).getD 2 pss))=some (.lst (Ls n fun i=>.lst (Ls n fun j=>.int (dl i j)))):=by
 refine' bF ?L32g_3a ?L32g_3b ?L32g_3c (aL ?L32g_3d);(case L32g_3a=>rfl);(case L32g_3b=>walk_at "xi");(case L32g_3c=>exact cJ (by omega))
 case L32g_3d =>
  intro i hi;refine' bI ?L32g_3e ?L32g_3f;(case L32g_3e=>rfl)
  case L32g_3f =>
   refine' bF ?L32g_4a ?L32g_4b ?L32g_4c (aL ?L32g_4d);(case L32g_4a=>rfl);(case L32g_4b=>walk_at "xi");(case L32g_4c=>exact cJ (by omega))
   case L32g_4d =>
    intro j hj;refine' bI ?L32g_4e ?L32g_4f;(case L32g_4e=>rfl)
    case L32g_4f =>
     exact Ec rfl rfl (bK (x:=.int i) (y:=.int j) (xName rfl) (xName rfl) rfl)
end
section
variable {ns:List Int} {a n i:Nat} {g S:Nat->Nat->Int} {kk ba pl sh wa:D}
abbrev lsD(n:Nat)(S:Nat->Nat->Int):D:=.lst (Ls n fun i=>.lst (Ls n fun j=>.int (S i j)))
abbrev sS(ns:List Int)(a n:Nat)(g:Nat->Nat->Int)(kk ba pl sh:D)(st:Sl)(wa:D):Rho:=jr ns a n .no .no (.sh (tbl n n g)) (.sh kk) (.sh ba) (.sh pl) (.sh sh) st (.sh wa) .no
theorem g5(k:Nat)(n1:1<=n)(n4:n<=4)(hg:Sm n n g):blk (cxN T 60 (k+1)) 60 59 gSc (gB 5) (sS ns a n g kk ba pl sh (.oo (lss n n S)) wa)=some (.nxt (sS ns a n (mul n g S) kk ba pl sh (.sh (lsD n S)) wa)):=by
 refine eH (d:=tbl n n (mul n g S)) (ρ':=sS ns a n g kk ba pl sh (.sh (lsD n S)) wa) (aW rfl (aW rfl (aW rfl (aW rfl (aW rfl (aW rfl (aW rfl (aW rfl (aW rfl (aW rfl (NP rfl (aW rfl (aW rfl pG))))))))))))) rfl rfl ?_ cT;refine au rfl (aj (x:=tbl n n g) (xName rfl) (aj (x:=tbl n n S) (bU rfl rfl rfl (aj ?_ aK) gK) aK)) (BK k n4 n1 n4 n4 (.inl hg));refine bF rfl (wSq (x:=lsD n S) rfl (xName rfl) rfl) (cJ (by omega)) (aL (g:=fun i=>row n (S i)) fun i hi=>bI rfl ?_);exact bU rfl rfl rfl (aj (x:=.lst (Ls n fun j=>.int (S i j))) (xName rfl) aK) gK
theorem sto{k:Nat}{b c:Nat}{v:Int}{i1 i2 e:Expr}{p px tp tp2:Pos}(hb:b<n)(hc:c<n)(f1:frz 60 e (sS ns a n g kk ba pl sh (.oo (lss n n dl)) wa)=sS ns a n g kk ba pl sh (.oo (lss n n dl)) wa)(f2:frz 60 i1 (sS ns a n g kk ba pl sh (.oo (lss n n dl)) wa)=sS ns a n g kk ba pl sh (.oo (lss n n dl)) wa)(f3:frz 60 i2 (sS ns a n g kk ba pl sh (.oo (lss n n dl)) wa)=sS ns a n g kk ba pl sh (.oo (lss n n dl)) wa)
  (hfr:aX e=false) (h:ev (cxN T 60 k) 60 gSc (sS ns a n g kk ba pl sh (.oo (lss n n dl)) wa) e=some (.int v)) (h1:ev (cxN T 60 k) 60 gSc (sS ns a n g kk ba pl sh (.oo (lss n n dl)) wa) i1=some (.int b)) (h2:ev (cxN T 60 k) 60 gSc (sS ns a n g kk ba pl sh (.oo (lss n n dl)) wa) i2=some (.int c)) {N:Nat} :
  blk (cxN T 60 k) 60 (N+1) gSc [.Assign [.Subscript (.Subscript (.Name "_law_step" px) i1 tp) i2 tp2] e p] (sS ns a n g kk ba pl sh (.oo (lss n n dl)) wa)=some (.nxt (sS ns a n g kk ba pl sh (.oo (lss n n (upd dl b c v))) wa)):=by
 refine yI f1 f2 f3 (dss:=lss n n dl) rfl (by rw[hfr];rfl) h h1 (by rw[aR];exact gG hb) (cB hb) h2 (by rw[aR];exact gG hc) rfl ?_
 show blk _ _ _ _ [] (sS ns a n g kk ba pl sh (.oo ((lss n n dl).set b ((Ls n fun j=>D.int (dl b j)).set c (.int v)))) wa)=_;rw[xX hb];exact cT
def gIf:Stmt:=(rC gFor).getD 4 pss
theorem c4a(k:Nat){w:Nat}(h:w=0\/n=1):ev (cxN T 60 k) 60 gSc (sS ns a n g kk ba pl sh (.oo (lss n n S)) (.int w)) (ifX gIf)=some (.bl true):=by
 by_cases q:w=0
 ·exact bL (Dg (bK (x:=.int w) (y:=.int 0) (xName rfl) (ao rfl) (uX (by omega))))
 ·exact bL (lW (bK (x:=.int w) (y:=.int 0) (xName rfl) (ao rfl) (sY (by omega))) (iW (bK (x:=.int n) (y:=.int 1) (xName rfl) (ao rfl) (uX (by omega)))))
theorem c4b(k:Nat){w:Nat}(h:¬ (w=0\/n=1)):ev (cxN T 60 k) 60 gSc (sS ns a n g kk ba pl sh (.oo (lss n n S)) (.int w)) (ifX gIf)=some (.bl false) :=
 bL (lW (bK (x:=.int w) (y:=.int 0) (xName rfl) (ao rfl) (sY (by omega))) (iW (bK (x:=.int n) (y:=.int 1) (xName rfl) (ao rfl) (sY (by omega)))))
theorem g4(k:Nat){w p v:Nat}(n1:1<=n)(n4:n<=4)(hg:Sm n n g)(hp:p<n)(hv:v<4):∃ S:Nat->Nat->Int,(∀ i j,0<=S i j/\S i j<=3) /\
  blk (cxN T 60 (k+1)) 60 59 gSc (gB 4) (sS ns a n g kk ba (.int p) (.int v) (.oo (lss n n dl)) (.int w))=some (.nxt (sS ns a n (mul n g S) kk ba (.int p) (.int v) (.sh (lsD n S)) (.int w))):=by
 by_cases q:w=0\/n=1
 ·refine⟨upd dl p p v,vY (by omega) (by omega),vg (ρ':=sS ns a n g kk ba (.int p) (.int v) (.oo (lss n n dl)) (.int w)) rfl (c4a _ q) (sto hp hp rfl rfl rfl rfl (xName rfl) (xName rfl) (xName rfl)) (g5 k n1 n4 hg)⟩
 ·by_cases q2:w<3
  ·refine⟨upd dl (p-1) (p-1+1) v,vY (by omega) (by omega),Ny (fl1:=.nxt (sS ns a n g kk ba (.int p) (.int v) (.oo (lss n n (upd dl (p-1) (p-1+1) v))) (.int w))) (c4b _ q) (vg (ρ':=sS ns a n g kk ba (.int p) (.int v) (.oo (lss n n dl)) (.int w)) rfl (bK (x:=.int w) (y:=.int 3) (xName rfl) (ao rfl) (oLt (by omega))) (sto (b:=p-1) (c:=p-1+1) (by omega) (by omega) rfl rfl rfl rfl (xName rfl) ?_ ?_) cT) (g5 k n1 n4 hg)⟩
   ·exact bU rfl rfl rfl (aj (x:=.int 0) (ao rfl) (aj (x:=.int ((p:Int)-1)) (bD (xName rfl) (ao rfl) rfl) aK)) Pa
   ·exact bD (x:=.int ((p-1:Nat):Int)) (bU rfl rfl rfl (aj (x:=.int 0) (ao rfl) (aj (x:=.int ((p:Int)-1)) (bD (xName rfl) (ao rfl) rfl) aK)) Pa) (ao rfl) rfl
  ·refine⟨upd dl (p-1+1) (p-1) v,vY (by omega) (by omega),Ny (fl1:=.nxt (sS ns a n g kk ba (.int p) (.int v) (.oo (lss n n (upd dl (p-1+1) (p-1) v))) (.int w))) (c4b _ q) (Ny (fl1:=.nxt (sS ns a n g kk ba (.int p) (.int v) (.oo (lss n n (upd dl (p-1+1) (p-1) v))) (.int w))) (bK (x:=.int w) (y:=.int 3) (xName rfl) (ao rfl) (Mh (by omega))) (sto (b:=p-1+1) (c:=p-1) (by omega) (by omega) rfl rfl rfl rfl (xName rfl) ?_ ?_) rfl) (g5 k n1 n4 hg)⟩
   ·exact bD (x:=.int ((p-1:Nat):Int)) (bU rfl rfl rfl (aj (x:=.int 0) (ao rfl) (aj (x:=.int ((p:Int)-1)) (bD (xName rfl) (ao rfl) rfl) aK)) Pa) (ao rfl) rfl
   ·exact bU rfl rfl rfl (aj (x:=.int 0) (ao rfl) (aj (x:=.int ((p:Int)-1)) (bD (xName rfl) (ao rfl) rfl) aK)) Pa
end
section
variable {ns:List Int} {a n i:Nat} {g S:Nat->Nat->Int} {kk ba pl sh st wa:Sl}
theorem g3(k:Nat){kd:D}{b p v:Nat}(hw:nOw wa=true)(n1:1<=n)(n4:n<=4)(hg:Sm n n g)(hp:p<n)(hv:v<4):∃ (S:Nat->Nat->Int) (w:D),(∀ i j,0<=S i j/\S i j<=3) /\
  blk (cxN T 60 (k+2)) 60 59 gSc (gB 3) (jr ns a n .no .no (.sh (tbl n n g)) (.sh kd) (.sh (.int b)) (.sh (.int p)) (.sh (.int v)) (.oo (lss n n dl)) wa .no)=some (.nxt (sS ns a n (mul n g S) kd (.int b) (.int p) (.int v) (.sh (lsD n S)) w)):=by
 obtain⟨S,h1,h2⟩:=g4 (ns:=ns) (a:=a) (kk:=kd) (ba:=.int b) (k+1) (w:=pickN ns (b+2) 5) n1 n4 hg hp hv;refine⟨S,_,h1,eH (d:=.int ((pickN ns (b+2) 5:Nat):Int)) (ρ':=jr ns a n .no .no (.sh (tbl n n g)) (.sh kd) (.sh (.int b)) (.sh (.int p)) (.sh (.int v)) (.oo (lss n n dl)) wa .no) (aW rfl (aW rfl (aW rfl (aW rfl (aW rfl (aW rfl (aW rfl (aW rfl (aW rfl (aW rfl (Iu rfl (aW hw (aW rfl pG))))))))))))) rfl rfl ?_ h2⟩;exact au rfl (aj (x:=scr ns) (xName rfl) (aj (x:=.int ((b+2:Nat):Int)) (bD (xName rfl) (ao rfl) rfl) (aj (x:=.int 5) (ao rfl) aK))) (pick k ns (b+2) (many:=5) (by omega))
theorem g2(k:Nat){kd:D}{b p v:Nat}(hs:nOw st=true)(hw:nOw wa=true)(n1:1<=n)(n4:n<=4)(hg:Sm n n g)(hp:p<n)(hv:v<4):∃ (S:Nat->Nat->Int) (w:D),(∀ i j,0<=S i j/\S i j<=3) /\
  blk (cxN T 60 (k+2)) 60 59 gSc (gB 2) (jr ns a n .no .no (.sh (tbl n n g)) (.sh kd) (.sh (.int b)) (.sh (.int p)) (.sh (.int v)) st wa .no)=some (.nxt (sS ns a n (mul n g S) kd (.int b) (.int p) (.int v) (.sh (lsD n S)) w)):=by
 obtain⟨S,w,h1,h2⟩:=g3 (ns:=ns) (a:=a) (kd:=kd) (b:=b) k hw n1 n4 hg hp hv;exact⟨S,w,h1,yJ (d:=lsD n dl) (dss:=lss n n dl) (ρ':=jr ns a n .no .no (.sh (tbl n n g)) (.sh kd) (.sh (.int b)) (.sh (.int p)) (.sh (.int v)) st wa .no) (cU (j9 rfl rfl rfl rfl rfl rfl rfl hs hw rfl)) rfl (ones (k+2) n4) pA (Ft rfl (Dz rfl rfl rfl rfl rfl rfl rfl hs hw rfl)) h2⟩
theorem XF(k:Nat)(c1:nOw kk=true)(c2:nOw ba=true)(c3:nOw pl=true)(c4:nOw sh=true)(hs:nOw st=true)(hw:nOw wa=true)(n1:1<=n)(n4:n<=4)(hg:Sm n n g):∃ (S:Nat->Nat->Int) (x1 x2 x3 x4 x5 x6:D),(∀ i j,0<=S i j/\S i j<=3) /\
  fF (cxN T 60 (k+2)) 60 59 gSc (Af gFor) (rC gFor) (.int i) (jr ns a n .no .no (.sh (tbl n n g)) kk ba pl sh st wa .no)=some (.nxt (sS ns a n (mul n g S) x1 x2 x3 x4 (.sh x5) x6)):=by
 have hp:=cG (ns:=ns) (k:=a+1+4*i) (many:=n) (by omega);have hv:=cG (ns:=ns) (k:=a+1+4*i+1) (many:=4) (by omega);obtain⟨S,w,h1,h2⟩:=g2 (ns:=ns) (a:=a) (kd:=.int i) (b:=a+1+4*i) (st:=st) k hs hw n1 n4 hg hp hv;refine⟨S,.int i,.int ((a+1+4*i:Nat):Int),.int ((pickN ns (a+1+4*i) n:Nat):Int),.int ((pickN ns (a+1+4*i+1) 4:Nat):Int),lsD n S,w,h1,dF (ρ1:=jr ns a n .no .no (.sh (tbl n n g)) (.sh (.int i)) ba pl sh st wa .no) rfl ?_⟩;refine pU (d:=.int ((a+1+4*i:Nat):Int)) (j9 rfl rfl rfl rfl c2 c3 c4 hs hw rfl) rfl rfl ?_ ?_
 ·exact jk (bD (x:=.int ((a:Int)+1)) (y:=.int (4*(i:Int))) (bD (xName rfl) (ao rfl) rfl) (bD (ao rfl) (xName rfl) (Dc (.inl (by decide)))) rfl) (congrArg D.int (by omega))
 ·refine aaP (ρ:=jr ns a n .no .no (.sh (tbl n n g)) (.sh (.int i)) (.sh (.int ((a+1+4*i:Nat):Int))) pl sh st wa .no) (d:=.tup [.int ((pickN ns (a+1+4*i) n:Nat):Int),.int ((pickN ns (a+1+4*i+1) 4:Nat):Int)]) (j9 rfl rfl rfl rfl rfl c3 c4 hs hw rfl) rfl ?_ rfl rfl h2
  exact qj (aj (au rfl (aj (x:=scr ns) (xName rfl) (aj (x:=.int ((a+1+4*i:Nat):Int)) (xName rfl) (aj (x:=.int n) (xName rfl) aK))) (pick k ns (a+1+4*i) (many:=n) (by omega))) (aj (au rfl (aj (x:=scr ns) (xName rfl) (aj (x:=.int ((a+1+4*i+1:Nat):Int)) (bD (xName rfl) (ao rfl) rfl) (aj (x:=.int 4) (ao rfl) aK))) (pick k ns (a+1+4*i+1) (many:=4) (by omega))) aK)) rfl
theorem XH(k N:Nat)(hN:N<=6)(n1:1<=n)(n4:n<=4):∃ (g:Nat->Nat->Int) (kk ba pl sh st wa:Sl),Bd n 2985984 g/\nOw kk=true/\nOw ba=true/\nOw pl=true/\nOw sh=true/\nOw st=true/\nOw wa=true /\
  bV (fF (cxN T 60 (k+2)) 60 59 gSc (Af gFor) (rC gFor)) (Ls N fun i=>.int i) (jr ns a n .no .no (.sh (tbl n n dl)) .no .no .no .no .no .no .no)=some (.nxt (jr ns a n .no .no (.sh (tbl n n g)) kk ba pl sh st wa .no)):=by
 have pw:∀ i,i<=6->(0:Int)<=12^i/\(12:Int)^i<=2985984:=by
  intro i hi
  match i,hi with
  | 0,_=>decide
  | 1,_=>decide
  | 2,_=>decide
  | 3,_=>decide
  | 4,_=>decide
  | 5,_=>decide
  | 6,_=>decide
 have key:=dY (f:=fF (cxN T 60 (k+2)) 60 59 gSc (Af gFor) (rC gFor)) (h:=fun i=>.int i) (N:=N) (P:=fun i ρ=>∃ (g:Nat->Nat->Int) (kk ba pl sh st wa:Sl),Bd n (12^i) g/\nOw kk=true/\nOw ba=true/\nOw pl=true/\nOw sh=true/\nOw st=true/\nOw wa=true/\ρ=jr ns a n .no .no (.sh (tbl n n g)) kk ba pl sh st wa .no) (ρ:=jr ns a n .no .no (.sh (tbl n n dl)) .no .no .no .no .no .no .no) (fun i ρ hi hP=>by
  obtain⟨g,kk,ba,pl,sh,st,wa,hb,h1,h2,h3,h4,h5,h6,rfl⟩:=hP;have p:=pw i (by omega);obtain⟨S,x1,x2,x3,x4,x5,x6,hS,hh⟩:=XF (ns:=ns) (a:=a) (i:=i) k h1 h2 h3 h4 h5 h6 n1 n4 (Yv (by omega) hb)
  exact⟨_,⟨mul n g S,.sh x1,.sh x2,.sh x3,.sh x4,.sh x5,.sh x6,by rw[Int.pow_succ,Int.mul_comm];exact Ms n4 p.1 hb hS,rfl,rfl,rfl,rfl,rfl,rfl,rfl⟩,hh⟩) ⟨dl,.no,.no,.no,.no,.no,.no,fun i j _ _=>by have:=Jq i j;unfold dl at this ⊢;split<;>omega,rfl,rfl,rfl,rfl,rfl,rfl,rfl⟩
 obtain⟨ρ',⟨g,kk,ba,pl,sh,st,wa,hb,h1,h2,h3,h4,h5,h6,rfl⟩,hh⟩:=key;have p:=pw N hN;exact⟨g,kk,ba,pl,sh,st,wa,fun i j hi hj=>by have:=hb i j hi hj;omega,h1,h2,h3,h4,h5,h6,hh⟩
end
section
variable {ns:List Int} {a n r c:Nat} {g:Nat->Nat->Int} {kk ba pl sh st wa:Sl}
abbrev gIn(i:Nat):List Stmt:=(ifS ((aH (top 89)).body.getD 2 pss)).drop i
abbrev sL(ns:List Int)(a n r c:Nat)(g:Nat->Nat->Int)(kk ba pl sh st wa li:Sl):Rho:=jr ns a n (.sh (.int r)) (.sh (.int c)) (.sh (tbl n n g)) kk ba pl sh st wa li
theorem aaI{e:Expr}{S:Nat->Nat->Int}(h1:nOw kk=true)(h2:nOw ba=true)(h3:nOw pl=true)(h4:nOw sh=true)(h5:nOw st=true)(h6:nOw wa=true)(hm:dX 60 "_law_lines" e=false):frz 60 e (sL ns a n r c g kk ba pl sh st wa (.oo (lss n n S)))=sL ns a n r c g kk ba pl sh st wa (.oo (lss n n S)) :=
 aW rfl (aW rfl (aW rfl (aW rfl (aW rfl (aW rfl (aW h1 (aW h2 (aW h3 (aW h4 (aW h5 (aW h6 (Iu hm pG))))))))))))
theorem Nz{e:Expr}{S:Nat->Nat->Int}(h1:nOw kk=true)(h2:nOw ba=true)(h3:nOw pl=true)(h4:nOw sh=true)(h5:nOw st=true)(h6:nOw wa=true)(hm:dX 60 "_law_lines" e=true):frz 60 e (sL ns a n r c g kk ba pl sh st wa (.oo (lss n n S)))=sL ns a n r c g kk ba pl sh st wa (.sh (lsD n S)) :=
 aW rfl (aW rfl (aW rfl (aW rfl (aW rfl (aW rfl (aW h1 (aW h2 (aW h3 (aW h4 (aW h5 (aW h6 (NP hm pG))))))))))))
theorem gin(k:Nat)(h1:nOw kk=true)(h2:nOw ba=true)(h3:nOw pl=true)(h4:nOw sh=true)(h5:nOw st=true)(h6:nOw wa=true)(n1:1<=n)(n4:n<=4):∃ (r c:Nat) (v:Int) (l:D),0<=v/\v<=2 /\
  blk (cxN T 60 (k+2)) 60 59 gSc (gIn 0) (jr ns a n .no .no (.sh (tbl n n g)) kk ba pl sh st wa .no)=some (.nxt (sL ns a n r c (upd g r c (g r c+v-1)) kk ba pl sh st wa (.sh l))):=by
 have hr:=cG (ns:=ns) (k:=a+41) (many:=n) (by omega);have hc:=cG (ns:=ns) (k:=a+42) (many:=n) (by omega);have hv:=cG (ns:=ns) (k:=a+43) (many:=3) (by omega);refine⟨pickN ns (a+41) n,pickN ns (a+42) n,((pickN ns (a+43) 3:Nat):Int),lsD n (upd g (pickN ns (a+41) n) (pickN ns (a+42) n) (g (pickN ns (a+41) n) (pickN ns (a+42) n)+((pickN ns (a+43) 3:Nat):Int)-1)),by omega,by omega,?_⟩;refine aaP (d:=.tup [.int ((pickN ns (a+41) n:Nat):Int),.int ((pickN ns (a+42) n:Nat):Int)]) (j9 rfl rfl rfl h1 h2 h3 h4 h5 h6 rfl) rfl ?_ rfl rfl ?_
 ·exact qj (aj (au rfl (aj (x:=scr ns) (xName rfl) (aj (x:=.int ((a+41:Nat):Int)) (bD (xName rfl) (ao rfl) rfl) (aj (x:=.int n) (xName rfl) aK))) (pick k ns (a+41) (many:=n) (by omega))) (aj (au rfl (aj (x:=scr ns) (xName rfl) (aj (x:=.int ((a+42:Nat):Int)) (bD (xName rfl) (ao rfl) rfl) (aj (x:=.int n) (xName rfl) aK))) (pick k ns (a+42) (many:=n) (by omega))) aK)) rfl
 ·generalize pickN ns (a+41) n=r at hr
  generalize pickN ns (a+42) n=c at hc;refine yJ (d:=lsD n g) (dss:=lss n n g) (ρ':=sL ns a n r c g kk ba pl sh st wa .no) (cU (j9 rfl rfl rfl h1 h2 h3 h4 h5 h6 rfl)) rfl ?_ pA (Ft rfl (Dz rfl rfl rfl h1 h2 h3 h4 h5 h6 rfl)) ?_
  ·refine bF rfl (Ac (xs:=Ls n fun i=>row n (g i)) rfl (xName rfl)) (cJ (by omega)) (aL (g:=fun i=>.lst (Ls n fun j=>.int (g i j))) fun i hi=>bI rfl ?_)
   exact bU rfl rfl rfl (aj (x:=row n (g i)) (xName rfl) aK) rfl
  ·refine yI (ρ:=sL ns a n r c g kk ba pl sh st wa (.oo (lss n n g))) (d:=.int (g r c+((pickN ns (a+43) 3:Nat):Int)-1)) (Nz h1 h2 h3 h4 h5 h6 rfl) (aaI h1 h2 h3 h4 h5 h6 rfl) (aaI h1 h2 h3 h4 h5 h6 rfl) (dss:=lss n n g) rfl rfl ?_ (xName rfl) (by rw[aR];exact gG hr) (cB hr) (xName rfl) (by rw[aR];exact gG hc) rfl ?_
   ·refine bD (x:=.int (g r c+((pickN ns (a+43) 3:Nat):Int))) (y:=.int 1) (bD (x:=.int (g r c)) (y:=.int ((pickN ns (a+43) 3:Nat):Int)) ?_ ?_ rfl) (ao rfl) rfl
    ·exact Aj (m:=n) (j:=c) (h:=fun j=>.int (g r j)) (Aj (m:=n) (j:=r) (h:=fun i=>.lst (Ls n fun j=>.int (g i j))) (xName rfl) (xName rfl) hr rfl rfl) (xName rfl) hc rfl rfl
    ·exact au rfl (aj (x:=scr ns) (xName rfl) (aj (x:=.int ((a+43:Nat):Int)) (bD (xName rfl) (ao rfl) rfl) (aj (x:=.int 3) (ao rfl) aK))) (pick k ns (a+43) (many:=3) (by omega))
   ·show blk _ _ _ _ _ (sL ns a n r c g kk ba pl sh st wa (.oo ((lss n n g).set r ((Ls n fun j=>D.int (g r j)).set c (.int (g r c+((pickN ns (a+43) 3:Nat):Int)-1))))))=_
    rw[xX hr];generalize upd g r c (g r c+((pickN ns (a+43) 3:Nat):Int)-1)=G;refine eH (d:=tbl n n G) (ρ':=sL ns a n r c g kk ba pl sh st wa (.sh (lsD n G))) (Nz h1 h2 h3 h4 h5 h6 rfl) rfl rfl ?_ cT;refine bU rfl rfl rfl (aj (bF rfl (wSq (x:=lsD n G) rfl (xName rfl) rfl) (cJ (by omega)) (aL (g:=fun i=>row n (G i)) fun i hi=>bI rfl ?_)) aK) gK;exact bU rfl rfl rfl (aj (x:=.lst (Ls n fun j=>.int (G i j))) (xName rfl) aK) gK
end
theorem vd(k:Nat)(ns:List Int)(a:Nat){n:Nat}(n1:1<=n)(n4:n<=4):∃ g:Nat->Nat->Int,Bd n 2985986 g/\aB T 60 (k+3) "_law_good_table" [scr ns,.int a,.int n]=some (tbl n n g):=by
 have hN:∃ N:Nat,N<=6/\ev (cxN T 60 (k+2)) 60 gSc (jr ns a n .no .no (.sh (tbl n n dl)) .no .no .no .no .no .no .no) (match gFor with | .For _ (.Call _ [e] _ _) _ _ _=>e | _=>.Name "" ⟨0,0,0,0⟩)=some (.int N):=by
  have hp:=cG (ns:=ns) (k:=a) (many:=6) (by omega)
  by_cases q:1<n
  ·refine⟨1+pickN ns a 6,by omega,J4 (bK (x:=.int n) (y:=.int 1) (xName rfl) (ao rfl) ?_) (jk (bD (x:=.int 1) (y:=.int ((pickN ns a 6:Nat):Int)) (ao rfl) ?_ rfl) (congrArg D.int (by omega)))⟩
   ·show some (D.bl (decide ((1:Int)<(n:Int))))=_
    rw[L3z (by omega)]
   ·exact au rfl (aj (x:=scr ns) (xName rfl) (aj (x:=.int a) (xName rfl) (aj (x:=.int 6) (ao rfl) aK))) (pick k ns a (many:=6) (by omega))
  ·refine⟨1,by omega,J6 (bK (x:=.int n) (y:=.int 1) (xName rfl) (ao rfl) ?_) (ao rfl)⟩
   show some (D.bl (decide ((1:Int)<(n:Int))))=_;rw[O2z (by omega)]
 obtain⟨N,hN6,hNe⟩:=hN;obtain⟨g,kk,ba,pl,sh,st,wa,hb,h1,h2,h3,h4,h5,h6,hgo⟩:=XH (ns:=ns) (a:=a) (n:=n) k N hN6 n1 n4;have p:=pick k ns (a+40) (many:=4) (by omega);have c:ev (cxN T 60 (k+2)) 59 gSc (jr ns a n .no .no (.sh (tbl n n g)) kk ba pl sh st wa .no) (match (aH (top 89)).body.getD 2 pss with | .If (.Compare e _ _ _) _ _ _=>e | _=>.Name "" ⟨0,0,0,0⟩)=some (.int ((pickN ns (a+40) 4:Nat):Int)):=au rfl (aj (x:=scr ns) (xName rfl) (aj (x:=.int ((a+40:Nat):Int)) (bD (xName rfl) (ao rfl) rfl) (aj (x:=.int 4) (ao rfl) aK))) p
 have start:∀ G,blk (cxN T 60 (k+2)) 60 60 gSc ((aH (top 89)).body.drop 2) (jr ns a n .no .no (.sh (tbl n n g)) kk ba pl sh st wa .no)=some (.ret (tbl n n G))->aB T 60 (k+3) "_law_good_table" [scr ns,.int a,.int n]=some (tbl n n G):=fun G hG=>by
  refine bO (fd:=aH (top 89)) rfl rfl (eH (ρ':=jr ns a n .no .no .no .no .no .no .no .no .no .no) (d:=tbl n n dl) rfl rfl rfl (Ra (k+2) n4) ?_);exact lA (ρ:=jr ns a n .no .no (.sh (tbl n n dl)) .no .no .no .no .no .no .no) (ρ':=jr ns a n .no .no (.sh (tbl n n dl)) .no .no .no .no .no .no .no) (ρ2:=jr ns a n .no .no (.sh (tbl n n g)) kk ba pl sh st wa .no) rfl (vK rfl hNe (by omega)) hgo hG
 have cm:=j9 (ns:=ns) (a:=a) (n:=n) (ro:=.no) (co:=.no) (md:=.sh (tbl n n g)) (li:=.no) rfl rfl rfl h1 h2 h3 h4 h5 h6 rfl
 by_cases q:pickN ns (a+40) 4=0
 ·obtain⟨r,c',v,l,v0,v2,hin⟩:=gin (ns:=ns) (a:=a) (n:=n) (g:=g) k h1 h2 h3 h4 h5 h6 n1 n4
  refine⟨upd g r c' (g r c'+v-1),?_,start _ ?_⟩
  ·refine fun i j hi hj=>?_
   unfold upd;have:=hb i j hi hj;split
   ·subst i
    split
    ·subst j;omega
    ·omega
   ·omega
  ·refine JR (fl1:=.nxt _) cm (bK c (y:=.int 0) (ao rfl) (uX (by omega))) hin ?_
   exact CW (j9 rfl rfl rfl h1 h2 h3 h4 h5 h6 rfl) (xName rfl)
 ·refine⟨g,fun i j hi hj=>by have:=hb i j hi hj;omega,start _ ?_⟩
  exact ux cm (bK c (y:=.int 0) (ao rfl) (sY (by omega))) (CW cm (xName rfl))
def whB:Stmt->List Stmt
 | .While _ b _ _=>b
 | _=>[]
def whC:Stmt->Expr
 | .While c _ _ _=>c
 | _=>.Name "" ⟨0,0,0,0⟩
abbrev whR(cx:Cxt)(sc:Scope)(s:Stmt)(N:Nat)(ρ:Rho):Option Fl:=rO (fun ρ=>((ev cx 60 sc (frz 60 (whC s) ρ) (whC s)).bind asB).map fun b=>(frz 60 (whC s) ρ,b)) (fun ρ=>blk cx 60 59 sc (whB s) ρ) N ρ
def mF(a b:Int)(r:Sl):Rho:=[("one",.sh (.int a)),("other",.sh (.int b)),("rest",r)]
theorem O6{b:Int}:cmpop .NotEq (.int b) (.int 0)=some (.bl (decide (b≠0))):=by
 rw[oNe (by simp[dep]) (by simp[dep])]
 by_cases h:b=0
 ·subst h;rfl
 ·simp[deq,h]
theorem at0'{cx:Cxt}{N j:Nat}{e:Expr}{p q:Pos}{u d:Int}(h:ev cx (N+1) sc ρ e=some (frD u d)):ev cx (N+2) sc ρ (.Subscript e (.Constant (.int 0) j q) p)=some (.int u):=xIx (x:=frD u d) (i:=0) h (ao rfl) rfl rfl
theorem qt{cx:Cxt}{N j:Nat}{e:Expr}{p q:Pos}{u d:Int}(h:ev cx (N+1) sc ρ e=some (frD u d)):ev cx (N+2) sc ρ (.Subscript e (.Constant (.int 1) j q) p)=some (.int d):=xIx (x:=frD u d) (i:=1) h (ao rfl) rfl rfl
theorem Yk(k:Nat):∀ (n:Nat) (a b:Int) (r:Sl) (N:Nat),nOw r=true->b.natAbs<=n->n<N->∃ a' r',nOw r'=true/\a'.natAbs=Int.gcd a b/\whR (cxN T 60 k) (aH (top 22)).sc (bB 22 0) N (mF a b r)=some (.nxt (mF a' 0 r')):=by
 intro n
 induction n with
 | zero =>
  intro a b r N hr hb hN
  have b0:b=0:=by omega
  subst b0;obtain⟨N',rfl⟩:∃ N',N=N'+1:=⟨N-1,by omega⟩;exact⟨a,r,hr,by simp,Dh (cU (aO rfl (aO rfl (aO hr rfl)))) (bK (x:=.int 0) (y:=.int 0) (xName rfl) (ao rfl) rfl)⟩
 | succ n ih =>
  intro a b r N hr hb hN;obtain⟨N',rfl⟩:∃ N',N=N'+1:=⟨N-1,by omega⟩
  by_cases b0:b=0
  ·subst b0
   exact⟨a,r,hr,by simp,Dh (cU (aO rfl (aO rfl (aO hr rfl)))) (bK (x:=.int 0) (y:=.int 0) (xName rfl) (ao rfl) rfl)⟩
  ·have hl:=IK (a:=a) b0
   obtain⟨a',r',h1,h2,h3⟩:=ih b (a.fmod b) (.sh (.int (a.fmod b))) N' rfl (by omega) (by omega);refine⟨a',r',h1,by rw[h2,Ca],J8 (ρ1:=mF a b r) (ρ2:=mF b (a.fmod b) (.sh (.int (a.fmod b)))) (cU (aO rfl (aO rfl (aO hr rfl)))) (bK (x:=.int b) (y:=.int 0) (xName rfl) (ao rfl) (by rw[O6,L3z b0])) ?_ h3⟩;refine pU (d:=.int (a.fmod b)) (aO rfl (aO rfl (aO hr rfl))) rfl rfl (bD (x:=.int a) (y:=.int b) (xName rfl) (xName rfl) (Yo b0)) ?_;refine eH (ρ:=mF a b (.sh (.int (a.fmod b)))) (ρ':=mF a b (.sh (.int (a.fmod b)))) (d:=.int b) rfl rfl rfl (xName rfl) ?_;exact eH (ρ:=mF b b (.sh (.int (a.fmod b)))) (ρ':=mF b b (.sh (.int (a.fmod b)))) (d:=.int (a.fmod b)) rfl rfl rfl (xName rfl) cT
theorem Xp{n:Nat}(h:n<whF):n.log2<9000:=by
 by_cases e:n=0
 ·rw[e];decide
 ·rw[Nat.log2_lt e];exact h
theorem common(k:Nat){a b:Int}(hb:b.natAbs<whF):aB T 60 (k+1) "common_measure" [.int a,.int b]=some (.int (gc a b)):=by
 obtain⟨a',r',h1,h2,h3⟩:=Yk k b.natAbs a b .no whF rfl (Q4z _) hb;refine bO (fd:=aH (top 22)) rfl rfl (Ip (ρ2:=mF a' 0 r') h3 (CW (aO rfl (aO rfl (aO h1 rfl))) (jk (bU (ds:=[.int a']) rfl rfl rfl (aj (xName rfl) aK) rfl) ?_)));congr 1;unfold gc;rw[<- h2]
 split<;>omega
theorem lowest(k:Nat){u d:Int}(hd:d≠0)(hb:d.natAbs<whF):aB T 60 (k+2) "lowest" [.int u,.int d]=some (loD u d):=by
 have g0:=pF (u:=u) hd;have cm:=common k (a:=u) hb
 have gl:(gc u d).natAbs<=d.natAbs:=by
  have:=Nat.le_of_dvd (by omega) (Int.gcd_dvd_natAbs_right u d);unfold gc;omega
 have lg:(gc u d).natAbs.log2<9000:=Xp (N1z gl hb);refine bO (fd:=aH (top 23)) rfl rfl (eH (ρ':=[("up",.sh (.int u)),("down",.sh (.int d)),("measure",.no)]) (d:=.int (gc u d)) rfl rfl rfl (au rfl (aj (xName rfl) (aj (xName rfl) aK)) cm) ?_)
 by_cases q:d<0
 ·refine vg (ρ:=[("up",.sh (.int u)),("down",.sh (.int d)),("measure",.sh (.int (gc u d)))]) (ρ':=[("up",.sh (.int u)),("down",.sh (.int d)),("measure",.sh (.int (gc u d)))]) (ρ2:=[("up",.sh (.int u)),("down",.sh (.int d)),("measure",.sh (.int (-(gc u d))))]) rfl (bK (x:=.int d) (y:=.int 0) (xName rfl) (ao rfl) (oLt q)) (eH (ρ':=[("up",.sh (.int u)),("down",.sh (.int d)),("measure",.sh (.int (gc u d)))]) (d:=.int (-(gc u d))) rfl rfl rfl (OD (xName rfl)) cT) (bN ?_)
  refine jk (qj (ds:=[.int (u.fdiv (-(gc u d))),.int (d.fdiv (-(gc u d)))]) (aj (bD (xName rfl) (xName rfl) (Dd (by omega) (by rw[Q3z];exact lg))) (aj (bD (xName rfl) (xName rfl) (Dd (by omega) (by rw[Q3z];exact lg))) aK)) rfl) ?_
  show D.tup _=D.tup [.int (uZ u d),.int (u0 u d)];unfold uZ u0;rw[K5z q,K5z q,fdiv_neg (by omega) Np,fdiv_neg (by omega) Nr]
 ·refine JM (ρ:=[("up",.sh (.int u)),("down",.sh (.int d)),("measure",.sh (.int (gc u d)))]) (ρ':=[("up",.sh (.int u)),("down",.sh (.int d)),("measure",.sh (.int (gc u d)))]) rfl (bK (x:=.int d) (y:=.int 0) (xName rfl) (ao rfl) (Mh q)) (bN ?_)
  refine jk (qj (ds:=[.int (u.fdiv (gc u d)),.int (d.fdiv (gc u d))]) (aj (bD (xName rfl) (xName rfl) (Dd (by omega) lg)) (aj (bD (xName rfl) (xName rfl) (Dd (by omega) lg)) aK)) rfl) ?_;show D.tup _=D.tup [.int (uZ u d),.int (u0 u d)];unfold uZ u0;rw[L5z q,L5z q,nj g0,nj g0]
theorem Iz(k:Nat){u d:Int}(hb:d.natAbs<whF):aB T 60 (k+2) "has_fraction_form" [frD u d]=some (.bl (decide (0<d)&&decide (Int.gcd u d=1))):=by
 have w:∀ i,aB T 60 (k+1) "is_whole" [.int i]=some (.bl true):=fun i=>is_whole k (by simp[dep]);refine bO (fd:=aH (top 24)) rfl rfl (lu (bL (lW (dG (nW rfl rfl rfl (xName rfl) rfl)) (iW (bK (x:=.int 2) (y:=.int 2) (bU rfl rfl rfl (aj (x:=frD u d) (xName rfl) aK) rfl) (ao rfl) (YL rfl))))) (lu (bL (lW (dG (au rfl (aj (x:=.int u) (at0' (xName rfl)) aK) (w u))) (iW (dG (au rfl (aj (x:=.int d) (qt (xName rfl)) aK) (w d)))))) (bN (bL ?_))))
 by_cases q:0<d
 ·rw[L3z q,A4z]
  refine jm (bK (x:=.int d) (y:=.int 0) (qt (xName rfl)) (ao rfl) (by rw[oGt,L3z q])) (iW (bK (x:=.int (gc u d)) (y:=.int 1) (au rfl (aj (x:=.int u) (at0' (xName rfl)) (aj (x:=.int d) (qt (xName rfl)) aK)) (common k hb)) (ao rfl) ?_))
  by_cases e:Int.gcd u d=1
  ·rw[L3z e];exact uX (by unfold gc;omega)
  ·rw[O2z e];exact sY (by unfold gc;omega)
 ·rw[O2z q,K3z]
  exact oA (bK (x:=.int d) (y:=.int 0) (qt (xName rfl)) (ao rfl) (by rw[oGt,O2z q]))
theorem tZ(k:Nat){u d:Int}(hb:d.natAbs<whF)(h:qg u d):aB T 60 (k+2) "has_fraction_form" [frD u d]=some (.bl true):=by
 rw[Iz k hb,L3z h.1,L3z h.2];rfl
theorem Xv(k:Nat){u d:Int}(hb:d.natAbs<whF)(h:qg u d)(h0:0<=u):aB T 60 (k+3) "is_fraction" [frD u d]=some (.bl true):=by
 refine bO (fd:=aH (top 25)) rfl rfl (bN (bL (jm (au rfl (aj (x:=frD u d) (xName rfl) aK) (tZ k hb h)) (iW (bK (x:=.int u) (y:=.int 0) (at0' (xName rfl)) (ao rfl) ?_)))));show some (D.bl (decide (0<=u)))=_;rw[L3z h0]
theorem mdN{x:Int}(h:x.natAbs<=KB):mid x=true:=by
 unfold mid;refine L3z ?_
 by_cases e:x.natAbs=0
 ·rw[e];decide
 ·rw[Nat.log2_lt e]
  exact N1z h (by decide +kernel)
theorem O9{a b:Int}(h:a.natAbs<=KB)(h':b.natAbs<=KB):(a*b).natAbs<whF:=by
 rw[P3z];exact N1z (R3z h h') (by decide +kernel)
theorem tD{a b:Int}(h:a≠0)(h':b≠0):a*b≠0:=J3z h h'
section
variable {a b c d:Int}
theorem sum_of(k:Nat)(hb:b≠0)(hd:d≠0)(ka:a.natAbs<=KB)(kb:b.natAbs<=KB)(kc:c.natAbs<=KB)(kd:d.natAbs<=KB):aB T 60 (k+3) "sum_of" [frD a b,frD c d]=some (loD (a*d+c*b) (b*d)) :=
 bO (fd:=aH (top 26)) rfl rfl (bN (au rfl (aj (bD (x:=.int (a*d)) (y:=.int (c*b)) (bD (x:=.int a) (y:=.int d) (at0' (xName rfl)) (qt (xName rfl)) (lB (mdN ka) (mdN kd))) (bD (x:=.int c) (y:=.int b) (at0' (xName rfl)) (qt (xName rfl)) (lB (mdN kc) (mdN kb))) rfl) (aj (bD (x:=.int b) (y:=.int d) (qt (xName rfl)) (qt (xName rfl)) (lB (mdN kb) (mdN kd))) aK)) (lowest k (tD hb hd) (O9 kb kd))))
theorem less_of(k:Nat)(hb:b≠0)(hd:d≠0)(ka:a.natAbs<=KB)(kb:b.natAbs<=KB)(kc:c.natAbs<=KB)(kd:d.natAbs<=KB):aB T 60 (k+3) "less_of" [frD a b,frD c d]=some (loD (a*d-c*b) (b*d)) :=
 bO (fd:=aH (top 28)) rfl rfl (bN (au rfl (aj (bD (x:=.int (a*d)) (y:=.int (c*b)) (bD (x:=.int a) (y:=.int d) (at0' (xName rfl)) (qt (xName rfl)) (lB (mdN ka) (mdN kd))) (bD (x:=.int c) (y:=.int b) (at0' (xName rfl)) (qt (xName rfl)) (lB (mdN kc) (mdN kb))) rfl) (aj (bD (x:=.int b) (y:=.int d) (qt (xName rfl)) (qt (xName rfl)) (lB (mdN kb) (mdN kd))) aK)) (lowest k (tD hb hd) (O9 kb kd))))
theorem times_of(k:Nat)(hb:b≠0)(hd:d≠0)(ka:a.natAbs<=KB)(kb:b.natAbs<=KB)(kc:c.natAbs<=KB)(kd:d.natAbs<=KB):aB T 60 (k+3) "times_of" [frD a b,frD c d]=some (loD (a*c) (b*d)) :=
 bO (fd:=aH (top 27)) rfl rfl (bN (au rfl (aj (bD (x:=.int a) (y:=.int c) (at0' (xName rfl)) (at0' (xName rfl)) (lB (mdN ka) (mdN kc))) (aj (bD (x:=.int b) (y:=.int d) (qt (xName rfl)) (qt (xName rfl)) (lB (mdN kb) (mdN kd))) aK)) (lowest k (tD hb hd) (O9 kb kd))))
theorem parted(k:Nat)(hb:b≠0)(hc:c≠0)(ka:a.natAbs<=KB)(kb:b.natAbs<=KB)(kc:c.natAbs<=KB)(kd:d.natAbs<=KB):aB T 60 (k+3) "parted" [frD a b,frD c d]=some (loD (a*d) (b*c)) :=
 bO (fd:=aH (top 29)) rfl rfl (bN (au rfl (aj (bD (x:=.int a) (y:=.int d) (at0' (xName rfl)) (qt (xName rfl)) (lB (mdN ka) (mdN kd))) (aj (bD (x:=.int b) (y:=.int c) (qt (xName rfl)) (at0' (xName rfl)) (lB (mdN kb) (mdN kc))) aK)) (lowest k (tD hb hc) (O9 kb kc))))
end
theorem Et{m b:Nat}{h:Nat->D}(q:∀ i,i<m->dep (h i)<=b):deps (Ls m h)<=b:=fu fun x hx=>by
 obtain⟨i,hi,rfl⟩:=gA hx;exact q i hi
theorem yc{m n:Nat}{h:Nat->Nat->D}(h1:1<=m)(hm:m<=4)(h2:1<=n)(hn:n<=4):cj (.tup (Ls m fun i=>.tup (Ls n (h i))))=true:=by
 show(aZ (.tup (Ls m fun i=>.tup (Ls n (h i))))&&(Ls m fun i=>D.tup (Ls n (h i))).all aZ&&lens (Ls m fun i=>D.tup (Ls n (h i))))=true;rw[eZ,L3z h1,L3z hm]
 have a1:(Ls m fun i=>D.tup (Ls n (h i))).all aZ=true:=by
  rw[M2z];intro x hx;obtain⟨i,_,rfl⟩:=gA hx;rw[eZ,L3z h2,L3z hn];rfl
 have a2:lens (Ls m fun i=>D.tup (Ls n (h i)))=true:=by
  unfold lens;rw[M2z,yF h1];intro x hx;obtain⟨i,_,rfl⟩:=gA hx;simp[u5,aR]
 rw[a1,a2];rfl
theorem oK{m n:Nat}{h:Nat->Nat->D}(h2:1<=n)(hn:n<=4):(Ls m fun i=>D.tup (Ls n (h i))).all aZ=true:=by
 rw[M2z];intro x hx;obtain⟨i,_,rfl⟩:=gA hx;rw[eZ,L3z h2,L3z hn];rfl
theorem KZ(k:Nat){n:Nat}{f:Nat->Int}(hn:n<=4):aB T 60 (k+1) "row_as_fractions" [row n f]=some (.tup (Ls n fun j=>frD (f j) 1)):=by
 refine bO (fd:=aH (top 32)) rfl rfl (bN (bU rfl rfl rfl (aj (bF rfl (Ac (xs:=Ls n fun j=>.int (f j)) rfl (xName rfl)) (cJ (by omega)) (aL (g:=fun j=>frD (f j) 1) fun j hj=>bI rfl ?_)) aK) gK));exact qj (aj (xName rfl) (aj (ao rfl) aK)) rfl
theorem nF(q:Rat):(q.den:Int)≠0:=by have:=q.den_nz;omega
theorem d_na(q:Rat):((q.den:Int)).natAbs=q.den:=rfl
section
variable {a b:Rat}
theorem Qt(k:Nat)(ha:Sq a)(hb:Sq b):aB T 60 (k+3) "sum_of" [qD a,qD b]=some (qD (a+b)):=by
 rw[sum_of k (nF a) (nF b) ha.1 ha.2 hb.1 hb.2,JK (J3z (nF a) (nF b)),Kp]
theorem v9(k:Nat)(ha:Sq a)(hb:Sq b):aB T 60 (k+3) "times_of" [qD a,qD b]=some (qD (a*b)):=by
 rw[times_of k (nF a) (nF b) ha.1 ha.2 hb.1 hb.2,JK (J3z (nF a) (nF b)),DQ]
theorem M4(k:Nat)(ha:Sq a)(hb:Sq b):aB T 60 (k+3) "less_of" [qD a,qD b]=some (qD (a-b)):=by
 rw[less_of k (nF a) (nF b) ha.1 ha.2 hb.1 hb.2,JK (J3z (nF a) (nF b)),yd]
theorem LK(k:Nat)(ha:Sq a)(hb:Sq b)(h:b≠0):aB T 60 (k+3) "parted" [qD a,qD b]=some (qD (a / b)):=by
 rw[parted k (d:=(b.den:Int)) (nF a) (o8 h) ha.1 ha.2 hb.1 hb.2,JK (J3z (nF a) (o8 h)),Er h]
theorem Ei(k:Nat)(ha:Sq a)(h:0<=a):aB T 60 (k+3) "is_fraction" [qD a]=some (.bl true):=Xv k (N1z ha.2 (by decide +kernel)) (Gy a) (DP h)
theorem NT(k:Nat)(ha:Sq a):aB T 60 (k+2) "has_fraction_form" [qD a]=some (.bl true):=tZ k (N1z ha.2 (by decide +kernel)) (Gy a)
end
def oR(l:D)(t f:Sl):Rho:=[("some",.sh l),("told",t),("fraction",f)]
def BL(g:Nat->Rat):Nat->Sl
 | 0=>.no
 | i+1=>.sh (qD (g i))
theorem Ih(g:Nat->Rat)(i:Nat):nOw (BL g i)=true:=by cases i<;>rfl
theorem all_sum(k:Nat){n:Nat}{g:Nat->Rat}(hg:∀ i,i<n->Sq (g i))(hs:∀ i,i<n->Sq (cN i g)):aB T 60 (k+4) "all_sum" [.lst (Ls n fun i=>qD (g i))]=some (qD (cN n g)):=by
 refine bO (fd:=aH (top 30)) rfl rfl (eH (ρ':=oR (.lst (Ls n fun i=>qD (g i))) .no .no) (d:=qD 0) rfl rfl rfl (qj (aj (ao rfl) (aj (ao rfl) aK)) rfl) ?_);refine lA (ρ:=oR (.lst (Ls n fun i=>qD (g i))) (.sh (qD (cN 0 g))) .no) (ρ':=oR (.lst (Ls n fun i=>qD (g i))) (.sh (qD (cN 0 g))) (BL g 0)) (ρ2:=oR (.lst (Ls n fun i=>qD (g i))) (.sh (qD (cN n g))) (BL g n)) rfl (wSq (x:=.lst (Ls n fun i=>qD (g i))) rfl (xName rfl) rfl) (fZ (R:=fun i=>oR (.lst (Ls n fun i=>qD (g i))) (.sh (qD (cN i g))) (BL g i)) fun i hi=>?_) (CW (aO rfl (aO rfl (aO (Ih g n) rfl))) (xName rfl));refine dF (ρ1:=oR (.lst (Ls n fun i=>qD (g i))) (.sh (qD (cN i g))) (.sh (qD (g i)))) rfl ?_;exact eH (ρ:=oR (.lst (Ls n fun i=>qD (g i))) (.sh (qD (cN i g))) (.sh (qD (g i)))) (ρ':=oR (.lst (Ls n fun i=>qD (g i))) (.sh (qD (cN i g))) (.sh (qD (g i)))) (d:=qD (cN (i+1) g)) rfl rfl rfl (au rfl (aj (xName rfl) (aj (xName rfl) aK)) (Qt k (hs i hi) (hg i hi))) cT
abbrev rwq(n:Nat)(f:Nat->Rat):D:=.tup (Ls n fun j=>qD (f j))
abbrev ftq(m n:Nat)(F:Nat->Nat->Rat):D:=.tup (Ls m fun i=>rwq n (F i))
theorem qK(k:Nat){n:Nat}{f g:Nat->Rat}(h4:n<=4)(hf:∀ i,i<n->Sq (f i))(hg:∀ i,i<n->Sq (g i))(hp:∀ i,i<n->Sq (f i*g i))(hs:∀ i,i<n->Sq (cN i fun l=>f l*g l)):aB T 60 (k+5) "row_by_column" [rwq n f,rwq n g]=some (qD (cN n fun l=>f l*g l)):=by
 refine bO (fd:=aH (top 67)) rfl rfl (bN (au rfl (aj (x:=.lst (Ls n fun i=>qD (f i*g i))) (bF rfl (PN (h:=fun j=>qD (f j)) (g:=fun j=>qD (g j)) rfl (xName rfl) (xName rfl)) (cJ (by omega)) (aL (g:=fun i=>qD (f i*g i)) fun i hi=>bI rfl ?_)) aK) (all_sum k hp hs)));exact au rfl (aj (x:=qD (f i)) (xName rfl) (aj (x:=qD (g i)) (xName rfl) aK)) (v9 (k+1) (hf i hi) (hg i hi))
theorem oN(k:Nat){n p:Nat}{f:Nat->Rat}{G:Nat->Nat->Rat}(h4:n<=4)(hp4:p<=4)(hf:∀ i,i<n->Sq (f i))(hg:∀ j i,j<p->i<n->Sq (G j i))(hp:∀ j i,j<p->i<n->Sq (f i*G j i))(hs:∀ j i,j<p->i<n->Sq (cN i fun l=>f l*G j l)):aB T 60 (k+6) "row_by_columns" [rwq n f,ftq p n G]=some (rwq p fun j=>cN n fun l=>f l*G j l):=by
 refine bO (fd:=aH (top 68)) rfl rfl (bN (bU rfl rfl rfl (aj (bF rfl (Ac (xs:=Ls p fun i=>rwq n (G i)) rfl (xName rfl)) (cJ (by omega)) (aL (g:=fun j=>qD (cN n fun l=>f l*G j l)) fun j hj=>bI rfl ?_)) aK) gK));exact au rfl (aj (x:=rwq n f) (xName rfl) (aj (x:=rwq n (G j)) (xName rfl) aK)) (qK k h4 hf (fun i hi=>hg j i hj hi) (fun i hi=>hp j i hj hi) (fun i hi=>hs j i hj hi))
theorem zx{m n:Nat}:dep (ftq m n F)<=3:=by
 have:∀ i,i<m->dep (rwq n (F i))<=2:=fun i _=>by
  have:=Et (m:=n) (b:=1) (h:=fun j=>qD (F i j)) fun j _=>by simp[dep,deps]
  simp only[dep];omega
 have:=Et this;simp only[dep];omega
theorem Hz{m n:Nat}{F:Nat->Nat->Rat}{x:D}(hx:x∈nums (Ls m fun i=>rwq n (F i))):∃ i j,i<m/\j<n/\x=qD (F i j):=by
 obtain⟨r,hr,hx⟩:=jD hx;obtain⟨i,hi,rfl⟩:=gA hr;obtain⟨j,hj,rfl⟩:=gA (show x∈Ls n fun j=>qD (F i j) from hx);exact⟨i,j,hi,hj,rfl⟩
theorem xQ(k:Nat){m n:Nat}(h1:1<=m)(h2:m<=4)(h3:1<=n)(h4:n<=4)(hl:∀ i j,i<m->j<n->Sq (F i j)):aB T 60 (k+3) "need_fraction_table" [ftq m n F]=some .non:=by
 have hz:(nums (Ls m fun i=>rwq n (F i))).length<=4*(Ls m fun i=>rwq n (F i)).length:=gZ (oK (m:=m) (n:=n) (h:=fun i j=>qD (F i j)) h3 h4);rw[aR] at hz;have hL:aB T 60 (k+2) "has_lines" [ftq m n F]=some (.bl true):=(yc (h:=fun i j=>qD (F i j)) h1 h2 h3 h4)▸has_lines k (N1z zx (by decide));have hN:aB T 60 (k+2) "numbers_of" [ftq m n F]=some (.lst (nums (Ls m fun i=>rwq n (F i)))):=numbers_of (k+1) (by rw[aR];exact h2) (oK (h:=fun i j=>qD (F i j)) h3 h4);refine uE (fd:=aH (top 31)) rfl rfl (lu (bL (lW (dG (au rfl (aj (xName rfl) aK) hL)) (iW (dG (bU (ds:=[.lst ((nums (Ls m fun i=>rwq n (F i))).map fun _=>.bl true)]) rfl rfl rfl (aj (bF (l:=nums (Ls m fun i=>rwq n (F i))) rfl (wSq (x:=.lst (nums (Ls m fun i=>rwq n (F i)))) rfl (au rfl (aj (xName rfl) aK) hN) rfl) (gM (by omega)) (bY (g:=fun _=>.bl true) fun x hx=>?_)) aK) ?_))))) cT)
 ·obtain⟨i,j,hi,hj,rfl⟩:=Hz hx
  exact bI rfl (au rfl (aj (x:=qD (F i j)) (xName rfl) aK) (NT k (hl i j hi hj)))
 ·have:=rK (l:=nums (Ls m fun i=>rwq n (F i))) (t:=fun _=>true)
  rw[this];congr 2;simp
theorem CQ(k:Nat){m n:Nat}(h1:1<=m)(h2:m<=4)(h4:n<=4):aB T 60 (k+2) "columns_of" [ftq m n F]=some (ftq n m fun i j=>F j i):=by
 have col:∀ j,j<n->aB T 60 (k+1) "column_of" [ftq m n F,.int j]=some (rwq m fun i=>F i j):=fun j hj=>by
  refine bO (fd:=aH (top 35)) rfl rfl (bN (bU rfl rfl rfl (aj (bF rfl (Ac (xs:=Ls m fun i=>rwq n (F i)) rfl (xName rfl)) (cJ (by omega)) (aL (g:=fun i=>qD (F i j)) fun i hi=>bI rfl ?_)) aK) gK));exact vQ (m:=n) (h:=fun j=>qD (F i j)) (xName rfl) (xName rfl) hj rfl rfl
 refine bO (fd:=aH (top 36)) rfl rfl (bN (bU rfl rfl rfl (aj (bF rfl (vK (j:=n) rfl (bU (ds:=[rwq n (F 0)]) rfl rfl rfl (aj (PB (m:=m) (h:=fun i=>rwq n (F i)) (xName rfl) (ao rfl) (by omega) rfl rfl) aK) Fi) (by omega)) (cJ (by omega)) (aL (g:=fun j=>rwq m fun i=>F i j) fun j hj=>bI rfl ?_)) aK) gK));exact au rfl (aj (x:=ftq m n F) (xName rfl) (aj (x:=.int j) (xName rfl) aK)) (col j hj)
def Bq(m n D B:Nat)(F:Nat->Nat->Rat):Prop:=∀ i j,i<m->j<n->Qb D B (F i j)
theorem Bq.mul{m n p D B E C:Nat}{F G:Nat->Nat->Rat}(hF:Bq m n D B F)(hG:Bq n p E C G):Bq m p (D*E) (n*(B*C)) (mulQ n F G):=fun i j hi hj=>wA fun l hl=>(hF i l hi hl).mul (hG l j hl hj)
theorem product(k:Nat){m n p D B E C:Nat}{F G:Nat->Nat->Rat}(h1:1<=m)(h2:m<=4)(h3:1<=n)(h4:n<=4)(h5:1<=p)(h6:p<=4)(hF:Bq m n D B F)(hG:Bq n p E C G)(d0:0<D)(e0:0<E)(hD:D*E<=KB)(hB:4*(B*C)<=KB)(hBB:B<=KB)(hCC:C<=KB):aB T 60 (k+7) "product_of" [ftq m n F,ftq n p G]=some (ftq m p (mulQ n F G)):=by
 have de:0<D*E:=U4z d0 e0;have hD1:D<=D*E:=I0z _ e0;have hE1:E<=D*E:=M0z _ d0;have sF:∀ i j,i<m->j<n->Sq (F i j):=fun i j hi hj=>(hF i j hi hj).sq d0 (by omega) hBB;have sG:∀ i j,i<n->j<p->Sq (G i j):=fun i j hi hj=>(hG i j hi hj).sq e0 (by omega) hCC
 let R (c:Sl):Rho:=[("one",.sh (ftq m n F)),("other",.sh (ftq n p G)),("columns",c)]
 refine bO (fd:=aH (top 69)) rfl rfl (yH rfl (d:=.non) (au rfl (aj (xName rfl) aK) (xQ (k+3) h1 h2 h3 h4 sF)) (yH rfl (d:=.non) (au rfl (aj (xName rfl) aK) (xQ (k+3) h3 h4 h5 h6 sG)) (lu (bK (x:=.int n) (y:=.int n) (bU (ds:=[rwq n (F 0)]) rfl rfl rfl (aj (PB (m:=m) (h:=fun i=>rwq n (F i)) (xName rfl) (ao rfl) (by omega) rfl rfl) aK) Fi) (by nofun) (YL rfl)) ?_)));refine eH (ρ:=R .no) (ρ':=R .no) (d:=ftq p n fun i j=>G j i) rfl rfl rfl (au rfl (aj (xName rfl) aK) (CQ (k+4) h3 h4 h6)) ?_;refine bN (ρ:=R (.sh (ftq p n fun i j=>G j i))) (bU rfl rfl rfl (aj (bF rfl (Ac (xs:=Ls m fun i=>rwq n (F i)) rfl (xName rfl)) (cJ (by omega)) (aL (g:=fun i=>rwq p (mulQ n F G i)) fun i hi=>bI rfl ?_)) aK) gK);refine au rfl (aj (x:=rwq n (F i)) (xName rfl) (aj (x:=ftq p n fun i j=>G j i) (xName rfl) aK)) (oN k h4 h6 (fun l hl=>sF i l hi hl) (fun j l hj hl=>sG l j hl hj) (fun j l hj hl=>((hF i l hi hl).mul (hG l j hl hj)).sq de hD (by omega)) (fun j l hj hl=>(wA (n:=l) fun q hq=>(hF i q hi (by omega)).mul (hG q j (by omega) hj)).sq de hD (F4z (V0z _ (by omega:l<=4)) hB)))
structure Stp where
 w:Nat
 p:Nat
 s:Rat
def wS:Nat->Str
 | 0=>"up"
 | 1=>"down"
 | _=>"scale"
def stD(x:Stp):D:=.tup [.str (wS x.w),.int (x.p:Int),qD x.s]
def spR(x:Stp):Nat:=match x.w with
 | 1=>x.p+1
 | _=>x.p
def spC(x:Stp):Nat:=match x.w with
 | 0=>x.p+1
 | _=>x.p
def idQ:Nat->Nat->Rat:=fun i j=>if i=j then 1 else 0
def stQ(x:Stp):Nat->Nat->Rat:=fun i j=>if i=spR x then(if j=spC x then x.s else idQ i j) else idQ i j
def okP(n w p:Nat):Bool:=match w with
 | 0=>decide (p+1<n)
 | 1=>decide (p+1<n)
 | 2=>decide (p<n)
 | _=>false
section
variable {s:Rat}
theorem Kd(k:Nat):∀ n,n<5->∀ w,w<3->∀ p,p<4->okP n w p=true->aB T 60 (k+6) "table_of_step" [.int n,.str (wS w),.int p,qD s]=some (ftq n n (stQ ⟨w,p,s⟩)):=by
 intro n hn w hw p hp h
 match n,hn,w,hw,p,hp,h with
 | 0,_,w,_,p,_,h=>exact absurd h (by unfold okP;split<;>simp)
 | 1,_,2,_,0,_,_=>rfl'
 | 2,_,0,_,0,_,_=>rfl'
 | 2,_,1,_,0,_,_=>rfl'
 | 2,_,2,_,0,_,_=>rfl'
 | 2,_,2,_,1,_,_=>rfl'
 | 3,_,0,_,0,_,_=>rfl'
 | 3,_,0,_,1,_,_=>rfl'
 | 3,_,1,_,0,_,_=>rfl'
 | 3,_,1,_,1,_,_=>rfl'
 | 3,_,2,_,0,_,_=>rfl'
 | 3,_,2,_,1,_,_=>rfl'
 | 3,_,2,_,2,_,_=>rfl'
 | 4,_,0,_,0,_,_=>rfl'
 | 4,_,0,_,1,_,_=>rfl'
 | 4,_,0,_,2,_,_=>rfl'
 | 4,_,1,_,0,_,_=>rfl'
 | 4,_,1,_,1,_,_=>rfl'
 | 4,_,1,_,2,_,_=>rfl'
 | 4,_,2,_,0,_,_=>rfl'
 | 4,_,2,_,1,_,_=>rfl'
 | 4,_,2,_,2,_,_=>rfl'
 | 4,_,2,_,3,_,_=>rfl'
theorem Li(k:Nat):∀ n,n<5->1<=n->aB T 60 (k+6) "as_fractions" [tbl n n dl]=some (ftq n n idQ):=by
 intro n hn h1
 match n,hn,h1 with
 | 1,_,_=>rfl'
 | 2,_,_=>rfl'
 | 3,_,_=>rfl'
 | 4,_,_=>rfl'
end
theorem DG{n w p:Nat}(h:okP n w p=true):p<n:=by
 unfold okP at h
 split at h<;>simp at h<;>omega
theorem Hv{n w p:Nat}(h:okP n w p=true):w<3:=by
 unfold okP at h
 split at h<;>simp at h<;>omega
structure okS (n:Nat) (x:Stp):Prop where
 pl:okP n x.w x.p=true
 nn:0<=x.s
 ps:x.w=2->0<x.s
 sq:Sq x.s
theorem pD(k:Nat){v:Nat}{m:Int}(h:(v:Int)<m):aB T 60 (k+3) "is_place" [.int v,.int m]=some (.bl true) :=
 bO (fd:=aH (top 17)) rfl rfl (bN (au rfl (aj (xName rfl) (aj (ao rfl) (aj (bD (x:=.int m) (y:=.int 1) (xName rfl) (ao rfl) rfl) aK))) (fJ k (by omega) (by omega))))
theorem Nh(k:Nat){n p:Nat}{s:Rat}(hp:p<n)(h:0<s)(hs:Sq s):aB T 60 (k+4) "is_step_of" [.int n,.str "scale",.int p,qD s]=some (.bl true):=by
 have hf:=Ei k hs (N4z h);have ip:aB T 60 (k+3) "is_place" [.int p,.int n]=some (.bl true):=pD k (by omega);refine bO (fd:=aH (top 64)) rfl rfl (JR (ρ:=[("many",.sh (.int n)),("word",.sh (.str "scale")),("place",.sh (.int p)),("share",.sh (qD s))]) (fl1:=.ret (.bl true)) rfl (bK (x:=.str "scale") (y:=.str "scale") (xName rfl) (xName rfl) rfl) (CW rfl (bL (jm (au rfl (aj (xName rfl) (aj (xName rfl) aK)) ip) (jm (au rfl (aj (xName rfl) aK) hf) (iW (bK (x:=.int s.num) (y:=.int 0) (at0' (xName rfl)) (ao rfl) ?_)))))) rfl);rw[oGt,L3z (Xj h)]
theorem Ea(k:Nat){n p:Nat}{s:Rat}(hw:w="up"\/w="down")(hp:p+1<n)(h:0<=s)(hs:Sq s):aB T 60 (k+4) "is_step_of" [.int n,.str w,.int p,qD s]=some (.bl true):=by
 have hf:=Ei k hs h;have ip:aB T 60 (k+3) "is_place" [.int p,.int ((n:Int)-1)]=some (.bl true):=pD k (by omega)
 have c1:cmpop .Eq (.str w) (.str "scale")=some (.bl false):=by rcases hw with rfl | rfl<;>rfl'
 have c2:cmpop .In (.str w) (.tup [.str "up",.str "down"])=some (.bl true):=by rcases hw with rfl | rfl<;>rfl'
 exact bO (fd:=aH (top 64)) rfl rfl (ux (ρ:=[("many",.sh (.int n)),("word",.sh (.str w)),("place",.sh (.int p)),("share",.sh (qD s))]) rfl (bK (x:=.str w) (y:=.str "scale") (xName rfl) (xName rfl) c1) (CW rfl (bL (jm (bK (x:=.str w) (y:=.tup [.str "up",.str "down"]) (xName rfl) (qj (aj (xName rfl) (aj (xName rfl) aK)) rfl) c2) (jm (au rfl (aj (xName rfl) (aj (bD (x:=.int n) (y:=.int 1) (xName rfl) (ao rfl) rfl) aK)) ip) (iW (au rfl (aj (xName rfl) aK) hf)))))))
theorem is_step_of(k:Nat){n:Nat}{x:Stp}(h:okS n x):aB T 60 (k+4) "is_step_of" [.int n,.str (wS x.w),.int (x.p:Int),qD x.s]=some (.bl true):=by
 have hlt:=DG h.pl;have hw:=Hv h.pl;have pl:=h.pl;obtain⟨w,p,s⟩:=x
 match w,hw with
 | 2,_=>exact Nh k hlt (h.ps rfl) h.sq
 | 0,_=>exact Ea k (.inl rfl) (by simpa[okP] using pl) h.nn h.sq
 | 1,_=>exact Ea k (.inr rfl) (by simpa[okP] using pl) h.nn h.sq
theorem wN{α:Type}{P:List α->Prop}(h0:P [])(hs:∀ l a,P l->P (l++[a]))(l:List α):P l:=by
 rw[<- List.reverse_reverse l]
 induction l.reverse with
 | nil=>exact h0
 | cons a t ih=>rw[List.reverse_cons];exact hs _ _ ih
theorem is_step(k:Nat){n:Nat}{x:Stp}(h:okS n x):aB T 60 (k+5) "is_step" [.int n,stD x]=some (.bl true):=by
 have i1:aB T 60 (k+4) "is_whole" [.int n]=some (.bl true):=is_whole (k+3) (by simp[dep]);refine bO (fd:=aH (top 65)) rfl rfl (ux (ρ:=[("many",.sh (.int n)),("thing",.sh (stD x))]) rfl (bL (lW (dG (au rfl (aj (xName rfl) aK) i1)) (lW (dG (nW rfl rfl rfl (x:=stD x) (xName rfl) rfl rfl rfl)) (iW (bK (x:=.int 3) (y:=.int 3) (bU (ds:=[stD x]) rfl rfl rfl (aj (xName rfl) aK) rfl) (ao rfl) rfl))))) ?_);exact CW (ρ:=[("many",.sh (.int n)),("thing",.sh (stD x))]) rfl (au rfl (aj (xName rfl) (aj (xIx (x:=stD x) (i:=0) (xName rfl) (ao rfl) rfl rfl) (aj (xIx (x:=stD x) (i:=1) (xName rfl) (ao rfl) rfl rfl) (aj (xIx (x:=stD x) (i:=2) (xName rfl) (ao rfl) rfl rfl) aK)))) (is_step_of k h))
abbrev ssD(l:List Stp):D:=.lst (l.map stD)
theorem need_steps(k:Nat){n:Nat}(h1:1<=n)(h4:n<=4)(hl:∀ x∈l,okS n x)(hz:l.length<=100):aB T 60 (k+6) "need_steps" [.int n,ssD l]=some .non:=by
 have w1:aB T 60 (k+5) "is_whole_within" [.int n,.int 1,.int 4]=some (.bl true):=fJ (k+3) (by omega) (by omega);refine uE (fd:=aH (top 66)) rfl rfl (ux (ρ:=[("many",.sh (.int n)),("steps",.sh (ssD l))]) rfl (dG (au rfl (aj (xName rfl) (aj (ao rfl) (aj (xName rfl) aK))) w1)) (ux (ρ:=[("many",.sh (.int n)),("steps",.sh (ssD l))]) rfl (bL (lW (dG (nW rfl rfl rfl (x:=ssD l) (xName rfl) rfl rfl rfl)) (iW (dG (bU (ds:=[.lst ((l.map stD).map fun _=>.bl true)]) rfl rfl rfl (aj (bF (l:=l.map stD) rfl (wSq (x:=ssD l) rfl (xName rfl) rfl) (gM (by rw[U2z];omega)) (bY (g:=fun _=>.bl true) fun y hy=>?_)) aK) ?_))))) cT))
 ·obtain⟨x,hx,rfl⟩:=List.mem_map.mp hy
  exact bI rfl (au rfl (aj (x:=.int n) (xName rfl) (aj (x:=stD x) (xName rfl) aK)) (is_step k (hl x hx)))
 ·have:=rK (l:=l.map stD) (t:=fun _=>true)
  rw[this];congr 2;simp
def mkQ(n:Nat)(l:List Stp):Nat->Nat->Rat:=l.foldl (fun M x=>mulQ n M (stQ x)) idQ
theorem eE{n:Nat}{x:Stp}:mkQ n (l++[x])=mulQ n (mkQ n l) (stQ x):=by simp[mkQ]
def gP(f:Stp->Nat):List Stp->Nat
 | []=>1
 | x::l=>f x*gP f l
theorem gC{f:Stp->Nat}:∀ {l r:List Stp},gP f (l++r)=gP f l*gP f r
 | [],r=>by simp[gP]
 | x::l,r=>by simp only[List.cons_append,gP,gC (l:=l),Nat.mul_assoc]
theorem tX{f:Stp->Nat}:∀ {l:List Stp},(∀ x∈l,1<=f x)->1<=gP f l
 | [],_=>Q4z 1
 | x::l,h=>U4z (h x (by simp)) (tX fun y hy=>h y (by simp[hy]))
theorem Nu{f:Stp->Nat}{X:Nat}:∀ {l:List Stp},(∀ x∈l,f x<=X)->gP f l<=X^l.length
 | [],_=>Q4z 1
 | x::l,h=>by
  rw[I2z,Nat.pow_succ,L4z (X^l.length)];exact R3z (h x (by simp)) (Nu fun y hy=>h y (by simp[hy]))
def wB(x:Stp):Nat:=4*(x.s.num.natAbs+x.s.den)
abbrev dB(x:Stp):Nat:=x.s.den
theorem Yi(x:Stp):1<=dB x:=Nat.pos_of_ne_zero x.s.den_nz
theorem Nv:∀ {l:List Stp},gP dB l<=gP wB l
 | []=>Q4z 1
 | x::l=>R3z (by unfold wB dB;omega) Nv
theorem YF{n:Nat}(x:Stp):Bq n n (dB x) (x.s.num.natAbs+x.s.den) (stQ x):=fun i j _ _=>by
 have one:Qb (dB x) (x.s.num.natAbs+x.s.den) (idQ i j):=by
  unfold idQ;split
  ·exact Qb.one.up (by show x.s.den<=_;omega)
  ·exact Qb.zero.up (by omega)
 unfold stQ;split
 ·split
  ·exact⟨x.s.num,by rw[jt],by omega⟩
  ·exact one
 ·exact one
theorem id_b{n:Nat}:Bq n n 1 1 idQ:=fun i j _ _=>by
 unfold idQ;split
 ·exact Qb.one
 ·exact Qb.zero.up (by decide)
theorem mk_b{n:Nat}(h4:n<=4)(l:List Stp):Bq n n (gP dB l) (gP wB l) (mkQ n l):=by
 refine wN (P:=fun l=>Bq n n (gP dB l) (gP wB l) (mkQ n l)) id_b (fun l x ih=>?_) l;rw[eE,gC,gC];have:=ih.mul (YF (n:=n) x);refine fun i j hi hj=>?_;have:=this i j hi hj;simp only[gP,Nat.mul_one] at this ⊢;refine this.up ?_;show n*(gP wB l*(x.s.num.natAbs+x.s.den))<=gP wB l*(4*(x.s.num.natAbs+x.s.den));rw[Nat.mul_left_comm (gP wB l) 4];exact V0z _ h4
structure Sml (n:Nat) (l:List Stp):Prop where
 ok:∀ x∈l,okS n x
 h:gP wB l<=KB
theorem pI{α:Type}{f:D->Rho->Option Fl}{g:α->D}{P:List α->Rho->Prop}{whole:List α}(h:∀ pre x post ρ,pre++x::post=whole->P pre ρ->∃ ρ',P (pre++[x]) ρ'/\f (g x) ρ=some (.nxt ρ')):∀ {l pre:List α} {ρ:Rho},pre++l=whole->P pre ρ->∃ ρ',P whole ρ'/\bV f (l.map g) ρ=some (.nxt ρ')
 | [],pre,ρ,e,hP=>⟨ρ,by rw[S2z] at e;rw[<- e];exact hP,rfl⟩
 | x::l,pre,ρ,e,hP=>by
  obtain⟨ρ1,h1,h2⟩:=h pre x l ρ e hP;obtain⟨ρ2,h3,h4⟩:=pI h (l:=l) (pre:=pre++[x]) (by rw[T1z];exact e) h1;refine⟨ρ2,h3,?_⟩;simp only[W3z,bV,h2];exact h4
def mD(n:Nat)(l:List Stp)(md w p s:Sl):Rho:=[("many",.sh (.int n)),("steps",.sh (ssD l)),("made",md),("word",w),("place",p),("share",s)]
theorem Qa(x:Stp):1<=wB x:=by have:=Yi x;unfold wB;unfold dB at this;omega
theorem Sml.bnd{n:Nat}(S:Sml n l){pre:List Stp}{x:Stp}{post:List Stp}(e:pre++x::post=l):gP dB pre*dB x<=KB/\4*(gP wB pre*(x.s.num.natAbs+x.s.den))<=KB/\gP wB pre<=KB/\x.s.num.natAbs+x.s.den<=KB:=by
 have h:=S.h;rw[<- e,gC] at h;have p1:1<=gP wB post:=tX fun y _=>Qa y;have p2:1<=gP wB pre:=tX fun y _=>Qa y
 have a:gP wB pre*wB x<=KB:=by
  refine F4z ?_ h;refine D1z _ ?_;show wB x<=wB x*gP wB post;exact I0z _ p1
 have b:4*(gP wB pre*(x.s.num.natAbs+x.s.den))<=KB:=by
  refine F4z (K4z ?_) a;unfold wB;rw[Nat.mul_left_comm]
 have c:gP wB pre<=gP wB pre*wB x:=I0z _ (Qa x);have d:x.s.num.natAbs+x.s.den<=gP wB pre*(x.s.num.natAbs+x.s.den):=M0z _ p2;have e2:gP dB pre*dB x<=gP wB pre*wB x:=R3z Nv (by unfold wB dB;omega);exact⟨by omega,b,by omega,by omega⟩
theorem made_by(k:Nat){n:Nat}(h1:1<=n)(h4:n<=4)(S:Sml n l)(hz:l.length<=100):aB T 60 (k+8) "made_by" [.int n,ssD l]=some (ftq n n (mkQ n l)):=by
 have go:=pI (f:=fF (cxN T 60 (k+7)) 60 59 (aH (top 71)).sc (gk (bB 71 2)) (bR (bB 71 2))) (g:=stD) (whole:=l) (P:=fun pre ρ=>∃ w p s,nOw w=true/\nOw p=true/\nOw s=true/\ρ=mD n l (.sh (ftq n n (mkQ n pre))) w p s) (fun pre x post ρ e hP=>by
  obtain⟨w,p,s,_,_,_,rfl⟩:=hP;have ok:=S.ok x (by rw[<- e];simp);obtain⟨b1,b2,b3,b4⟩:=S.bnd e;refine⟨_,⟨.sh (.str (wS x.w)),.sh (.int (x.p:Int)),.sh (qD x.s),rfl,rfl,rfl,rfl⟩,dF (ρ1:=mD n l (.sh (ftq n n (mkQ n pre))) (.sh (.str (wS x.w))) (.sh (.int (x.p:Int))) (.sh (qD x.s))) rfl ?_⟩;have ts:aB T 60 (k+7) "table_of_step" [.int n,.str (wS x.w),.int (x.p:Int),qD x.s]=some (ftq n n (stQ x)):=Kd (k+1) n (by omega) x.w (Hv ok.pl) x.p (by have:=DG ok.pl;omega) ok.pl;have pr:=product k (F:=mkQ n pre) (G:=stQ x) h1 h4 h1 h4 h1 h4 (mk_b h4 pre) (YF x) (tX fun y _=>Yi y) (Yi x) b1 b2 b3 b4;rw[<- eE] at pr
  exact eH (ρ:=mD n l (.sh (ftq n n (mkQ n pre))) (.sh (.str (wS x.w))) (.sh (.int (x.p:Int))) (.sh (qD x.s))) (ρ':=mD n l (.sh (ftq n n (mkQ n pre))) (.sh (.str (wS x.w))) (.sh (.int (x.p:Int))) (.sh (qD x.s))) (d:=ftq n n (mkQ n (pre++[x]))) rfl rfl rfl (au rfl (aj (xName rfl) (aj (au rfl (aj (xName rfl) (aj (xName rfl) (aj (xName rfl) (aj (xName rfl) aK)))) ts) aK)) pr) cT) (l:=l) (pre:=[]) (ρ:=mD n l (.sh (ftq n n (mkQ n []))) .no .no .no) rfl ⟨.no,.no,.no,rfl,rfl,rfl,rfl⟩
 obtain⟨ρ',⟨w,p,s,c1,c2,c3,rfl⟩,hgo⟩:=go;have pl:aB T 60 (k+7) "plain" [.int n]=some (tbl n n dl):=plain (k+3) h1 h4;refine bO (fd:=aH (top 71)) rfl rfl (yH rfl (d:=.non) (au rfl (aj (xName rfl) (aj (xName rfl) aK)) (need_steps (k+1) h1 h4 S.ok hz)) ?_);refine eH (ρ:=mD n l .no .no .no .no) (ρ':=mD n l .no .no .no .no) (d:=ftq n n idQ) rfl rfl rfl (au rfl (aj (au rfl (aj (xName rfl) aK) pl) aK) (Li (k+1) n (by omega) h1)) ?_;exact lA (ρ:=mD n l (.sh (ftq n n (mkQ n []))) .no .no .no) (ρ':=mD n l (.sh (ftq n n (mkQ n []))) .no .no .no) rfl (wSq (x:=ssD l) rfl (xName rfl) rfl) hgo (CW (aO rfl (aO rfl (aO rfl (aO c1 (aO c2 (aO c3 rfl)))))) (xName rfl))
def m2(A:Nat->Nat->Rat)(r s i j:Nat):Rat:=A r i*A s j-A r j*A s i
def m3(A:Nat->Nat->Rat)(r s t i j k:Nat):Rat :=
 A r i*m2 A s t j k-A r j*m2 A s t i k+A r k*m2 A s t i j
def dt(n:Nat)(A:Nat->Nat->Rat):Rat :=
 if n=1 then A 0 0 else if n=2 then m2 A 0 1 0 1 else if n=3 then m3 A 0 1 2 0 1 2 else
  A 0 0*m3 A 1 2 3 1 2 3-A 0 1*m3 A 1 2 3 0 2 3+A 0 2*m3 A 1 2 3 0 1 3-A 0 3*m3 A 1 2 3 0 1 2
structure G (n:Nat) (A:Nat->Nat->Rat):Prop where
 e:∀ i j,i<n->j<n->0<=A i j
 t:∀ r s i j,r<s->s<n->i<j->j<n->0<=m2 A r s i j
 h:∀ r s t i j k,r<s->s<t->t<n->i<j->j<k->k<n->0<=m3 A r s t i j k
 d:0<dt n A
def sh(A:Nat->Nat->Rat)(r:Nat):Rat:=A (r+1) 0 / A r 0
def B(A:Nat->Nat->Rat)(r j:Nat):Rat:=A (r+1) (j+1)-sh A r*A r (j+1)
theorem leE{x y:Rat}(h:0<=x)(e:x=y):0<=y:=e▸h
theorem ltE{x y:Rat}(h:0<x)(e:x=y):0<y:=e▸h
theorem En{n:Nat}{A:Nat->Nat->Rat}(h2:1<=n)(h4:n<=4)(r:Nat)(hr:r<n)
  (h:∀ j,j<n->A r j=0):dt n A=0:=by
 have h0:=h 0;have h1:=h 1;have h2':=h 2;have h3:=h 3
 rcases(by omega:n=1\/n=2\/n=3\/n=4) with rfl | rfl | rfl | rfl
 ·obtain rfl:r=0:=by omega
  simpa[dt] using h0
 ·rcases(by omega:r=0\/r=1) with rfl | rfl<;>simp[dt,m2]<;>simp at h0 h1<;>grind
 ·rcases(by omega:r=0\/r=1\/r=2) with rfl | rfl | rfl<;>simp[dt,m2,m3]<;>simp at h0 h1 h2'<;>grind
 ·rcases(by omega:r=0\/r=1\/r=2\/r=3) with rfl | rfl | rfl | rfl<;>simp[dt,m2,m3] <;>
   simp at h0 h1 h2' h3<;>grind
theorem Od{n:Nat}{A:Nat->Nat->Rat}(h2:1<=n)(h4:n<=4)
  (h:∀ j,j<n->A j 0=0):dt n A=0:=by
 have h0:=h 0;have h1:=h 1;have h2':=h 2;have h3:=h 3
 rcases(by omega:n=1\/n=2\/n=3\/n=4) with rfl | rfl | rfl | rfl
 ·simpa[dt] using h0
 ·simp[dt,m2];simp at h0 h1;grind
 ·simp[dt,m2,m3];simp at h0 h1 h2';grind
 ·simp[dt,m2,m3];simp at h0 h1 h2' h3;grind
theorem le0{x y:Rat}(hx:0<x)(h:0 <= - (x*y)):y<=0:=by
 have h1:x*y<=0:=by grind
 apply Rat.not_lt.mp;intro hy;have:=V4z hx hy;grind
theorem GP{n:Nat}(h2:1<=n)(h4:n<=4)(g:G n A):0<A 0 0:=by
  have hd:=g.d
  have h0:=g.e 0 0 (by omega) (by omega)
  rcases P4z (A 0 0=0) with hz | hz
  · exfalso
    rcases P4z (∀ j,j<n->A j 0=0) with hc | hc
    · have:=Od h2 h4 hc;grind
    · have⟨r,hr⟩:=Classical.not_forall.mp hc
      have⟨hr1,hr2⟩:=Classical.not_imp.mp hr
      have hrp:0<A r 0:=by have:=g.e r 0 hr1 (by omega);grind
      have hr0 : 0 < r := by rcases O1z r with rfl | h; · exact absurd hz hr2
                             · exact h
      have hrow:∀ j,j<n->A 0 j=0:=by
        intro j hj
        rcases O1z j with rfl | hj0
        · exact hz
        · have:=g.t 0 r 0 j hr0 hr1 hj0 hj
          simp only[m2,hz] at this
          have h5:=le0 hrp (y:=A 0 j) (by grind)
          have:=g.e 0 j (by omega) hj
          grind
      have:=En h2 h4 0 (by omega) hrow
      grind
  · grind
theorem n6{n:Nat}{A:Nat->Nat->Rat}(h2:1<=n)(h4:n<=4)(g:G n A)(r:Nat)(hr:r+1<n)
  (hz:A r 0=0):A (r+1) 0=0:=by
 rcases P4z (A (r+1) 0=0) with h | h
 ·exact h
 ·exfalso
  have hrp:0<A (r+1) 0:=by have:=g.e (r+1) 0 hr (by omega);grind
  have hrow:∀ j,j<n->A r j=0:=by
   intro j hj;rcases O1z j with rfl | hj0
   ·exact hz
   ·have:=g.t r (r+1) 0 j (by omega) hr hj0 hj
    simp only[m2,hz] at this;have h5:=le0 hrp (y:=A r j) (by grind);have:=g.e r j (by omega) hj;grind
  have:=En h2 h4 r (by omega) hrow;have:=g.d;grind
theorem kW{n:Nat}(h2:1<=n)(h4:n<=4)(g:G n A)(r:Nat)(hr:r+1<n):
  A (r+1) 0=sh A r*A r 0:=by
 rcases P4z (A r 0=0) with h | h
 ·rw[n6 h2 h4 g r hr h,h];grind
 ·rw[sh,Rat.div_mul_cancel h]
theorem Qw{n:Nat}(h2:1<=n)(h4:n<=4)(g:G n A)(r:Nat)(hr:r+1<n):
  0<=sh A r:=by
 have e:=kW h2 h4 g r hr;have a:=g.e r 0 (by omega) (by omega);have b:=g.e (r+1) 0 hr (by omega);rcases P4z (A r 0=0) with h | h
 ·rw[sh,h,W4z,Rat.inv_zero,Rat.mul_zero];exact Rat.le_refl
 ·apply Rat.not_lt.mp
  intro hs;have:=V4z (show 0 < - sh A r by grind) (show 0<A r 0 by grind);grind
theorem eV{x y:Rat}(hx:0<x)(h:0<=x*y):0<=y:=by
 apply Rat.not_lt.mp;intro hy;have:=V4z hx (show 0 < -y by grind);grind
theorem uP{x y:Rat}(hx:0<x)(h:0<x*y):0<y:=by
 apply Rat.not_le.mp;intro hy;have:=S3z (N4z hx) (show 0 <= -y by grind);grind
theorem qJ{r:Nat}(h:A r 0=0):sh A r=0:=by
 rw[sh,h,W4z,Rat.inv_zero,Rat.mul_zero]
theorem B_e{n:Nat}(h4:n+1<=4)(g:G (n+1) A)(r j:Nat)(hr:r<n)(hj:j<n):
  0<=B A r j:=by
 have e:=kW (by omega) h4 g r (by omega);rcases P4z (A r 0=0) with h | h
 ·rw[B,qJ h]
  have:=g.e (r+1) (j+1) (by omega) (by omega);grind
 ·have a:=g.e r 0 (by omega) (by omega)
  refine eV (show 0<A r 0 by grind) ?_;have:=g.t r (r+1) 0 (j+1) (by omega) (by omega) (by omega) (by omega);simp only[m2] at this;simp only[B];refine leE this ?_;grind
theorem Yw{n:Nat}{A:Nat->Nat->Rat}(h4:n+1<=4)(g:G (n+1) A)(r i j:Nat)(hr:r+1<n)(hi:i<j)
  (hj:j<n):0<=m2 (B A) r (r+1) i j:=by
 have e:=kW (by omega) h4 g r (by omega);have e':=kW (by omega) h4 g (r+1) (by omega);rcases P4z (A r 0=0) with h | h
 ·have:=g.t (r+1) (r+2) (i+1) (j+1) (by omega) (by omega) (by omega) (by omega)
  have h1:=n6 (by omega) h4 g r (by omega) h;simp only[m2,B,qJ h,qJ h1] at this ⊢;grind
 ·have a:=g.e r 0 (by omega) (by omega)
  refine eV (show 0<A r 0 by grind) ?_;have:=g.h r (r+1) (r+2) 0 (i+1) (j+1) (by omega) (by omega) (by omega) (by omega) (by omega) (by omega);simp only[m2,m3,B] at this ⊢;refine leE this ?_;grind
theorem Kz{p q p1 q1 p2 q2:Rat}(hp:0<=p)(hq:0<=q)(hp1:0<=p1)(hq1:0<=q1)(hp2:0<=p2)
  (hq2:0<=q2) (a:0<=p*q1-q*p1) (b:0<=p1*q2-q1*p2)
  (c:p1=0->q1=0->0<=p*q2-q*p2):0<=p*q2-q*p2:=by
 rcases P4z (p1=0) with h | h
 ·rcases P4z (q1=0) with h' | h'
  ·exact c h h'
  ·refine eV (show 0<q1 by grind) ?_
   have x:=S3z hq2 a;have y:=S3z hq b;grind
 ·refine eV (show 0<p1 by grind) ?_
  have x:=S3z hp b;have y:=S3z hp2 a;grind
theorem B_t2(g:G 4 A)(i j:Nat)(hi:i<j)(hj:j<3):0<=m2 (B A) 0 2 i j:=by
 have e0:=kW (by omega) (by omega) g 0 (by omega);have e1:=kW (by omega) (by omega) g 1 (by omega);have e2:=kW (by omega) (by omega) g 2 (by omega);have a0:=GP (by omega) (by omega) g;have t3:=g.h 0 1 3 0 (i+1) (j+1) (by omega) (by omega) (by omega) (by omega) (by omega) (by omega);have f:=B_e (n:=3) (by omega) g;rcases P4z (sh A 2=0) with h | h
 ·refine eV a0 ?_
  simp only[m2,m3,B,h] at t3 ⊢;simp only[h] at e2;refine leE t3 ?_;grind
 ·refine Kz (f 0 i (by omega) (by omega)) (f 0 j (by omega) (by omega)) (f 1 i (by omega) (by omega))
   (f 1 j (by omega) (by omega)) (f 2 i (by omega) (by omega)) (f 2 j (by omega) (by omega))
   (Yw (n:=3) (by omega) g 0 i j (by omega) hi hj) (Yw (n:=3) (by omega) g 1 i j (by omega) hi hj) ?_
  intro z1 z2;refine eV a0 ?_;simp only[m2,m3,B] at t3 z1 z2 ⊢;simp only[O4z,Nat.reduceAdd] at *;generalize sh A 0=s0 at *;generalize sh A 1=s1 at *;generalize sh A 2=s2 at *;generalize A 0 0=x at *;generalize A 1 0=y at *;generalize A 2 0=z at *;generalize A 3 0=w at *
  have q1:A 2 (i+1)=s1*A 1 (i+1):=by grind
  have q2:A 2 (j+1)=s1*A 1 (j+1):=by grind
  rw[q1,q2];refine leE t3 ?_;grind
theorem aaK{n:Nat}(h1:1<=n)(h4:n+1<=4)(e:∀ r,r<n->A (r+1) 0=sh A r*A r 0):dt (n+1) A=A 0 0*dt n (B A):=by
 rcases(by omega:n=1\/n=2\/n=3) with rfl | rfl | rfl
 ·have e0:=e 0 (by omega)
  simp[dt,m2,B] at e0 ⊢;grind
 ·have e0:=e 0 (by omega)
  have e1:=e 1 (by omega);simp[dt,m2,m3,B] at e0 e1 ⊢;grind
 ·have e0:=e 0 (by omega)
  have e1:=e 1 (by omega);have e2:=e 2 (by omega);simp[dt,m2,m3,B] at e0 e1 e2 ⊢;grind
theorem B_d{n:Nat}(h1:1<=n)(h4:n+1<=4)(g:G (n+1) A):0<dt n (B A):=by
 refine uP (GP (by omega) h4 g) ?_;rw[<- aaK h1 h4 fun r hr=>kW (by omega) h4 g r (by omega)];exact g.d
theorem B_G{n:Nat}(h1:1<=n)(h4:n+1<=4)(g:G (n+1) A):G n (B A) where
 e i j hi hj:=B_e h4 g i j hi hj
 t r s i j hr hs hi hj:=by
  rcases(by omega:s=r+1\/(r=0/\s=2/\n=3)) with rfl | ⟨rfl,rfl,rfl⟩
  ·exact Yw h4 g r i j hs hi hj
  ·exact B_t2 g i j hi hj
 h r s t i j k hr hs ht hi hj hk:=by
  obtain⟨rfl,rfl,rfl,rfl,rfl,rfl,rfl⟩:n=3/\r=0/\s=1/\t=2/\i=0/\j=1/\k=2:=by omega
  have:=B_d (by omega) h4 g;simp only[dt] at this;exact N4z this
 d:=B_d h1 h4 g
section
variable {n:Nat} {f g:Nat->Rat}
theorem bW:∀ {n:Nat},(∀ l,l<n->f l=g l)->cN n f=cN n g
 | 0,_=>rfl
 | n+1,h=>by rw[cN,cN,bW fun l hl=>h l (by omega),h n (by omega)]
theorem rR:∀ {n:Nat},(∀ l,l<n->f l=0)->cN n f=0
 | 0,_=>rfl
 | n+1,h=>by rw[cN,rR fun l hl=>h l (by omega),h n (by omega)];grind
theorem iZ:∀ {n i:Nat},i<n->(∀ l,l<n->l≠i->f l=0)->cN n f=f i
 | 0,i,hi,_=>absurd hi (by omega)
 | n+1,i,hi,h=>by
  rw[cN]
  by_cases e:i=n
  ·subst e
   rw[rR fun l hl=>h l (by omega) (by omega)];grind
  ·rw[iZ (i:=i) (by omega) fun l hl hn=>h l (by omega) hn,h n (by omega) (by omega)];grind
theorem gO:∀ {n k:Nat},k<n->(∀ l,k<l->l<n->f l=0)->cN n f=cN k f+f k
 | 0,k,hk,_=>absurd hk (by omega)
 | n+1,k,hk,h=>by
  rw[cN]
  by_cases e:k=n
  ·subst e;rfl
  ·rw[gO (k:=k) (by omega) fun l a b=>h l a (by omega),h n (by omega) (by omega)];grind
theorem mq:∀ {n:Nat},cN n (fun l=>f l+g l)=cN n f+cN n g
 | 0=>by simp[cN];grind
 | n+1=>by simp only[cN];rw[mq (n:=n)];grind
theorem wu{c:Rat}:∀ {n:Nat},cN n f*c=cN n (fun l=>f l*c)
 | 0=>by simp[cN]
 | n+1=>by simp only[cN];rw[<- wu (n:=n)];grind
theorem wz{c:Rat}:∀ {n:Nat},c*cN n f=cN n (fun l=>c*f l)
 | 0=>by simp[cN]
 | n+1=>by simp only[cN];rw[<- wz (n:=n)];grind
theorem oF{m:Nat}{F:Nat->Nat->Rat}:∀ {n:Nat},cN n (fun l=>cN m (F l))=cN m fun k=>cN n fun l=>F l k
 | 0=>(rR fun _ _=>rfl).symm
 | n+1=>by simp only[cN];rw[oF (n:=n),mq]
end
def Eqn(n:Nat)(A B:Nat->Nat->Rat):Prop:=∀ i j,i<n->j<n->A i j=B i j
section
variable {n:Nat} {A A' B B' C:Nat->Nat->Rat}
theorem Eqn.rfl:Eqn n A A:=fun _ _ _ _=>Eq.refl _
theorem Eqn.trans(h:Eqn n A B)(k:Eqn n B C):Eqn n A C:=fun i j hi hj=>(h i j hi hj).trans (k i j hi hj)
theorem Eqn.symm(h:Eqn n A B):Eqn n B A:=fun i j hi hj=>(h i j hi hj).symm
theorem Eqn.mul(h:Eqn n A A')(k:Eqn n B B'):Eqn n (mulQ n A B) (mulQ n A' B'):=fun i j hi hj=>bW fun l hl=>by rw[h i l hi hl,k l j hl hj]
theorem qU:mulQ n (mulQ n A B) C=mulQ n A (mulQ n B C):=by
 funext i j;show cN n (fun l=>cN n (fun k=>A i k*B k l)*C l j)=cN n fun k=>A i k*cN n fun l=>B k l*C l j;rw[bW (g:=fun l=>cN n fun k=>A i k*B k l*C l j) fun l _=>wu,oF];refine bW fun k _=>?_;rw[wz]
 exact bW fun l _=>by grind
theorem Ef:Eqn n (mulQ n idQ A) A:=fun i j hi _=>by
 refine(iZ hi fun l _ hl=>?_).trans ?_
 ·simp only[idQ,L5z (I5z hl)];grind
 ·simp only[idQ,J5z];grind
theorem Mr:Eqn n (mulQ n A idQ) A:=fun i j _ hj=>by
 refine(iZ hj fun l _ hl=>?_).trans ?_
 ·simp only[idQ,L5z hl];grind
 ·simp only[idQ,J5z];grind
theorem qX{l r:List Stp}:Eqn n (mkQ n (l++r)) (mulQ n (mkQ n l) (mkQ n r)):=by
 refine wN (P:=fun r=>Eqn n (mkQ n (l++r)) (mulQ n (mkQ n l) (mkQ n r))) ?_ (fun r x ih=>?_) r
 ·rw[S2z];exact Mr.symm
 ·rw[<- T1z,eE,eE,<- qU]
  exact ih.mul .rfl
structure Lw (n:Nat) (A:Nat->Nat->Rat):Prop where
 z:∀ i j,i<j->j<n->A i j=0
 o:∀ i,i<n->A i i=1
theorem Lw.mul(a:Lw n A)(b:Lw n B):Lw n (mulQ n A B) where
 z i j h hj:=rR fun l hl=>by
  by_cases q:i<l
  ·rw[a.z i l q hl];grind
  ·rw[b.z l j (by omega) hj];grind
 o i hi:=(iZ hi fun l hl hn=>by
  by_cases q:i<l
  ·rw[a.z i l q hl];grind
  ·rw[b.z l i (by omega) hi];grind).trans (by rw[a.o i hi,b.o i hi];grind)
theorem yD:Lw n idQ:=⟨fun i j h _=>by simp only[idQ,L5z (show ¬ i=j by omega)],fun i _=>by simp only[idQ,J5z]⟩
theorem Qv{p:Nat}{s:Rat}:Lw n (stQ ⟨1,p,s⟩) where
 z i j h hj:=by
  simp only[stQ,spR,spC];split
  ·rw[L5z (by omega)];exact yD.z i j h hj
  ·exact yD.z i j h hj
 o i hi:=by
  simp only[stQ,spR,spC];split
  ·rw[L5z (by omega)];exact yD.o i hi
  ·exact yD.o i hi
theorem Mt(h:∀ x∈l,x.w=1):Lw n (mkQ n l):=by
 revert h;refine wN (P:=fun l=>(∀ x∈l,x.w=1)->Lw n (mkQ n l)) (fun _=>yD) (fun l x ih h=>?_) l;rw[eE];obtain⟨w,p,s⟩:=x;cases (show w=1 from h ⟨w,p,s⟩ (by simp));exact(ih fun y hy=>h y (by simp[hy])).mul Qv
theorem Ku{p:Nat}{s:Rat}{i j:Nat}(hp:p+1<n)(hi:i<n):mulQ n (stQ ⟨1,p,s⟩) A i j=if i=p+1 then A i j+s*A p j else A i j:=by
 show cN n (fun l=>stQ ⟨1,p,s⟩ i l*A l j)=_;split
 ·rename_i e
  subst e;rw[bW (g:=fun l=>idQ (p+1) l*A l j+idQ p l*(s*A l j)) fun l _=>?_,mq]
  ·rw[iZ (f:=fun l=>idQ (p+1) l*A l j) (i:=p+1) hi fun l _ hl=>by simp only[idQ,L5z (I5z hl)];grind,iZ (f:=fun l=>idQ p l*(s*A l j)) (i:=p) (by omega) fun l _ hl=>by simp only[idQ,L5z (I5z hl)];grind]
   simp only[idQ,J5z];grind
  ·simp only[stQ,spR,spC,J5z,idQ]
   by_cases e:l=p
   ·subst e
    rw[K5z rfl,L5z (by omega),K5z rfl];grind
   ·rw[L5z e,L5z (I5z e)];grind
 ·rename_i e
  rw[iZ hi fun l _ hl=>?_]
  ·simp only[stQ,spR,spC,L5z e,idQ,J5z];grind
  ·simp only[stQ,spR,spC,L5z e,idQ,L5z (I5z hl)];grind
end
def Pm(c t:Nat)(M:Nat->Nat->Rat):Nat->Nat->Rat:=fun i j=>if t<=i then M i j-M i c / M (i-1) c*M (i-1) j else M i j
def Mc(T:Nat->Nat->Rat):Nat->Nat->Nat->Rat
 | 0=>T
 | c+1=>Pm c (c+1) (Mc T c)
def sO(c:Nat)(M:Nat->Nat->Rat)(r:Nat):List Stp:=if M r c=0 then[] else[⟨1,r-1,M r c / M (r-1) c⟩]
def sC(n c:Nat)(M:Nat->Nat->Rat):Nat->List Stp
 | 0=>[]
 | k+1=>sC n c M k++sO c M (n-1-k)
def sD(n:Nat)(T:Nat->Nat->Rat):Nat->List Stp
 | 0=>[]
 | c+1=>sD n T c++sC n c (Mc T c) (n-1-c)
section
variable {n c:Nat} {M T:Nat->Nat->Rat}
theorem zY{r:Nat}(h:M r c=0):Pm c r M=Pm c (r+1) M:=by
 funext i j;simp only[Pm]
 by_cases e:i=r
 ·subst e
  rw[K5z (Q4z _),L5z (by omega),h,W4z,Rat.zero_mul];grind
 ·by_cases q:r<=i
  ·rw[K5z q,K5z (by omega)]
  ·rw[L5z q,L5z (by omega)]
theorem turn{r:Nat}(h1:1<=r)(hr:r<n):Eqn n (mulQ n (mkQ n (l++sO c M r)) (Pm c r M)) (mulQ n (mkQ n l) (Pm c (r+1) M)):=by
 unfold sO;split
 ·rename_i h
  rw[S2z,zY h];exact .rfl
 ·rw[eE,qU]
  refine Eqn.rfl.mul fun i j hi hj=>?_;rw[Ku (by omega) hi];simp only[Pm]
  by_cases e:i=r-1+1
  ·have e':i=r:=by omega
   subst e';rw[K5z e,K5z (Q4z _),L5z (by omega),L5z (by omega)];grind
  ·by_cases q:r<=i
   ·rw[L5z e,K5z q,K5z (by omega)]
   ·rw[L5z e,L5z q,L5z (by omega)]
theorem turns:∀ {k:Nat},k+c<n->Eqn n (mulQ n (mkQ n (l++sC n c M k)) (Pm c (n-k) M)) (mulQ n (mkQ n l) M)
 | 0,_=>by
  rw[sC,S2z];refine Eqn.rfl.mul fun i j hi hj=>?_;simp only[Pm];rw[L5z (by omega)]
 | k+1,h=>by
  rw[sC,<- T1z];refine Eqn.trans ?_ (turns (k:=k) (by omega));have:=turn (n:=n) (c:=c) (M:=M) (r:=n-1-k) (l:=l++sC n c M k) (by omega) (by omega);rw[show n-(k+1)=n-1-k by omega,show n-k=n-1-k+1 by omega];exact this
theorem nu:∀ {c:Nat},c<n->Eqn n (mulQ n (mkQ n (sD n T c)) (Mc T c)) T
 | 0,_=>Ef
 | c+1,h=>by
  have:=turns (n:=n) (c:=c) (M:=Mc T c) (l:=sD n T c) (k:=n-1-c) (by omega);rw[show n-(n-1-c)=c+1 by omega] at this;exact this.trans (nu (c:=c) (by omega))
theorem YH:∀ {k:Nat},∀ x∈sC n c M k,x.w=1
 | k+1,x,hx=>by
  rcases D3z.mp hx with hx | hx
  ·exact YH x hx
  ·unfold sO at hx
   split at hx
   ·cases hx
   ·cases List.mem_singleton.mp hx;rfl
theorem Gm:∀ {c:Nat},∀ x∈sD n T c,x.w=1
 | c+1,x,hx=>by
  rcases D3z.mp hx with hx | hx
  ·exact Gm x hx
  ·exact YH x hx
theorem oM:∀ {k:Nat},(sC n c M k).length<=k
 | 0=>Q4z 0
 | k+1=>by
  have:=oM (k:=k);rw[sC,K1z];unfold sO
  split<;>simp<;>omega
theorem Fw{i:Nat}:∀ {c:Nat},i<=c->Mc T c i=Mc T i i
  | 0, h => by have : i = 0 := by omega
               subst this;rfl
  | c+1,h=>by
    by_cases e:i=c+1
    · subst e;rfl
    · rw[<- Fw (c:=c) (by omega)]
      funext j
      simp only[Mc,Pm]
      rw[L5z (by omega)]
end
theorem ldu{n:Nat}{L R L' R' T:Nat->Nat->Rat}(l:Lw n L)(l':Lw n L')(r:∀ i j,j<i->i<n->R i j=0)(r':∀ i j,j<i->i<n->R' i j=0)(e:Eqn n (mulQ n L R) T)(e':Eqn n (mulQ n L' R') fun i j=>T j i):
  ∀ k,k<n->(∀ j,j<n->R k j=R k k*L' j k)/\∀ i,i<n->R' k i=L i k*R k k:=by
 intro k
 induction k using Nat.strongRecOn with
 | ind k ih =>
  intro hk
  have cutL:∀ i j,i<n->mulQ n L R i j=cN i (fun m=>L i m*R m j)+R i j:=fun i j hi=>by
   show cN n (fun m=>L i m*R m j)=_;rw[gO hi fun m h1 h2=>by rw[l.z i m h1 h2];grind,l.o i hi];grind
  have cutL':∀ i j,i<n->mulQ n L' R' i j=cN i (fun m=>L' i m*R' m j)+R' i j:=fun i j hi=>by
   show cN n (fun m=>L' i m*R' m j)=_;rw[gO hi fun m h1 h2=>by rw[l'.z i m h1 h2];grind,l'.o i hi];grind
  have cutR:∀ i j,i<n->j<n->mulQ n L' R' i j=cN j (fun m=>L' i m*R' m j)+L' i j*R' j j:=fun i j hi hj =>
   gO (f:=fun m=>L' i m*R' m j) hj fun m h1 h2=>by rw[r' m j h1 h2];grind
  have cutR':∀ i j,i<n->j<n->mulQ n L R i j=cN j (fun m=>L i m*R m j)+L i j*R j j:=fun i j hi hj =>
   gO (f:=fun m=>L i m*R m j) hj fun m h1 h2=>by rw[r m j h1 h2];grind
  have row:∀ j,j<n->R k j=R' k k*L' j k:=fun j hj=>by
   have a:=e k j hk hj;have b:=e' j k hj hk;rw[cutL k j hk] at a;rw[cutR j k hj hk] at b
   have s:cN k (fun m=>L k m*R m j)=cN k fun m=>L' j m*R' m k:=bW fun m hm=>by
    rw[(ih m hm (by omega)).1 j hj,(ih m hm (by omega)).2 k hk];grind
   rw[s] at a;have b':cN k (fun m=>L' j m*R' m k)+L' j k*R' k k=T k j:=b;grind
  have kk:R k k=R' k k:=by rw[row k hk,l'.o k hk];grind
  refine⟨fun j hj=>by rw[kk];exact row j hj,fun i hi=>?_⟩
  have a:=e i k hi hk;have b:=e' k i hk hi;rw[cutR' i k hi hk] at a;rw[cutL' k i hk] at b
  have s:cN k (fun m=>L' k m*R' m i)=cN k fun m=>L i m*R m k:=bW fun m hm=>by
   rw[(ih m hm (by omega)).1 k hk,(ih m hm (by omega)).2 i hi];grind
  rw[s] at b;have b':cN k (fun m=>L i m*R m k)+R' k i=T i k:=b;grind
structure EL (n c:Nat) (M:Nat->Nat->Rat):Prop where
 g:G (n-c) fun i j=>M (i+c) (j+c)
 z:∀ k i,k<c->k<i->i<n->M i k=0
section
variable {n c:Nat} {M T:Nat->Nat->Rat}
theorem EL.eq(e:EL n c M)(h4:n<=4){i:Nat}(h:c<i)(hi:i<n):M i c=M i c / M (i-1) c*M (i-1) c:=by
 have:=kW (by omega) (by omega) e.g (i-1-c) (by omega);simp only[sh,O4z] at this;rw[show i-1-c+1+c=i by omega,show i-1-c+c=i-1 by omega] at this;exact this
theorem EL.nn(e:EL n c M)(h4:n<=4){i:Nat}(h:c<i)(hi:i<n):0<=M i c / M (i-1) c:=by
 have:=Qw (by omega) (by omega) e.g (i-1-c) (by omega);simp only[sh,O4z] at this;rw[show i-1-c+1+c=i by omega,show i-1-c+c=i-1 by omega] at this;exact this
theorem EL.ne(e:EL n c M)(h4:n<=4){i:Nat}(h:c<i)(hi:i<n)(hz:M i c≠0):M (i-1) c≠0:=fun q=>hz (by rw[e.eq h4 h hi,q];grind)
theorem EL.next(e:EL n c M)(h4:n<=4)(h:c+1<n):EL n (c+1) (Pm c (c+1) M) where
 g:=by
  have e1:n-c=n-(c+1)+1:=by omega
  have g:=e.g;rw[e1] at g;have:=B_G (by omega) (by omega) g
  have q:B (fun i j=>M (i+c) (j+c))=fun i j=>Pm c (c+1) M (i+(c+1)) (j+(c+1)):=by
   funext i j;simp only[B,sh,Pm,O4z];rw[K5z (by omega),show i+1+c=i+(c+1) by omega,show j+1+c=j+(c+1) by omega,show i+(c+1)-1=i+c by omega]
  rw[q] at this;exact this
 z k i hk hi hn:=by
  simp only[Pm]
  by_cases q:c+1<=i
  ·rw[K5z q]
   by_cases kc:k=c
   ·subst kc
    rw[<- e.eq h4 (by omega) hn];grind
   ·rw[e.z k i (by omega) hi hn,e.z k (i-1) (by omega) (by omega) (by omega)];grind
  ·rw[L5z q]
   exact e.z k i (by omega) hi hn
theorem EL.all(g:G n T)(h4:n<=4):∀ {c:Nat},c<n->EL n c (Mc T c)
 | 0,_=>⟨g,fun k i h=>absurd h (by omega)⟩
 | c+1,h=>(EL.all g h4 (c:=c) (by omega)).next h4 h
theorem EL.dg(e:EL n c M)(h4:n<=4)(h:c<n):0<M c c:=by
 have:=GP (by omega) (by omega) e.g;simpa using this
def cP(T:Nat->Nat->Rat):Nat->Rat
 | 0=>1
 | k+1=>cP T k*Mc T k k k
theorem aaN(h4:n<=4)(g:G n T):∀ {m c:Nat},1<=m->m+c<=n->dt m (fun i j=>Mc T c (i+c) (j+c))*cP T c=cP T (m+c)
 | 0,c,h,_=>absurd h (by omega)
 | 1,c,_,h=>by
  rw[show 1+c=c+1 by omega,cP];simp only[dt,J5z,O4z];grind
 | m+2,c,_,h=>by
  have e:=EL.all g h4 (c:=c) (by omega);have e1:=aaK (n:=m+1) (A:=fun i j=>Mc T c (i+c) (j+c)) (by omega) (by omega) fun r hr=>kW (by omega) (by omega) e.g r (by omega)
  have q:B (fun i j=>Mc T c (i+c) (j+c))=fun i j=>Mc T (c+1) (i+(c+1)) (j+(c+1)):=by
   funext i j;simp only[B,sh,Mc,Pm,O4z];rw[K5z (by omega),show i+1+c=i+(c+1) by omega,show j+1+c=j+(c+1) by omega,show i+(c+1)-1=i+c by omega]
  rw[q] at e1;have ih:=aaN h4 g (m:=m+1) (c:=c+1) (by omega) (by omega);rw[show m+2+c=m+1+(c+1) by omega,<- ih,show m+2=m+1+1 from rfl,e1,cP];simp only[O4z];grind
theorem Fg(h4:n<=4)(g:G n T):∀ {k:Nat},k<=n->0<cP T k
 | 0,_=>by simp only[cP];decide
 | k+1,h=>V4z (Fg h4 g (k:=k) (by omega)) ((EL.all g h4 (c:=k) (by omega)).dg h4 (by omega))
end
def dg(k:Nat)(d:Nat->Rat):Nat->Nat->Rat:=fun i j=>if i=j then(if i<k then d i else 1) else 0
def sK(d:Nat->Rat):Nat->List Stp
 | 0=>[]
 | k+1=>sK d k++if d k=1 then[] else[⟨2,k,d k⟩]
theorem Es{n k:Nat}{d:Nat->Rat}{i j:Nat}(hi:i<n):mulQ n (dg k d) A i j=(if i<k then d i else 1)*A i j:=by
 refine(iZ hi fun l _ hl=>?_).trans ?_
 ·simp only[dg,L5z (I5z hl)];grind
 ·simp only[dg,J5z]
theorem KH{n:Nat}{d:Nat->Rat}:∀ {k:Nat},k<=n->Eqn n (mkQ n (sK d k)) (dg k d)
 | 0,_=>fun i j _ _=>by simp[sK,mkQ,dg,idQ]
 | k+1,h=>by
  have ih:=KH (n:=n) (d:=d) (k:=k) (by omega);rw[sK];split
  ·rename_i e
   rw[S2z];refine ih.trans fun i j hi hj=>?_
   have:(if i<k then d i else 1)=if i<k+1 then d i else 1:=by
    by_cases q:i=k
    ·subst q;rw[L5z (by omega),K5z (by omega),e]
    ·by_cases q2:i<k
     ·rw[K5z q2,K5z (by omega)]
     ·rw[L5z q2,L5z (by omega)]
   simp only[dg,this]
  ·rw[eE]
   refine(ih.mul .rfl).trans fun i j hi hj=>?_;rw[Es hi];simp only[stQ,spR,spC,dg,idQ]
   by_cases q:i=k
   ·subst q
    by_cases q2:j=i
    ·subst q2;simp
    ·have:¬ i=j:=fun e=>q2 e.symm
     simp[q2,this]
   ·by_cases q2:i<k
    ·simp only[L5z q,K5z q2,K5z (show i<k+1 by omega)]
     split<;>grind
    ·simp only[L5z q,L5z q2,L5z (show ¬ i<k+1 by omega)]
     grind
def tW:Nat->Nat
 | 0=>1
 | 1=>0
 | w=>w
def tS(x:Stp):Stp:=⟨tW x.w,x.p,x.s⟩
def tL(l:List Stp):List Stp:=l.reverse.map tS
theorem Qj{x:Stp}:stQ (tS x)=fun i j=>stQ x j i:=by
 obtain⟨w,p,s⟩:=x;funext i j
 have sy:∀ i j,idQ i j=idQ j i:=fun i j=>by simp only[idQ];by_cases e:i=j<;>simp[e,eq_comm]
 match w with
 | 0=>simp only[stQ,tS,tW,spR,spC];rw[sy i j];by_cases a:i=p+1<;>by_cases b:j=p<;>simp[a,b]
 | 1=>simp only[stQ,tS,tW,spR,spC];rw[sy i j];by_cases a:i=p<;>by_cases b:j=p+1<;>simp[a,b]
 | w+2=>simp only[stQ,tS,tW,spR,spC];rw[sy i j];by_cases a:i=p<;>by_cases b:j=p<;>simp[a,b]
theorem Qn{n:Nat}(l:List Stp):Eqn n (mkQ n (tL l)) fun i j=>mkQ n l j i:=by
 refine wN (P:=fun l=>Eqn n (mkQ n (tL l)) fun i j=>mkQ n l j i) ?_ (fun l x ih=>?_) l
 ·intro i j _ _
  show idQ i j=idQ j i
  simp only[idQ];by_cases e:i=j<;>simp[e,eq_comm]
 ·have e:tL (l++[x])=[tS x]++tL l:=by simp[tL]
  rw[e];refine(qX (l:=[tS x]) (r:=tL l)).trans ?_
  have h1:Eqn n (mkQ n [tS x]) (stQ (tS x)):=by
   have:=Ef (n:=n) (A:=stQ (tS x));exact this
  refine(h1.mul ih).trans fun i j hi hj=>?_;rw[eE,Qj]
  exact bW fun m _=>by grind
def tk(n:Nat)(T:Nat->Nat->Rat):List Stp:=sD n T (n-1)++sK (fun k=>Mc T k k k) n++tL (sD n (fun i j=>T j i) (n-1))
theorem Qi{n:Nat}{T:Nat->Nat->Rat}(h1:1<=n)(h4:n<=4)(g:G n T)(g':G n fun i j=>T j i):Eqn n (mkQ n (tk n T)) T:=by
 have e:=nu (n:=n) (T:=T) (c:=n-1) (by omega);have e':=nu (n:=n) (T:=fun i j=>T j i) (c:=n-1) (by omega);have z:=(EL.all g h4 (c:=n-1) (by omega)).z;have z':=(EL.all g' h4 (c:=n-1) (by omega)).z;have u:=ldu (n:=n) (Mt Gm) (Mt Gm) (fun i j h hi=>z j i (by omega) h hi) (fun i j h hi=>z' j i (by omega) h hi) e e'
 have step:Eqn n (mkQ n (tk n T)) (mulQ n (mulQ n (mkQ n (sD n T (n-1))) (dg n fun k=>Mc T k k k)) fun i j=>mkQ n (sD n (fun i j=>T j i) (n-1)) j i) :=
  (qX (n:=n) (l:=sD n T (n-1)++sK (fun k=>Mc T k k k) n)).trans (((qX (n:=n)).trans (Eqn.rfl.mul (KH (Q4z n)))).mul (Qn _))
 refine step.trans fun i j hi hj=>?_;rw[qU,<- e i j hi hj];refine bW fun k hk=>?_;rw[Es hk,K5z hk,(u k hk).1 j hj,Fw (i:=k) (c:=n-1) (by omega)]
def Nq(N E:Nat)(q:Rat):Prop:=q.num.natAbs<=N/\q.den<=E
section
variable {N E N' E':Nat} {a b:Rat}
theorem Nq.of{u d:Int}(h:d≠0):Nq u.natAbs d.natAbs ((u:Rat) / (d:Rat)):=by
 have e:=JK (u:=u) h;have l:=MK (u:=u) h;have e:=D.tup.inj e;simp only[List.cons.injEq,D.int.injEq,and_true] at e;exact⟨by rw[<- e.1];exact l.1,by have:=l.2;rw[e.2] at this;exact this⟩
theorem Nq.up(h:Nq N E a)(h1:N<=N')(h2:E<=E'):Nq N' E' a:=⟨F4z h.1 h1,F4z h.2 h2⟩
theorem Nq.mul(h:Nq N E a)(h':Nq N' E' b):Nq (N*N') (E*E') (a*b):=by
 rw[<- DQ];refine(Nq.of (J3z (nF a) (nF b))).up ?_ ?_
 ·rw[P3z];exact R3z h.1 h'.1
 ·rw[P3z];exact R3z h.2 h'.2
theorem Nq.sub(h:Nq N E a)(h':Nq N' E' b):Nq (N*E'+N'*E) (E*E') (a-b):=by
 rw[<- yd];refine(Nq.of (J3z (nF a) (nF b))).up ?_ ?_
 ·have e1:(a.num*(b.den:Int)).natAbs<=N*E':=by rw[P3z];exact R3z h.1 h'.2
  have e2:(b.num*(a.den:Int)).natAbs<=N'*E:=by rw[P3z];exact R3z h'.1 h.2
  omega
 ·rw[P3z];exact R3z h.2 h'.2
theorem Nq.div(h:Nq N E a)(h':Nq N' E' b)(h0:1<=E*N'):Nq (N*E') (E*N') (a / b):=by
 by_cases z:b=0
 ·rw[z,W4z,Rat.inv_zero,Rat.mul_zero]
  exact⟨S4z _,h0⟩
 ·rw[<- Er z]
  refine(Nq.of (J3z (nF a) (o8 z))).up ?_ ?_
  ·rw[P3z];exact R3z h.1 h'.2
  ·rw[P3z];exact R3z h.2 h'.1
theorem Nq.sq(h:Nq N E a)(h1:N<=KB)(h2:E<=KB):Sq a:=⟨F4z h.1 h1,F4z h.2 h2⟩
end
def nN:Nat->Nat×Nat
 | 0=>(3000000,1)
 | c+1=>(2*((nN c).1*(nN c).2)^2,(nN c).1*(nN c).2^3)
theorem Mq:∀ c,1<=(nN c).1/\1<=(nN c).2
 | 0=>by decide
 | c+1=>by
  have:=Mq c;have h:=U4z this.1 this.2;exact⟨U4z (by decide) (Nat.pow_pos h),U4z this.1 (Nat.pow_pos this.2)⟩
def Nm(n c:Nat)(M:Nat->Nat->Rat):Prop:=∀ i j,i<n->j<n->Nq (nN c).1 (nN c).2 (M i j)
section
variable {n c:Nat} {M T:Nat->Nat->Rat}
abbrev NE(c:Nat):Nat:=(nN c).1*(nN c).2
theorem Nm.sh(h:Nm n c M){i:Nat}(hi:i<n)(hc:c<n):Nq (NE c) (NE c) (M i c / M (i-1) c):=by
 have p:=Mq c;have:=(h i c hi hc).div (h (i-1) c (by omega) hc) (U4z p.2 p.1);exact this.up (Q4z _) (by rw[L4z];exact Q4z _)
theorem Nm.tm(h:Nm n c M){i j:Nat}(hi:i<n)(hj:j<n)(hc:c<n):Nq (NE c*(nN c).1) (NE c*(nN c).2) (M i c / M (i-1) c*M (i-1) j):=(h.sh hi hc).mul (h (i-1) j (by omega) hj)
theorem Nm.ls(h:Nm n c M){i j:Nat}(hi:i<n)(hj:j<n)(hc:c<n):Nq (nN (c+1)).1 (nN (c+1)).2 (M i j-M i c / M (i-1) c*M (i-1) j):=by
 refine((h i j hi hj).sub (h.tm hi hj hc)).up ?_ ?_
 ·simp only[nN,NE]
  generalize (nN c).1=a;generalize (nN c).2=b;exact K4z (by rw[Nat.pow_two];grind)
 ·simp only[nN,NE]
  generalize (nN c).1=a;generalize (nN c).2=b;exact K4z (by grind)
theorem Nm.st(h:Nm n c M){i j:Nat}(hi:i<n)(hj:j<n):Nq (nN (c+1)).1 (nN (c+1)).2 (M i j):=by
 have p:=Mq c;refine(h i j hi hj).up ?_ ?_
 ·simp only[nN]
  generalize (nN c).1=a at *;generalize (nN c).2=b at *;have h1:a*1<=a*b:=D1z _ p.2
  have h2:a*b*1<=(a*b)^2:=by rw[Nat.pow_two];exact D1z _ (U4z p.1 p.2)
  omega
 ·simp only[nN]
  generalize (nN c).1=a at *;generalize (nN c).2=b at *;have h1:1*b<=a*b:=V0z _ p.1;have h2:a*b<=a*b^3:=D1z _ (by rw[Nat.pow_succ];exact M0z _ (Nat.pow_pos p.2));omega
theorem Nm.next(h:Nm n c M)(hc:c<n):Nm n (c+1) (Pm c (c+1) M):=fun i j hi hj=>by
 simp only[Pm];split
 ·exact h.ls hi hj hc
 ·exact h.st hi hj
theorem Nm.all(h:Nm n 0 T):∀ {c:Nat},c<n->Nm n c (Mc T c)
 | 0,_=>h
 | c+1,hc=>(Nm.all h (c:=c) (by omega)).next (by omega)
theorem Ys:∀ c,c<4->(nN c).1<=KB/\(nN c).2<=KB/\NE c*(nN c).1<=KB/\NE c*(nN c).2<=KB/\NE c<=KB:=by decide +kernel
theorem wB_C{k:Nat}(h:Nm n c M)(hk:k+c<n):∀ x∈sC n c M k,wB x<=8*NE c:=by
 induction k with
 | zero=>exact fun x hx=>by cases hx
 | succ k ih =>
  intro x hx;rcases D3z.mp hx with hx | hx
  ·exact ih (by omega) x hx
  ·unfold sO at hx
   split at hx
   ·cases hx
   ·cases List.mem_singleton.mp hx
    have:=h.sh (i:=n-1-k) (by omega) (by omega);unfold wB;have h1:=this.1;have h2:=this.2;simp only;omega
def wD:Nat->Nat
 | 0=>1
 | c+1=>wD c*(8*NE c)^(3-c)
theorem X4(h:Nm n 0 T)(h4:n<=4):∀ {c:Nat},c<n->gP wB (sD n T c)<=wD c
 | 0,_=>Q4z 1
 | c+1,hc=>by
  rw[sD,gC];refine R3z (X4 h h4 (c:=c) (by omega)) (F4z (Nu (wB_C (h.all (c:=c) (by omega)) (by omega))) ?_);have p:=Mq c;refine Nat.pow_le_pow_right (U4z (by decide) (U4z p.1 p.2)) ?_;have:=oM (n:=n) (c:=c) (M:=Mc T c) (k:=n-1-c);omega
def wK:Nat->Nat
 | 0=>1
 | k+1=>wK k*(4*((nN k).1+(nN k).2))
theorem aaH(h:Nm n 0 T):∀ {k:Nat},k<=n->gP wB (sK (fun k=>Mc T k k k) k)<=wK k
 | 0,_=>Q4z 1
 | k+1,hk=>by
  rw[sK,gC];refine R3z (aaH h (k:=k) (by omega)) ?_;have p:=Mq k;split
  ·show 1<=_;omega
  ·have:=(h.all (c:=k) (by omega)) k k (by omega) (by omega)
   have h1:=this.1;have h2:=this.2;show 4*((Mc T k k k).num.natAbs+(Mc T k k k).den)*1<=_;omega
theorem gP_T:gP wB (tL l)=gP wB l:=by
 refine wN (P:=fun l=>gP wB (tL l)=gP wB l) rfl (fun l x ih=>?_) l;rw[show tL (l++[x])=[tS x]++tL l by simp[tL],gC,gC,ih,L4z];rfl
theorem J9:∀ c,c<4->wD c<=wD 3:=by decide +kernel
theorem P0:∀ c,c<5->wK c<=wK 4:=by decide +kernel
theorem w_KB:wD 3*wK 4*wD 3<=KB:=by decide +kernel
theorem Nx(h1:1<=n)(h4:n<=4)(h:Nm n 0 T)(h':Nm n 0 fun i j=>T j i):gP wB (tk n T)<=KB:=by
 rw[tk,gC,gC,gP_T];refine F4z (R3z (R3z ?_ ?_) ?_) w_KB
 ·exact F4z (X4 h h4 (by omega)) (J9 _ (by omega))
 ·exact F4z (aaH h (Q4z n)) (P0 _ (by omega))
 ·exact F4z (X4 h' h4 (by omega)) (J9 _ (by omega))
end
section
variable {cx:Cxt} {sc:Scope} {ρ ρ':Rho} {e ie a b c:Expr} {p px tp:Pos} {d dd:D} {nm:Str} {F m n:Nat} {r:List Stmt} {fl:Fl} {ds:List D}
theorem gNmF(hf:frz F e ρ=ρ')(ho:(ownIn sc nm&&(ρ.map (·.1)).contains nm)=true)(hq:(ooE cx sc e||xW cx sc e||aX e || !rdA e)=false)(h:ev cx F sc ρ' e=some d)(hfl:dZ d=true)(k:blk cx F (m+1) sc r (cL ρ nm (.sh d))=some fl):blk cx F (m+1) sc (.Assign [.Name nm px] e p::r) ρ=some fl:=by
 subst hf;simp only[U0z,Bool.not_eq_false'] at hq;obtain⟨⟨⟨h1,h2⟩,h3⟩,h4⟩:=hq;refine gSt (fl1:=.nxt _) ?_ k;simp only[st,K5z ho,h1,h2,h3,h4,h,hfl,K3z,L1z,H5z,J5z,J2z]
theorem Nt{j:Int}{n1:Nat}(hf:frz F e ρ=ρ')(ha:Oo nm e=none)(hx':(frz F ie ρ').lookup nm=some (.sh dd))(hx:ρ.lookup nm=some (.ow ds))(ho:(ownIn sc nm&&aA nm && !aX e)=true)(h:ev cx F sc ρ' e=some d)(h1:ev cx F sc ρ' ie=some (.int j))(h2:ixD ds.length j=some n1)(hfl:dZ d=true)(k:blk cx F (m+1) sc r (cL ρ nm (.ow (ds.set n1 d)))=some fl):blk cx F (m+1) sc (.Assign [.Subscript (.Name nm px) ie tp] e p::r) ρ=some fl:=by
 subst hf;refine gSt (fl1:=.nxt _) ?_ k;simp only[st,ha,hx',hx,K5z ho,h,h1,h2,hfl,asI,bind,J2z,J5z]
theorem wR3g{tup:Bool}{i j s:Int}(hw:qm cx sc e=.r3 a b c)(h1:ev cx n sc ρ a=some (.int i))(h2:ev cx n sc ρ b=some (.int j))(h3:ev cx n sc ρ c=some (.int s))(hz:(decide (s=-1)&&cC i&&cC j)=true):evI cx tup (ev cx n sc ρ) sc e=some (dnD i j):=by
 simp only[evI,hw,h1,h2,h3,J2z,asI,bind,K5z hz]
end
theorem Ye{i c':Nat}(hc:c'<=i):dnD (i:Int) (c':Int)=Ls (i-c') fun k=>.int ((i-k:Nat):Int):=by
 unfold dnD Ls;rw[show((i:Int)-(c':Int)).toNat=i-c' by omega];refine C1z fun k hk=>?_;have:=List.mem_range.mp hk;exact congrArg D.int (by omega)
theorem rz{i j:Nat}(hi:i<=100000)(hj:j<=100000):(decide ((-1:Int)=-1)&&cC (i:Int)&&cC (j:Int))=true:=by
 rw[QD hi,QD hj];decide
theorem yM{m:Nat}{h:Nat->D}(q:∀ i,dZ (h i)=true):lN (Ls m h)=true:=by
 unfold Ls
 induction List.range m with
 | nil=>rfl
 | cons a l ih=>rw[W3z,lN,q,ih];rfl
theorem aaJ(q:Rat):dZ (qD q)=true:=rfl
theorem IV{n:Nat}{f:Nat->Rat}:dZ (rwq n f)=true:=by
 rw[dZ];exact yM fun i=>rfl
theorem row_less(k:Nat){n:Nat}{f g:Nat->Rat}{s:Rat}(hn:n<=4)(hs:Sq s)(hf:∀ i,i<n->Sq (f i))(hg:∀ i,i<n->Sq (g i))(hp:∀ i,i<n->Sq (s*g i)):aB T 60 (k+4) "row_less" [rwq n f,rwq n g,qD s]=some (rwq n fun j=>f j-s*g j):=by
 refine bO (fd:=aH (top 73)) rfl rfl (bN (bU rfl rfl rfl (aj (bF rfl (PN (h:=fun j=>qD (f j)) (g:=fun j=>qD (g j)) rfl (xName rfl) (xName rfl)) (cJ (by omega)) (aL (g:=fun i=>qD (f i-s*g i)) fun i hi=>bI rfl ?_)) aK) gK));exact au rfl (aj (x:=qD (f i)) (xName rfl) (aj (x:=qD (s*g i)) (au rfl (aj (x:=qD s) (xName rfl) (aj (x:=qD (g i)) (xName rfl) aK)) (v9 k hs (hg i hi))) aK)) (M4 k (hf i hi) (hp i hi))
def inB:Stmt->List Stmt
 | .For _ _ [.For _ _ b _ _] _ _=>b
 | _=>[]
def inF:Stmt->Stmt
 | .For _ _ [s] _ _=>s
 | s=>s
abbrev dnS:Scope:=(aH (top 74)).sc
abbrev dnB:List Stmt:=inB (bB 74 2)
def rDn(t:D)(R:Sl)(S:List D)(c r s:Sl):Rho:=[("table",.sh t),("rows",R),("steps",.ow S),("column",c),("row",r),("share",s)]
abbrev rws(n:Nat)(M:Nat->Nat->Rat):List D:=Ls n fun i=>rwq n (M i)
section
variable {n c:Nat} {f:Nat->Nat->Int} {M:Nat->Nat->Rat} {m:Nat->Rat} {l:List Stp}
theorem qn0{q:Rat}:q.num≠0↔q≠0:=⟨fun h e=>h (by rw[e];rfl),o8⟩
theorem QB{m:Nat->Rat}{K N r:Nat}{p px:Pos}{e:Expr}(hm:M r=m)(hx:Xk (cxN T 60 K) dnS ρ "rows"=some (.lst (rws n M)))(hr:r<n)(he:ev (cxN T 60 K) (N+1) dnS ρ e=some (.int r))(hp:aG e=true):ev (cxN T 60 K) (N+2) dnS ρ (.Subscript (.Name "rows" px) e p)=some (rwq n m) :=
 Aj (m:=n) (h:=fun i=>rwq n (M i)) (xName hx) he hr hp (by rw[hm])
theorem Ju{m:Nat->Rat}{K N r j:Nat}{p px p2:Pos}{e e2:Expr}(hm:M r=m)(hx:Xk (cxN T 60 K) dnS ρ "rows"=some (.lst (rws n M)))(hr:r<n)(hj:j<n)(he:ev (cxN T 60 K) (N+1) dnS ρ e=some (.int r))(he2:ev (cxN T 60 K) (N+2) dnS ρ e2=some (.int j))(hp:aG e=true)(hp2:aG e2=true):ev (cxN T 60 K) (N+3) dnS ρ (.Subscript (.Subscript (.Name "rows" px) e p) e2 p2)=some (qD (m j)) :=
 vQ (m:=n) (h:=fun j=>qD (m j)) (QB hm hx hr he hp) he2 hj hp2 rfl
theorem r1E{K N r:Nat}{S:List D}{R s:Sl}{t c:D}{p p2 p3:Pos}{w:Nat}(h:1<=r):ev (cxN T 60 K) (N+2) dnS (rDn t R S (.sh c) (.sh (.int r)) s) (.BinOp (.Name "row" p) .Sub (.Constant (.int 1) w p2) p3)=some (.int ((r-1:Nat):Int)):=jk (bD (x:=.int r) (y:=.int 1) (xName rfl) (ao rfl) rfl) (congrArg D.int (by omega))
theorem Gn{r:Nat}{l:List D}(hr:r<n)(h:l=rws n (Pm c (r+1) M))(hc:c<r):l.set r (rwq n fun j=>M r j-M r c / M (r-1) c*M (r-1) j)=rws n (Pm c r M):=by
 rw[h,qe];refine dj fun i hi=>?_;split
 ·rename_i e
  subst e;refine congrArg (rwq n) (funext fun j=>?_);simp only[Pm];rw[K5z (Q4z _)]
 ·refine congrArg (rwq n) (funext fun j=>?_)
  simp only[Pm]
  by_cases q:r<=i
  ·rw[K5z q,K5z (by omega)]
  ·rw[L5z q,L5z (by omega)]
abbrev dnC:Expr:=match dnB with | [.If c _ _ _]=>c | _=>.Name "" ⟨0,0,0,0⟩
abbrev dnI:List Stmt:=match dnB with | [.If _ b _ _]=>b | _=>[]
abbrev sF(t:D)(R:List D)(l:List Stp)(c r:Nat)(s:Sl):Rho:=rDn t (.sh (.lst R)) (l.map stD) (.sh (.int c)) (.sh (.int r)) s
abbrev sO'(t:D)(R:List D)(l:List Stp)(c r:Nat)(s:Sl):Rho:=rDn t (.ow R) (l.map stD) (.sh (.int c)) (.sh (.int r)) s
theorem fzD{t:D}{R:List D}{r:Nat}{s:Sl}{e:Expr}(hs:nOw s=true)(h1:dX 60 "rows" e=true)(h2:dX 60 "steps" e=false):frz 60 e (sO' t R l c r s)=sF t R l c r s:=aW rfl (JN h1 (kI h2 (aW rfl (aW rfl (aW hs pG)))))
theorem cd(K:Nat){t:D}{r:Nat}{s:Sl}(er:M r=m)(hr:r<n)(hc:c<n):ev (cxN T 60 K) 60 dnS (sF t (rws n M) l c r s) dnC=some (.bl (decide ((m c).num≠0))) :=
 bK (x:=.int (m c).num) (y:=.int 0) (at0' (u:=(m c).num) (d:=((m c).den:Int)) (Ju er rfl hr hc (xName rfl) (xName rfl) rfl rfl)) (ao rfl) O6
theorem Yl(k:Nat){t:D}{r:Nat}{s:Sl}{q:Rat}(hs:nOw s=true)(h4:n<=4)(hc:c<r)(hr:r<n)(hl:l.length<=90)(hq:q=M r c / M (r-1) c)(nz:M (r-1) c≠0)(sq:∀ i j,i<n->j<n->Sq (M i j))(ss:Sq q)(sp:∀ j,j<n->Sq (q*M (r-1) j)):
  blk (cxN T 60 (k+5)) 60 57 dnS dnI (sO' t (rws n (Pm c (r+1) M)) l c r s)=some (.nxt (sO' t (rws n (Pm c r M)) (l++[⟨1,r-1,q⟩]) c r (.sh (qD q)))):=by
 have er:Pm c (r+1) M r=M r:=by funext j;simp only[Pm];rw[L5z (by omega)]
 have er1:Pm c (r+1) M (r-1)=M (r-1):=by funext j;simp only[Pm];rw[L5z (by omega)]
 have pt:=LK (k+2) (sq r c hr (by omega)) (sq (r-1) c (by omega) (by omega)) nz;rw[<- hq] at pt;have rl:=row_less (k+1) h4 ss (fun j hj=>sq r j hr hj) (fun j hj=>sq (r-1) j (by omega) hj) sp;refine gNmF (d:=qD q) (fzD hs rfl rfl) rfl rfl (au rfl (aj (Ju er rfl hr (by omega) (xName rfl) (xName rfl) rfl rfl) (aj (Ju er1 rfl (by omega) (by omega) (r1E (by omega)) (xName rfl) rfl rfl) aK)) pt) rfl ?_;refine Cg (ρ:=sO' t (rws n (Pm c (r+1) M)) l c r (.sh (qD q))) (ρ':=sO' t (rws n (Pm c (r+1) M)) l c r (.sh (qD q))) (d:=stD ⟨1,r-1,q⟩) (ds:=l.map stD) rfl rfl rfl rfl (gM (by rw[U2z];omega)) (qj (ds:=[.str "down",.int ((r-1:Nat):Int),qD q]) (aj (xName rfl) (aj (jk (bD (x:=.int r) (y:=.int 1) (xName rfl) (ao rfl) rfl) (congrArg D.int (by omega))) (aj (xName rfl) aK))) rfl) ?_
 have e0:l.map stD++[stD ⟨1,r-1,q⟩]=(l++[(⟨1,r-1,q⟩:Stp)]).map stD:=by simp
 rw[e0];have st:=Gn (M:=M) hr rfl hc;rw[<- hq] at st;refine Nt (ρ:=sO' t (rws n (Pm c (r+1) M)) (l++[⟨1,r-1,q⟩]) c r (.sh (qD q))) (ρ':=sF t (rws n (Pm c (r+1) M)) (l++[⟨1,r-1,q⟩]) c r (.sh (qD q))) (d:=rwq n fun j=>M r j-q*M (r-1) j) (ds:=rws n (Pm c (r+1) M)) (n1:=r) (j:=(r:Int)) (dd:=.lst (rws n (Pm c (r+1) M))) ?_ ?_ ?_ ?_ ?_ ?_ ?_ (by rw[aR];exact gG hr) IV ?_
 ·exact fzD rfl rfl rfl
 ·rfl
 ·rfl
 ·rfl
 ·rfl
 ·exact au rfl (aj (QB er rfl hr (xName rfl) rfl) (aj (QB er1 rfl (by omega) (r1E (by omega)) rfl) (aj (xName rfl) aK))) rl
 ·exact xName rfl
 rw[st];exact cT
theorem Qe(k:Nat){t:D}{r:Nat}{s:Sl}(hs:nOw s=true)(h4:n<=4)(e:EL n c M)(hN:Nm n c M)(hc:c<r)(hr:r<n)(hl:l.length<=90):
  ∃ s',nOw s'=true/\blk (cxN T 60 (k+5)) 60 58 dnS dnB (sO' t (rws n (Pm c (r+1) M)) l c r s)=some (.nxt (sO' t (rws n (Pm c r M)) (l++sO c M r) c r s')):=by
 have er:Pm c (r+1) M r=M r:=by funext j;simp only[Pm];rw[L5z (by omega)]
 obtain⟨k1,k2,k3,k4,k5⟩:=Ys c (by omega);have cv:=cd (k+5) (l:=l) (t:=t) (s:=s) (c:=c) er hr (by omega)
 by_cases z:M r c=0
 ·refine⟨s,hs,JM (fzD hs rfl rfl) (cv.trans ?_) ?_⟩
  ·rw[z];rfl
  ·rw[zY z,show sO c M r=[] from K5z z,S2z];exact cT
 ·have nz:=e.ne h4 hc hr z
  refine⟨.sh (qD (M r c / M (r-1) c)),rfl,vg (fzD hs rfl rfl) (cv.trans ?_) ?_ cT⟩
  ·rw[L3z (qn0.mpr z)]
  ·rw[show sO c M r=[⟨1,r-1,M r c / M (r-1) c⟩] from L5z z]
   exact Yl k hs h4 hc hr hl rfl nz (fun i j hi hj=>(hN i j hi hj).sq k1 k2) ((hN.sh hr (by omega)).sq k5 k5) fun j hj=>(hN.tm hr hj (by omega)).sq k3 k4
end
abbrev qf(f:Nat->Nat->Int):Nat->Nat->Rat:=fun i j=>((f i j:Int):Rat)
theorem Oq(k:Nat){m n:Nat}{f:Nat->Nat->Int}(h1:1<=m)(h2:m<=4)(h3:1<=n)(h4:n<=4):aB T 60 (k+5) "as_fractions" [tbl m n f]=some (ftq m n (qf f)):=by
 refine bO (fd:=aH (top 33)) rfl rfl (yH rfl (d:=.non) (au rfl (aj (xName rfl) aK) (need_table k h1 h2 h3 h4)) (bN (bU rfl rfl rfl (aj (bF rfl (Ac (xs:=Ls m fun i=>row n (f i)) rfl (xName rfl)) (cJ (by omega)) (aL (g:=fun i=>rwq n (qf f i)) fun i hi=>bI rfl ?_)) aK) gK)));exact au rfl (aj (x:=row n (f i)) (xName rfl) aK) (KZ (k+3) h4)
abbrev dnF:Stmt:=inF (bB 74 2)
abbrev dnO:Stmt:=bB 74 2
section
variable {n c:Nat} {f:Nat->Nat->Int} {M:Nat->Nat->Rat} {l:List Stp}
theorem sC_l{k:Nat}(h:l.length+k<=90):(l++sC n c M k).length<=90:=by
 have:=oM (n:=n) (c:=c) (M:=M) (k:=k);rw[K1z];omega
theorem dnIn(k:Nat){t:D}{r s:Sl}(hr:nOw r=true)(hs:nOw s=true)(h4:n<=4)(hc:c+1<n)(e:EL n c M)(hN:Nm n c M)(hl:l.length<=80):
  ∃ r' s',nOw r'=true/\nOw s'=true/\bV (fF (cxN T 60 (k+5)) 60 58 dnS (gk dnF) (bR dnF)) (Ls (n-1-c) fun k=>.int ((n-1-k:Nat):Int)) (rDn t (.ow (rws n M)) (l.map stD) (.sh (.int c)) r s)=some (.nxt (rDn t (.ow (rws n (Pm c (c+1) M))) ((l++sC n c M (n-1-c)).map stD) (.sh (.int c)) r' s')):=by
 obtain⟨ρ',⟨r',s',q1,q2,rfl⟩,h⟩:=dY (f:=fF (cxN T 60 (k+5)) 60 58 dnS (gk dnF) (bR dnF)) (h:=fun k=>D.int ((n-1-k:Nat):Int)) (N:=n-1-c)
  (P:=fun i ρ=>∃ r' s',nOw r'=true/\nOw s'=true/\ρ=rDn t (.ow (rws n (Pm c (n-i) M))) ((l++sC n c M i).map stD) (.sh (.int c)) r' s')
  (ρ:=rDn t (.ow (rws n M)) (l.map stD) (.sh (.int c)) r s) (fun i ρ hi hP=>by
   obtain⟨r',s',q1,q2,rfl⟩:=hP;obtain⟨s2,q3,b⟩:=Qe k (t:=t) (r:=n-1-i) (l:=l++sC n c M i) q2 h4 e hN (by omega) (by omega) (sC_l (by omega));rw[show n-1-i+1=n-i by omega,T1z] at b;refine⟨_,⟨.sh (.int ((n-1-i:Nat):Int)),s2,rfl,q3,rfl⟩,dF (ρ1:=sO' t (rws n (Pm c (n-i) M)) (l++sC n c M i) c (n-1-i) s') rfl ?_⟩;rw[show n-(i+1)=n-1-i by omega]
   exact b) ⟨r,s,hr,hs,by
   have e0:rws n (Pm c (n-0) M)=rws n M:=dj fun i hi=>congrArg (rwq n) (funext fun j=>by simp only[Pm];rw[L5z (by omega)])
   rw[e0,sC,S2z]⟩
 refine⟨r',s',q1,q2,?_⟩;rw[show n-(n-1-c)=c+1 by omega] at h;exact h
theorem Dm:∀ {c:Nat},c<n->(sD n M c).length<=c*n
 | 0,_=>S4z _
 | c+1,h=>by
  have:=Dm (c:=c) (by omega);have h2:=oM (n:=n) (c:=c) (M:=Mc M c) (k:=n-1-c);rw[sD,K1z,J4z];omega
theorem KN(h4:n<=4)(h:c<n):(sD n M c).length<=12:=by
 have:=Dm (n:=n) (M:=M) h;have:c*n<=3*4:=R3z (by omega) h4;omega
theorem dnOu(k:Nat)(h1:1<=n)(h4:n<=4)(g:G n (qf f))(hN:Nm n 0 (qf f)):
  ∃ c' r' s',nOw c'=true/\nOw r'=true/\nOw s'=true/\bV (fF (cxN T 60 (k+5)) 60 59 dnS (gk dnO) (bR dnO)) (Ls (n-1) fun k=>.int k) (rDn (tbl n n f) (.ow (rws n (qf f))) [] .no .no .no)=some (.nxt (rDn (tbl n n f) (.ow (rws n (Mc (qf f) (n-1)))) ((sD n (qf f) (n-1)).map stD) c' r' s')):=by
 obtain⟨ρ',⟨c',r',s',q0,q1,q2,rfl⟩,h⟩:=dY (f:=fF (cxN T 60 (k+5)) 60 59 dnS (gk dnO) (bR dnO)) (h:=fun k=>D.int k) (N:=n-1)
  (P:=fun c ρ=>∃ c' r' s',nOw c'=true/\nOw r'=true/\nOw s'=true/\ρ=rDn (tbl n n f) (.ow (rws n (Mc (qf f) c))) ((sD n (qf f) c).map stD) c' r' s')
  (ρ:=rDn (tbl n n f) (.ow (rws n (qf f))) [] .no .no .no) (fun c ρ hc hP=>by
   obtain⟨c',r',s',q0,q1,q2,rfl⟩:=hP;obtain⟨r2,s2,q3,q4,b⟩:=dnIn k (t:=tbl n n f) (l:=sD n (qf f) c) q1 q2 h4 (c:=c) (by omega) (EL.all g h4 (by omega)) (hN.all (by omega)) (F4z (KN h4 (by omega)) (by decide));refine⟨_,⟨.sh (.int c),r2,s2,rfl,q3,q4,rfl⟩,dF (ρ1:=rDn (tbl n n f) (.ow (rws n (Mc (qf f) c))) ((sD n (qf f) c).map stD) (.sh (.int c)) r' s') rfl ?_⟩;have hz:=rz (i:=n-1) (j:=c) (by omega) (by omega);refine lA (ρ:=rDn (tbl n n f) (.ow (rws n (Mc (qf f) c))) ((sD n (qf f) c).map stD) (.sh (.int c)) r' s') (ρ':=rDn (tbl n n f) (.ow (rws n (Mc (qf f) c))) ((sD n (qf f) c).map stD) (.sh (.int c)) r' s') (aW rfl (kI rfl (kI rfl (aW rfl (aW q1 (aW q2 pG)))))) (wR3g (i:=((n-1:Nat):Int)) (j:=(c:Int)) (s := -1) rfl (jk (bD (x:=.int n) (y:=.int 1) (bU (ds:=[tbl n n f]) rfl rfl rfl (aj (xName rfl) aK) Fi) (ao rfl) rfl) (congrArg D.int (by omega))) (xName rfl) (OD (ao rfl)) hz) ?_ cT;rw[Ye (by omega)]
   exact b) ⟨.no,.no,.no,rfl,rfl,rfl,rfl⟩
 exact⟨c',r',s',q0,q1,q2,h⟩
theorem zc(k:Nat)(h1:1<=n)(h4:n<=4)(g:G n (qf f))(hN:Nm n 0 (qf f)):aB T 60 (k+6) "down_steps" [tbl n n f]=some (ssD (sD n (qf f) (n-1))):=by
 obtain⟨c',r',s',q0,q1,q2,h⟩:=dnOu k h1 h4 g hN;refine bO (fd:=aH (top 74)) rfl rfl (X3 (ρ':=[("table",.sh (tbl n n f)),("rows",.no),("steps",.no),("column",.no),("row",.no),("share",.no)]) (ds:=rws n (qf f)) rfl rfl (bU (ds:=[ftq n n (qf f)]) rfl rfl rfl (aj (au rfl (aj (xName rfl) aK) (Oq k h1 h4 h1 h4)) aK) rfl) rfl rfl ?_);refine yK (ρ:=[("table",.sh (tbl n n f)),("rows",.ow (rws n (qf f))),("steps",.no),("column",.no),("row",.no),("share",.no)]) (ρ':=[("table",.sh (tbl n n f)),("rows",.ow (rws n (qf f))),("steps",.no),("column",.no),("row",.no),("share",.no)]) (d:=.lst []) (aW rfl (kI rfl rfl)) rfl (Aa aK rfl) ?_;refine lA (ρ:=rDn (tbl n n f) (.ow (rws n (qf f))) [] .no .no .no) (ρ':=rDn (tbl n n f) (.ow (rws n (qf f))) [] .no .no .no) (aW rfl (kI rfl (kI rfl rfl))) (vK (j:=n-1) rfl (jk (bD (x:=.int n) (y:=.int 1) (bU (ds:=[tbl n n f]) rfl rfl rfl (aj (xName rfl) aK) Fi) (ao rfl) rfl) (congrArg D.int (by omega))) (by omega)) h ?_;exact Ir (ρ':=[("table",.sh (tbl n n f)),("rows",.ow (rws n (Mc (qf f) (n-1)))),("steps",.sh (ssD (sD n (qf f) (n-1)))),("column",c'),("row",r'),("share",s')]) (aW rfl (kI rfl (JN rfl (aW q0 (aW q1 (aW q2 pG)))))) (xName rfl)
end
def d2(f:Nat->Nat->Int)(a b c d:Nat):Int:=f a c*f b d-f a d*f b c
def d3(f:Nat->Nat->Int)(a b c d e g:Nat):Int:=f a d*d2 f b c e g-f a e*d2 f b c d g+f a g*d2 f b c d e
def d4(f:Nat->Nat->Int):Int:=f 0 0*d3 f 1 2 3 1 2 3-f 0 1*d3 f 1 2 3 0 2 3+f 0 2*d3 f 1 2 3 0 1 3-f 0 3*d3 f 1 2 3 0 1 2
theorem DY{m n i:Nat}{f:Nat->Nat->Int}{x:D}:x∈mA m n f i↔∃ s R C,s<i/\R∈subs m (s+1)/\C∈subs n (s+1)/\mnD f R C=x:=by
 unfold mA mS;simp only[List.mem_flatMap,List.mem_map,List.mem_range];constructor
 ·rintro⟨s,hs,R,hR,C,hC,e⟩;exact⟨s,R,C,hs,hR,hC,e⟩
 ·rintro⟨s,R,C,hs,hR,hC,e⟩;exact⟨s,hs,R,hR,C,hC,e⟩
theorem YD:∀ n,n<5->∀ i,i<n->[i]∈subs n 1:=by decide
theorem YC:∀ n,n<5->∀ b,b<n->∀ a,a<b->[a,b]∈subs n 2:=by decide
def aaO(n:Nat):Bool:=(List.range n).all fun c=>(List.range c).all fun b=>(List.range b).all fun a=>(subs n 3).contains [a,b,c]
theorem Jt:∀ n,n<5->aaO n=true:=by decide
theorem YB(n:Nat)(hn:n<5)(c:Nat)(hc:c<n)(b:Nat)(hb:b<c)(a:Nat)(ha:a<b):[a,b,c]∈subs n 3:=by
 have h:=Jt n hn;unfold aaO at h;simp only[M2z,List.mem_range] at h;have:=h c hc b hb a ha;simpa using this
theorem dM1{f:Nat->Nat->Int}{a b:Nat}:dM f [a] [b]=f a b:=by show det 1 _=_;rw[aaM];rfl
theorem dM2{f:Nat->Nat->Int}{a b c d:Nat}:dM f [a,b] [c,d]=d2 f a b c d:=by show det 2 _=_;rw[Oh];rfl
theorem dM3{f:Nat->Nat->Int}{a b c d e g:Nat}:dM f [a,b,c] [d,e,g]=d3 f a b c d e g:=by show det 3 _=_;rw[JQ];rfl
theorem Mv{m n i:Nat}{f:Nat->Nat->Int}{t:D->Bool}{P:Int->Prop}(ht:∀ R C,t (mnD f R C)=true↔P (dM f R C)):(mA m n f i).all t=true↔∀ s R C,s<i->R∈subs m (s+1)->C∈subs n (s+1)->P (dM f R C):=by
 rw[M2z];constructor
 ·intro h s R C hs hR hC
  exact(ht R C).mp (h _ (DY.mpr ⟨s,R,C,hs,hR,hC,rfl⟩))
 ·intro h x hx
  obtain⟨s,R,C,hs,hR,hC,rfl⟩:=DY.mp hx;exact(ht R C).mpr (h s R C hs hR hC)
theorem dM4{f:Nat->Nat->Int}:dM f [0,1,2,3] [0,1,2,3]=d4 f:=by
 show det 4 _=_;rw[det4,JQ,JQ,JQ,JQ];rfl
theorem is_square(k:Nat){m n:Nat}{f:Nat->Nat->Int}(h1:1<=m):aB T 60 (k+1) "is_square" [tbl m n f]=some (.bl (decide (m=n))):=by
 refine bO (fd:=aH (top 16)) rfl rfl (bN (bK (x:=.int m) (y:=.int n) ?_ ?_ ?_))
 ·nofun
 ·nofun
 ·by_cases q:m=n
  ·rw[L3z q];exact uX (by omega)
  ·rw[O2z q];exact sY (by omega)
theorem Ow{n:Nat}{B:Int}{g:Nat->Nat->Int}(hB:B<=100000000000000)(h:Bd n B g):Sm n n g:=fun i j hi hj=>by
 have:=h i j hi hj;unfold small;rw[L3z (by omega),L3z (by omega)];rfl
theorem rN(k:Nat):aB T 60 (k+1) "_law_word" [.exc "NoFit"]=some (.str "no fit"):=by rfl'
theorem Xl{f:Nat->Nat->Int}(R C:List Nat):nb (mnD f R C)=true↔0<=dM f R C:=by
 show decide (0<=dM f R C)=true↔_;simp
theorem cI{x:Int}(h:0<=x):(0:Rat)<=((x:Int):Rat):=Rat.intCast_nonneg.mpr h
section
variable {n:Nat} {f:Nat->Nat->Int}
theorem c2{a b c d:Nat}:m2 (qf f) a b c d=((d2 f a b c d:Int):Rat):=by
 simp only[m2,d2,qf,H3z,F3z]
theorem c3{a b c d e g:Nat}:m3 (qf f) a b c d e g=((d3 f a b c d e g:Int):Rat):=by
 simp only[m3,d3,c2,qf,H3z,F3z,G3z]
theorem Eo(h1:1<=n)(h4:n<=4):dt n (qf f)=((det n f:Int):Rat):=by
 rcases(by omega:n=1\/n=2\/n=3\/n=4) with rfl | rfl | rfl | rfl
 ·rw[aaM];rfl
 ·rw[show det 2 f=d2 f 0 1 0 1 by rw[Oh];rfl,<- c2];rfl
 ·rw[show det 3 f=d3 f 0 1 2 0 1 2 by rw[JQ];rfl,<- c3];rfl
 ·rw[show det 4 f=d4 f from dM4]
  simp only[d4,H3z,F3z,G3z,<- c3];rfl
theorem fj(hg:vf n n f=true){s:Nat}{R C:List Nat}(hs:s<n)(hR:R∈subs n (s+1))(hC:C∈subs n (s+1)):0<=dM f R C :=
 (Mv (P:=fun x=>0<=x) Xl).mp hg s R C (by omega) hR hC
theorem Eh(h1:1<=n)(h4:n<=4)(hg:vf n n f=true)(hd:det n f≠0):G n (qf f) where
 e i j hi hj:=by
  have:=fj hg (s:=0) (by omega) (YD n (by omega) i hi) (YD n (by omega) j hj);rw[dM1] at this;exact cI this
 t r s i j hr hs hi hj:=by
  have:=fj hg (s:=1) (by omega) (YC n (by omega) s hs r hr) (YC n (by omega) j hj i hi);rw[dM2] at this;rw[c2];exact cI this
 h r s t i j k hr hs ht hi hj hk:=by
  have:=fj hg (s:=2) (by omega) (YB n (by omega) t ht s hs r hr) (YB n (by omega) k hk j hj i hi);rw[dM3] at this;rw[c3];exact cI this
 d:=by
  rw[Eo h1 h4]
  have h:0<=det n f:=by
   rcases(by omega:n=1\/n=2\/n=3\/n=4) with rfl | rfl | rfl | rfl
   ·exact fj hg (s:=0) (R:=[0]) (C:=[0]) (by omega) (by decide) (by decide)
   ·exact fj hg (s:=1) (R:=[0,1]) (C:=[0,1]) (by omega) (by decide) (by decide)
   ·exact fj hg (s:=2) (R:=[0,1,2]) (C:=[0,1,2]) (by omega) (by decide) (by decide)
   ·exact fj hg (s:=3) (R:=[0,1,2,3]) (C:=[0,1,2,3]) (by omega) (by decide) (by decide)
  exact Rat.intCast_pos.mpr (by omega)
theorem G.tr{T:Nat->Nat->Rat}(h1:1<=n)(h4:n<=4)(g:G n T):G n fun i j=>T j i where
 e i j hi hj:=g.e j i hj hi
 t r s i j hr hs hi hj:=leE (g.t i j r s hi hj hr hs) (by simp only[m2];grind)
 h r s t i j k hr hs ht hi hj hk:=leE (g.h i j k r s t hi hj hk hr hs ht) (by simp only[m3,m2];grind)
 d:=by
  refine ltE g.d ?_;rcases(by omega:n=1\/n=2\/n=3\/n=4) with rfl | rfl | rfl | rfl
  ·rfl
  ·simp[dt,m2];grind
  ·simp[dt,m2,m3];grind
  ·simp[dt,m2,m3];grind
theorem z7(h:Bd n 3000000 f):Nm n 0 (qf f):=fun i j hi hj=>by
 have:=h i j hi hj;exact⟨by show(f i j).natAbs<=3000000;omega,Q4z 1⟩
end
section
variable {cx:Cxt} {n:Nat} {sc:Scope} {ρ:Rho} {a b:Expr} {p q:Pos}
theorem Fz{m j:Nat}{h:Nat->D}(h1:ev cx n sc ρ a=some (.tup (Ls m h)))(h2:ev cx n sc ρ b=some (.int j))(hj:j<=m):ev cx (n+1) sc ρ (.Subscript a (.Slice none (some b) none q) p)=some (.tup (Ls j h)):=by
 by_cases e:j=m
 ·subst e
  refine xSlW h1 uW (uV h2) ?_;rw[aR];simp[gj];omega
 ·exact Fy h1 h2 (by omega)
end
theorem corner(k:Nat){n s:Nat}{f:Nat->Nat->Int}(h4:n<=4)(hs:s<=n)(hf:Sm n n f):aB T 60 (k+18) "corner_worth" [tbl n n f,.int s]=some (.int (det s f)):=by
 have w:=worth s (k+16-4*s) (f:=f) (by omega) fun i j hi hj=>hf i j (by omega) (by omega);rw[show k+16-4*s+4*s+1=k+17 by omega] at w;refine bO (fd:=aH (top 75)) rfl rfl (bN (au rfl (aj (x:=tbl s s f) (bU rfl rfl rfl (aj (bF rfl (Ac (xs:=Ls s fun i=>row n (f i)) rfl (Fz (m:=n) (h:=fun i=>row n (f i)) (xName rfl) (xName rfl) hs)) (cJ (by omega)) (aL (g:=fun i=>row s (f i)) fun i hi=>bI rfl ?_)) aK) gK) aK) w));exact Fz (m:=n) (h:=fun j=>.int (f i j)) (xName rfl) (xName rfl) hs
def wP:Nat->Nat×Nat
 | 0=>(1,1)
 | k+1=>((wP k).1*(nN k).1,(wP k).2*(nN k).2)
theorem wP_F:∀ k,k<5->(wP k).1<whF:=by decide +kernel
section
variable {n:Nat} {f:Nat->Nat->Int}
theorem aaQ{T:Nat->Nat->Rat}(h:Nm n 0 T):∀ {k:Nat},k<=n->Nq (wP k).1 (wP k).2 (cP T k)
 | 0,_=>⟨Q4z 1,Q4z 1⟩
 | k+1,hk=>(aaQ h (k:=k) (by omega)).mul (h.all (c:=k) (by omega) k k (by omega) (by omega))
theorem zj(h4:n<=4)(g:G n (qf f)){k:Nat}(hk:k<=n):((det k f:Int):Rat)=cP (qf f) k:=by
 rcases O1z k with rfl | h
 ·rfl
 ·have:=aaN h4 g (m:=k) (c:=0) h (by omega)
  rw[<- Eo h (by omega)];simp only[Nat.add_zero,cP,Mc] at this;rw[<- this];grind
theorem Yh(h4:n<=4)(g:G n (qf f))(hN:Nm n 0 (qf f)){k:Nat}(hk:k<=n):(det k f).natAbs<whF:=by
 have:=(aaQ hN hk).1;rw[<- zj h4 g hk] at this;exact N1z this (wP_F k (by omega))
abbrev dS(f:Nat->Nat->Int):Nat->Rat:=fun k=>Mc (qf f) k k k
theorem Xo(k:Nat)(h4:n<=4)(g:G n (qf f))(hN:Nm n 0 (qf f)){p:Nat}(hp:p<n):aB T 60 (k+2) "lowest" [.int (det (p+1) f),.int (det p f)]=some (qD (dS f p)):=by
 have c0:=Fg h4 g (k:=p) (by omega);have e1:=zj h4 g (k:=p) (by omega);have e2:=zj h4 g (k:=p+1) (by omega)
 have nz:det p f≠0:=fun z=>by rw[z] at e1;rw[<- e1] at c0;exact absurd c0 (by decide)
 rw[lowest k nz (Yh h4 g hN (by omega)),JK nz,e1,e2];refine congrArg (fun q=>some (qD q)) ?_;show cP (qf f) p*Mc (qf f) p p p / cP (qf f) p=_
 have:cP (qf f) p≠0:=fun z=>by rw[z] at c0;exact absurd c0 (by decide)
 grind
theorem ne11{q:Rat}:cmpop .NotEq (qD q) (.tup [.int 1,.int 1])=some (.bl (decide (q≠1))):=by
 rw[oNe (by simp[dep,deps]) (by simp[dep,deps])]
 by_cases h:q=1
 ·subst h;rfl
 ·rw[L3z h]
  have:¬ (q.num=1/\(q.den:Int)=1):=fun⟨a,b⟩=>h (Rat.ext a (by show q.den=1;omega))
  simp only[deq,nZ,C4z]
  by_cases a:q.num=1
  ·have b:¬ (q.den:Int)=1:=fun b=>this ⟨a,b⟩
   simp[a,b]
  ·simp[a]
def rSc(t:D)(S:List D)(p s:Sl):Rho:=[("table",.sh t),("steps",.ow S),("place",p),("share",s)]
abbrev scF:Stmt:=bB 76 1
theorem sJ{d:Nat->Rat}:∀ {k:Nat},(sK d k).length<=k
 | 0=>Q4z 0
 | k+1=>by
  have:=sJ (d:=d) (k:=k);rw[sK,K1z]
  split<;>simp<;>omega
theorem Gk(k:Nat)(h4:n<=4)(hf:Sm n n f)(g:G n (qf f))(hN:Nm n 0 (qf f)){p:Nat}(hp:p<n){s:Sl}(hs:nOw s=true):blk (cxN T 60 (k+18)) 60 59 (aH (top 76)).sc (bR scF) (rSc (tbl n n f) ((sK (dS f) p).map stD) (.sh (.int p)) s)=some (.nxt (rSc (tbl n n f) ((sK (dS f) (p+1)).map stD) (.sh (.int p)) (.sh (qD (dS f p))))):=by
 have c1:=corner k h4 (s:=p+1) (by omega) hf;have c0:=corner k h4 (s:=p) (by omega) hf;have hl:=sJ (d:=dS f) (k:=p);refine eH (ρ':=rSc (tbl n n f) ((sK (dS f) p).map stD) (.sh (.int p)) s) (d:=qD (dS f p)) (aW rfl (kI rfl (aW rfl (aW hs pG)))) rfl rfl (au rfl (aj (au rfl (aj (xName rfl) (aj (jk (bD (x:=.int p) (y:=.int 1) (xName rfl) (ao rfl) rfl) (show D.int ((p:Int)+1)=.int ((p+1:Nat):Int) from congrArg D.int (by omega))) aK)) c1) (aj (au rfl (aj (xName rfl) (aj (xName rfl) aK)) c0) aK)) (Xo (k+16) h4 g hN hp)) ?_;have cv:∀ S,ev (cxN T 60 (k+18)) 60 (aH (top 76)).sc (rSc (tbl n n f) S (.sh (.int p)) (.sh (qD (dS f p)))) (ifX ((bR scF).getD 1 pss))=some (.bl (decide (dS f p≠1))):=fun S=>bK (x:=qD (dS f p)) (y:=.tup [.int 1,.int 1]) (xName rfl) (qj (aj (ao rfl) (aj (ao rfl) aK)) rfl) ne11;have fz:∀ {e:Expr},dX 60 "steps" e=false->frz 60 e (rSc (tbl n n f) ((sK (dS f) p).map stD) (.sh (.int p)) (.sh (qD (dS f p))))=rSc (tbl n n f) ((sK (dS f) p).map stD) (.sh (.int p)) (.sh (qD (dS f p))):=fun h=>aW rfl (kI h rfl)
 by_cases z:dS f p=1
 ·rw[show sK (dS f) (p+1)=sK (dS f) p by rw[sK,K5z z,S2z]]
  exact JM (ρ:=rSc (tbl n n f) ((sK (dS f) p).map stD) (.sh (.int p)) (.sh (qD (dS f p)))) (fz rfl) ((cv _).trans (by rw[O2z (by simpa using z)])) cT
 ·rw[show sK (dS f) (p+1)=sK (dS f) p++[⟨2,p,dS f p⟩] by rw[sK,L5z z]]
  refine vg (ρ:=rSc (tbl n n f) ((sK (dS f) p).map stD) (.sh (.int p)) (.sh (qD (dS f p)))) (ρ2:=rSc (tbl n n f) ((sK (dS f) p++[(⟨2,p,dS f p⟩:Stp)]).map stD) (.sh (.int p)) (.sh (qD (dS f p)))) (fz rfl) ((cv _).trans (by rw[L3z z])) ?_ cT
  have e0:(sK (dS f) p++[(⟨2,p,dS f p⟩:Stp)]).map stD=(sK (dS f) p).map stD++[stD ⟨2,p,dS f p⟩]:=by simp
  rw[e0];exact Cg (ρ:=rSc (tbl n n f) ((sK (dS f) p).map stD) (.sh (.int p)) (.sh (qD (dS f p)))) (ρ':=rSc (tbl n n f) ((sK (dS f) p).map stD) (.sh (.int p)) (.sh (qD (dS f p)))) (d:=stD ⟨2,p,dS f p⟩) (ds:=(sK (dS f) p).map stD) (fz rfl) rfl rfl rfl (gM (by rw[U2z];omega)) (qj (ds:=[.str "scale",.int p,qD (dS f p)]) (aj (xName rfl) (aj (xName rfl) (aj (xName rfl) aK))) rfl) cT
theorem Bb(k:Nat)(h1:1<=n)(h4:n<=4)(hf:Sm n n f)(g:G n (qf f))(hN:Nm n 0 (qf f)):aB T 60 (k+19) "scale_steps" [tbl n n f]=some (ssD (sK (dS f) n)):=by
 obtain⟨ρ',⟨p',s',q0,q1,rfl⟩,h⟩:=dY (f:=fF (cxN T 60 (k+18)) 60 59 (aH (top 76)).sc (gk scF) (bR scF)) (h:=fun k=>D.int k) (N:=n)
  (P:=fun p ρ=>∃ p' s',nOw p'=true/\nOw s'=true/\ρ=rSc (tbl n n f) ((sK (dS f) p).map stD) p' s') (ρ:=rSc (tbl n n f) [] .no .no) (fun p ρ hp hP=>by
   obtain⟨p',s',q0,q1,rfl⟩:=hP
   exact⟨_,⟨_,_,rfl,rfl,rfl⟩,dF (ρ1:=rSc (tbl n n f) ((sK (dS f) p).map stD) (.sh (.int p)) s') rfl (Gk k h4 hf g hN hp q1)⟩) ⟨.no,.no,rfl,rfl,rfl⟩
 refine bO (fd:=aH (top 76)) rfl rfl (yK (ρ':=[("table",.sh (tbl n n f)),("steps",.no),("place",.no),("share",.no)]) (d:=.lst []) rfl rfl (Aa aK rfl) ?_);refine lA (ρ:=rSc (tbl n n f) [] .no .no) (ρ':=rSc (tbl n n f) [] .no .no) (aW rfl (kI rfl rfl)) (vK (j:=n) rfl (bU (ds:=[tbl n n f]) rfl rfl rfl (aj (xName rfl) aK) Fi) (by omega)) h ?_;exact Ir (ρ':=[("table",.sh (tbl n n f)),("steps",.sh (ssD (sK (dS f) n))),("place",p'),("share",s')]) (aW rfl (JN rfl (aW q0 (aW q1 pG)))) (xName rfl)
end
def twD:D:=L2.Pn [("up","down"),("down","up"),("scale","scale")]
theorem Qd:∀ w,w<3->JG twD (.str (wS w))=some (.str (wS (tW w)))
 | 0,_=>by rfl'
 | 1,_=>by rfl'
 | 2,_=>by rfl'
theorem FQ(k:Nat)(hl:∀ x∈l,x.w<3)(hz:l.length<=100):aB T 60 (k+1) "turned_steps" [ssD l]=some (ssD (tL l)):=by
 refine bO (fd:=aH (top 72)) rfl rfl (CW (ρ:=[("steps",.sh (ssD l))]) rfl ?_)
 have e1:(l.map stD).reverse=l.reverse.map stD:=by rw[List.map_reverse]
 have e2:ssD (tL l)=.lst (l.reverse.map fun x=>stD (tS x)):=by simp[ssD,tL]
 rw[e2];refine bF (l:=l.reverse.map stD) rfl (e1▸wRvI (xs:=l.map stD) rfl (xName rfl)) (gM (by rw[U2z,B1z];omega)) (j7 (h:=stD) (g:=fun x=>stD (tS x)) fun x hx=>?_);exact bI rfl (qj (ds:=[.str (wS (tW x.w)),.int (x.p:Int),qD x.s]) (aj (PK (x:=twD) (y:=.str (wS x.w)) (xName rfl) (xName rfl) (Qd x.w (hl x (List.mem_reverse.mp hx)))) (aj (xName rfl) (aj (xName rfl) aK))) rfl)
section
variable {n c:Nat} {f:Nat->Nat->Int} {M T':Nat->Nat->Rat}
theorem okC(h4:n<=4)(e:EL n c M)(hN:Nm n c M):∀ {k:Nat},k+c<n->∀ x∈sC n c M k,okS n x
 | k+1,hk,x,hx=>by
  rcases D3z.mp hx with hx | hx
  ·exact okC h4 e hN (by omega) x hx
  ·unfold sO at hx
   split at hx
   ·cases hx
   ·cases List.mem_singleton.mp hx
    obtain⟨k1,k2,k3,k4,k5⟩:=Ys c (by omega);exact⟨by simp only[okP];exact L3z (by omega),e.nn h4 (by omega) (by omega),fun h=>absurd (show 1=2 from h) (by decide),(hN.sh (by omega) (by omega)).sq k5 k5⟩
theorem okD(h4:n<=4)(g:G n T')(hN:Nm n 0 T'):∀ {c:Nat},c<n->∀ x∈sD n T' c,okS n x
 | c+1,hc,x,hx=>by
  rcases D3z.mp hx with hx | hx
  ·exact okD h4 g hN (by omega) x hx
  ·exact okC h4 (EL.all g h4 (by omega)) (hN.all (by omega)) (by omega) x hx
theorem okK(h4:n<=4)(g:G n T')(hN:Nm n 0 T'):∀ {k:Nat},k<=n->∀ x∈sK (fun k=>Mc T' k k k) k,okS n x
 | k+1,hk,x,hx=>by
  rcases D3z.mp hx with hx | hx
  ·exact okK h4 g hN (by omega) x hx
  ·split at hx
   ·cases hx
   ·cases List.mem_singleton.mp hx
    obtain⟨k1,k2,k3,k4,k5⟩:=Ys k (by omega);have p:=(EL.all g h4 (c:=k) (by omega)).dg h4 (by omega);exact⟨by simp only[okP];exact L3z (by omega),N4z p,fun _=>p,(hN.all (c:=k) (by omega) k k (by omega) (by omega)).sq k1 k2⟩
theorem okT(h:∀ x∈l,okS n x)(hw:∀ x∈l,x.w=1):∀ x∈tL l,okS n x/\x.w=0:=fun x hx=>by
 obtain⟨y,hy,rfl⟩:=List.mem_map.mp hx;have hy:=List.mem_reverse.mp hy;have a:=h y hy;have b:=hw y hy;obtain⟨w,p,s⟩:=y;cases (show w=1 from b);exact⟨⟨a.pl,a.nn,fun h=>absurd (show 0=2 from h) (by decide),a.sq⟩,rfl⟩
theorem Rb(h1:1<=n)(h4:n<=4)(g:G n T')(hN:Nm n 0 T')(hN':Nm n 0 fun i j=>T' j i):Sml n (tk n T') where
 ok x hx:=by
  rcases D3z.mp hx with hx | hx
  ·rcases D3z.mp hx with hx | hx
   ·exact okD h4 g hN (by omega) x hx
   ·exact okK h4 g hN (Q4z n) x hx
  ·exact(okT (okD h4 (g.tr h1 h4) hN' (by omega)) Gm x hx).1
 h:=Nx h1 h4 hN hN'
theorem oE(h4:n<=4)(h1:1<=n):(tk n T').length<=28:=by
 have a:=KN (n:=n) (c:=n-1) (M:=T') h4 (by omega);have b:=KN (n:=n) (c:=n-1) (M:=fun i j=>T' j i) h4 (by omega);have d:=sJ (d:=fun k=>Mc T' k k k) (k:=n);simp only[tk,K1z,tL,U2z,B1z];omega
theorem HF(k:Nat)(h1:1<=n):aB T 60 (k+2) "need_square" [tbl n n f]=some .non:=by
 have sq:=is_square k (m:=n) (n:=n) (f:=f) h1;rw[L3z rfl] at sq;exact uE (fd:=aH (top 19)) rfl rfl (lu (dG (au rfl (aj (xName rfl) aK) sq)) cT)
def vC(n:Nat)(f:Nat->Nat->Int):Bool:=vf n n f&&decide (det n f≠0)
theorem zF(k:Nat)(t:Tb n n f):aB T 60 (k+23) "can_be_taken_apart" [tbl n n f]=some (.bl (vC n f)):=by
 have h4:=t.m4;have w:=worth n (k+21-4*n) h4 t.sm;rw[show k+21-4*n+4*n+1=k+22 by omega] at w;have gd:=is_good k t;refine bO (fd:=aH (top 77)) rfl rfl (yH rfl (d:=.non) (au rfl (aj (xName rfl) aK) (need_table (k+18) t.m1 t.m4 t.n1 t.n4)) (yH rfl (d:=.non) (au rfl (aj (xName rfl) aK) (HF (k+20) t.m1)) (bN ?_)));unfold vC
 cases q:vf n n f with
 | false=>rw[q] at gd;rw[K3z];exact bL (oA (au rfl (aj (xName rfl) aK) gd))
 | true =>
  rw[q] at gd;rw[A4z];exact bL (jm (au rfl (aj (xName rfl) aK) gd) (iW (bK (x:=.int (det n f)) (y:=.int 0) (au rfl (aj (xName rfl) aK) w) (ao rfl) O6)))
theorem aaT{a b:List Stp}(h:a.length+b.length<=1000):binop .Add (ssD a) (ssD b)=some (ssD (a++b)):=by
 show(if szl ((a.map stD).length+(b.map stD).length)=true then some (D.lst (a.map stD++b.map stD)) else none)=_;rw[K5z (gM (by rw[U2z,U2z];omega)),<- C3z]
theorem Bd.tr{B:Int}(h:Bd n B f):Bd n B fun i j=>f j i:=fun i j hi hj=>h j i hj hi
theorem Qg(k:Nat)(t:Tb n n f)(hB:Bd n 3000000 f)(hc:vC n f=true):aB T 60 (k+24) "taken_apart" [tbl n n f]=some (ssD (tk n (qf f))):=by
 have cn:=zF k t;rw[hc] at cn;unfold vC at hc;simp only[D2z,W1z] at hc;have g:=Eh t.m1 t.m4 hc.1 hc.2;have g':G n (qf fun i j=>f j i):=g.tr t.m1 t.m4;have d1:=zc (k+17) t.m1 t.m4 g (z7 hB);have d2:=zc (k+17) t.m1 t.m4 g' (z7 hB.tr);have s1:=Bb (k+4) t.m1 t.m4 t.sm g (z7 hB);have l1:=KN (n:=n) (c:=n-1) (M:=qf f) t.m4 (by have:=t.m1;omega);have l2:=KN (n:=n) (c:=n-1) (M:=qf fun i j=>f j i) t.m4 (by have:=t.m1;omega);have l3:=sJ (d:=dS f) (k:=n);have h4:=t.m4;have tn:=FQ (k+22) (l:=sD n (qf fun i j=>f j i) (n-1)) (fun x hx=>by rw[Gm x hx];decide) (by omega)
 have l4:(tL (sD n (qf fun i j=>f j i) (n-1))).length<=12:=by simp only[tL,U2z,B1z];exact l2
 refine bO (fd:=aH (top 78)) rfl rfl (lu (dG (au rfl (aj (xName rfl) aK) cn)) (bN ?_));refine bD (x:=ssD (sD n (qf f) (n-1)++sK (dS f) n)) (y:=ssD (tL (sD n (qf fun i j=>f j i) (n-1)))) (bD (x:=ssD (sD n (qf f) (n-1))) (y:=ssD (sK (dS f) n)) (au rfl (aj (xName rfl) aK) d1) (au rfl (aj (xName rfl) aK) s1) (aaT (by omega))) (au rfl (aj (au rfl (aj (au rfl (aj (xName rfl) aK) (turned (k+18) t.m1 t.m4 t.m1 t.m4)) aK) d2) aK) tn) (aaT (by rw[K1z];omega))
theorem Qh(k:Nat)(t:Tb n n f)(hc:vC n f=false):jw T 60 (k+24) "taken_apart" [tbl n n f]=some "NoSteps"/\aB T 60 (k+24) "taken_apart" [tbl n n f]=none:=by
 have cn:=zF k t;rw[hc] at cn;exact uD (fd:=aH (top 78)) rfl rfl (lX (ji (au rfl (aj (xName rfl) aK) cn)) rfl)
end
theorem Fe(k:Nat){d:D}(h:dep d<1000)(hf:fD d=false):jw T 60 (k+5) "can_be_taken_apart" [d]=some "NoTable"/\aB T 60 (k+5) "can_be_taken_apart" [d]=none:=by
 obtain⟨q1,q2⟩:=HN k h hf;exact uD (fd:=aH (top 77)) rfl rfl (JX rfl (iY rfl (aj (xName rfl) aK) q1 q2))
theorem zG(k:Nat){m n:Nat}{f:Nat->Nat->Int}(h1:1<=m)(h2:m<=4)(h3:1<=n)(h4:n<=4)(hn:m≠n):jw T 60 (k+5) "can_be_taken_apart" [tbl m n f]=some "NoFit"/\aB T 60 (k+5) "can_be_taken_apart" [tbl m n f]=none:=by
 have sq:=is_square (k+2) (m:=m) (n:=n) (f:=f) h1;rw[O2z hn] at sq
 have ns:jw T 60 (k+4) "need_square" [tbl m n f]=some "NoFit"/\aB T 60 (k+4) "need_square" [tbl m n f]=none :=
  uD (fd:=aH (top 19)) rfl rfl (lX (ji (au rfl (aj (xName rfl) aK) sq)) rfl)
 exact uD (fd:=aH (top 77)) rfl rfl (Px rfl (d:=.non) (au rfl (aj (xName rfl) aK) (need_table k h1 h2 h3 h4)) (JX rfl (iY rfl (aj (xName rfl) aK) ns.1 ns.2)))
theorem zV(k:Nat){d:D}{c:Str}(h:jw T 60 k "can_be_taken_apart" [d]=some c/\aB T 60 k "can_be_taken_apart" [d]=none):jw T 60 (k+1) "taken_apart" [d]=some c/\aB T 60 (k+1) "taken_apart" [d]=none :=
 uD (fd:=aH (top 78)) rfl rfl (PJ (iY rfl (aj (xName rfl) aK) h.1 h.2) (iY rfl (aj (xName rfl) aK) h.1 h.2).1)
def K6(w:Int)(b:D)(kept ans e:Sl):Rho:=[("_law_what",.sh (.int w)),("_law_table_here",.sh b),("_law_kept",kept),("_law_answer",ans),("e",e)]
theorem Om{w:Int}{b:D}:fG (K6 w b (.sh .non) (.sh .non) .no)=true:=rfl
theorem FJ(k:Nat):aB T 60 (k+1) "_law_word" [.exc "NoSteps"]=some (.str "no steps"):=by rfl'
def fnm(w:Int):Str:=if w=0 then "taken_apart" else "can_be_taken_apart"
theorem aaL(k:Nat){w:Int}{b y:D}(hw:w=0\/w=1)(h:aB T 60 k (fnm w) [b]=some y):aB T 60 (k+1) "_law_do" [.int w,b]=some y:=by
 refine bO (fd:=aH (top 95)) rfl rfl (iw rfl (d:=.non) (ao rfl) (iw rfl (d:=.non) (ao rfl) (XR (fl1:=.nxt (K6 w b (.sh .non) (.sh y) .no)) rfl (eH (d:=y) (ρ':=K6 w b (.sh .non) (.sh .non) .no) rfl rfl rfl ?_ rfl) (m7 (fl1:=.ret y) (bK (x:=.non) (y:=.non) (xName rfl) (ao rfl) rfl) (bN (xName rfl)) rfl))));rcases hw with rfl | rfl
 ·exact J4 (bK (x:=.int 0) (y:=.int 0) (xName rfl) (ao rfl) rfl) (au rfl (aj (x:=b) (xName rfl) aK) h)
 ·exact J6 (bK (x:=.int 1) (y:=.int 0) (xName rfl) (ao rfl) rfl) (au rfl (aj (x:=b) (xName rfl) aK) h)
theorem Oe(k:Nat){w:Int}{b:D}(hw:w=0\/w=1)(hc:cn="NoFit"\/cn="NoTable"\/cn="NoSteps")(hwd:aB T 60 k "_law_word" [.exc cn]=some (.str wd))(h:jw T 60 k (fnm w) [b]=some cn/\aB T 60 k (fnm w) [b]=none):aB T 60 (k+1) "_law_do" [.int w,b]=some (.str wd):=by
 refine bO (fd:=aH (top 95)) rfl rfl (iw rfl (d:=.non) (ao rfl) (iw rfl (d:=.non) (ao rfl) (XQ (ρ:=K6 w b (.sh .non) (.sh .non) .no) (ρ':=K6 w b (.sh .non) (.sh .non) .no) (c':=cn) rfl (KQ (cx:=cxN T 60 k) Om rfl ?_ ?_) ?_ (lu (bK (x:=.exc cn) (y:=.non) (xName rfl) (ao rfl) rfl) (bN (au rfl (aj (x:=.exc cn) (xName rfl) aK) hwd))))))
 ·rcases hw with rfl | rfl
  ·exact(J3 (cx:=cxN T 60 k) (bK (x:=.int 0) (y:=.int 0) (xName rfl) (ao rfl) rfl) (iY (cx:=cxN T 60 k) rfl (aj (x:=b) (xName rfl) aK) h.1 h.2)).2
  ·exact(J5 (cx:=cxN T 60 k) (bK (x:=.int 1) (y:=.int 0) (xName rfl) (ao rfl) rfl) (iY (cx:=cxN T 60 k) rfl (aj (x:=b) (xName rfl) aK) h.1 h.2)).2
 ·rcases hw with rfl | rfl
  ·exact J3 (cx:={ cxN T 60 k with rs:=false }) (bK (x:=.int 0) (y:=.int 0) (xName rfl) (ao rfl) rfl) (iY (cx:={ cxN T 60 k with rs:=false }) rfl (aj (x:=b) (xName rfl) aK) h.1 h.2)
  ·exact J5 (cx:={ cxN T 60 k with rs:=false }) (bK (x:=.int 1) (y:=.int 0) (xName rfl) (ao rfl) rfl) (iY (cx:={ cxN T 60 k with rs:=false }) rfl (aj (x:=b) (xName rfl) aK) h.1 h.2)
 ·rcases hc with rfl | rfl | rfl<;>rfl
def Gs(ns:List Int)(N tb pl ro du to wo ot wi ba:Sl):Rho:=[("_law_script",.sh (scr ns)),("_law_many",N),("_law_table_here",tb),("_law_place",pl),("_law_rows",ro),("_law_due",du),("_law_told",to),("_law_words",wo),("_law_others",ot),("_law_wide",wi),("_law_bad",ba)]
abbrev bdy(i:Nat):List Stmt:=(aH (top 96)).body.drop i
abbrev lSc:Scope:=(aH (top 96)).sc
abbrev sE(i:Nat):Expr:=asV (bB 96 i)
abbrev nI(n:Nat):Sl:=.sh (.int n)
abbrev sI(ns:List Int)(n:Nat)(F:Nat->Nat->Int)(pl ro:Sl):Rho:=Gs ns (nI n) (.sh (tbl n n F)) pl ro .no .no .no .no .no .no
theorem cmI{ns:List Int}{n:Nat}(h1:nOw pl=true)(h2:nOw ro=true):fG (sI ns n F pl ro)=true:=aO rfl (aO rfl (aO rfl (aO h1 (aO h2 rfl))))
abbrev in4(i:Nat):List Stmt:=(ifS (bB 96 4)).drop i
def sl1(v w:Nat->Int)(i p j:Nat):Int:=if j=p then v p else if p<i/\j=p+1 then w p else 0
abbrev slR(v w:Nat->Int)(i p:Nat):List D:=Ls (p+5) fun j=>.int (sl1 v w i p j)
abbrev slD(n:Nat)(v w:Nat->Int)(i:Nat):List (List D):=Ls n (slR v w i)
theorem mulL:∀ p:Nat,p<4->binop .Mult (.lst [.int 0]) (.int p)=some (.lst (List.replicate p (.int 0)))
 | 0,_=>rfl
 | 1,_=>rfl
 | 2,_=>rfl
 | 3,_=>rfl
theorem addV(x:Int):∀ p:Nat,p<4->binop .Add (.lst (List.replicate p (.int 0))) (.lst [.int x])=some (.lst (List.replicate p (.int 0)++[.int x]))
 | 0,_=>rfl
 | 1,_=>rfl
 | 2,_=>rfl
 | 3,_=>rfl
theorem addW(v w:Nat->Int):∀ p:Nat,p<4->binop .Add (.lst (List.replicate p (.int 0)++[.int (v p)])) (.lst [.int 0,.int 0,.int 0,.int 0])=some (.lst (slR v w 0 p))
 | 0,_=>rfl
 | 1,_=>rfl
 | 2,_=>rfl
 | 3,_=>rfl
theorem Xn{n:Nat}{g:Nat->List D}:xU (.lst (Ls n fun i=>.lst (g i)))=some (Ls n g):=by
 show Ae (Ls n fun i=>D.lst (g i))=_;rw[<- lU (h:=g) (f:=D.lst),tH]
abbrev vV(ns:List Int):Nat->Int:=fun p=>((1+pickN ns (300+p) 3:Nat):Int)
abbrev wV(ns:List Int):Nat->Int:=fun p=>((pickN ns (310+p) 3:Nat):Int)
section
variable {ns:List Int} {n:Nat} {F:Nat->Nat->Int}
theorem KY(n4:n<=4):ev (cxN T 60 39) 60 lSc (sI ns n F .no .no) (asV ((ifS (bB 96 4)).getD 0 pss))=some (.lst (Ls n fun p=>.lst (slR (vV ns) (wV ns) 0 p))):=by
 refine bF rfl (vK (j:=n) rfl (xName rfl) (by omega)) (cJ (by omega)) (aL (g:=fun p=>.lst (slR (vV ns) (wV ns) 0 p)) fun p hp=>bI rfl ?_);have pk:=Lj 37 ns (300+p) (many:=3) (by omega) (i:=300+(p:Int)) (by omega) (m:=3) rfl;refine bD (x:=.lst (List.replicate p (.int 0)++[.int (vV ns p)])) (y:=.lst [.int 0,.int 0,.int 0,.int 0]) (bD (x:=.lst (List.replicate p (.int 0))) (y:=.lst [.int (vV ns p)]) (bD (x:=.lst [.int 0]) (y:=.int p) (Aa (aj (ao rfl) aK) rfl) (xName rfl) (mulL p (by omega))) (Aa (aj (jk (bD (x:=.int 1) (y:=.int ((pickN ns (300+p) 3:Nat):Int)) (ao rfl) (au rfl (aj (x:=scr ns) (xName rfl) (aj (bD (x:=.int 300) (y:=.int p) (ao rfl) (xName rfl) rfl) (aj (ao rfl) aK))) pk) rfl) (congrArg D.int (show(1:Int)+((pickN ns (300+p) 3:Nat):Int)=((1+pickN ns (300+p) 3:Nat):Int) by omega))) aK) rfl) (addV _ p (by omega))) (bD (x:=.lst [.int 0]) (y:=.int 4) (Aa (aj (ao rfl) aK) rfl) (ao rfl) rfl) (addW (vV ns) (wV ns) p (by omega))
theorem fzk{e:Expr}{dss:List (List D)}(h:nOw pl=true)(hm:dX 60 "_law_rows" e=false):frz 60 e (sI ns n F pl (.oo dss))=sI ns n F pl (.oo dss):=aW rfl (aW rfl (aW rfl (aW h (Iu hm rfl))))
theorem KD{i:Nat}(hi:i+1<n):(slD n v w i).set i ((slR v w i i).set (i+1) (.int (w i)))=slD n v w (i+1):=by
 rw[qe];refine dj fun p hp=>?_;split
 ·rename_i e
  subst e;rw[qe];refine dj fun j hj=>?_;unfold sl1
  by_cases e:j=p+1
  ·subst e
   rw[K5z rfl,L5z (by omega),K5z (by omega)]
  ·rw[L5z e]
   by_cases e2:j=p
   ·rw[K5z e2,K5z e2]
   ·rw[L5z e2,L5z e2,L5z (by omega),L5z (by omega)]
 ·refine dj fun j hj=>?_
  unfold sl1
  by_cases e2:j=p
  ·rw[K5z e2,K5z e2]
  ·rw[L5z e2,L5z e2]
   by_cases q:p<i/\j=p+1
   ·rw[K5z q,K5z (by omega)]
   ·rw[L5z q,L5z (by omega)]
abbrev slF:Stmt:=(ifS (bB 96 4)).getD 1 pss
theorem Gq(n1:1<=n)(n4:n<=4):bV (fF (cxN T 60 39) 60 58 lSc (Af slF) (rC slF)) (Ls (n-1) fun k=>.int k) (sI ns n F (kS 0) (.oo (slD n (vV ns) (wV ns) 0)))=some (.nxt (sI ns n F (kS (n-1)) (.oo (slD n (vV ns) (wV ns) (n-1))))):=by
 refine fZ (R:=fun i=>sI ns n F (kS i) (.oo (slD n (vV ns) (wV ns) i))) fun i hi=>?_;have pk:=Lj 37 ns (310+i) (many:=3) (by omega) (i:=310+(i:Int)) (by omega) (m:=3) rfl;refine dF (ρ1:=sI ns n F (.sh (.int i)) (.oo (slD n (vV ns) (wV ns) i))) rfl ?_;refine yI (ρ:=sI ns n F (.sh (.int i)) (.oo (slD n (vV ns) (wV ns) i))) (ρ1:=sI ns n F (.sh (.int i)) (.oo (slD n (vV ns) (wV ns) i))) (ρ2:=sI ns n F (.sh (.int i)) (.oo (slD n (vV ns) (wV ns) i))) (ρ3:=sI ns n F (.sh (.int i)) (.oo (slD n (vV ns) (wV ns) i))) (d:=.int (wV ns i)) (dss:=slD n (vV ns) (wV ns) i) (ds:=slR (vV ns) (wV ns) i i) (j1:=(i:Int)) (j2:=((i+1:Nat):Int)) (n1:=i) (n2:=i+1) (fzk rfl rfl) (fzk rfl rfl) (fzk rfl rfl) rfl rfl ?_ (xName rfl) (by rw[aR];exact gG (by omega)) (cB (by omega)) ?_ (by rw[aR];exact gG (by omega)) rfl ?_
 ·exact au rfl (aj (x:=scr ns) (xName rfl) (aj (bD (x:=.int 310) (y:=.int i) (ao rfl) (xName rfl) rfl) (aj (ao rfl) aK))) pk
 ·exact jk (bD (x:=.int i) (y:=.int 1) (xName rfl) (ao rfl) rfl) (congrArg D.int (by omega))
 ·rw[KD (by omega)]
  exact cT
theorem JL(i:Nat):nOw (kS i)=true:=by cases i<;>rfl
abbrev sF4(ns:List Int)(n:Nat):Nat->Nat->Int:=fun p j=>sl1 (vV ns) (wV ns) (n-1) p j
theorem Yj(n4:n<=4)(hr:ro=.lst (Ls n fun p=>.lst (slR (vV ns) (wV ns) (n-1) p))):ev (cxN T 60 39) 60 lSc (sI ns n F pl (.sh ro)) (asV ((ifS (bB 96 4)).getD 2 pss))=some (tbl n n (sF4 ns n)):=by
 subst hr;refine bU rfl rfl rfl (aj (bF rfl (wSq (x:=.lst (Ls n fun p=>.lst (slR (vV ns) (wV ns) (n-1) p))) rfl (xName rfl) rfl) (cJ (by omega)) (aL (g:=fun p=>row n (sF4 ns n p)) fun p hp=>bI rfl ?_)) aK) gK;refine bU rfl rfl rfl (aj (x:=.lst (Ls n fun j=>.int (sF4 ns n p j))) ?_ aK) gK;refine jk (xSlL (us:=slR (vV ns) (wV ns) (n-1) p) (xName rfl) uW (uV (xName rfl))) ?_;exact congrArg D.lst (Eu (by omega))
theorem Qf(n4:n<=4):ev (cxN T 60 39) 60 lSc (sI ns n F pl ro) (asV ((ifS ((ifS (bB 96 4)).getD 3 pss)).getD 0 pss))=some (tbl n n fun i j=>F j i):=by
 refine bU rfl rfl rfl (aj (bF rfl (vK (j:=n) rfl (xName rfl) (by omega)) (cJ (by omega)) (aL (g:=fun i=>row n fun j=>F j i) fun i hi=>bI rfl ?_)) aK) gK;refine bU rfl rfl rfl (aj (bF rfl (Ac (xs:=Ls n fun i=>row n (F i)) rfl (xName rfl)) (cJ (by omega)) (aL (g:=fun j=>.int (F j i)) fun j hj=>bI rfl ?_)) aK) gK;exact vQ (m:=n) (h:=fun i=>.int (F j i)) (xName rfl) (xName rfl) hi rfl rfl
theorem Dl:Bd n 3 (sF4 ns n):=fun i j _ _=>by
 have a:=cG (ns:=ns) (k:=300+i) (many:=3) (by omega);have b:=cG (ns:=ns) (k:=310+i) (many:=3) (by omega);unfold sF4 sl1;split
 ·show -3<=((1+pickN ns (300+i) 3:Nat):Int)/\((1+pickN ns (300+i) 3:Nat):Int)<=3
  omega
 ·split
  ·show -3<=((pickN ns (310+i) 3:Nat):Int)/\((pickN ns (310+i) 3:Nat):Int)<=3
   omega
  ·omega
theorem i4(n1:1<=n)(n4:n<=4):∃ (G':Nat->Nat->Int) (pl ro:Sl),nOw pl=true/\nOw ro=true/\Bd n 3 G'/\blk (cxN T 60 39) 60 59 lSc (in4 0) (sI ns n F .no .no)=some (.nxt (sI ns n G' pl ro)):=by
 have p5:=pick 37 ns 5 (many:=2) (by omega)
 have fin:∀ {G':Nat->Nat->Int} {fl:Fl},blk (cxN T 60 39) 60 59 lSc (in4 3) (sI ns n (sF4 ns n) (kS (n-1)) (.sh (.lst (Ls n fun p=>.lst (slR (vV ns) (wV ns) (n-1) p)))))=some fl->blk (cxN T 60 39) 60 59 lSc (in4 0) (sI ns n F .no .no)=some fl:=fun {G' fl} hfin=>by
  refine yJ (ρ':=sI ns n F .no .no) (dss:=slD n (vV ns) (wV ns) 0) (cU (cmI rfl rfl)) rfl (KY n4) Xn rfl ?_;refine lA (ρ:=sI ns n F (kS 0) (.oo (slD n (vV ns) (wV ns) 0))) (ρ':=sI ns n F (kS 0) (.oo (slD n (vV ns) (wV ns) 0))) (fzk rfl rfl) (vK (j:=n-1) rfl (jk (bD (x:=.int n) (y:=.int 1) (xName rfl) (ao rfl) rfl) (congrArg D.int (by omega))) (by omega)) (Gq n1 n4) ?_
  have e0:D.lst ((slD n (vV ns) (wV ns) (n-1)).map D.lst)=.lst (Ls n fun p=>.lst (slR (vV ns) (wV ns) (n-1) p)):=by rw[lU]
  have hf:=aW (y:="_law_script") (s:=.sh (scr ns)) rfl (aW (y:="_law_many") (s:=nI n) rfl (aW (y:="_law_table_here") (s:=.sh (tbl n n F)) rfl (aW (y:="_law_place") (JL (n-1)) (NK (F:=60) (e:=asV ((ifS (bB 96 4)).getD 2 pss)) (y:="_law_rows") (dss:=slD n (vV ns) (wV ns) (n-1)) (ρ:=[("_law_due",.no),("_law_told",.no),("_law_words",.no),("_law_others",.no),("_law_wide",.no),("_law_bad",.no)]) rfl rfl))));rw[e0] at hf;exact eH (d:=tbl n n (sF4 ns n)) hf rfl rfl (Yj n4 rfl) hfin
 by_cases q:pickN ns 5 2=0
 ·refine⟨fun i j=>sF4 ns n j i,kS (n-1),_,JL _,rfl,fun i j hi hj=>Dl j i hj hi,fin (G':=F) (vg (ρ':=sI ns n (sF4 ns n) (kS (n-1)) (.sh (.lst (Ls n fun p=>.lst (slR (vV ns) (wV ns) (n-1) p))))) (cU (cmI (JL _) rfl)) (bK (x:=.int ((pickN ns 5 2:Nat):Int)) (y:=.int 0) (au rfl (aj (x:=scr ns) (xName rfl) (aj (ao rfl) (aj (ao rfl) aK))) p5) (ao rfl) (uX (by omega))) (pU (cmI (JL _) rfl) rfl rfl (Qf n4) cT) cT)⟩
 ·exact⟨sF4 ns n,kS (n-1),_,JL _,rfl,Dl,fin (G':=F) (JM (ρ':=sI ns n (sF4 ns n) (kS (n-1)) (.sh (.lst (Ls n fun p=>.lst (slR (vV ns) (wV ns) (n-1) p))))) (cU (cmI (JL _) rfl)) (bK (x:=.int ((pickN ns 5 2:Nat):Int)) (y:=.int 0) (au rfl (aj (x:=scr ns) (xName rfl) (aj (ao rfl) (aj (ao rfl) aK))) p5) (ao rfl) (sY (by omega))) cT)⟩
end
theorem xLix{cx:Cxt}{n:Nat}{lp ap p:Pos}{m:Str}{e:Expr}{x z d:D}(hl:(ap.endLine==p.line)=true)(h1:ev cx n sc ρ (.List ks lp)=some x)(h2:ev cx n sc ρ e=some z)(h:iK m x z=some d):ev cx (n+1) sc ρ (.Call (.Attribute (.List ks lp) m ap) [e] [] p)=some d:=by
 simp only[ev,hl,J5z,h1,h2,bind,J2z,h]
def cw:Nat->Int
 | 0=>2
 | 1=>0
 | _=>1
theorem lix:∀ w,w<3->iK "index" (.lst [.str "down",.str "scale",.str "up"]) (.str (wS w))=some (.int (cw w))
 | 0,_=>by rfl'
 | 1,_=>by rfl'
 | 2,_=>by rfl'
theorem zU:∀ l:List Int,jy (l.map D.int)=some l
 | []=>rfl
 | x::l=>by simp only[W3z,jy,zU l,X2z]
theorem Fp:∀ {l:List Int},l.Pairwise (· <= ·)->Fq l=true
 | [],_=>rfl
 | [_],_=>rfl
 | x::y::r,h=>by
  simp only[Fq,D2z,W1z];obtain⟨h1,h2⟩:=List.pairwise_cons.mp h;exact⟨h1 y (by simp),Fp h2⟩
theorem srt{l:List Int}(h:l.Pairwise (· <= ·))(hz:l.length<64):blt "sorted" [.lst (l.map D.int)]=some (.lst (l.map D.int)):=by
 show((jy (l.map D.int)).bind fun ns=>if(Fq ns&&decide (ns.length<64))=true then some (D.lst (l.map D.int)) else none)=_;rw[zU];simp only[J2z,Fp h,L3z hz,X3z,J5z]
theorem jB{α:Type}{f:α->Int}{c:Int}:∀ {l:List α},(∀ x∈l,f x=c)->(l.map f).Pairwise (· <= ·)
 | [],_=>.nil
 | x::l,h=>by
  rw[W3z];refine .cons (fun y hy=>?_) (jB fun y hy=>h y (by simp[hy]));obtain⟨z,hz,rfl⟩:=List.mem_map.mp hy;rw[h x (by simp),h z (by simp[hz])];exact Int.le_refl _
def tri(n:Nat):Nat->Nat
 | 0=>0
 | c+1=>tri n c+(n-1-c)
theorem Ke:∀ n,n<5->tri n (n-1)+tri n (n-1)=n*(n-1):=by decide
theorem wQ{n:Nat}{M:Nat->Nat->Rat}:∀ {c:Nat},(sD n M c).length<=tri n c
 | 0=>Q4z 0
 | c+1=>by
  have:=wQ (n:=n) (M:=M) (c:=c);have h2:=oM (n:=n) (c:=c) (M:=Mc M c) (k:=n-1-c);rw[sD,K1z,tri];omega
theorem tL_w(hw:∀ x∈l,x.w=1):∀ x∈tL l,x.w=0:=fun x hx=>by
 obtain⟨y,hy,rfl⟩:=List.mem_map.mp hx;show tW y.w=0;rw[hw y (List.mem_reverse.mp hy)];rfl
theorem Qy{d:Nat->Rat}:∀ {k:Nat},∀ x∈sK d k,x.w=2
 | k+1,x,hx=>by
  rcases D3z.mp hx with hx | hx
  ·exact Qy x hx
  ·split at hx
   ·cases hx
   ·cases List.mem_singleton.mp hx;rfl
section
variable {n:Nat} {T':Nat->Nat->Rat}
abbrev wL(n:Nat)(T':Nat->Nat->Rat):List Int:=(tk n T').map fun x=>cw x.w
theorem PX:(wL n T').Pairwise (· <= ·):=by
 unfold wL tk;rw[C3z,C3z]
 have a:∀ x∈sD n T' (n-1),cw x.w=0:=fun x hx=>by rw[Gm x hx];rfl
 have b:∀ x∈sK (fun k=>Mc T' k k k) n,cw x.w=1:=fun x hx=>by rw[Qy x hx];rfl
 have c:∀ x∈tL (sD n (fun i j=>T' j i) (n-1)),cw x.w=2:=fun x hx=>by rw[tL_w Gm x hx];rfl
 refine List.pairwise_append.mpr ⟨List.pairwise_append.mpr ⟨jB a,jB b,fun x hx y hy=>?_⟩,jB c,fun x hx y hy=>?_⟩
 ·obtain⟨u,hu,rfl⟩:=List.mem_map.mp hx
  obtain⟨v,hv,rfl⟩:=List.mem_map.mp hy;rw[a u hu,b v hv];decide
 ·obtain⟨v,hv,rfl⟩:=List.mem_map.mp hy
  rw[c v hv];rcases D3z.mp hx with hx | hx
  ·obtain⟨u,hu,rfl⟩:=List.mem_map.mp hx
   rw[a u hu];decide
  ·obtain⟨u,hu,rfl⟩:=List.mem_map.mp hx
   rw[b u hu];decide
abbrev n1B(d:D):Bool := !deq d (.int 1)
theorem Hh(h4:n<=4):(((wL n T').map D.int).filter n1B).length<=n*(n-1):=by
 unfold wL tk;rw[C3z,C3z,C3z,C3z,List.filter_append,List.filter_append]
 have b:(((sK (fun k=>Mc T' k k k) n).map fun x=>cw x.w).map D.int).filter n1B=[]:=by
  rw[N0z];intro x hx;obtain⟨y,hy,rfl⟩:=List.mem_map.mp hx;obtain⟨z,hz,rfl⟩:=List.mem_map.mp hy;rw[Qy z hz];decide
 rw[b,S2z,K1z];have h1:=List.length_filter_le n1B (((sD n T' (n-1)).map fun x=>cw x.w).map D.int);have h2:=List.length_filter_le n1B (((tL (sD n (fun i j=>T' j i) (n-1))).map fun x=>cw x.w).map D.int);simp only[U2z,tL,B1z] at h1 h2 ⊢;have h3:=wQ (n:=n) (M:=T') (c:=n-1);have h5:=wQ (n:=n) (M:=fun i j=>T' j i) (c:=n-1);have:=Ke n (by omega);omega
end
def otS:Option (List D)->Sl
 | none=>.no
 | some ds=>.ow ds
theorem X8{e:Expr}{o:Option (List D)}{ρ ρ':Rho}(h:dX 60 "_law_others" e=false)(q:frz 60 e ρ=ρ'):frz 60 e ((("_law_others":Str),otS o)::ρ)=(("_law_others":Str),otS o)::ρ':=by
 cases o with
 | none=>exact aW rfl q
 | some ds=>exact kI h q
abbrev sT(ns:List Int)(n:Nat)(F:Nat->Nat->Int)(pl ro:Sl)(du to:D)(wo:Sl)(o:Option (List D))(wi ba:Sl):Rho:=Gs ns (nI n) (.sh (tbl n n F)) pl ro (.sh du) (.sh to) wo (otS o) wi ba
section
variable {ns:List Int} {n:Nat} {F:Nat->Nat->Int} {pl ro wo wi ba:Sl} {du to:D} {o:Option (List D)}
theorem fzT{e:Expr}(h1:nOw pl=true)(h2:nOw ro=true)(h3:nOw wo=true)(h4:nOw wi=true)(h5:nOw ba=true)(hm:dX 60 "_law_others" e=false):frz 60 e (sT ns n F pl ro du to wo o wi ba)=sT ns n F pl ro du to wo o wi ba :=
 aW rfl (aW rfl (aW rfl (aW h1 (aW h2 (aW rfl (aW rfl (aW h3 (X8 hm (aW h4 (aW h5 pG))))))))))
def wid(n:Nat)(f:Nat->Nat->Int):Nat->Nat->Int:=fun i j=>if j<n then f i j else 1
theorem v10(h1:1<=n)(h4:n<=4):∃ m' n' G',1<=m'/\m'<=4/\1<=n'/\n'<=4/\m'≠n'/\ev (cxN T 60 39) 60 lSc (sT ns n F pl ro du to wo o wi ba) (sE 10)=some (tbl m' n' G'):=by
 by_cases q:n<4
 ·refine⟨n,n+1,wid n F,h1,h4,by omega,by omega,by omega,J4 (bK (x:=.int n) (y:=.int 4) (xName rfl) (ao rfl) (oLt (by omega))) ?_⟩
  refine bU rfl rfl rfl (aj (bF rfl (Ac (xs:=Ls n fun i=>row n (F i)) rfl (xName rfl)) (cJ (by omega)) (aL (g:=fun i=>row (n+1) (wid n F i)) fun i hi=>bI rfl ?_)) aK) gK;refine jk (bD (x:=row n (F i)) (y:=.tup [.int 1]) (xName rfl) (qj (aj (ao rfl) aK) rfl) (zQ (by rw[aR];simp;omega))) ?_;show D.tup _=D.tup _;congr 1;rw[gJ (m:=n)];congr 1
  ·exact dj fun j hj=>by unfold wid;rw[K5z hj]
  ·unfold wid;rw[L5z (by omega)]
 ·refine⟨2,n,F,by omega,by omega,h1,h4,by omega,J6 (bK (x:=.int n) (y:=.int 4) (xName rfl) (ao rfl) (Mh (by omega))) ?_⟩
  exact Fy (m:=n) (j:=2) (h:=fun i=>row n (F i)) (xName rfl) (ao rfl) (by omega)
theorem Og{m' n':Nat}(q1:1<=m')(q2:m'<=4)(q3:1<=n')(q4:n'<=4)(q5:m'≠n'):∀ i:Nat,i<2->aB T 60 39 "_law_do" [.int i,tbl m' n' G']=some (.str "no fit")
 | 0,_=>Oe 38 (w:=0) (.inl rfl) (.inl rfl) (rN 37) (zV 37 (zG 32 q1 q2 q3 q4 q5))
 | 1,_=>Oe 38 (w:=1) (.inr rfl) (.inl rfl) (rN 37) (zG 33 q1 q2 q3 q4 q5)
theorem Yd{d:D}(h:dep d<1000)(hf:fD d=false):∀ i:Nat,i<2->aB T 60 39 "_law_do" [.int i,d]=some (.str "no table")
 | 0,_=>Oe 38 (w:=0) (.inl rfl) (.inr (.inl rfl)) (vU 37) (zV 37 (Fe 32 h hf))
 | 1,_=>Oe 38 (w:=1) (.inr rfl) (.inr (.inl rfl)) (vU 37) (Fe 33 h hf)
theorem t10(h1:nOw pl=true)(h2:nOw ro=true)(h3:nOw wo=true)(n1:1<=n)(n4:n<=4):blk (cxN T 60 39) 60 60 lSc (bdy 10) (sT ns n F pl ro du to wo o .no .no)=some (.ret (.bl true)):=by
 obtain⟨m',n',G',q1,q2,q3,q4,q5,he⟩:=v10 (ns:=ns) (F:=F) (pl:=pl) (ro:=ro) (du:=du) (to:=to) (wo:=wo) (o:=o) (wi:=.no) (ba:=.no) n1 n4;obtain⟨v,hv,hq⟩:=Ky 35 ns 200 (m:=n) (n:=n) (f:=F) n1 (by omega) (by omega)
 have hd:dep v<1000:=by omega
 have hb:=Ni 38 (d:=v) (by omega);refine eH (ρ':=sT ns n F pl ro du to wo o .no .no) (d:=tbl m' n' G') (fzT h1 h2 h3 rfl rfl rfl) rfl rfl he ?_;refine JM (ρ:=sT ns n F pl ro du to wo o (.sh (tbl m' n' G')) .no) (ρ':=sT ns n F pl ro du to wo o (.sh (tbl m' n' G')) .no) (fzT h1 h2 h3 rfl rfl rfl) (bK (x:=.lst (Ls 2 fun _=>.str "no fit")) (y:=.lst [.str "no fit",.str "no fit"]) (bF rfl (vK (j:=2) rfl (ao rfl) (by omega)) (cJ (by omega)) (aL (g:=fun _=>.str "no fit") fun i hi=>bI rfl (au rfl (aj (x:=.int i) (xName rfl) (aj (x:=tbl m' n' G') (xName rfl) aK)) (Og q1 q2 q3 q4 q5 i hi)))) (bD (x:=.lst [.str "no fit"]) (y:=.int 2) (Aa (aj (ao rfl) aK) rfl) (ao rfl) rfl) rfl) ?_;refine eH (ρ:=sT ns n F pl ro du to wo o (.sh (tbl m' n' G')) .no) (ρ':=sT ns n F pl ro du to wo o (.sh (tbl m' n' G')) .no) (d:=v) (fzT h1 h2 h3 rfl rfl rfl) rfl rfl (au rfl (aj (xName rfl) (aj (ao rfl) (aj (xName rfl) aK))) hq) ?_;refine Ir (ρ:=sT ns n F pl ro du to wo o (.sh (tbl m' n' G')) (.sh v)) (ρ':=sT ns n F pl ro du to wo o (.sh (tbl m' n' G')) (.sh v)) (fzT h1 h2 h3 rfl rfl rfl) ?_
 cases hf:fD v with
 | true =>
  rw[hf] at hb;exact bL (Dg (au rfl (aj (xName rfl) (aj (ao rfl) aK)) hb))
 | false =>
  rw[hf] at hb;exact bL (lW (au rfl (aj (xName rfl) (aj (ao rfl) aK)) hb) (iW (bK (x:=.lst (Ls 2 fun _=>.str "no table")) (y:=.lst [.str "no table",.str "no table"]) (bF rfl (vK (j:=2) rfl (ao rfl) (by omega)) (cJ (by omega)) (aL (g:=fun _=>.str "no table") fun i hi=>bI rfl (au rfl (aj (x:=.int i) (xName rfl) (aj (x:=v) (xName rfl) aK)) (Yd hd hf i hi)))) (bD (x:=.lst [.str "no table"]) (y:=.int 2) (Aa (aj (ao rfl) aK) rfl) (ao rfl) rfl) rfl)))
abbrev i9(i:Nat):List Stmt:=(ifS (bB 96 9)).drop i
abbrev e9(i:Nat):Expr:=ifX ((ifS (bB 96 9)).getD i pss)
abbrev s9(ns:List Int)(n:Nat)(F:Nat->Nat->Int)(pl ro:Sl)(wo:Sl)(ot:Sl):Rho:=Gs ns (nI n) (.sh (tbl n n F)) pl ro (.sh (.bl true)) (.sh (ssD (tk n (qf F)))) wo ot .no .no
theorem cm9(h1:nOw pl=true)(h2:nOw ro=true)(h3:nOw wo=true)(h4:nOw ot=true):fG (s9 ns n F pl ro wo ot)=true:=aO rfl (aO rfl (aO rfl (aO h1 (aO h2 (aO rfl (aO rfl (aO h3 (aO h4 (aO rfl (aO rfl rfl))))))))))
theorem pO{f:D->Option (Option D)}:∀ {l:List D},(∀ x∈l,f x=some none)->bH f l=some []
 | [],_=>rfl
 | x::l,h=>by simp only[bH,h x F1z,bind,J2z];exact pO fun y hy=>h y (Q0z _ hy)
theorem c0(S:Sml n (tk n (qf F)))(h1:1<=n)(h4:n<=4):ev (cxN T 60 39) 60 lSc (s9 ns n F pl ro .no .no) (e9 0)=some (.bl false):=by
 have hl:=oE (T':=qf F) h4 h1;refine bK (x:=.lst []) (y:=.lst []) (bF (l:=(tk n (qf F)).map stD) rfl (wSq (x:=ssD (tk n (qf F))) rfl (xName rfl) rfl) (gM (by rw[U2z];omega)) (pO fun y hy=>?_)) (Aa aK rfl) rfl;obtain⟨x,hx,rfl⟩:=List.mem_map.mp hy;exact nQ (d:=stD x) (t:=false) rfl (bK (x:=.bl true) (y:=.bl true) (au rfl (aj (x:=.int n) (xName rfl) (aj (x:=stD x) (xName rfl) aK)) (is_step 34 (S.ok x hx))) (ao rfl) rfl) (xName rfl)
theorem c1(S:Sml n (tk n (qf F)))(he:Eqn n (mkQ n (tk n (qf F))) (qf F))(h1:1<=n)(h4:n<=4):ev (cxN T 60 39) 60 lSc (s9 ns n F pl ro .no .no) (e9 1)=some (.bl false):=by
 have hl:=oE (T':=qf F) h4 h1;have mb:=made_by 31 h1 h4 S (by omega);have e:ftq n n (mkQ n (tk n (qf F)))=ftq n n (qf F):=congrArg D.tup (dj fun i hi=>congrArg D.tup (dj fun j hj=>by rw[he i j hi hj]));rw[e] at mb;exact bK (x:=ftq n n (qf F)) (y:=ftq n n (qf F)) (au rfl (aj (xName rfl) (aj (xName rfl) aK)) mb) (au rfl (aj (xName rfl) aK) (Oq 34 h1 h4 h1 h4)) (YM (F4z zx (by decide)))
abbrev wD'(n:Nat)(F:Nat->Nat->Int):List D:=(wL n (qf F)).map D.int
theorem w_v(S:Sml n (tk n (qf F)))(h1:1<=n)(h4:n<=4):ev (cxN T 60 39) 60 lSc (s9 ns n F pl ro .no .no) (asV ((ifS (bB 96 9)).getD 2 pss))=some (.lst (wD' n F)):=by
 have hl:=oE (T':=qf F) h4 h1
 have e:wD' n F=(tk n (qf F)).map fun x=>.int (cw x.w):=by simp[wD',wL]
 rw[e];refine bF (l:=(tk n (qf F)).map stD) rfl (wSq (x:=ssD (tk n (qf F))) rfl (xName rfl) rfl) (gM (by rw[U2z];omega)) (j7 (h:=stD) (g:=fun x=>.int (cw x.w)) fun x hx=>?_);exact bI rfl (xLix rfl (Aa (ds:=[.str "down",.str "scale",.str "up"]) (aj (ao rfl) (aj (ao rfl) (aj (ao rfl) aK))) rfl) (xIx (x:=stD x) (i:=0) (xName rfl) (ao rfl) rfl rfl) (lix x.w (Hv (S.ok x hx).pl)))
theorem Oi:dep (.lst (wD' n F))<=50:=by
 have:deps (wD' n F)<=0:=fu fun x hx=>by
  obtain⟨y,_,rfl⟩:=List.mem_map.mp hx;simp[dep]
 simp only[dep];omega
theorem o_v(h1:1<=n)(h4:n<=4):ev (cxN T 60 39) 60 lSc (s9 ns n F pl ro (.sh (.lst (wD' n F))) .no) (asV ((ifS (bB 96 9)).getD 3 pss))=some (.lst ((wD' n F).filter n1B)):=by
 have hl:=oE (T':=qf F) h4 h1;refine bF (l:=wD' n F) rfl (wSq (x:=.lst (wD' n F)) rfl (xName rfl) rfl) (gM (by simp only[wD',wL,U2z];omega)) (nH fun x hx=>?_);obtain⟨y,_,rfl⟩:=List.mem_map.mp hx;exact nQ (d:=.int y) (t:=n1B (.int y)) rfl (bK (x:=.int y) (y:=.int 1) (xName rfl) (ao rfl) (oNe (by simp[dep]) (by simp[dep]))) (xName rfl)
theorem c4(h1:1<=n)(h4:n<=4):ev (cxN T 60 39) 60 lSc (s9 ns n F pl ro (.sh (.lst (wD' n F))) (.sh (.lst ((wD' n F).filter n1B)))) (e9 4)=some (.bl false):=by
 have hl:=oE (T':=qf F) h4 h1;have ol:((wD' n F).filter n1B).length<=n*(n-1):=Hh h4;refine bL (lW (bK (x:=.lst (wD' n F)) (y:=.lst (wD' n F)) (xName rfl) (bU (ds:=[.lst (wD' n F)]) rfl rfl rfl (aj (xName rfl) aK) (srt PX (by simp only[wL,U2z];omega))) (YM Oi)) (iW (bK (x:=.int (((wD' n F).filter n1B).length:Int)) (y:=.int ((n:Int)*((n:Int)-1))) (bU (ds:=[.lst ((wD' n F).filter n1B)]) rfl rfl rfl (aj (xName rfl) aK) rfl) (bD (x:=.int n) (y:=.int ((n:Int)-1)) (xName rfl) (bD (x:=.int n) (y:=.int 1) (xName rfl) (ao rfl) rfl) (Dc (.inl (by unfold small;rw[L3z (by omega),L3z (by omega)];rfl)))) ?_)));rw[oGt,O2z]
 have e:((n*(n-1):Nat):Int)=(n:Int)*((n:Int)-1):=by
  rw[Int.natCast_mul];congr 1;omega
 rw[<- e];omega
theorem Ym(hp:nOw pl=true)(hr:nOw ro=true)(S:Sml n (tk n (qf F)))(he:Eqn n (mkQ n (tk n (qf F))) (qf F))(h1:1<=n)(h4:n<=4):blk (cxN T 60 39) 60 59 lSc (i9 0) (s9 ns n F pl ro .no .no)=some (.nxt (s9 ns n F pl ro (.sh (.lst (wD' n F))) (.ow ((wD' n F).filter n1B)))):=by
 refine ux (cm9 hp hr rfl rfl) (c0 S h1 h4) ?_;refine ux (cm9 hp hr rfl rfl) (c1 S he h1 h4) ?_;refine yK (ρ':=s9 ns n F pl ro .no .no) (d:=.lst (wD' n F)) (cU (cm9 hp hr rfl rfl)) rfl (w_v S h1 h4) ?_ rfl ?_
 ·refine yK (ρ:=s9 ns n F pl ro (.ow (wD' n F)) .no) (ρ':=s9 ns n F pl ro (.sh (.lst (wD' n F))) .no) (d:=.lst ((wD' n F).filter n1B)) (aW rfl (aW rfl (aW rfl (aW hp (aW hr (aW rfl (aW rfl (JN rfl rfl)))))))) rfl (o_v h1 h4) ?_ rfl ?_
  ·exact JM (ρ:=s9 ns n F pl ro (.sh (.lst (wD' n F))) (.ow ((wD' n F).filter n1B))) (ρ':=s9 ns n F pl ro (.sh (.lst (wD' n F))) (.sh (.lst ((wD' n F).filter n1B)))) (aW rfl (aW rfl (aW rfl (aW hp (aW hr (aW rfl (aW rfl (aW rfl (JN rfl rfl))))))))) (c4 h1 h4) cT
  ·exact HB (pq rfl (pq rfl (pq rfl (pq hp (pq hr rfl)))))
 ·exact HB (pq rfl (pq rfl (pq rfl (pq hp (pq hr rfl)))))
end
section
variable {ns:List Int} {n:Nat} {F:Nat->Nat->Int} {pl ro:Sl}
theorem Yc(t:Tb n n F):ev (cxN T 60 39) 60 lSc (sI ns n F pl ro) (sE 5)=some (.bl (vC n F)):=by
 have h4:=t.m4;have gd:=is_good 17 t;have w:=whole_minor (34-4*n) n t.m1 t.m4 t.sm;rw[show 34-4*n+4*n+5=39 by omega] at w;unfold vC
 cases q:vf n n F with
 | false=>rw[q] at gd;rw[K3z];exact bL (oA (au rfl (aj (xName rfl) aK) gd))
 | true =>
  rw[q] at gd;rw[A4z];exact bL (jm (au rfl (aj (xName rfl) aK) gd) (iW (bK (x:=.int (det n F)) (y:=.int 0) (au rfl (aj (xName rfl) aK) w) (ao rfl) O6)))
abbrev sU(ns:List Int)(n:Nat)(F:Nat->Nat->Int)(pl ro:Sl)(du to:Sl):Rho:=Gs ns (nI n) (.sh (tbl n n F)) pl ro du to .no .no .no .no
theorem cmU(h1:nOw pl=true)(h2:nOw ro=true)(h3:nOw du=true)(h4:nOw to=true):fG (sU ns n F pl ro du to)=true:=aO rfl (aO rfl (aO rfl (aO h1 (aO h2 (aO h3 (aO h4 rfl))))))
theorem t5(hp:nOw pl=true)(hr:nOw ro=true)(n1:1<=n)(n4:n<=4)(hF:Bd n 3000000 F):blk (cxN T 60 39) 60 60 lSc (bdy 5) (sI ns n F pl ro)=some (.ret (.bl true)):=by
 have t:Tb n n F:=⟨n1,n4,n1,n4,Ow (by omega) hF⟩;have dv:=Yc (ns:=ns) (pl:=pl) (ro:=ro) t;have d1:=aaL 38 (w:=1) (.inr rfl) (zF 15 t);refine pU (d:=.bl (vC n F)) (cmI hp hr) rfl rfl dv ?_;refine ux (ρ:=sU ns n F pl ro (.sh (.bl (vC n F))) .no) (cmU hp hr rfl rfl) (bK (x:=.bl (vC n F)) (y:=.bl (vC n F)) (au rfl (aj (ao rfl) (aj (xName rfl) aK)) d1) (xName rfl) oNeB) ?_
 cases hc:vC n F with
 | false =>
  have d0:=Oe 38 (w:=0) (.inl rfl) (.inr (.inr rfl)) (FJ 37) (Qh 14 t hc);refine pU (ρ:=sU ns n F pl ro (.sh (.bl false)) .no) (d:=.str "no steps") (cmU hp hr rfl rfl) rfl rfl (au rfl (aj (ao rfl) (aj (xName rfl) aK)) d0) ?_;refine ux (ρ:=sU ns n F pl ro (.sh (.bl false)) (.sh (.str "no steps"))) (cmU hp hr rfl rfl) (bL (jm (ji (xName rfl)) (iW (bK (x:=.str "no steps") (y:=.str "no steps") (xName rfl) (ao rfl) rfl)))) ?_;exact ux (ρ:=sU ns n F pl ro (.sh (.bl false)) (.sh (.str "no steps"))) (cmU hp hr rfl rfl) (xName rfl) (t10 (o:=none) hp hr rfl n1 n4)
 | true =>
  have d0:=aaL 38 (w:=0) (.inl rfl) (Qg 14 t hF hc);have hc':=hc;unfold vC at hc';simp only[D2z,W1z] at hc';have g:=Eh n1 n4 hc'.1 hc'.2;have S:=Rb n1 n4 g (z7 hF) (z7 hF.tr);have he:=Qi n1 n4 g (g.tr n1 n4);refine pU (ρ:=sU ns n F pl ro (.sh (.bl true)) .no) (d:=ssD (tk n (qf F))) (cmU hp hr rfl rfl) rfl rfl (au rfl (aj (ao rfl) (aj (xName rfl) aK)) d0) ?_;refine ux (ρ:=sU ns n F pl ro (.sh (.bl true)) (.sh (ssD (tk n (qf F))))) (cmU hp hr rfl rfl) (bL (oA (dG (xName rfl)))) ?_;exact JR (ρ:=sU ns n F pl ro (.sh (.bl true)) (.sh (ssD (tk n (qf F))))) (fl1:=.nxt _) (cmU hp hr rfl rfl) (xName rfl) (Ym hp hr S he n1 n4) (t10 (o:=some ((wD' n F).filter n1B)) hp hr rfl n1 n4)
theorem t4(n1:1<=n)(n4:n<=4)(hF:Bd n 3000000 F):blk (cxN T 60 39) 60 60 lSc (bdy 4) (sI ns n F .no .no)=some (.ret (.bl true)):=by
 have p4:=pick 37 ns 4 (many:=3) (by omega);have c:ev (cxN T 60 39) 59 lSc (sI ns n F .no .no) (match ifX (bB 96 4) with | .Compare e _ _ _=>e | e=>e)=some (.int ((pickN ns 4 3:Nat):Int)):=au rfl (aj (x:=scr ns) (xName rfl) (aj (ao rfl) (aj (ao rfl) aK))) p4
 by_cases q:pickN ns 4 3=0
 ·obtain⟨G',pl,ro,h1,h2,hG,hin⟩:=i4 (ns:=ns) (F:=F) n1 n4
  exact JR (fl1:=.nxt _) (cmI rfl rfl) (bK c (y:=.int 0) (ao rfl) (uX (by omega))) hin (t5 h1 h2 n1 n4 fun i j hi hj=>by have:=hG i j hi hj;omega)
 ·exact ux (cmI rfl rfl) (bK c (y:=.int 0) (ao rfl) (sY (by omega))) (t5 rfl rfl n1 n4 hF)
def rot(n:Nat)(F:Nat->Nat->Int):Nat->Nat->Int:=fun i=>F (if i+1<n then i+1 else 0)
theorem QC(n1:1<=n)(n4:n<=4):ev (cxN T 60 39) 60 lSc (sI ns n F .no .no) (asV ((ifS (bB 96 3)).getD 0 pss))=some (tbl n n (rot n F)):=by
 refine jk (bD (x:=.tup (Ls (n-1) fun i=>row n (F (1+i)))) (y:=.tup (Ls 1 fun i=>row n (F i))) (JZ (m:=n) (j:=1) (h:=fun i=>row n (F i)) (xName rfl) (ao rfl) (by omega) (by omega) (by omega)) (Fz (m:=n) (j:=1) (h:=fun i=>row n (F i)) (xName rfl) (ao rfl) (by omega)) (zQ (by rw[aR,aR];omega))) ?_
 obtain⟨p,rfl⟩:∃ p,n=p+1:=⟨n-1,by omega⟩;refine congrArg D.tup ?_;rw[gJ (m:=p)];refine congr (congrArg _ (dj fun i hi=>?_)) ?_
 ·unfold rot
  rw[K5z (by omega),Nat.add_comm 1 i]
 ·unfold rot
  rw[L5z (by omega)];rfl
theorem K1{B:Int}(n1:1<=n)(h:Bd n B F):Bd n B (rot n F):=fun i j hi hj=>by
 unfold rot;split
 ·exact h _ _ (by omega) hj
 ·exact h _ _ (by omega) hj
theorem t3(n1:1<=n)(n4:n<=4)(hF:Bd n 3000000 F):blk (cxN T 60 39) 60 60 lSc (bdy 3) (sI ns n F .no .no)=some (.ret (.bl true)):=by
 have p3:=pick 37 ns 3 (many:=6) (by omega);have c:ev (cxN T 60 39) 59 lSc (sI ns n F .no .no) (match ifX (bB 96 3) with | .Compare e _ _ _=>e | e=>e)=some (.int ((pickN ns 3 6:Nat):Int)):=au rfl (aj (x:=scr ns) (xName rfl) (aj (ao rfl) (aj (ao rfl) aK))) p3
 by_cases q:pickN ns 3 6=0
 ·exact JR (fl1:=.nxt (sI ns n (rot n F) .no .no)) (cmI rfl rfl) (bK c (y:=.int 0) (ao rfl) (uX (by omega))) (pU (cmI rfl rfl) rfl rfl (QC n1 n4) cT) (t4 n1 n4 (K1 n1 hF))
 ·exact ux (cmI rfl rfl) (bK c (y:=.int 0) (ao rfl) (sY (by omega))) (t4 n1 n4 hF)
theorem Kf{a:Nat}:Bd n 10 (Ar ns a):=by
 intro i j _ _;have h1:=cG (ns:=ns) (k:=a+1+8*i+j) (many:=6+vL (pickN ns a 4)) (by omega);have h2:=Ib (pickN ns a 4);unfold Ar;omega
theorem t2(n1:1<=n)(n4:n<=4)(hF:Bd n 3000000 F):blk (cxN T 60 39) 60 60 lSc (bdy 2) (sI ns n F .no .no)=some (.ret (.bl true)):=by
 have p2:=pick 37 ns 2 (many:=4) (by omega);have c:ev (cxN T 60 39) 59 lSc (sI ns n F .no .no) (match ifX (bB 96 2) with | .Compare e _ _ _=>e | e=>e)=some (.int ((pickN ns 2 4:Nat):Int)):=au rfl (aj (x:=scr ns) (xName rfl) (aj (ao rfl) (aj (ao rfl) aK))) p2
 by_cases q:pickN ns 2 4=0
 ·exact JR (fl1:=.nxt (sI ns n (Ar ns 100) .no .no)) (cmI rfl rfl) (bK c (y:=.int 0) (ao rfl) (uX (by omega))) (pU (cmI rfl rfl) rfl rfl (au rfl (aj (x:=scr ns) (xName rfl) (aj (ao rfl) (aj (x:=.int n) (xName rfl) (aj (x:=.int n) (xName rfl) aK)))) (table 36 ns 100 (by omega) (by omega))) cT) (t3 n1 n4 fun i j hi hj=>by have:=Kf (ns:=ns) (n:=n) (a:=100) i j hi hj;omega)
 ·exact ux (cmI rfl rfl) (bK c (y:=.int 0) (ao rfl) (sY (by omega))) (t3 n1 n4 hF)
end
theorem law_true(ns:List Int)(_:ns.length<=63):aB T 60 40 "law" [.lst (ns.map D.int)]=some (.bl true):=by
 have h0:=cG (ns:=ns) (k:=0) (many:=3) (by omega);have p0:=pick 37 ns 0 (many:=3) (by omega);have p1:=pick 37 ns 1 (many:=8) (by omega);obtain⟨n,hn⟩:∃ n:Nat,n=1+pickN ns 0 3+(if pickN ns 1 8=0 then 1 else 0):=⟨_,rfl⟩
 have n1:1<=n:=by omega
 have n4:n<=4:=by rw[hn];split<;>omega
 obtain⟨g,hg,gt⟩:=vd 36 ns 10 n1 n4
 have iv:∀ {N:Nat} {sc:Scope} {ρ:Rho} {e:Expr} {nm:Str} {p q:Pos},bC (cxN T 60 39) sc nm=some "int"->Ab (cxN T 60 39) sc "int" [e]=.al->ev (cxN T 60 39) N sc ρ e=some (.bl (decide (pickN ns 1 8=0)))->ev (cxN T 60 39) (N+1) sc ρ (.Call (.Name nm q) [e] [] p)=some (.int (if pickN ns 1 8=0 then 1 else 0)):=fun a b c=>by
  refine jk (bU (ds:=[.bl (decide (pickN ns 1 8=0))]) a b rfl (aj c aK) rfl) ?_
  by_cases z:pickN ns 1 8=0<;>simp[z,b2i]
 have cv:∀ {x:D},x=.int ((pickN ns 1 8:Nat):Int)->cmpop .Eq x (.int 0)=some (.bl (decide (pickN ns 1 8=0))):=fun e=>by
  subst e
  by_cases z:pickN ns 1 8=0
  ·rw[L3z z];exact uX (by omega)
  ·rw[O2z z];exact sY (by omega)
 refine bO (fd:=aH (top 96)) rfl rfl (eH (d:=.int n) (ρ':=Gs ns .no .no .no .no .no .no .no .no .no .no) rfl rfl rfl (jk (bD (x:=.int (1+((pickN ns 0 3:Nat):Int))) (y:=.int (if pickN ns 1 8=0 then 1 else 0)) (bD (x:=.int 1) (y:=.int ((pickN ns 0 3:Nat):Int)) (ao rfl) (au rfl (aj (x:=scr ns) (xName rfl) (aj (ao rfl) (aj (ao rfl) aK))) p0) rfl) (iv rfl rfl (bK (x:=.int ((pickN ns 1 8:Nat):Int)) (y:=.int 0) (au rfl (aj (x:=scr ns) (xName rfl) (aj (ao rfl) (aj (ao rfl) aK))) p1) (ao rfl) (cv rfl))) rfl) (by refine congrArg D.int ?_;rw[hn];split<;>omega)) ?_)
 exact eH (ρ:=Gs ns (nI n) .no .no .no .no .no .no .no .no .no) (d:=tbl n n g) (ρ':=Gs ns (nI n) .no .no .no .no .no .no .no .no .no) rfl rfl rfl (au rfl (aj (x:=scr ns) (xName rfl) (aj (ao rfl) (aj (xName rfl) aK))) gt) (t2 n1 n4 fun i j hi hj=>by have:=hg i j hi hj;omega)
end M32
noncomputable section
namespace HS
open PySem PySem.W
theorem goT{p:Program}{m:Nat}{a:Option Value}{n:Nat}{x y:Shared}{u:Thread}{c:Code}{o:Pos}{l:List Frame}(h:Fast.tw15667345088766844465 Fast.tw14364793385576792824 p w m a n x u=some (y,⟨Fast.tw11892475500146522536 Fast.tw14364793385576792824 c,c,o,l⟩)):topGo treeTable p w m a n x u=some (y,⟨denote treeTable c,c,o,l⟩):=by
 rw[Fast.te15667345088766844465,C0z,Fast.te11892475500146522536];exact h
theorem segS{p:Program}{m:Nat}{a:Option Value}{k n:Nat}{x:Shared}{u:Thread}{y:Option (Flow×Shared×Code×Pos)}(h:Fast.tw14374325043358763698 Fast.tw14364793385576792824 p w m a k n x u=y):segRun treeTable p w m a k n x u=y:=by
 rw[Fast.te14374325043358763698,C0z];exact h
theorem sH{p:Program}{m:Nat}{a:Option Value}{k n:Nat}{x:SharedT}{u:Thread}{y:Option (Flow×SharedT×Code×Pos)}(h:Fast.tw10110043849684766642 Fast.tw14364793385576792824 p w m a k n x u=y):segRunT treeTable p w m a k n x u=y:=by
 rw[Fast.te10110043849684766642,C0z];exact h
theorem topT{p:Program}{m:Nat}{a:Option Value}{n:Nat}{x:Shared}{u:Thread}{y:Option Shared}(h:Fast.tw14082659384304107361 Fast.tw14364793385576792824 p w m a n x u=y):topRun treeTable p w m a n x u=y:=by
 rw[Fast.te14082659384304107361,C0z];exact h
theorem QF{p:Program}{m:Nat}{a:Option Value}{n:Nat}{x:Shared}{b l:List Stmt}{E:Env}{c:Code}{B:List Frame}{y:Option Shared}(e:b=l)(h:topRun treeTable p w m a n x (restOf l E c o B)=y):topRun treeTable p w m a n x (restOf b E c o B)=y:=by
 rw[e];exact h
end HS
namespace H32
open PySem PySem.W HS
noncomputable abbrev p:Program:=PySem.Challenge.pw_minortables_k32_whole_taken_apart
abbrev q:Program:=PySem.W.view p [1,2,3,4,5,6,7,9,10,11,12,13,14,15,16,17,18,19,20,22,23,24,25,26,27,28,29,30,31,32,33,35,36,37,38,39,40,41,43,44,45,46,47,48,49,50,51,52,53,54,55,57,58,60,61,62,63,64,65,66,67,68,69,70,71,72,73,74,75,76,77,78,80,81,82,83,84,85,86,87,88,89,90,91,92,93,94,95,96]
abbrev N:Nat:=7818
noncomputable abbrev lo:List Str:=["TURNED_WORDS"]
abbrev z:Value:=.none
noncomputable abbrev r(a:Nat):Value:=.ref a
noncomputable abbrev i(a:Int)(n:Nat):Value:=.int a n
abbrev s(x:Str)(n:Nat):Value:=.str x n
abbrev t(x:String):Value:=.type x
abbrev b(x:String):Value:=.builtin x
abbrev e(P:Params)(x:Str)(n:Nat)(v:Value):DictEntry:=⟨PyData.keyHash P x,.str x n,v⟩
def d(j:Nat):Stmt:=p.main.body.getD j (.Pass ⟨0,0,0,0⟩)
def m(j k:Nat):Stmt:=match d j with | .ClassDef _ _ _ l .. =>l.getD k (.Pass ⟨0,0,0,0⟩) | x=>x
def f(x:Stmt)(qn:Str)(g:Nat)(dV kV dc pm cd ct:Value):FuncData:=match x with | .FunctionDef n a l _ _ _ sc .. =>⟨n,qn,a,.stmts l,sc,g,[],dV,kV,dc,pm,none,cd,ct,0⟩ | _=>default
def y:Obj:=⟨.type "tuple",none,.seq #[] 0,#[]⟩
noncomputable def x:Obj:=⟨.none,none,.fields #[],#[]⟩
noncomputable def tnV:List Str->Nat->List Value | [],_=>[] | a::l,k=>.str a k::tnV l (k+1)
def tn(l:List Str)(k:Nat):Obj:=⟨.type "tuple",none,.seq (tnV l k).toArray 0,#[]⟩
def g(a:Stmt)(n:Str):Obj:=⟨.none,none,.func (f a n 0 z z z z z z),#[]⟩
def u(a:Stmt)(n:Str)(pm:Value)(c:Nat):Obj:=⟨.type "function",none,.func (f a n 3 z z z pm (r c) z),#[]⟩
def c(n:Str)(k:Nat)(l a fl:Int)(q:Nat)(bb:Bool)(h:Int)(q':Nat)(v w v':Value)(k':Nat):Obj:=⟨.type "code",none,.fields #[s n k,s n (k+1),s "/claim/cut.py" (k+2),i l 0,i a 0,i 0 0,i 0 0,i fl 0,r q,.bool bb,i h 0,r q',z,v,w,v',i k' 0,i l 0,s "/claim/cut.py" (k'+1)],#[]⟩
def I(t:BT):Nat->List Obj->BT | _,[]=>t | n,o::l=>I (t.ins n o) (n+1) l
def es(P:Params):List DictEntry:=[e P "__doc__" 166 z,
 e P "__package__" 167 z,
 e P "__loader__" 168 (b "__main__.__loader__#opaque"),
 e P "__spec__" 169 z,
 e P "__annotations__" 170 (r 6),
 e P "__builtins__" 171 (r 4),
 e P "__file__" 173 (s "/claim/cut.py" 172),
 e P "__cached__" 174 z,
 e P "MinorError" 206 (r 24),
 e P "NoTable" 222 (r 37),
 e P "NoFit" 238 (r 49),
 e P "NoPlace" 254 (r 61),
 e P "NoStep" 270 (r 73),
 e P "NoSteps" 286 (r 85),
 e P "NoText" 302 (r 97),
 e P "MOST_LINES" 306 (i 4 305),
 e P "is_whole" 313 (r 106),
 e P "is_whole_within" 322 (r 113),
 e P "is_short_tuple" 329 (r 120),
 e P "has_lines" 335 (r 125),
 e P "numbers_of" 344 (r 132),
 e P "has_table_form" 350 (r 137),
 e P "is_square" 357 (r 144),
 e P "is_place" 365 (r 151),
 e P "need_table" 372 (r 158),
 e P "need_square" 379 (r 165),
 e P "need_size" 387 (r 172),
 e P "common_measure" 398 (r 179),
 e P "lowest" 407 (r 186),
 e P "has_fraction_form" 414 (r 193),
 e P "is_fraction" 421 (r 200),
 e P "sum_of" 429 (r 207),
 e P "times_of" 437 (r 214),
 e P "less_of" 445 (r 221),
 e P "parted" 453 (r 228),
 e P "all_sum" 462 (r 235),
 e P "need_fraction_table" 468 (r 240),
 e P "row_as_fractions" 474 (r 245),
 e P "as_fractions" 480 (r 250),
 e P "column_of" 488 (r 255),
 e P "columns_of" 494 (r 260),
 e P "turned" 501 (r 267),
 e P "picked" 507 (r 272),
 e P "part_at" 513 (r 277),
 e P "plain_row" 519 (r 282),
 e P "plain" 525 (r 287),
 e P "without" 533 (r 292),
 e P "worth_of" 539 (r 297),
 e P "rest_worth" 548 (r 304),
 e P "signed_rest" 558 (r 311),
 e P "row_with_rests" 564 (r 316),
 e P "with_behind" 570 (r 321),
 e P "rising_tuples" 582 (r 328),
 e P "greatest_size" 589 (r 335),
 e P "minors_of_rows" 599 (r 342),
 e P "minors_of_size" 609 (r 349),
 e P "minors_in" 618 (r 356),
 e P "all_minors" 625 (r 363),
 e P "whole_minor" 632 (r 370),
 e P "none_below" 640 (r 375),
 e P "is_good" 647 (r 382),
 e P "UP" 651 (s "up" 650),
 e P "DOWN" 653 (s "down" 652),
 e P "SCALE" 655 (s "scale" 654),
 e P "TURNED_WORDS" 665 (r 383),
 e P "is_step_of" 675 (r 390),
 e P "is_step" 683 (r 397),
 e P "need_steps" 689 (r 402),
 e P "row_by_column" 695 (r 407),
 e P "row_by_columns" 701 (r 412),
 e P "product_of" 707 (r 417),
 e P "table_of_step" 713 (r 422),
 e P "made_by" 725 (r 429),
 e P "turned_steps" 731 (r 434),
 e P "row_less" 737 (r 439),
 e P "down_steps" 749 (r 446),
 e P "corner_worth" 755 (r 451),
 e P "scale_steps" 765 (r 458),
 e P "can_be_taken_apart" 772 (r 465),
 e P "taken_apart" 779 (r 472),
 e P "_law_cell" 789 (r 479),
 e P "_law_pick" 799 (r 486),
 e P "_law_table" 805 (r 491),
 e P "_law_size" 813 (r 498),
 e P "_law_times" 827 (r 505),
 e P "_law_worth" 833 (r 510),
 e P "_law_some" 839 (r 515),
 e P "_law_part" 845 (r 520),
 e P "_law_minors" 856 (r 527),
 e P "_law_good_table" 862 (r 532),
 e P "_law_places" 868 (r 537),
 e P "_law_put" 878 (r 544),
 e P "_law_spoilt_thing" 892 (r 551),
 e P "_law_is_table" 898 (r 556),
 e P "_law_word" 906 (r 563),
 e P "_law_do" 917 (r 570),
 e P "law" 923 (r 575)]
def og(k n:Nat)(v:Value)(P:Params):Obj:=⟨.type "dict",none,.dict ((e P "__name__" 165 v::es P).take k).toArray n,#[]⟩
def fv:List Value:=[(i 2 0),(i 0 0),(r 20),(i 4 0),(i 0 0),(r 33),(i 6 0),(i 0 0),(r 45),(i 8 0),(i 0 0),(r 57),(i 10 0),(i 0 0),(r 69),(i 12 0),(i 0 0),(r 81),(i 14 0),(i 0 0),(r 93),(i 18 0),(i 0 0),(r 105),(i 20 0),(i 0 0),(r 112),(i 22 0),(i 0 0),(r 119),(i 24 0),(i 0 0),(r 124),(i 28 0),(i 0 0),(r 131),(i 33 0),(i 0 0),(r 136),(i 35 0),(i 0 0),(r 143),(i 37 0),(i 0 0),(r 150),(i 39 0),(i 0 0),(r 157),(i 42 0),(i 0 0),(r 164),(i 45 0),(i 0 0),(r 171),(i 49 0),(i 0 0),(r 178),(i 55 0),(i 0 0),(r 185),(i 60 0),(i 0 0),(r 192),(i 66 0),(i 0 0),(r 199),(i 68 0),(i 0 0),(r 206),(i 70 0),(i 0 0),(r 213),(i 72 0),(i 0 0),(r 220),(i 74 0),(i 0 0),(r 227),(i 76 0),(i 0 0),(r 234),(i 81 0),(i 0 0),(r 239),(i 84 0),(i 0 0),(r 244),(i 86 0),(i 0 0),(r 249),(i 90 0),(i 0 0),(r 254),(i 92 0),(i 0 0),(r 259),(i 94 0),(i 0 0),(r 266),(i 97 0),(i 0 0),(r 271),(i 99 0),(i 0 0),(r 276),(i 101 0),(i 0 0),(r 281),(i 103 0),(i 0 0),(r 286),(i 107 0),(i 0 0),(r 291),(i 110 0),(i 0 0),(r 296),(i 114 0),(i 0 0),(r 303),(i 116 0),(i 0 0),(r 310),(i 119 0),(i 0 0),(r 315),(i 121 0),(i 0 0),(r 320),(i 124 0),(i 0 0),(r 327),(i 132 0),(i 0 0),(r 334),(i 134 0),(i 0 0),(r 341),(i 139 0),(i 0 0),(r 348),(i 144 0),(i 0 0),(r 355),(i 149 0),(i 0 0),(r 362),(i 152 0),(i 0 0),(r 369),(i 157 0),(i 0 0),(r 374),(i 159 0),(i 0 0),(r 381),(i 166 0),(i 0 0),(r 389),(i 170 0),(i 0 0),(r 396),(i 174 0),(i 0 0),(r 401),(i 179 0),(i 0 0),(r 406),(i 181 0),(i 0 0),(r 411),(i 183 0),(i 0 0),(r 416),(i 190 0),(i 0 0),(r 421),(i 196 0),(i 0 0),(r 428),(i 202 0),(i 0 0),(r 433),(i 204 0),(i 0 0),(r 438),(i 206 0),(i 0 0),(r 445),(i 216 0),(i 0 0),(r 450),(i 218 0),(i 0 0),(r 457),(i 225 0),(i 0 0),(r 464),(i 229 0),(i 0 0),(r 471),(i 234 0),(i 0 0),(r 478),(i 240 0),(i 0 0),(r 485),(i 243 0),(i 0 0),(r 490),(i 249 0),(i 0 0),(r 497),(i 251 0),(i 0 0),(r 504),(i 262 0),(i 0 0),(r 509),(i 272 0),(i 0 0),(r 514),(i 280 0),(i 0 0),(r 519),(i 282 0),(i 0 0),(r 526),(i 289 0),(i 0 0),(r 531),(i 309 0),(i 0 0),(r 536),(i 315 0),(i 0 0),(r 543),(i 320 0),(i 0 0),(r 550),(i 328 0),(i 0 0),(r 555),(i 340 0),(i 0 0),(r 562),(i 346 0),(i 0 0),(r 569),(i 356 0),(i 0 0),(r 574)]
def o12:Obj:=⟨z,none,.fields (fv.take 0).toArray,#[]⟩
def o13:=c "<module>" 182 1 0 0 11 false 181 12 z z z 185
def o14:Obj:=⟨(t "frame"),none,.plain,#[some (r 13),some (r 3),some (r 3),none,some (s "__main__" 164),none,some (r 0)]⟩
def o3_1(P:Params):=og 10 10 (s "minortables.errors" 187) P
def W5:Obj:=⟨z,none,.fields (fv.take 3).toArray,#[]⟩
def o15:Obj:=⟨(t "tuple"),none,(.seq #[(t "ValueError")] 0),#[]⟩
def o16:Obj:=⟨(t "builtin_function_or_method"),none,(.fields #[(b "type.__prepare__"),(t "type")]),#[]⟩
def o17(P:Params):Obj:=⟨(t "dict"),none,(.dict #[e P "__module__" 196 (s "minortables.errors" 187),e P "__qualname__" 198 (s "MinorError" 197),e P "__firstlineno__" 200 (i 2 199),e P "__static_attributes__" 201 (r 22)] 4),#[]⟩
def o20:=c "MinorError" 191 2 0 0 18 false 181 19 z z z 194
def o21:Obj:=⟨(t "frame"),none,.plain,#[some (r 20),some (r 3),some (r 17),none,some (s "minortables.errors" 187),none,some (r 0)]⟩
def o23(P:Params):Obj:=⟨(t "dict"),none,(.dict #[e P "__module__" 196 (s "minortables.errors" 187),e P "__firstlineno__" 200 (i 2 199),e P "__static_attributes__" 201 (r 22),e P "__weakref__" 203 (r 25),e P "__doc__" 204 z] 3),#[]⟩
def o24:Obj:=⟨(t "type"),none,(.cls ⟨"MinorError",[(t "ValueError")],[(r 24),(t "ValueError"),(t "Exception"),(t "BaseException"),(t "object")],23,"MinorError",true,[],[],false,none,false⟩),#[some (r 15),none,some (s "MinorError" 189),some (s "MinorError" 197),some (b "ValueError.__new__"),some (.bool true)]⟩
def o25:Obj:=⟨(t "getset_descriptor"),none,(.fields #[(s "__weakref__" 202),(r 24),(b "ExceptionGroup.__weakref__"),z]),#[]⟩
def o26:Obj:=⟨(t "super"),none,(.fields #[(r 24),(r 24),(r 24)]),#[]⟩
def o27:Obj:=⟨(t "builtin_function_or_method"),none,(.fields #[(b "object.__init_subclass__"),(r 24)]),#[]⟩
def o3_2(P:Params):=og 11 11 (s "minortables.errors" 187) P
def W4:Obj:=⟨z,none,.fields (fv.take 6).toArray,#[]⟩
def Vv:Obj:=⟨(t "type"),none,(.cls ⟨"MinorError",[(t "ValueError")],[(r 24),(t "ValueError"),(t "Exception"),(t "BaseException"),(t "object")],23,"MinorError",true,[],[(r 37)],false,none,false⟩),#[some (r 15),none,some (s "MinorError" 189),some (s "MinorError" 197),some (b "ValueError.__new__"),some (.bool true)]⟩
def o28:Obj:=⟨(t "tuple"),none,(.seq #[(r 24)] 0),#[]⟩
def o29:Obj:=⟨(t "builtin_function_or_method"),none,(.fields #[(b "type.__prepare__"),(t "type")]),#[]⟩
def o30(P:Params):Obj:=⟨(t "dict"),none,(.dict #[e P "__module__" 214 (s "minortables.errors" 187),e P "__qualname__" 216 (s "NoTable" 215),e P "__firstlineno__" 218 (i 4 217),e P "__static_attributes__" 219 (r 35)] 4),#[]⟩
def o33:=c "NoTable" 209 4 0 0 31 false 181 32 z z z 212
def o34:Obj:=⟨(t "frame"),none,.plain,#[some (r 33),some (r 3),some (r 30),none,some (s "minortables.errors" 187),none,some (r 0)]⟩
def o36(P:Params):Obj:=⟨(t "dict"),none,(.dict #[e P "__module__" 214 (s "minortables.errors" 187),e P "__firstlineno__" 218 (i 4 217),e P "__static_attributes__" 219 (r 35),e P "__doc__" 220 z] 2),#[]⟩
def o37:Obj:=⟨(t "type"),none,(.cls ⟨"NoTable",[(r 24)],[(r 37),(r 24),(t "ValueError"),(t "Exception"),(t "BaseException"),(t "object")],36,"NoTable",true,[],[],false,none,false⟩),#[some (r 28),none,some (s "NoTable" 207),some (s "NoTable" 215),some (b "ValueError.__new__"),some (.bool true)]⟩
def o38:Obj:=⟨(t "super"),none,(.fields #[(r 37),(r 37),(r 37)]),#[]⟩
def o39:Obj:=⟨(t "builtin_function_or_method"),none,(.fields #[(b "object.__init_subclass__"),(r 37)]),#[]⟩
def o3_3(P:Params):=og 12 12 (s "minortables.errors" 187) P
def W3:Obj:=⟨z,none,.fields (fv.take 9).toArray,#[]⟩
def Vu:Obj:=⟨(t "type"),none,(.cls ⟨"MinorError",[(t "ValueError")],[(r 24),(t "ValueError"),(t "Exception"),(t "BaseException"),(t "object")],23,"MinorError",true,[],[(r 37),(r 49)],false,none,false⟩),#[some (r 15),none,some (s "MinorError" 189),some (s "MinorError" 197),some (b "ValueError.__new__"),some (.bool true)]⟩
def o40:Obj:=⟨(t "tuple"),none,(.seq #[(r 24)] 0),#[]⟩
def o41:Obj:=⟨(t "builtin_function_or_method"),none,(.fields #[(b "type.__prepare__"),(t "type")]),#[]⟩
def o42(P:Params):Obj:=⟨(t "dict"),none,(.dict #[e P "__module__" 230 (s "minortables.errors" 187),e P "__qualname__" 232 (s "NoFit" 231),e P "__firstlineno__" 234 (i 6 233),e P "__static_attributes__" 235 (r 47)] 4),#[]⟩
def o45:=c "NoFit" 225 6 0 0 43 false 181 44 z z z 228
def o46:Obj:=⟨(t "frame"),none,.plain,#[some (r 45),some (r 3),some (r 42),none,some (s "minortables.errors" 187),none,some (r 0)]⟩
def o48(P:Params):Obj:=⟨(t "dict"),none,(.dict #[e P "__module__" 230 (s "minortables.errors" 187),e P "__firstlineno__" 234 (i 6 233),e P "__static_attributes__" 235 (r 47),e P "__doc__" 236 z] 2),#[]⟩
def o49:Obj:=⟨(t "type"),none,(.cls ⟨"NoFit",[(r 24)],[(r 49),(r 24),(t "ValueError"),(t "Exception"),(t "BaseException"),(t "object")],48,"NoFit",true,[],[],false,none,false⟩),#[some (r 40),none,some (s "NoFit" 223),some (s "NoFit" 231),some (b "ValueError.__new__"),some (.bool true)]⟩
def o50:Obj:=⟨(t "super"),none,(.fields #[(r 49),(r 49),(r 49)]),#[]⟩
def o51:Obj:=⟨(t "builtin_function_or_method"),none,(.fields #[(b "object.__init_subclass__"),(r 49)]),#[]⟩
def o3_4(P:Params):=og 13 13 (s "minortables.errors" 187) P
def W2:Obj:=⟨z,none,.fields (fv.take 12).toArray,#[]⟩
def Vt:Obj:=⟨(t "type"),none,(.cls ⟨"MinorError",[(t "ValueError")],[(r 24),(t "ValueError"),(t "Exception"),(t "BaseException"),(t "object")],23,"MinorError",true,[],[(r 37),(r 49),(r 61)],false,none,false⟩),#[some (r 15),none,some (s "MinorError" 189),some (s "MinorError" 197),some (b "ValueError.__new__"),some (.bool true)]⟩
def o52:Obj:=⟨(t "tuple"),none,(.seq #[(r 24)] 0),#[]⟩
def o53:Obj:=⟨(t "builtin_function_or_method"),none,(.fields #[(b "type.__prepare__"),(t "type")]),#[]⟩
def o54(P:Params):Obj:=⟨(t "dict"),none,(.dict #[e P "__module__" 246 (s "minortables.errors" 187),e P "__qualname__" 248 (s "NoPlace" 247),e P "__firstlineno__" 250 (i 8 249),e P "__static_attributes__" 251 (r 59)] 4),#[]⟩
def o57:=c "NoPlace" 241 8 0 0 55 false 181 56 z z z 244
def o58:Obj:=⟨(t "frame"),none,.plain,#[some (r 57),some (r 3),some (r 54),none,some (s "minortables.errors" 187),none,some (r 0)]⟩
def o60(P:Params):Obj:=⟨(t "dict"),none,(.dict #[e P "__module__" 246 (s "minortables.errors" 187),e P "__firstlineno__" 250 (i 8 249),e P "__static_attributes__" 251 (r 59),e P "__doc__" 252 z] 2),#[]⟩
def o61:Obj:=⟨(t "type"),none,(.cls ⟨"NoPlace",[(r 24)],[(r 61),(r 24),(t "ValueError"),(t "Exception"),(t "BaseException"),(t "object")],60,"NoPlace",true,[],[],false,none,false⟩),#[some (r 52),none,some (s "NoPlace" 239),some (s "NoPlace" 247),some (b "ValueError.__new__"),some (.bool true)]⟩
def o62:Obj:=⟨(t "super"),none,(.fields #[(r 61),(r 61),(r 61)]),#[]⟩
def o63:Obj:=⟨(t "builtin_function_or_method"),none,(.fields #[(b "object.__init_subclass__"),(r 61)]),#[]⟩
def o3_5(P:Params):=og 14 14 (s "minortables.errors" 187) P
def W0:Obj:=⟨z,none,.fields (fv.take 15).toArray,#[]⟩
def Vs:Obj:=⟨(t "type"),none,(.cls ⟨"MinorError",[(t "ValueError")],[(r 24),(t "ValueError"),(t "Exception"),(t "BaseException"),(t "object")],23,"MinorError",true,[],[(r 37),(r 49),(r 61),(r 73)],false,none,false⟩),#[some (r 15),none,some (s "MinorError" 189),some (s "MinorError" 197),some (b "ValueError.__new__"),some (.bool true)]⟩
def o64:Obj:=⟨(t "tuple"),none,(.seq #[(r 24)] 0),#[]⟩
def o65:Obj:=⟨(t "builtin_function_or_method"),none,(.fields #[(b "type.__prepare__"),(t "type")]),#[]⟩
def o66(P:Params):Obj:=⟨(t "dict"),none,(.dict #[e P "__module__" 262 (s "minortables.errors" 187),e P "__qualname__" 264 (s "NoStep" 263),e P "__firstlineno__" 266 (i 10 265),e P "__static_attributes__" 267 (r 71)] 4),#[]⟩
def o69:=c "NoStep" 257 10 0 0 67 false 181 68 z z z 260
def o70:Obj:=⟨(t "frame"),none,.plain,#[some (r 69),some (r 3),some (r 66),none,some (s "minortables.errors" 187),none,some (r 0)]⟩
def o72(P:Params):Obj:=⟨(t "dict"),none,(.dict #[e P "__module__" 262 (s "minortables.errors" 187),e P "__firstlineno__" 266 (i 10 265),e P "__static_attributes__" 267 (r 71),e P "__doc__" 268 z] 2),#[]⟩
def o73:Obj:=⟨(t "type"),none,(.cls ⟨"NoStep",[(r 24)],[(r 73),(r 24),(t "ValueError"),(t "Exception"),(t "BaseException"),(t "object")],72,"NoStep",true,[],[],false,none,false⟩),#[some (r 64),none,some (s "NoStep" 255),some (s "NoStep" 263),some (b "ValueError.__new__"),some (.bool true)]⟩
def o74:Obj:=⟨(t "super"),none,(.fields #[(r 73),(r 73),(r 73)]),#[]⟩
def o75:Obj:=⟨(t "builtin_function_or_method"),none,(.fields #[(b "object.__init_subclass__"),(r 73)]),#[]⟩
def o3_6(P:Params):=og 15 15 (s "minortables.errors" 187) P
def WY:Obj:=⟨z,none,.fields (fv.take 18).toArray,#[]⟩
def Vr:Obj:=⟨(t "type"),none,(.cls ⟨"MinorError",[(t "ValueError")],[(r 24),(t "ValueError"),(t "Exception"),(t "BaseException"),(t "object")],23,"MinorError",true,[],[(r 37),(r 49),(r 61),(r 73),(r 85)],false,none,false⟩),#[some (r 15),none,some (s "MinorError" 189),some (s "MinorError" 197),some (b "ValueError.__new__"),some (.bool true)]⟩
def o76:Obj:=⟨(t "tuple"),none,(.seq #[(r 24)] 0),#[]⟩
def o77:Obj:=⟨(t "builtin_function_or_method"),none,(.fields #[(b "type.__prepare__"),(t "type")]),#[]⟩
def o78(P:Params):Obj:=⟨(t "dict"),none,(.dict #[e P "__module__" 278 (s "minortables.errors" 187),e P "__qualname__" 280 (s "NoSteps" 279),e P "__firstlineno__" 282 (i 12 281),e P "__static_attributes__" 283 (r 83)] 4),#[]⟩
def o81:=c "NoSteps" 273 12 0 0 79 false 181 80 z z z 276
def o82:Obj:=⟨(t "frame"),none,.plain,#[some (r 81),some (r 3),some (r 78),none,some (s "minortables.errors" 187),none,some (r 0)]⟩
def o84(P:Params):Obj:=⟨(t "dict"),none,(.dict #[e P "__module__" 278 (s "minortables.errors" 187),e P "__firstlineno__" 282 (i 12 281),e P "__static_attributes__" 283 (r 83),e P "__doc__" 284 z] 2),#[]⟩
def o85:Obj:=⟨(t "type"),none,(.cls ⟨"NoSteps",[(r 24)],[(r 85),(r 24),(t "ValueError"),(t "Exception"),(t "BaseException"),(t "object")],84,"NoSteps",true,[],[],false,none,false⟩),#[some (r 76),none,some (s "NoSteps" 271),some (s "NoSteps" 279),some (b "ValueError.__new__"),some (.bool true)]⟩
def o86:Obj:=⟨(t "super"),none,(.fields #[(r 85),(r 85),(r 85)]),#[]⟩
def o87:Obj:=⟨(t "builtin_function_or_method"),none,(.fields #[(b "object.__init_subclass__"),(r 85)]),#[]⟩
def o3_7(P:Params):=og 22 22 (s "minortables.checks" 303) P
def WX:Obj:=⟨z,none,.fields (fv.take 36).toArray,#[]⟩
def Hy:Obj:=⟨(t "type"),none,(.cls ⟨"MinorError",[(t "ValueError")],[(r 24),(t "ValueError"),(t "Exception"),(t "BaseException"),(t "object")],23,"MinorError",true,[],[(r 37),(r 49),(r 61),(r 73),(r 85),(r 97)],false,none,false⟩),#[some (r 15),none,some (s "MinorError" 189),some (s "MinorError" 197),some (b "ValueError.__new__"),some (.bool true)]⟩
def o88:Obj:=⟨(t "tuple"),none,(.seq #[(r 24)] 0),#[]⟩
def o89:Obj:=⟨(t "builtin_function_or_method"),none,(.fields #[(b "type.__prepare__"),(t "type")]),#[]⟩
def o90(P:Params):Obj:=⟨(t "dict"),none,(.dict #[e P "__module__" 294 (s "minortables.errors" 187),e P "__qualname__" 296 (s "NoText" 295),e P "__firstlineno__" 298 (i 14 297),e P "__static_attributes__" 299 (r 95)] 4),#[]⟩
def o93:=c "NoText" 289 14 0 0 91 false 181 92 z z z 292
def o94:Obj:=⟨(t "frame"),none,.plain,#[some (r 93),some (r 3),some (r 90),none,some (s "minortables.errors" 187),none,some (r 0)]⟩
def o96(P:Params):Obj:=⟨(t "dict"),none,(.dict #[e P "__module__" 294 (s "minortables.errors" 187),e P "__firstlineno__" 298 (i 14 297),e P "__static_attributes__" 299 (r 95),e P "__doc__" 300 z] 2),#[]⟩
def o97:Obj:=⟨(t "type"),none,(.cls ⟨"NoText",[(r 24)],[(r 97),(r 24),(t "ValueError"),(t "Exception"),(t "BaseException"),(t "object")],96,"NoText",true,[],[],false,none,false⟩),#[some (r 88),none,some (s "NoText" 287),some (s "NoText" 295),some (b "ValueError.__new__"),some (.bool true)]⟩
def o98:Obj:=⟨(t "super"),none,(.fields #[(r 97),(r 97),(r 97)]),#[]⟩
def o99:Obj:=⟨(t "builtin_function_or_method"),none,(.fields #[(b "object.__init_subclass__"),(r 97)]),#[]⟩
def Xi:Obj:=tn ["thing"] 310
def aaC:Obj:=g (d 10) "is_whole"
def Xh:Obj:=c "is_whole" 307 18 1 3 100 true 181 101 (r 102) (r 103) (r 104) 311
def Xg:Obj:=u (d 10) "is_whole" (s "minortables.checks" 303) 105
def Xf:Obj:=tn ["thing","least","most"] 317
def o111:=g (d 11) "is_whole_within"
def Xe:Obj:=c "is_whole_within" 314 20 3 3 107 true 181 108 (r 109) (r 110) (r 111) 320
def Xd:Obj:=u (d 11) "is_whole_within" (s "minortables.checks" 303) 112
def Xb:Obj:=tn ["thing"] 326
def aaB:Obj:=g (d 12) "is_short_tuple"
def Xa:Obj:=c "is_short_tuple" 323 22 1 3 114 true 181 115 (r 116) (r 117) (r 118) 327
def W9:Obj:=u (d 12) "is_short_tuple" (s "minortables.checks" 303) 119
def aaA:Obj:=g (d 13) "has_lines"
def W8:Obj:=c "has_lines" 330 24 1 3 121 true 181 122 z z (r 123) 333
def W7:Obj:=u (d 13) "has_lines" (s "minortables.checks" 303) 124
def W6:Obj:=tn ["table","told","row"] 339
def aaz:Obj:=g (d 14) "numbers_of"
def WR:Obj:=c "numbers_of" 336 28 1 3 126 true 181 127 (r 128) (r 129) (r 130) 342
def WQ:Obj:=u (d 14) "numbers_of" (s "minortables.checks" 303) 131
def o3_8(P:Params):=og 35 35 (s "minortables.fractions" 388) P
def WW:Obj:=⟨z,none,.fields (fv.take 75).toArray,#[]⟩
def aay:Obj:=g (d 15) "has_table_form"
def WM:Obj:=c "has_table_form" 345 33 1 3 133 true 181 134 z z (r 135) 348
def WL:Obj:=u (d 15) "has_table_form" (s "minortables.checks" 303) 136
def WK:Obj:=tn ["table"] 354
def aax:Obj:=g (d 16) "is_square"
def WD:Obj:=c "is_square" 351 35 1 3 138 true 181 139 (r 140) (r 141) (r 142) 355
def Wz:Obj:=u (d 16) "is_square" (s "minortables.checks" 303) 143
def Wy:Obj:=tn ["thing","many"] 361
def aaw:Obj:=g (d 17) "is_place"
def Wx:Obj:=c "is_place" 358 37 2 3 145 true 181 146 (r 147) (r 148) (r 149) 363
def Ww:Obj:=u (d 17) "is_place" (s "minortables.checks" 303) 150
def Wv:Obj:=tn ["thing"] 369
def aav:Obj:=g (d 18) "need_table"
def Wu:Obj:=c "need_table" 366 39 1 3 152 true 181 153 (r 154) (r 155) (r 156) 370
def Wt:Obj:=u (d 18) "need_table" (s "minortables.checks" 303) 157
def Ws:Obj:=tn ["table"] 376
def aau:Obj:=g (d 19) "need_square"
def Wr:Obj:=c "need_square" 373 42 1 3 159 true 181 160 (r 161) (r 162) (r 163) 377
def Wq:Obj:=u (d 19) "need_square" (s "minortables.checks" 303) 164
def Wo:Obj:=tn ["thing","most"] 383
def aat:Obj:=g (d 20) "need_size"
def Wn:Obj:=c "need_size" 380 45 2 3 166 true 181 167 (r 168) (r 169) (r 170) 385
def Wm:Obj:=u (d 20) "need_size" (s "minortables.checks" 303) 171
def Wj:Obj:=tn ["one","other","rest"] 393
def aas:Obj:=g (d 22) "common_measure"
def Wi:Obj:=c "common_measure" 390 49 2 3 173 true 181 174 (r 175) (r 176) (r 177) 396
def Wh:Obj:=u (d 22) "common_measure" (s "minortables.fractions" 388) 178
def Wg:Obj:=tn ["up","down","measure"] 402
def aar:Obj:=g (d 23) "lowest"
def Wf:Obj:=c "lowest" 399 55 2 3 180 true 181 181 (r 182) (r 183) (r 184) 405
def Wd:Obj:=u (d 23) "lowest" (s "minortables.fractions" 388) 185
def Wb:Obj:=tn ["thing"] 411
def aaq:Obj:=g (d 24) "has_fraction_form"
def Wa:Obj:=c "has_fraction_form" 408 60 1 3 187 true 181 188 (r 189) (r 190) (r 191) 412
def V9:Obj:=u (d 24) "has_fraction_form" (s "minortables.fractions" 388) 192
def V8:Obj:=tn ["thing"] 418
def aap:Obj:=g (d 25) "is_fraction"
def V7:Obj:=c "is_fraction" 415 66 1 3 194 true 181 195 (r 196) (r 197) (r 198) 419
def o200:=u (d 25) "is_fraction" (s "minortables.fractions" 388) 199
def V6:Obj:=tn ["one","other"] 425
def aao:Obj:=g (d 26) "sum_of"
def V5:Obj:=c "sum_of" 422 68 2 3 201 true 181 202 (r 203) (r 204) (r 205) 427
def V4:Obj:=u (d 26) "sum_of" (s "minortables.fractions" 388) 206
def V3:Obj:=tn ["one","other"] 433
def aan:Obj:=g (d 27) "times_of"
def V2:Obj:=c "times_of" 430 70 2 3 208 true 181 209 (r 210) (r 211) (r 212) 435
def V1:Obj:=u (d 27) "times_of" (s "minortables.fractions" 388) 213
def V0:Obj:=tn ["one","other"] 441
def aam:Obj:=g (d 28) "less_of"
def VR:Obj:=c "less_of" 438 72 2 3 215 true 181 216 (r 217) (r 218) (r 219) 443
def VP:Obj:=u (d 28) "less_of" (s "minortables.fractions" 388) 220
def o3_9(P:Params):=og 49 49 (s "minortables.minors" 526) P
def WT:Obj:=⟨z,none,.fields (fv.take 117).toArray,#[]⟩
def VN:Obj:=tn ["one","other"] 449
def aal:Obj:=g (d 29) "parted"
def VL:Obj:=c "parted" 446 74 2 3 222 true 181 223 (r 224) (r 225) (r 226) 451
def VJ:Obj:=u (d 29) "parted" (s "minortables.fractions" 388) 227
def VH:Obj:=tn ["some","told","fraction"] 457
def aak:Obj:=g (d 30) "all_sum"
def VG:Obj:=c "all_sum" 454 76 1 3 229 true 181 230 (r 231) (r 232) (r 233) 460
def VF:Obj:=u (d 30) "all_sum" (s "minortables.fractions" 388) 234
def aaj:Obj:=g (d 31) "need_fraction_table"
def VD:Obj:=c "need_fraction_table" 463 81 1 3 236 true 181 237 z z (r 238) 466
def VB:Obj:=u (d 31) "need_fraction_table" (s "minortables.fractions" 388) 239
def aai:Obj:=g (d 32) "row_as_fractions"
def Vz:Obj:=c "row_as_fractions" 469 84 1 3 241 true 181 242 z z (r 243) 472
def Vy:Obj:=u (d 32) "row_as_fractions" (s "minortables.fractions" 388) 244
def aah:Obj:=g (d 33) "as_fractions"
def Vx:Obj:=c "as_fractions" 475 86 1 3 246 true 181 247 z z (r 248) 478
def Vq:Obj:=u (d 33) "as_fractions" (s "minortables.fractions" 388) 249
def aag:Obj:=g (d 35) "column_of"
def Vp:Obj:=c "column_of" 483 90 2 3 251 true 181 252 z z (r 253) 486
def Vo:Obj:=u (d 35) "column_of" (s "minortables.tables" 481) 254
def aaf:Obj:=g (d 36) "columns_of"
def Vn:Obj:=c "columns_of" 489 92 1 3 256 true 181 257 z z (r 258) 492
def Vm:Obj:=u (d 36) "columns_of" (s "minortables.tables" 481) 259
def Vl:Obj:=tn ["table"] 498
def aae:Obj:=g (d 37) "turned"
def Vk:Obj:=c "turned" 495 94 1 3 261 true 181 262 (r 263) (r 264) (r 265) 499
def Vj:Obj:=u (d 37) "turned" (s "minortables.tables" 481) 266
def aad:Obj:=g (d 38) "picked"
def Vi:Obj:=c "picked" 502 97 2 3 268 true 181 269 z z (r 270) 505
def Vh:Obj:=u (d 38) "picked" (s "minortables.tables" 481) 271
def aac:Obj:=g (d 39) "part_at"
def Vg:Obj:=c "part_at" 508 99 3 3 273 true 181 274 z z (r 275) 511
def Vf:Obj:=u (d 39) "part_at" (s "minortables.tables" 481) 276
def Z9:Obj:=g (d 40) "plain_row"
def Ve:Obj:=c "plain_row" 514 101 2 3 278 true 181 279 z z (r 280) 517
def Vd:Obj:=u (d 40) "plain_row" (s "minortables.tables" 481) 281
def Z8:Obj:=g (d 41) "plain"
def Vc:Obj:=c "plain" 520 103 1 3 283 true 181 284 z z (r 285) 523
def Vb:Obj:=u (d 41) "plain" (s "minortables.tables" 481) 286
def Z7:Obj:=g (d 43) "without"
def Va:Obj:=c "without" 528 107 3 3 288 true 181 289 z z (r 290) 531
def U9:Obj:=u (d 43) "without" (s "minortables.minors" 526) 291
def Z6:Obj:=g (d 44) "worth_of"
def U8:Obj:=c "worth_of" 534 110 1 3 293 true 181 294 z z (r 295) 537
def U7:Obj:=u (d 44) "worth_of" (s "minortables.minors" 526) 296
def Tn(P:Params):Obj:=og 62 62 (s "minortables.good" 633) P
def Ml:Obj:=⟨z,none,.fields (fv.take 156).toArray,#[]⟩
def o300:=tn ["table","row","column"] 543
def Z5:Obj:=g (d 45) "rest_worth"
def U4:Obj:=c "rest_worth" 540 114 3 3 298 true 181 299 (r 300) (r 301) (r 302) 546
def U3:Obj:=u (d 45) "rest_worth" (s "minortables.minors" 526) 303
def UW:Obj:=tn ["table","row","column","worth"] 552
def Z4:Obj:=g (d 46) "signed_rest"
def UL:Obj:=c "signed_rest" 549 116 3 3 305 true 181 306 (r 307) (r 308) (r 309) 556
def UJ:Obj:=u (d 46) "signed_rest" (s "minortables.minors" 526) 310
def Z2:Obj:=g (d 47) "row_with_rests"
def UG:Obj:=c "row_with_rests" 559 119 2 3 312 true 181 313 z z (r 314) 562
def Uz:Obj:=u (d 47) "row_with_rests" (s "minortables.minors" 526) 315
def Z1:Obj:=g (d 48) "with_behind"
def Uy:Obj:=c "with_behind" 565 121 2 3 317 true 181 318 z z (r 319) 568
def Ux:Obj:=u (d 48) "with_behind" (s "minortables.minors" 526) 320
def Uw:Obj:=tn ["many","size","told","length","longer","places"] 574
def Z0:Obj:=g (d 49) "rising_tuples"
def Uv:Obj:=c "rising_tuples" 571 124 2 3 322 true 181 323 (r 324) (r 325) (r 326) 580
def Uu:Obj:=u (d 49) "rising_tuples" (s "minortables.minors" 526) 327
def Ut:Obj:=tn ["table"] 586
def ZX:Obj:=g (d 50) "greatest_size"
def Us:Obj:=c "greatest_size" 583 132 1 3 329 true 181 330 (r 331) (r 332) (r 333) 587
def Ur:Obj:=u (d 50) "greatest_size" (s "minortables.minors" 526) 334
def Uq:Obj:=tn ["table","rows","told","columns"] 593
def ZW:Obj:=g (d 51) "minors_of_rows"
def Uo:Obj:=c "minors_of_rows" 590 134 2 3 336 true 181 337 (r 338) (r 339) (r 340) 597
def Um:Obj:=u (d 51) "minors_of_rows" (s "minortables.minors" 526) 341
def Ul:Obj:=tn ["table","size","told","rows"] 603
def ZV:Obj:=g (d 52) "minors_of_size"
def Uk:Obj:=c "minors_of_size" 600 139 2 3 343 true 181 344 (r 345) (r 346) (r 347) 607
def Uj:Obj:=u (d 52) "minors_of_size" (s "minortables.minors" 526) 348
def Ui:Obj:=tn ["table","told","size"] 613
def ZS:Obj:=g (d 53) "minors_in"
def Uh:Obj:=c "minors_in" 610 144 1 3 350 true 181 351 (r 352) (r 353) (r 354) 616
def Ug:Obj:=u (d 53) "minors_in" (s "minortables.minors" 526) 355
def Ue:Obj:=tn ["table"] 622
def ZR:Obj:=g (d 54) "all_minors"
def Ud:Obj:=c "all_minors" 619 149 1 3 357 true 181 358 (r 359) (r 360) (r 361) 623
def Uc:Obj:=u (d 54) "all_minors" (s "minortables.minors" 526) 362
def Ub:Obj:=tn ["table"] 629
def ZQ:Obj:=g (d 55) "whole_minor"
def Ua:Obj:=c "whole_minor" 626 152 1 3 364 true 181 365 (r 366) (r 367) (r 368) 630
def TY:Obj:=u (d 55) "whole_minor" (s "minortables.minors" 526) 369
def ZP:Obj:=g (d 57) "none_below"
def TV:Obj:=c "none_below" 635 157 1 3 371 true 181 372 z z (r 373) 638
def TQ:Obj:=u (d 57) "none_below" (s "minortables.good" 633) 374
def TJ:Obj:=tn ["table"] 644
def ZM:Obj:=g (d 58) "is_good"
def TF:Obj:=c "is_good" 641 159 1 3 376 true 181 377 (r 378) (r 379) (r 380) 645
def Tz:Obj:=u (d 58) "is_good" (s "minortables.good" 633) 381
def Tj(P:Params):Obj:=og 76 76 (s "minortables.steps" 648) P
def Mj:Obj:=⟨z,none,.fields (fv.take 186).toArray,#[]⟩
def O7(P:Params):Obj:=⟨(t "dict"),none,(.dict #[e P "up" 656 (s "down" 657),e P "down" 658 (s "up" 659),e P "scale" 660 (s "scale" 661)] 3),#[]⟩
def Tw:Obj:=tn ["many","word","place","share"] 669
def ZL:Obj:=g (d 64) "is_step_of"
def Tv:Obj:=c "is_step_of" 666 166 4 3 384 true 181 385 (r 386) (r 387) (r 388) 673
def Tt:Obj:=u (d 64) "is_step_of" (s "minortables.steps" 648) 389
def Tr:Obj:=tn ["many","thing"] 679
def ZK:Obj:=g (d 65) "is_step"
def Tq:Obj:=c "is_step" 676 170 2 3 391 true 181 392 (r 393) (r 394) (r 395) 681
def Tp:Obj:=u (d 65) "is_step" (s "minortables.steps" 648) 396
def o400:=g (d 66) "need_steps"
def Tg:Obj:=c "need_steps" 684 174 2 3 398 true 181 399 z z (r 400) 687
def Tf:Obj:=u (d 66) "need_steps" (s "minortables.steps" 648) 401
def ZJ:Obj:=g (d 67) "row_by_column"
def Te:Obj:=c "row_by_column" 690 179 2 3 403 true 181 404 z z (r 405) 693
def Td:Obj:=u (d 67) "row_by_column" (s "minortables.steps" 648) 406
def ZG:Obj:=g (d 68) "row_by_columns"
def Tc:Obj:=c "row_by_columns" 696 181 2 3 408 true 181 409 z z (r 410) 699
def SX:Obj:=u (d 68) "row_by_columns" (s "minortables.steps" 648) 411
def ZF:Obj:=g (d 69) "product_of"
def SQ:Obj:=c "product_of" 702 183 2 3 413 true 181 414 z z (r 415) 705
def SN:Obj:=u (d 69) "product_of" (s "minortables.steps" 648) 416
def ZD:Obj:=g (d 70) "table_of_step"
def SM:Obj:=c "table_of_step" 708 190 4 3 418 true 181 419 z z (r 420) 711
def SJ:Obj:=u (d 70) "table_of_step" (s "minortables.steps" 648) 421
def Sy:Obj:=tn ["many","steps","made","word","place","share"] 717
def ZC:Obj:=g (d 71) "made_by"
def Sx:Obj:=c "made_by" 714 196 2 3 423 true 181 424 (r 425) (r 426) (r 427) 723
def Sw:Obj:=u (d 71) "made_by" (s "minortables.steps" 648) 428
def Zz:Obj:=g (d 72) "turned_steps"
def Sv:Obj:=c "turned_steps" 726 202 1 3 430 true 181 431 z z (r 432) 729
def Ss:Obj:=u (d 72) "turned_steps" (s "minortables.steps" 648) 433
def Zy:Obj:=g (d 73) "row_less"
def Sh:Obj:=c "row_less" 732 204 3 3 435 true 181 436 z z (r 437) 735
def Sg:Obj:=u (d 73) "row_less" (s "minortables.steps" 648) 438
def Ti(P:Params):Obj:=og 89 89 (s "law_minortables_k32_whole_taken_apart" 780) P
def Mi:Obj:=⟨z,none,.fields (fv.take 225).toArray,#[]⟩
def Sd:Obj:=tn ["table","rows","steps","column","row","share"] 741
def o444:=g (d 74) "down_steps"
def R9:Obj:=c "down_steps" 738 206 1 3 440 true 181 441 (r 442) (r 443) (r 444) 747
def R8:Obj:=u (d 74) "down_steps" (s "minortables.steps" 648) 445
def Zx:Obj:=g (d 75) "corner_worth"
def R7:Obj:=c "corner_worth" 750 216 2 3 447 true 181 448 z z (r 449) 753
def R6:Obj:=u (d 75) "corner_worth" (s "minortables.steps" 648) 450
def R5:Obj:=tn ["table","steps","place","share"] 759
def Zw:Obj:=g (d 76) "scale_steps"
def R4:Obj:=c "scale_steps" 756 218 1 3 452 true 181 453 (r 454) (r 455) (r 456) 763
def R3:Obj:=u (d 76) "scale_steps" (s "minortables.steps" 648) 457
def R0:Obj:=tn ["table"] 769
def Zv:Obj:=g (d 77) "can_be_taken_apart"
def RZ:Obj:=c "can_be_taken_apart" 766 225 1 3 459 true 181 460 (r 461) (r 462) (r 463) 770
def RX:Obj:=u (d 77) "can_be_taken_apart" (s "minortables.steps" 648) 464
def RW:Obj:=tn ["table"] 776
def Zu:Obj:=g (d 78) "taken_apart"
def RV:Obj:=c "taken_apart" 773 229 1 3 466 true 181 467 (r 468) (r 469) (r 470) 777
def RT:Obj:=u (d 78) "taken_apart" (s "minortables.steps" 648) 471
def RQ:Obj:=tn ["_law_script","_law_k"] 785
def Zt:Obj:=g (d 80) "_law_cell"
def RP:Obj:=c "_law_cell" 782 234 2 3 473 true 181 474 (r 475) (r 476) (r 477) 787
def RN:Obj:=u (d 80) "_law_cell" (s "law_minortables_k32_whole_taken_apart" 780) 478
def RM:Obj:=tn ["_law_script","_law_k","_law_many","_law_drawn"] 793
def Zr:Obj:=g (d 81) "_law_pick"
def RL:Obj:=c "_law_pick" 790 240 3 3 480 true 181 481 (r 482) (r 483) (r 484) 797
def RK:Obj:=u (d 81) "_law_pick" (s "law_minortables_k32_whole_taken_apart" 780) 485
def Zq:Obj:=g (d 82) "_law_table"
def RJ:Obj:=c "_law_table" 800 243 4 3 487 true 181 488 z z (r 489) 803
def RG:Obj:=u (d 82) "_law_table" (s "law_minortables_k32_whole_taken_apart" 780) 490
def Zo:Obj:=tn ["_law_script","_law_at"] 809
def Zn:Obj:=g (d 83) "_law_size"
def Zm:Obj:=c "_law_size" 806 249 2 3 492 true 181 493 (r 494) (r 495) (r 496) 811
def Zk:Obj:=u (d 83) "_law_size" (s "law_minortables_k32_whole_taken_apart" 780) 497
def RD:Obj:=tn ["_law_one","_law_other","_law_made","_law_row","_law_line","_law_column","_law_total","_law_k"] 817
def Zj:Obj:=g (d 84) "_law_times"
def RB:Obj:=c "_law_times" 814 251 2 3 499 true 181 500 (r 501) (r 502) (r 503) 825
def Rz:Obj:=u (d 84) "_law_times" (s "law_minortables_k32_whole_taken_apart" 780) 504
def Zi:Obj:=g (d 85) "_law_worth"
def Zh:Obj:=c "_law_worth" 828 262 1 3 506 true 181 507 z z (r 508) 831
def Zg:Obj:=u (d 85) "_law_worth" (s "law_minortables_k32_whole_taken_apart" 780) 509
def Zf:Obj:=g (d 86) "_law_some"
def Ze:Obj:=c "_law_some" 834 272 2 3 511 true 181 512 z z (r 513) 837
def Zd:Obj:=u (d 86) "_law_some" (s "law_minortables_k32_whole_taken_apart" 780) 514
def Zc:Obj:=g (d 87) "_law_part"
def Zb:Obj:=c "_law_part" 840 280 3 3 516 true 181 517 z z (r 518) 843
def Za:Obj:=u (d 87) "_law_part" (s "law_minortables_k32_whole_taken_apart" 780) 519
def Hx(P:Params):Obj:=og 98 98 (s "law_minortables_k32_whole_taken_apart" 780) P
def DN:Obj:=⟨z,none,.fields (fv.take 252).toArray,#[]⟩
def Y9:Obj:=tn ["_law_table_here","_law_made","_law_size_here","_law_some_here","_law_others"] 849
def Y8:Obj:=g (d 88) "_law_minors"
def Y7:Obj:=c "_law_minors" 846 282 1 3 521 true 181 522 (r 523) (r 524) (r 525) 854
def Y6:Obj:=u (d 88) "_law_minors" (s "law_minortables_k32_whole_taken_apart" 780) 526
def Y5:Obj:=g (d 89) "_law_good_table"
def Ry:Obj:=c "_law_good_table" 857 289 3 3 528 true 181 529 z z (r 530) 860
def Rx:Obj:=u (d 89) "_law_good_table" (s "law_minortables_k32_whole_taken_apart" 780) 531
def Y4:Obj:=g (d 90) "_law_places"
def Rw:Obj:=c "_law_places" 863 309 1 3 533 true 181 534 z z (r 535) 866
def Rv:Obj:=u (d 90) "_law_places" (s "law_minortables_k32_whole_taken_apart" 780) 536
def Ru:Obj:=tn ["_law_thing","_law_place","_law_new","_law_k"] 872
def Y0:Obj:=g (d 91) "_law_put"
def Rt:Obj:=c "_law_put" 869 315 3 3 538 true 181 539 (r 540) (r 541) (r 542) 876
def Rr:Obj:=u (d 91) "_law_put" (s "law_minortables_k32_whole_taken_apart" 780) 543
def Rq:Obj:=tn ["_law_script","_law_at","_law_thing","_law_places_here","_law_place","_law_here","_law_k","_law_some_here"] 882
def YZ:Obj:=g (d 92) "_law_spoilt_thing"
def Rp:Obj:=c "_law_spoilt_thing" 879 320 3 3 545 true 181 546 (r 547) (r 548) (r 549) 890
def Ro:Obj:=u (d 92) "_law_spoilt_thing" (s "law_minortables_k32_whole_taken_apart" 780) 550
def YX:Obj:=g (d 93) "_law_is_table"
def o555:=c "_law_is_table" 893 328 2 3 552 true 181 553 z z (r 554) 896
def Rn:Obj:=u (d 93) "_law_is_table" (s "law_minortables_k32_whole_taken_apart" 780) 555
def Rm:Obj:=tn ["_law_kept","_law_kinds"] 902
def YW:Obj:=g (d 94) "_law_word"
def Rk:Obj:=c "_law_word" 899 340 1 3 557 true 181 558 (r 559) (r 560) (r 561) 904
def Rj:Obj:=u (d 94) "_law_word" (s "law_minortables_k32_whole_taken_apart" 780) 562
def Ri:Obj:=tn ["_law_what","_law_table_here","_law_kept","_law_answer","e"] 910
def YT:Obj:=g (d 95) "_law_do"
def Rh:Obj:=c "_law_do" 907 346 2 3 564 true 181 565 (r 566) (r 567) (r 568) 915
def Rg:Obj:=u (d 95) "_law_do" (s "law_minortables_k32_whole_taken_apart" 780) 569
def YS:Obj:=g (d 96) "law"
def Rf:Obj:=c "law" 918 356 1 3 571 true 181 572 z z (r 573) 921
def Rc:Obj:=u (d 96) "law" (s "law_minortables_k32_whole_taken_apart" 780) 574
def Ha(P:Params):Heap:=⟨⟨[boot_o_0 P,boot_o_1 P,boot_o_2 P,boot_o_3 P,boot_o_4 P,boot_o_5 P,boot_o_6 P,boot_o_7 P,boot_o_8 P,boot_o_9 P,boot_o_10 P,y,o12,o13,o14]⟩,{}⟩
def T0(P:Params):BT:=I .nil 0 [boot_o_0 P,boot_o_1 P,boot_o_2 P,boot_o_3 P,boot_o_4 P,boot_o_5 P,boot_o_6 P,boot_o_7 P,boot_o_8 P,boot_o_9 P,boot_o_10 P,y,o12,o13,o14]
def T1(P:Params):BT:=I (T0 P) 15 [o15,o16,o17 P,y,x,o20,o21,y,o23 P,o24,o25,o26,o27] |>.set 3 (fun _=>o3_1 P) |>.set 12 (fun _=>W5)
def T2(P:Params):BT:=I (T1 P) 28 [o28,o29,o30 P,y,x,o33,o34,y,o36 P,o37,o38,o39] |>.set 3 (fun _=>o3_2 P) |>.set 12 (fun _=>W4) |>.set 24 (fun _=>Vv)
def T3(P:Params):BT:=I (T2 P) 40 [o40,o41,o42 P,y,x,o45,o46,y,o48 P,o49,o50,o51] |>.set 3 (fun _=>o3_3 P) |>.set 12 (fun _=>W3) |>.set 24 (fun _=>Vu)
def T4(P:Params):BT:=I (T3 P) 52 [o52,o53,o54 P,y,x,o57,o58,y,o60 P,o61,o62,o63] |>.set 3 (fun _=>o3_4 P) |>.set 12 (fun _=>W2) |>.set 24 (fun _=>Vt)
def T5(P:Params):BT:=I (T4 P) 64 [o64,o65,o66 P,y,x,o69,o70,y,o72 P,o73,o74,o75] |>.set 3 (fun _=>o3_5 P) |>.set 12 (fun _=>W0) |>.set 24 (fun _=>Vs)
def T6(P:Params):BT:=I (T5 P) 76 [o76,o77,o78 P,y,x,o81,o82,y,o84 P,o85,o86,o87] |>.set 3 (fun _=>o3_6 P) |>.set 12 (fun _=>WY) |>.set 24 (fun _=>Vr)
def T7(P:Params):BT:=I (T6 P) 88 [o88,o89,o90 P,y,x,o93,o94,y,o96 P,o97,o98,o99,y,x,Xi,y,aaC,Xh,Xg,y,x,Xf,y,o111,Xe,Xd,y,x,Xb,y,aaB,Xa,W9,y,x,aaA,W8,W7,y,x,W6,y,aaz,WR,WQ] |>.set 3 (fun _=>o3_7 P) |>.set 12 (fun _=>WX) |>.set 24 (fun _=>Hy)
def T8(P:Params):BT:=I (T7 P) 133 [y,x,aay,WM,WL,y,x,WK,y,aax,WD,Wz,y,x,Wy,y,aaw,Wx,Ww,y,x,Wv,y,aav,Wu,Wt,y,x,Ws,y,aau,Wr,Wq,y,x,Wo,y,aat,Wn,Wm,y,x,Wj,y,aas,Wi,Wh,y,x,Wg,y,aar,Wf,Wd,y,x,Wb,y,aaq,Wa,V9,y,x,V8,y,aap,V7,o200,y,x,V6,y,aao,V5,V4,y,x,V3,y,aan,V2,V1,y,x,V0,y,aam,VR,VP] |>.set 3 (fun _=>o3_8 P) |>.set 12 (fun _=>WW)
def T9(P:Params):BT:=I (T8 P) 222 [y,x,VN,y,aal,VL,VJ,y,x,VH,y,aak,VG,VF,y,x,aaj,VD,VB,y,x,aai,Vz,Vy,y,x,aah,Vx,Vq,y,x,aag,Vp,Vo,y,x,aaf,Vn,Vm,y,x,Vl,y,aae,Vk,Vj,y,x,aad,Vi,Vh,y,x,aac,Vg,Vf,y,x,Z9,Ve,Vd,y,x,Z8,Vc,Vb,y,x,Z7,Va,U9,y,x,Z6,U8,U7] |>.set 3 (fun _=>o3_9 P) |>.set 12 (fun _=>WT)
def T10(P:Params):BT:=I (T9 P) 298 [y,x,o300,y,Z5,U4,U3,y,x,UW,y,Z4,UL,UJ,y,x,Z2,UG,Uz,y,x,Z1,Uy,Ux,y,x,Uw,y,Z0,Uv,Uu,y,x,Ut,y,ZX,Us,Ur,y,x,Uq,y,ZW,Uo,Um,y,x,Ul,y,ZV,Uk,Uj,y,x,Ui,y,ZS,Uh,Ug,y,x,Ue,y,ZR,Ud,Uc,y,x,Ub,y,ZQ,Ua,TY,y,x,ZP,TV,TQ,y,x,TJ,y,ZM,TF,Tz] |>.set 3 (fun _=>Tn P) |>.set 12 (fun _=>Ml)
def T11(P:Params):BT:=I (T10 P) 383 [O7 P,y,x,Tw,y,ZL,Tv,Tt,y,x,Tr,y,ZK,Tq,Tp,y,x,o400,Tg,Tf,y,x,ZJ,Te,Td,y,x,ZG,Tc,SX,y,x,ZF,SQ,SN,y,x,ZD,SM,SJ,y,x,Sy,y,ZC,Sx,Sw,y,x,Zz,Sv,Ss,y,x,Zy,Sh,Sg] |>.set 3 (fun _=>Tj P) |>.set 12 (fun _=>Mj)
def T12(P:Params):BT:=I (T11 P) 440 [y,x,Sd,y,o444,R9,R8,y,x,Zx,R7,R6,y,x,R5,y,Zw,R4,R3,y,x,R0,y,Zv,RZ,RX,y,x,RW,y,Zu,RV,RT,y,x,RQ,y,Zt,RP,RN,y,x,RM,y,Zr,RL,RK,y,x,Zq,RJ,RG,y,x,Zo,y,Zn,Zm,Zk,y,x,RD,y,Zj,RB,Rz,y,x,Zi,Zh,Zg,y,x,Zf,Ze,Zd,y,x,Zc,Zb,Za] |>.set 3 (fun _=>Ti P) |>.set 12 (fun _=>Mi)
def T13(P:Params):BT:=I (T12 P) 521 [y,x,Y9,y,Y8,Y7,Y6,y,x,Y5,Ry,Rx,y,x,Y4,Rw,Rv,y,x,Ru,y,Y0,Rt,Rr,y,x,Rq,y,YZ,Rp,Ro,y,x,YX,o555,Rn,y,x,Rm,y,YW,Rk,Rj,y,x,Ri,y,YT,Rh,Rg,y,x,YS,Rf,Rc] |>.set 3 (fun _=>Hx P) |>.set 12 (fun _=>DN)
def H1(P:Params):Heap:=⟨⟨[boot_o_0 P,boot_o_1 P,boot_o_2 P,Hx P,boot_o_4 P,boot_o_5 P,boot_o_6 P,boot_o_7 P,boot_o_8 P,boot_o_9 P,boot_o_10 P,y,DN,o13,o14,o15,o16,o17 P,y,x,o20,o21,y,o23 P,Hy,o25,o26,o27,o28,o29,o30 P,y,x,o33,o34,y,o36 P,o37,o38,o39,o40,o41,o42 P,y,x,o45,o46,y,o48 P,o49,o50,o51,o52,o53,o54 P,y,x,o57,o58,y,o60 P,o61,o62,o63,o64,o65,o66 P,y,x,o69,o70,y,o72 P,o73,o74,o75,o76,o77,o78 P,y,x,o81,o82,y,o84 P,o85,o86,o87,o88,o89,o90 P,y,x,o93,o94,y,o96 P,o97,o98,o99,y,x,Xi,y,aaC,Xh,Xg,y,x,Xf,y,o111,Xe,Xd,y,x,Xb,y,aaB,Xa,W9,y,x,aaA,W8,W7,y,x,W6,y,aaz,WR,WQ,y,x,aay,WM,WL,y,x,WK,y,aax,WD,Wz,y,x,Wy,y,aaw,Wx,Ww,y,x,Wv,y,aav,Wu,Wt,y,x,Ws,y,aau,Wr,Wq,y,x,Wo,y,aat,Wn,Wm,y,x,Wj,y,aas,Wi,Wh,y,x,Wg,y,aar,Wf,Wd,y,x,Wb,y,aaq,Wa,V9,y,x,V8,y,aap,V7,o200,y,x,V6,y,aao,V5,V4,y,x,V3,y,aan,V2,V1,y,x,V0,y,aam,VR,VP,y,x,VN,y,aal,VL,VJ,y,x,VH,y,aak,VG,VF,y,x,aaj,VD,VB,y,x,aai,Vz,Vy,y,x,aah,Vx,Vq,y,x,aag,Vp,Vo,y,x,aaf,Vn,Vm,y,x,Vl,y,aae,Vk,Vj,y,x,aad,Vi,Vh,y,x,aac,Vg,Vf,y,x,Z9,Ve,Vd,y,x,Z8,Vc,Vb,y,x,Z7,Va,U9,y,x,Z6,U8,U7,y,x,o300,y,Z5,U4,U3,y,x,UW,y,Z4,UL,UJ,y,x,Z2,UG,Uz,y,x,Z1,Uy,Ux,y,x,Uw,y,Z0,Uv,Uu,y,x,Ut,y,ZX,Us,Ur,y,x,Uq,y,ZW,Uo,Um,y,x,Ul,y,ZV,Uk,Uj,y,x,Ui,y,ZS,Uh,Ug,y,x,Ue,y,ZR,Ud,Uc,y,x,Ub,y,ZQ,Ua,TY,y,x,ZP,TV,TQ,y,x,TJ,y,ZM,TF,Tz,O7 P,y,x,Tw,y,ZL,Tv,Tt,y,x,Tr,y,ZK,Tq,Tp,y,x,o400,Tg,Tf,y,x,ZJ,Te,Td,y,x,ZG,Tc,SX,y,x,ZF,SQ,SN,y,x,ZD,SM,SJ,y,x,Sy,y,ZC,Sx,Sw,y,x,Zz,Sv,Ss,y,x,Zy,Sh,Sg,y,x,Sd,y,o444,R9,R8,y,x,Zx,R7,R6,y,x,R5,y,Zw,R4,R3,y,x,R0,y,Zv,RZ,RX,y,x,RW,y,Zu,RV,RT,y,x,RQ,y,Zt,RP,RN,y,x,RM,y,Zr,RL,RK,y,x,Zq,RJ,RG,y,x,Zo,y,Zn,Zm,Zk,y,x,RD,y,Zj,RB,Rz,y,x,Zi,Zh,Zg,y,x,Zf,Ze,Zd,y,x,Zc,Zb,Za,y,x,Y9,y,Y8,Y7,Y6,y,x,Y5,Ry,Rx,y,x,Y4,Rw,Rv,y,x,Ru,y,Y0,Rt,Rr,y,x,Rq,y,YZ,Rp,Ro,y,x,YX,o555,Rn,y,x,Rm,y,YW,Rk,Rj,y,x,Ri,y,YT,Rh,Rg,y,x,YS,Rf,Rc]⟩,{}⟩
def S0(w:World)(os:OsState):SharedT:=⟨T0 w.params,15,{},⟨[]⟩,{},187,os⟩
def S1(w:World)(os:OsState):SharedT:=⟨T1 w.params,28,{},⟨[]⟩,{},207,os⟩
def S2(w:World)(os:OsState):SharedT:=⟨T2 w.params,40,{},⟨[]⟩,{},223,os⟩
def S3(w:World)(os:OsState):SharedT:=⟨T3 w.params,52,{},⟨[]⟩,{},239,os⟩
def S4(w:World)(os:OsState):SharedT:=⟨T4 w.params,64,{},⟨[]⟩,{},255,os⟩
def S5(w:World)(os:OsState):SharedT:=⟨T5 w.params,76,{},⟨[]⟩,{},271,os⟩
def S6(w:World)(os:OsState):SharedT:=⟨T6 w.params,88,{},⟨[]⟩,{},287,os⟩
def S7(w:World)(os:OsState):SharedT:=⟨T7 w.params,133,{},⟨[]⟩,{},345,os⟩
def S8(w:World)(os:OsState):SharedT:=⟨T8 w.params,222,{},⟨[]⟩,{},446,os⟩
def S9(w:World)(os:OsState):SharedT:=⟨T9 w.params,298,{},⟨[]⟩,{},540,os⟩
def S10(w:World)(os:OsState):SharedT:=⟨T10 w.params,383,{},⟨[]⟩,{},648,os⟩
def S11(w:World)(os:OsState):SharedT:=⟨T11 w.params,440,{},⟨[]⟩,{},738,os⟩
def S12(w:World)(os:OsState):SharedT:=⟨T12 w.params,521,{},⟨[]⟩,{},846,os⟩
def S13(w:World)(os:OsState):SharedT:=⟨T13 w.params,576,{},⟨[]⟩,{},924,os⟩
def S(w:World)(os:OsState):Shared:=⟨H1 w.params,⟨[]⟩,{},924,os⟩
def E:Env:={ scope:=p.main.scope,locals:=mainNs,globals:=mainNs,cells:=[],code:=(r 13),frame:=some 14 }
abbrev C:Code:=.body (behindTheImports p) E
abbrev B:List Frame:=[topFrame ⟨0,0,0,0⟩]
def l1:List Stmt:=((behindTheImports p).drop 0).take 2
def l2:List Stmt:=((behindTheImports p).drop 2).take 1
def l3:List Stmt:=((behindTheImports p).drop 3).take 1
def l4:List Stmt:=((behindTheImports p).drop 4).take 1
def l5:List Stmt:=((behindTheImports p).drop 5).take 1
def l6:List Stmt:=((behindTheImports p).drop 6).take 1
def l7:List Stmt:=((behindTheImports p).drop 7).take 8
def l8:List Stmt:=((behindTheImports p).drop 15).take 14
def l9:List Stmt:=((behindTheImports p).drop 29).take 16
def l10:List Stmt:=((behindTheImports p).drop 45).take 14
def l11:List Stmt:=((behindTheImports p).drop 59).take 15
def l12:List Stmt:=((behindTheImports p).drop 74).take 14
def l13:List Stmt:=((behindTheImports p).drop 88).take 9
theorem pre(w:World)(os:OsState):topGo treeTable p w 11 (some (r 6)) 12 ⟨boot_heap w.params,Array.mk [],boot_drawn,boot_toks,os⟩ (topStub p)=some (⟨Ha w.params,⟨[]⟩,{},187,os⟩,⟨denote treeTable C,C,⟨0,0,0,0⟩,B⟩):=goT (by rfl')
theorem blk(w:World)(os:OsState):segRun treeTable p w 11 (some (r 6)) 1 1 ⟨Ha w.params,⟨[]⟩,{},187,os⟩ (blockOf (behindTheImports p) E C ⟨0,0,0,0⟩ B)=some (.next,(S0 w os).abs,C,⟨0,0,0,0⟩):=segS (by rfl')
theorem p1(w:World)(os:OsState):segRun treeTable p w 11 (some (r 6)) 1 196 (S0 w os).abs (piecesOf l1 E C ⟨0,0,0,0⟩ B)=some (.next,(S1 w os).abs,C,⟨2,0,3,8⟩):=F5z (sH (by rfl'))
theorem p2(w:World)(os:OsState):segRun treeTable p w 11 (some (r 6)) 1 214 (S1 w os).abs (piecesOf l2 E C ⟨2,0,3,8⟩ B)=some (.next,(S2 w os).abs,C,⟨4,0,5,8⟩):=F5z (sH (by rfl'))
theorem p3(w:World)(os:OsState):segRun treeTable p w 11 (some (r 6)) 1 214 (S2 w os).abs (piecesOf l3 E C ⟨4,0,5,8⟩ B)=some (.next,(S3 w os).abs,C,⟨6,0,7,8⟩):=F5z (sH (by rfl'))
theorem p4(w:World)(os:OsState):segRun treeTable p w 11 (some (r 6)) 1 214 (S3 w os).abs (piecesOf l4 E C ⟨6,0,7,8⟩ B)=some (.next,(S4 w os).abs,C,⟨8,0,9,8⟩):=F5z (sH (by rfl'))
theorem p5(w:World)(os:OsState):segRun treeTable p w 11 (some (r 6)) 1 214 (S4 w os).abs (piecesOf l5 E C ⟨8,0,9,8⟩ B)=some (.next,(S5 w os).abs,C,⟨10,0,11,8⟩):=F5z (sH (by rfl'))
theorem p6(w:World)(os:OsState):segRun treeTable p w 11 (some (r 6)) 1 214 (S5 w os).abs (piecesOf l6 E C ⟨10,0,11,8⟩ B)=some (.next,(S6 w os).abs,C,⟨12,0,13,8⟩):=F5z (sH (by rfl'))
theorem p7(w:World)(os:OsState):segRun treeTable p w 11 (some (r 6)) 1 378 (S6 w os).abs (piecesOf l7 E C ⟨12,0,13,8⟩ B)=some (.next,(S7 w os).abs,C,⟨28,0,32,15⟩):=F5z (sH (by rfl'))
theorem p8(w:World)(os:OsState):segRun treeTable p w 11 (some (r 6)) 1 393 (S7 w os).abs (piecesOf l8 E C ⟨28,0,32,15⟩ B)=some (.next,(S8 w os).abs,C,⟨72,0,73,75⟩):=F5z (sH (by rfl'))
theorem p9(w:World)(os:OsState):segRun treeTable p w 11 (some (r 6)) 1 395 (S8 w os).abs (piecesOf l9 E C ⟨72,0,73,75⟩ B)=some (.next,(S9 w os).abs,C,⟨110,0,113,76⟩):=F5z (sH (by rfl'))
theorem p10(w:World)(os:OsState):segRun treeTable p w 11 (some (r 6)) 1 396 (S9 w os).abs (piecesOf l10 E C ⟨110,0,113,76⟩ B)=some (.next,(S10 w os).abs,C,⟨159,0,160,40⟩):=F5z (sH (by rfl'))
theorem p11(w:World)(os:OsState):segRun treeTable p w 11 (some (r 6)) 1 370 (S10 w os).abs (piecesOf l11 E C ⟨159,0,160,40⟩ B)=some (.next,(S11 w os).abs,C,⟨204,0,205,96⟩):=byRow2 "special-get-raises" (P:=fun w=>∀ os,segRun treeTable p w 11 (some (r 6)) 1 370 (S10 w os).abs (piecesOf l11 E C ⟨159,0,160,40⟩ B)=some (.next,(S11 w os).abs,C,⟨204,0,205,96⟩)) (fun w os=>F5z (sH (by rfl'))) (fun w os=>F5z (sH (by rfl'))) w os
theorem p12(w:World)(os:OsState):segRun treeTable p w 11 (some (r 6)) 1 392 (S11 w os).abs (piecesOf l12 E C ⟨204,0,205,96⟩ B)=some (.next,(S12 w os).abs,C,⟨280,0,281,129⟩):=F5z (sH (by rfl'))
theorem p13(w:World)(os:OsState):segRun treeTable p w 11 (some (r 6)) 1 269 (S12 w os).abs (piecesOf l13 E C ⟨280,0,281,129⟩ B)=some (.next,(S13 w os).abs,C,⟨356,0,389,120⟩):=F5z (sH (by rfl'))
theorem fin(w:World)(os:OsState):topRun treeTable p w 11 (some (r 6)) 2 (S13 w os).abs ⟨doneF .next,C,⟨356,0,389,120⟩,B⟩=some (S w os):=topT (by rfl')
abbrev M:Nat:=(12+(1+(196+(214+(214+(214+(214+(214+(378+(393+(395+(396+(370+(392+(269+2)))))))))))))))
theorem lst:behindTheImports p=(l1++(l2++(l3++(l4++(l5++(l6++(l7++(l8++(l9++(l10++(l11++(l12++(l13++[]))))))))))))):=by rfl'
theorem r13(w:World)(os:OsState):topRun treeTable p w 11 (some (r 6)) 2 (S13 w os).abs (restOf [] E C ⟨356,0,389,120⟩ B)=some (S w os):=fin w os
theorem r12(w:World)(os:OsState):topRun treeTable p w 11 (some (r 6)) (269+2) (S12 w os).abs (restOf (l13++[]) E C ⟨280,0,281,129⟩ B)=some (S w os):=G5z (p13 w os) (r13 w os)
theorem r11(w:World)(os:OsState):topRun treeTable p w 11 (some (r 6)) (392+(269+2)) (S11 w os).abs (restOf (l12++(l13++[])) E C ⟨204,0,205,96⟩ B)=some (S w os):=G5z (p12 w os) (r12 w os)
theorem r10(w:World)(os:OsState):topRun treeTable p w 11 (some (r 6)) (370+(392+(269+2))) (S10 w os).abs (restOf (l11++(l12++(l13++[]))) E C ⟨159,0,160,40⟩ B)=some (S w os):=G5z (p11 w os) (r11 w os)
theorem r9(w:World)(os:OsState):topRun treeTable p w 11 (some (r 6)) (396+(370+(392+(269+2)))) (S9 w os).abs (restOf (l10++(l11++(l12++(l13++[])))) E C ⟨110,0,113,76⟩ B)=some (S w os):=G5z (p10 w os) (r10 w os)
theorem r8(w:World)(os:OsState):topRun treeTable p w 11 (some (r 6)) (395+(396+(370+(392+(269+2))))) (S8 w os).abs (restOf (l9++(l10++(l11++(l12++(l13++[]))))) E C ⟨72,0,73,75⟩ B)=some (S w os):=G5z (p9 w os) (r9 w os)
theorem r7(w:World)(os:OsState):topRun treeTable p w 11 (some (r 6)) (393+(395+(396+(370+(392+(269+2)))))) (S7 w os).abs (restOf (l8++(l9++(l10++(l11++(l12++(l13++[])))))) E C ⟨28,0,32,15⟩ B)=some (S w os):=G5z (p8 w os) (r8 w os)
theorem r6(w:World)(os:OsState):topRun treeTable p w 11 (some (r 6)) (378+(393+(395+(396+(370+(392+(269+2))))))) (S6 w os).abs (restOf (l7++(l8++(l9++(l10++(l11++(l12++(l13++[]))))))) E C ⟨12,0,13,8⟩ B)=some (S w os):=G5z (p7 w os) (r7 w os)
theorem r5(w:World)(os:OsState):topRun treeTable p w 11 (some (r 6)) (214+(378+(393+(395+(396+(370+(392+(269+2)))))))) (S5 w os).abs (restOf (l6++(l7++(l8++(l9++(l10++(l11++(l12++(l13++[])))))))) E C ⟨10,0,11,8⟩ B)=some (S w os):=G5z (p6 w os) (r6 w os)
theorem r4(w:World)(os:OsState):topRun treeTable p w 11 (some (r 6)) (214+(214+(378+(393+(395+(396+(370+(392+(269+2))))))))) (S4 w os).abs (restOf (l5++(l6++(l7++(l8++(l9++(l10++(l11++(l12++(l13++[]))))))))) E C ⟨8,0,9,8⟩ B)=some (S w os):=G5z (p5 w os) (r5 w os)
theorem r3(w:World)(os:OsState):topRun treeTable p w 11 (some (r 6)) (214+(214+(214+(378+(393+(395+(396+(370+(392+(269+2)))))))))) (S3 w os).abs (restOf (l4++(l5++(l6++(l7++(l8++(l9++(l10++(l11++(l12++(l13++[])))))))))) E C ⟨6,0,7,8⟩ B)=some (S w os):=G5z (p4 w os) (r4 w os)
theorem r2(w:World)(os:OsState):topRun treeTable p w 11 (some (r 6)) (214+(214+(214+(214+(378+(393+(395+(396+(370+(392+(269+2))))))))))) (S2 w os).abs (restOf (l3++(l4++(l5++(l6++(l7++(l8++(l9++(l10++(l11++(l12++(l13++[]))))))))))) E C ⟨4,0,5,8⟩ B)=some (S w os):=G5z (p3 w os) (r3 w os)
theorem r1(w:World)(os:OsState):topRun treeTable p w 11 (some (r 6)) (214+(214+(214+(214+(214+(378+(393+(395+(396+(370+(392+(269+2)))))))))))) (S1 w os).abs (restOf (l2++(l3++(l4++(l5++(l6++(l7++(l8++(l9++(l10++(l11++(l12++(l13++[])))))))))))) E C ⟨2,0,3,8⟩ B)=some (S w os):=G5z (p2 w os) (r2 w os)
theorem r0(w:World)(os:OsState):topRun treeTable p w 11 (some (r 6)) (196+(214+(214+(214+(214+(214+(378+(393+(395+(396+(370+(392+(269+2))))))))))))) (S0 w os).abs (restOf (l1++(l2++(l3++(l4++(l5++(l6++(l7++(l8++(l9++(l10++(l11++(l12++(l13++[]))))))))))))) E C ⟨0,0,0,0⟩ B)=some (S w os):=G5z (p1 w os) (r1 w os)
theorem run(w:World)(os:OsState):topRun treeTable p w 11 (some (r 6)) M ⟨boot_heap w.params,Array.mk [],boot_drawn,boot_toks,os⟩ (topStub p)=some (S w os):=go_top (pre w os) (piece_block (blk w os) (QF lst (r0 w os)))
def K(P:Params):Frag:=[(2,boot_o_2 P),(3,Hx P),(15,o15),(22,y),(23,o23 P),(24,Hy),(25,o25),(28,o28),(35,y),(36,o36 P),(37,o37),(40,o40),(47,y),(48,o48 P),(49,o49),(52,o52),(59,y),(60,o60 P),(61,o61),(64,o64),(71,y),(72,o72 P),(73,o73),(76,o76),(83,y),(84,o84 P),(85,o85),(88,o88),(95,y),(96,o96 P),(97,o97),(100,y),(102,Xi),(103,y),(105,Xh),(106,Xg),(107,y),(109,Xf),(110,y),(112,Xe),(113,Xd),(114,y),(116,Xb),(117,y),(119,Xa),(120,W9),(121,y),(124,W8),(125,W7),(126,y),(128,W6),(129,y),(131,WR),(132,WQ),(133,y),(136,WM),(137,WL),(138,y),(140,WK),(141,y),(143,WD),(144,Wz),(145,y),(147,Wy),(148,y),(150,Wx),(151,Ww),(152,y),(154,Wv),(155,y),(157,Wu),(158,Wt),(159,y),(161,Ws),(162,y),(164,Wr),(165,Wq),(166,y),(168,Wo),(169,y),(171,Wn),(172,Wm),(173,y),(175,Wj),(176,y),(178,Wi),(179,Wh),(180,y),(182,Wg),(183,y),(185,Wf),(186,Wd),(187,y),(189,Wb),(190,y),(192,Wa),(193,V9),(194,y),(196,V8),(197,y),(199,V7),(200,o200),(201,y),(203,V6),(204,y),(206,V5),(207,V4),(208,y),(210,V3),(211,y),(213,V2),(214,V1),(215,y),(217,V0),(218,y),(220,VR),(221,VP),(222,y),(224,VN),(225,y),(227,VL),(228,VJ),(229,y),(231,VH),(232,y),(234,VG),(235,VF),(236,y),(239,VD),(240,VB),(241,y),(244,Vz),(245,Vy),(246,y),(249,Vx),(250,Vq),(251,y),(254,Vp),(255,Vo),(256,y),(259,Vn),(260,Vm),(261,y),(263,Vl),(264,y),(266,Vk),(267,Vj),(268,y),(271,Vi),(272,Vh),(273,y),(276,Vg),(277,Vf),(278,y),(281,Ve),(282,Vd),(283,y),(286,Vc),(287,Vb),(288,y),(291,Va),(292,U9),(293,y),(296,U8),(297,U7),(298,y),(300,o300),(301,y),(303,U4),(304,U3),(305,y),(307,UW),(308,y),(310,UL),(311,UJ),(312,y),(315,UG),(316,Uz),(317,y),(320,Uy),(321,Ux),(322,y),(324,Uw),(325,y),(327,Uv),(328,Uu),(329,y),(331,Ut),(332,y),(334,Us),(335,Ur),(336,y),(338,Uq),(339,y),(341,Uo),(342,Um),(343,y),(345,Ul),(346,y),(348,Uk),(349,Uj),(350,y),(352,Ui),(353,y),(355,Uh),(356,Ug),(357,y),(359,Ue),(360,y),(362,Ud),(363,Uc),(364,y),(366,Ub),(367,y),(369,Ua),(370,TY),(371,y),(374,TV),(375,TQ),(376,y),(378,TJ),(379,y),(381,TF),(382,Tz),(383,O7 P),(384,y),(386,Tw),(387,y),(389,Tv),(390,Tt),(391,y),(393,Tr),(394,y),(396,Tq),(397,Tp),(398,y),(401,Tg),(402,Tf),(403,y),(406,Te),(407,Td),(408,y),(411,Tc),(412,SX),(413,y),(416,SQ),(417,SN),(418,y),(421,SM),(422,SJ),(423,y),(425,Sy),(426,y),(428,Sx),(429,Sw),(430,y),(433,Sv),(434,Ss),(435,y),(438,Sh),(439,Sg),(440,y),(442,Sd),(443,y),(445,R9),(446,R8),(447,y),(450,R7),(451,R6),(452,y),(454,R5),(455,y),(457,R4),(458,R3),(459,y),(461,R0),(462,y),(464,RZ),(465,RX),(466,y),(468,RW),(469,y),(471,RV),(472,RT),(473,y),(475,RQ),(476,y),(478,RP),(479,RN),(480,y),(482,RM),(483,y),(485,RL),(486,RK),(487,y),(490,RJ),(491,RG),(499,y),(501,RD),(502,y),(504,RB),(505,Rz),(528,y),(531,Ry),(532,Rx),(533,y),(536,Rw),(537,Rv),(538,y),(540,Ru),(541,y),(543,Rt),(544,Rr),(545,y),(547,Rq),(548,y),(550,Rp),(551,Ro),(552,y),(555,o555),(556,Rn),(557,y),(559,Rm),(560,y),(562,Rk),(563,Rj),(564,y),(566,Ri),(567,y),(569,Rh),(570,Rg),(571,y),(574,Rf),(575,Rc)]
noncomputable abbrev as:List Addr:=[2,3,15,22,23,24,25,28,35,36,37,40,47,48,49,52,59,60,61,64,71,72,73,76,83,84,85,88,95,96,97,100,102,103,105,106,107,109,110,112,113,114,116,117,119,120,121,124,125,126,128,129,131,132,133,136,137,138,140,141,143,144,145,147,148,150,151,152,154,155,157,158,159,161,162,164,165,166,168,169,171,172,173,175,176,178,179,180,182,183,185,186,187,189,190,192,193,194,196,197,199,200,201,203,204,206,207,208,210,211,213,214,215,217,218,220,221,222,224,225,227,228,229,231,232,234,235,236,239,240,241,244,245,246,249,250,251,254,255,256,259,260,261,263,264,266,267,268,271,272,273,276,277,278,281,282,283,286,287,288,291,292,293,296,297,298,300,301,303,304,305,307,308,310,311,312,315,316,317,320,321,322,324,325,327,328,329,331,332,334,335,336,338,339,341,342,343,345,346,348,349,350,352,353,355,356,357,359,360,362,363,364,366,367,369,370,371,374,375,376,378,379,381,382,383,384,386,387,389,390,391,393,394,396,397,398,401,402,403,406,407,408,411,412,413,416,417,418,421,422,423,425,426,428,429,430,433,434,435,438,439,440,442,443,445,446,447,450,451,452,454,455,457,458,459,461,462,464,465,466,468,469,471,472,473,475,476,478,479,480,482,483,485,486,487,490,491,499,501,502,504,505,528,531,532,533,536,537,538,540,541,543,544,545,547,548,550,551,552,555,556,557,559,560,562,563,564,566,567,569,570,571,574,575]
abbrev m0:Nat:=11
abbrev tk:Nat:=924
abbrev ann:Option Value:=(some (r 6))
def Xt(s:Shared):Bool:=xlAt q [] s&&recOk PySem.Challenge.rw_minortables_k32_whole_taken_apart.row.toRowW.records s
theorem lk0(w:World)(os:OsState):(staticsOk (importedModules p.main.body) (boot_heap w.params) (H1 w.params)&&namesBound p (H1 w.params)&&gensDone (S w os)&&laidKept (boot_heap w.params) (H1 w.params))=true:=by
 rw[Fast.te5923862056798008813];rfl'
theorem lk1(w:World)(os:OsState):PyProof.Rows.seen ((PyProof.Rows.recsOf q).map (·.name)) (PyProof.Rows.ownsOf q) [] { S w os with gens := #[] }=PyProof.Rows.expectedOf q:=by
 rw[Fast.te5160383126252970620,Fast.te3399658132070893891,Fast.te5991557255702980513];rfl'
theorem lk2(w:World)(os:OsState):(S w os).heap.bltView=bltViewBooted:=by rfl'
theorem lk3(w:World)(os:OsState):((S w os).heap.keysOk (looseW q lo) ((PyProof.Rows.recsOf q).map (·.name)) ((PyProof.Rows.litsOf q).map (·.1)) ((PyProof.Rows.clssOf q (looseW q lo)).map (·.name))&&(S w os).heap.accountedOkI (importedModules p.main.body)&&(S w os).heap.isNs mainGlobals&&(S w os).heap.isNs builtinsNs&&PyProof.Rows.tablesOk q (S w os).heap&&Xt (S w os)&&(if true then(S w os).gens.size==0 else !leftWithCleanup (S w os).gens))=true:=by
 rw[Fast.te10880121769531294198,Fast.te821141287760084731,Fast.te3399658132070893891,Fast.te7409074990110511671,Fast.te13664370479719496447,Fast.te14722251495701143533,Fast.te5923862056798008813];rfl'
theorem lk4(w:World)(os:OsState):PyProof.Rows.tabsOk q (S w os)=true:=by rw[Fast.te479339242167458305];rfl'
theorem lk5(w:World)(os:OsState):pinSeenD q (PyProof.Rows.drecsOf q) (S w os)=pinGoodD (PyProof.Rows.drecsOf q):=by rw[Fast.te16090120013241838585,Fast.te3247288618530077131];rfl'
theorem lk6(w:World)(os:OsState):PyProof.Rows.plainSeenE q (looseW q lo) (S w os)=PyProof.Rows.plainGoodE q (looseW q lo):=by rw[Fast.te2386780881361962483,Fast.te821141287760084731];rfl'
theorem lk7(w:World)(os:OsState):PyProof.Rows.plainSeenD q lo (S w os)=PyProof.Rows.plainGoodD q lo:=by rw[Fast.te11698064438423848299];rfl'
theorem lk8(w:World)(os:OsState):wideSeen q (S w os)=wideGood q:=by rw[Fast.te7317090234206586261];rfl'
theorem lk9(w:World)(os:OsState):clsSeenW q lo (S w os)=clsGoodW q lo:=by rw[Fast.te7369524293546568484];rfl'
theorem asK(P:Params):as=(K P).map (·.1):=by rfl'
abbrev H:Hook:=kHook K as asK
theorem lkY(w:World)(os:OsState):H.obs (S w os)=H.val w:=by rfl'
theorem looks(w:World):(fun os=>((staticsOk (importedModules p.main.body) (boot_heap w.params) (H1 w.params)&&namesBound p (H1 w.params)&&gensDone (S w os)&&laidKept (boot_heap w.params) (H1 w.params)),openSeen q lo (importedModules p.main.body) Xt true (S w os),H.obs (S w os)))=fun _=>(true,openGood q lo,H.val w) :=
 funext fun os=>E5z (lk0 w os) (E5z (E5z (lk1 w os) (E5z (lk2 w os) (E5z (lk3 w os) (E5z (lk4 w os) (E5z (lk5 w os) (E5z (lk6 w os) (E5z (lk7 w os) (E5z (lk8 w os) (lk9 w os))))))))) (lkY w os))
theorem size(w:World):((boot_heap w.params).isNs mainGlobals&&(Array.mk ([]:List GenState)).size==0,(boot_heap w.params).objs.size,(boot_heap w.params).nsMap mainGlobals "__annotations__")=(true,m0,ann):=by
 rw[Fast.te8920871248978507458];rfl'
theorem bt(w:World):(fencedOpening treeTable p w N).map (fun s=>(s.heap,s.gens,s.drawn,s.toks))=some (boot_heap w.params,Array.mk [],boot_drawn,boot_toks) :=
 boot_open (p:=p) (N:=N) (by rfl') (by rfl') (fun _=>rfl) w
theorem left:LeftO p q lo Xt H.obs H.val N :=
 LeftO.of_pieces (H₀:=boot_heap) (H₁:=H1) (m₀:=m0) (ann:=ann) (M:=M) (gs₀:=Array.mk []) (gs₁:=⟨[]⟩) (d₀:=boot_drawn) (d₁:={}) (k₀:=boot_toks) (k₁:=tk) bt size run (by rfl') looks
abbrev R:OpenLaw:=PySem.Challenge.rw_minortables_k32_whole_taken_apart
theorem said:R.wellSaid=true:=by rw[Fast.te9446332074065402090];rfl'
def dr:DefRec:=match d 96 with | .FunctionDef n a l _ _ _ sc _ _ o=>⟨n,a,l,sc,o⟩ | _=>⟨"",default,[],default,⟨0,0,0,0⟩⟩
theorem hdef:defOf q R.row.name=some (dr,[]):=by rfl'
theorem hthe:R.row.prog.theDef R.row.name=some (dr.params,dr.body,dr.scope):=by rfl'
theorem hkw:kwWritten? dr.params.kwonlyargs dr.params.kw_defaults=some []:=by rfl'
theorem hok:(chainsOk q&&opensWell R.row.prog&&(frees R.row.toRowW&&R.row.within.isEmpty))=true:=by rfl'
theorem hbare:R.row.prog.bare:=⟨rfl,rfl,rfl,rfl,rfl,by rfl'⟩
theorem hpro:R.row.toRowW.promised:=⟨[.list []],by rfl',by rfl'⟩
theorem holds(call:WalkO q lo (XL q []) H.says R.row.toRowW dr [] fun f vs=>PySem.call f vs):R.Holds :=
 holds_law said fun k1=>holds_open (r:=R.row) (q:=q) (loose:=lo) (Xt:=Xt) (XP:=XL q []) (Yf:=H.obs) (Ya:=H.val) (YP:=H.says) (N:=N) left H.of H.keeps (fun s e=>xl_of s (Bool.and_eq_true_iff.mp e).1) XL.keeps hdef hthe hkw (fun s e=>recFacts_of (Bool.and_eq_true_iff.mp e).2) rfl k1 hok hbare hpro call
end H32
end
namespace M32
open PySem PySem.W L2 DE
set_option maxHeartbeats 0 in
theorem txt(w:World)(X:(H32.K w.params).In h)(G:h.Ns mainGlobals mg):Text w (H32.K w.params) mg T :=
  ⟨in_of (l:=cs) (Q:=fun(x:Str) (d:D)=>∃ v u,(∀ H',Rep (H32.K w.params) H' d v)/\mg x=some u/\RelV v u) (aC (cA X G 305 (by rfl')) (aC (cS X G 650 (by rfl')) (aC (cS X G 652 (by rfl')) (aC (cS X G 654 (by rfl')) (aC (cD X G 383 (H32.O7 w.params) (by rfl') (by rfl') ⟨rfl,rfl,rfl⟩ (by rfl') (by rfl') (by rfl')) (aN)))))),
    in_of (l:=bl) (Q:=fun x b=>mg x=none/\x=Str.ofString b) (aC (bA X G (by rfl') rfl) (aC (bA X G (by rfl') rfl) (aC (bA X G (by rfl') rfl) (aC (bA X G (by rfl') rfl) (aC (bA X G (by rfl') rfl) (aC (bA X G (by rfl') rfl) (aC (bA X G (by rfl') rfl) (aC (bA X G (by rfl') rfl) (aC (bA X G (by rfl') rfl) (aC (bA X G (by rfl') rfl) (aC (bA X G (by rfl') rfl) (aC (bA X G (by rfl') rfl) (aC (bA X G (by rfl') rfl) (aC (bA X G (by rfl') rfl) (aC (bA X G (by rfl') rfl) (aC (bA X G (by rfl') rfl) (aC (bA X G (by rfl') rfl) (aN)))))))))))))))))),
    in_of (l:=df) (Q:=fun x fd=>FunAt (H32.K w.params) mg x fd) (
     aC (aD X G 106 .none (.str "minortables.checks" 303) (.ref 105) b10 (by rfl') (by rfl') (by rfl')) (
     aC (aD X G 113 .none (.str "minortables.checks" 303) (.ref 112) b11 (by rfl') (by rfl') (by rfl')) (
     aC (aD X G 120 .none (.str "minortables.checks" 303) (.ref 119) b12 (by rfl') (by rfl') (by rfl')) (
     aC (aD X G 125 .none (.str "minortables.checks" 303) (.ref 124) b13 (by rfl') (by rfl') (by rfl')) (
     aC (aD X G 132 .none (.str "minortables.checks" 303) (.ref 131) b14 (by rfl') (by rfl') (by rfl')) (
     aC (aD X G 137 .none (.str "minortables.checks" 303) (.ref 136) b15 (by rfl') (by rfl') (by rfl')) (
     aC (aD X G 144 .none (.str "minortables.checks" 303) (.ref 143) b16 (by rfl') (by rfl') (by rfl')) (
     aC (aD X G 151 .none (.str "minortables.checks" 303) (.ref 150) b17 (by rfl') (by rfl') (by rfl')) (
     aC (aD X G 158 .none (.str "minortables.checks" 303) (.ref 157) b18 (by rfl') (by rfl') (by rfl')) (
     aC (aD X G 165 .none (.str "minortables.checks" 303) (.ref 164) b19 (by rfl') (by rfl') (by rfl')) (
     aC (aD X G 172 .none (.str "minortables.checks" 303) (.ref 171) b20 (by rfl') (by rfl') (by rfl')) (
     aC (aD X G 179 .none (.str "minortables.fractions" 388) (.ref 178) b22 (by rfl') (by rfl') (by rfl')) (
     aC (aD X G 186 .none (.str "minortables.fractions" 388) (.ref 185) b23 (by rfl') (by rfl') (by rfl')) (
     aC (aD X G 193 .none (.str "minortables.fractions" 388) (.ref 192) b24 (by rfl') (by rfl') (by rfl')) (
     aC (aD X G 200 .none (.str "minortables.fractions" 388) (.ref 199) b25 (by rfl') (by rfl') (by rfl')) (
     aC (aD X G 207 .none (.str "minortables.fractions" 388) (.ref 206) b26 (by rfl') (by rfl') (by rfl')) (
     aC (aD X G 214 .none (.str "minortables.fractions" 388) (.ref 213) b27 (by rfl') (by rfl') (by rfl')) (
     aC (aD X G 221 .none (.str "minortables.fractions" 388) (.ref 220) b28 (by rfl') (by rfl') (by rfl')) (
     aC (aD X G 228 .none (.str "minortables.fractions" 388) (.ref 227) b29 (by rfl') (by rfl') (by rfl')) (
     aC (aD X G 235 .none (.str "minortables.fractions" 388) (.ref 234) b30 (by rfl') (by rfl') (by rfl')) (
     aC (aD X G 240 .none (.str "minortables.fractions" 388) (.ref 239) b31 (by rfl') (by rfl') (by rfl')) (
     aC (aD X G 245 .none (.str "minortables.fractions" 388) (.ref 244) b32 (by rfl') (by rfl') (by rfl')) (
     aC (aD X G 250 .none (.str "minortables.fractions" 388) (.ref 249) b33 (by rfl') (by rfl') (by rfl')) (
     aC (aD X G 255 .none (.str "minortables.tables" 481) (.ref 254) b35 (by rfl') (by rfl') (by rfl')) (
     aC (aD X G 260 .none (.str "minortables.tables" 481) (.ref 259) b36 (by rfl') (by rfl') (by rfl')) (
     aC (aD X G 267 .none (.str "minortables.tables" 481) (.ref 266) b37 (by rfl') (by rfl') (by rfl')) (
     aC (aD X G 272 .none (.str "minortables.tables" 481) (.ref 271) b38 (by rfl') (by rfl') (by rfl')) (
     aC (aD X G 277 .none (.str "minortables.tables" 481) (.ref 276) b39 (by rfl') (by rfl') (by rfl')) (
     aC (aD X G 282 .none (.str "minortables.tables" 481) (.ref 281) b40 (by rfl') (by rfl') (by rfl')) (
     aC (aD X G 287 .none (.str "minortables.tables" 481) (.ref 286) b41 (by rfl') (by rfl') (by rfl')) (
     aC (aD X G 292 .none (.str "minortables.minors" 526) (.ref 291) b43 (by rfl') (by rfl') (by rfl')) (
     aC (aD X G 297 .none (.str "minortables.minors" 526) (.ref 296) b44 (by rfl') (by rfl') (by rfl')) (
     aC (aD X G 304 .none (.str "minortables.minors" 526) (.ref 303) b45 (by rfl') (by rfl') (by rfl')) (
     aC (aD X G 311 .none (.str "minortables.minors" 526) (.ref 310) b46 (by rfl') (by rfl') (by rfl')) (
     aC (aD X G 316 .none (.str "minortables.minors" 526) (.ref 315) b47 (by rfl') (by rfl') (by rfl')) (
     aC (aD X G 321 .none (.str "minortables.minors" 526) (.ref 320) b48 (by rfl') (by rfl') (by rfl')) (
     aC (aD X G 328 .none (.str "minortables.minors" 526) (.ref 327) b49 (by rfl') (by rfl') (by rfl')) (
     aC (aD X G 335 .none (.str "minortables.minors" 526) (.ref 334) b50 (by rfl') (by rfl') (by rfl')) (
     aC (aD X G 342 .none (.str "minortables.minors" 526) (.ref 341) b51 (by rfl') (by rfl') (by rfl')) (
     aC (aD X G 349 .none (.str "minortables.minors" 526) (.ref 348) b52 (by rfl') (by rfl') (by rfl')) (
     aC (aD X G 356 .none (.str "minortables.minors" 526) (.ref 355) b53 (by rfl') (by rfl') (by rfl')) (
     aC (aD X G 363 .none (.str "minortables.minors" 526) (.ref 362) b54 (by rfl') (by rfl') (by rfl')) (
     aC (aD X G 370 .none (.str "minortables.minors" 526) (.ref 369) b55 (by rfl') (by rfl') (by rfl')) (
     aC (aD X G 375 .none (.str "minortables.good" 633) (.ref 374) b57 (by rfl') (by rfl') (by rfl')) (
     aC (aD X G 382 .none (.str "minortables.good" 633) (.ref 381) b58 (by rfl') (by rfl') (by rfl')) (
     aC (aD X G 390 .none (.str "minortables.steps" 648) (.ref 389) b64 (by rfl') (by rfl') (by rfl')) (
     aC (aD X G 397 .none (.str "minortables.steps" 648) (.ref 396) b65 (by rfl') (by rfl') (by rfl')) (
     aC (aD X G 402 .none (.str "minortables.steps" 648) (.ref 401) b66 (by rfl') (by rfl') (by rfl')) (
     aC (aD X G 407 .none (.str "minortables.steps" 648) (.ref 406) b67 (by rfl') (by rfl') (by rfl')) (
     aC (aD X G 412 .none (.str "minortables.steps" 648) (.ref 411) b68 (by rfl') (by rfl') (by rfl')) (
     aC (aD X G 417 .none (.str "minortables.steps" 648) (.ref 416) b69 (by rfl') (by rfl') (by rfl')) (
     aC (aD X G 422 .none (.str "minortables.steps" 648) (.ref 421) b70 (by rfl') (by rfl') (by rfl')) (
     aC (aD X G 429 .none (.str "minortables.steps" 648) (.ref 428) b71 (by rfl') (by rfl') (by rfl')) (
     aC (aD X G 434 .none (.str "minortables.steps" 648) (.ref 433) b72 (by rfl') (by rfl') (by rfl')) (
     aC (aD X G 439 .none (.str "minortables.steps" 648) (.ref 438) b73 (by rfl') (by rfl') (by rfl')) (
     aC (aD X G 446 .none (.str "minortables.steps" 648) (.ref 445) b74 (by rfl') (by rfl') (by rfl')) (
     aC (aD X G 451 .none (.str "minortables.steps" 648) (.ref 450) b75 (by rfl') (by rfl') (by rfl')) (
     aC (aD X G 458 .none (.str "minortables.steps" 648) (.ref 457) b76 (by rfl') (by rfl') (by rfl')) (
     aC (aD X G 465 .none (.str "minortables.steps" 648) (.ref 464) b77 (by rfl') (by rfl') (by rfl')) (
     aC (aD X G 472 .none (.str "minortables.steps" 648) (.ref 471) b78 (by rfl') (by rfl') (by rfl')) (
     aC (aD X G 479 .none (.str "law_minortables_k32_whole_taken_apart" 780) (.ref 478) b80 (by rfl') (by rfl') (by rfl')) (
     aC (aD X G 486 .none (.str "law_minortables_k32_whole_taken_apart" 780) (.ref 485) b81 (by rfl') (by rfl') (by rfl')) (
     aC (aD X G 491 .none (.str "law_minortables_k32_whole_taken_apart" 780) (.ref 490) b82 (by rfl') (by rfl') (by rfl')) (
     aC (aD X G 505 .none (.str "law_minortables_k32_whole_taken_apart" 780) (.ref 504) b84 (by rfl') (by rfl') (by rfl')) (
     aC (aD X G 532 .none (.str "law_minortables_k32_whole_taken_apart" 780) (.ref 531) b89 (by rfl') (by rfl') (by rfl')) (
     aC (aD X G 537 .none (.str "law_minortables_k32_whole_taken_apart" 780) (.ref 536) b90 (by rfl') (by rfl') (by rfl')) (
     aC (aD X G 544 .none (.str "law_minortables_k32_whole_taken_apart" 780) (.ref 543) b91 (by rfl') (by rfl') (by rfl')) (
     aC (aD X G 551 .none (.str "law_minortables_k32_whole_taken_apart" 780) (.ref 550) b92 (by rfl') (by rfl') (by rfl')) (
     aC (aD X G 556 .none (.str "law_minortables_k32_whole_taken_apart" 780) (.ref 555) b93 (by rfl') (by rfl') (by rfl')) (
     aC (aD X G 563 .none (.str "law_minortables_k32_whole_taken_apart" 780) (.ref 562) b94 (by rfl') (by rfl') (by rfl')) (
     aC (aD X G 570 .none (.str "law_minortables_k32_whole_taken_apart" 780) (.ref 569) b95 (by rfl') (by rfl') (by rfl')) (
     aC (aD X G 575 .none (.str "law_minortables_k32_whole_taken_apart" 780) (.ref 574) b96 (by rfl') (by rfl') (by rfl')) (
     aN))))))))))))))))))))))))))))))))))))))))))))))))))))))))))))))))))))))))),XText.of (fun x v h=>B4z X G h) (by rfl'),by show List.map _ _=List.map _ _;rfl'⟩
end M32
open PySem PySem.W PyProof.Rows
set_option maxRecDepth 100000 in
set_option maxHeartbeats 0 in
theorem PySem.Challenge.cw_minortables_k32_whole_taken_apart_holds : PySem.Challenge.rw_minortables_k32_whole_taken_apart.Holds :=
 H32.holds (M32.walk (l := PySem.Challenge.rw_minortables_k32_whole_taken_apart) (K := H32.K) rfl (by rfl') (fun w h Y => PySem.W.kIn_of (e := H32.asK) Y) fun w mg fa h KX G hmg => M32.fin M32.law_true (M32.txt w KX G) KX G hmg 575 .none (.str "law_minortables_k32_whole_taken_apart" 780) (.ref 574) (by rfl') (by rfl') (by rfl') (by rfl'))
#print axioms PySem.Challenge.cw_minortables_k32_whole_taken_apart_holds
