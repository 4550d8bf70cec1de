import PyProof.Rows.All
import Wide.All
import OpenK.AllK
import Wide.FinOn
import Lean
import PyProof.EqAt
import PyProof.EqKinds
import PyProof.TupleCall
import PyProof.ListRange
import KE.KSortAsk
import KE.KSortTup
import PyProof.Rows.SortShellK
import PyProof.TupleKey
import PySem.Names
import PyProof.Rows.TupDisplay
import PyProof.DictItems
import KE.KPairComp
import PyProof.NeKinds
import PySem.Challenge.RW_minortables_k41_whole_sets_of_ways
set_option Elab.async false
set_option linter.all false
set_option maxRecDepth 100000
noncomputable section
namespace Zz
abbrev Z3:=PySem.W.Frag
open PySem
def A0z:=@PyProof.Rows.slot_tuple_getitem
def B0z:=@PySem.wpAny_typeNameOfWhole_itemiter
def C0z:=@PySem.F.slot_dict_itemiterator_next
def D0z:=@PyProof.Rows.callWith_type1
def E0z:=@PySem.W.Fast.te14364793385576792824
def F0z:=@PySem.wpAny_typeNameOf_itemiter
def G0z:=@List.drop_eq_getElem_cons
def H0z:=@PySem.F.args_tuple_add_2
def I0z:=@PySem.AutoSeq1.wpAny_loadPart'
def J0z:=@PySem.F.entry_tuple_add
def K0z:=@PySem.F.plainAttrs_list
def L0z:=@Nat.le_mul_of_pos_right
def M0z:=@PySem.W.cellsFrom_some
def N0z:=@PySem.F.slot_tuple_add
def O0z:=@PySem.Calls.callWith_builtin
def P0z:=@PySem.wpAny_isOneOf_itemiter
def Q0z:=@Option.map_eq_some_iff
def R0z:=@Int.fmod_nonneg_of_pos
def S0z:=@List.mem_append_right
def T0z:=@List.length_singleton
def U0z:=@PySem.F.typeOf_object_class
def V0z:=@List.length_filter_le
def W0z:=@List.mem_cons_of_mem
def X0z:=@List.mem_append_left
def Y0z:=@PySem.Calls.evalArgs_plain
def Z0z:=@PySem.W.looks_findIn
def A1z:=@Nat.mul_le_mul_right
def B1z:=@Nat.pow_le_pow_right
def C1z:=@List.filterMap_cons
def D1z:=@Array.length_toList
def E1z:=@PySem.mem_of_lookup
def F1z:=@List.replicate_succ
def G1z:=@beq_eq_false_iff_ne
def H1z:=@PySem.Heap.SameBut.update
def I1z:=@List.map_congr_left
def J1z:=@Nat.lt_of_lt_of_le
def K1z:=@List.mem_cons_self
def L1z:=@Bool.false_ne_true
def M1z:=@PySem.wpAny_pyIter_tuple
def N1z:=@PySem.Calls.spliced_cons
def O1z:=@PySem.wpAny_Call_Name_kw
def P1z:=@List.length_append
def Q1z:=@Bool.false_eq_true
def R1z:=@PySem.wpAny_setField_rec
def S1z:=@Nat.lt_of_le_of_lt
def T1z:=@PySem.wpAny_truthy_bool
def U1z:=@PySem.wpAny_newObj_type
def V1z:=@List.size_toArray
def W1z:=@List.flatten_cons
def X1z:=@List.append_assoc
def Y1z:=@Nat.lt_succ_of_lt
def Z1z:=@Nat.le_of_succ_le
def A2z:=@Int.toNat_natCast
def B2z:=@PySem.wpAny_pyIter_enum
def C2z:=@Bool.not_eq_true'
def D2z:=@decide_eq_true_eq
def E2z:=@Option.some.injEq
def F2z:=@List.flatMap_cons
def G2z:=@List.pairwise_map
def H2z:=@List.length_take
def I2z:=@List.length_drop
def J2z:=@PySem.wpAny_call_entry
def K2z:=@Bool.and_eq_true
def L2z:=@List.lookup_cons
def M2z:=@Nat.lt_succ_self
def N2z:=@beq_self_eq_true
def O2z:=@Nat.le_add_right
def P2z:=@List.length_cons
def Q2z:=@Option.bind_some
def R2z:=@List.any_toArray
def S2z:=@Option.getD_some
def T2z:=@List.ext_getElem
def U2z:=@List.filter_cons
def V2z:=@List.getElem_map
def W2z:=@List.all_eq_true
def X2z:=@Option.bind_none
def Y2z:=@List.cons_append
def Z2z:=@List.getElem_mem
def A3z:=@decide_eq_false
def B3z:=@Option.some.inj
def C3z:=@PySem.wpAny_execs_nil
def D3z:=@PySem.wpAny_passesOwn
def E3z:=@List.append_nil
def F3z:=@List.of_mem_zip
def G3z:=@List.length_map
def H3z:=@List.length_set
def I3z:=@List.foldl_cons
def J3z:=@List.forIn_cons
def K3z:=@List.nodup_cons
def L3z:=@Option.map_some
def M3z:=@PySem.pushCells_keeps
def N3z:=@List.nil_append
def O3z:=@Bool.or_eq_true
def P3z:=@PySem.W.kia_one
def Q3z:=@List.length_zip
def R3z:=@List.map_append
def S3z:=@Option.map_none
def T3z:=@Rat.intCast_mul
def U3z:=@Rat.intCast_add
def V3z:=@Int.emod_nonneg
def W3z:=@Int.mul_ne_zero
def X3z:=@Bool.false_and
def Y3z:=@decide_eq_true
def Z3z:=@List.forIn_nil
def A4z:=@PySem.Heap.size_push
def B4z:=@PySem.wpAny_seqItems
def C4z:=@Bool.and_false
def D4z:=@Int.natAbs_mul
def E4z:=@Nat.mul_le_mul
def F4z:=@Nat.lt_irrefl
def G4z:=@PySem.wpAny_holding
def H4z:=@PySem.wpAny_standAt
def I4z:=@List.map_cons
def J4z:=@Bool.and_self
def K4z:=@List.all_cons
def L4z:=@List.any_cons
def M4z:=@Bool.true_and
def N4z:=@PySem.W.mg_of
def O4z:=@PySem.Heap.lt_size
def P4z:=@Nat.ne_of_lt
def Q4z:=@Nat.le_trans
def R4z:=@Nat.ne_of_gt
def S4z:=@PySem.codeAny_mono
def T4z:=@Nat.succ_mul
def U4z:=@List.map_nil
def V4z:=@Nat.mul_comm
def W4z:=@decide_false
def X4z:=@List.map_map
def Y4z:=@Nat.succ.inj
def Z4z:=@Nat.pow_succ
def A5z:=@Nat.le_refl
def B5z:=@PySem.sizeLine_eq
def C5z:=@PySem.wpAny_field
def D5z:=@Nat.zero_le
def E5z:=@PySem.wpAny_mono
def F5z:=@PySem.wpAny_bind
def G5z:=@PySem.wpAny_pure
def H5z:=@PySem.wpAny_rule
def I5z:=@PySem.call_meets
def J5z:=@beq_iff_eq
def K5z:=@bne_iff_ne
def L5z:=@PySem.W.looks_pair
def M5z:=@PySem.W.segRun_of
def N5z:=@PySem.W.piece_app
def O5z:=@if_false
def P5z:=@Ne.symm
def Q5z:=@if_true
def R5z:=@if_pos
def S5z:=@if_neg
end Zz
open Zz
local macro_rules|`(tactic|rfl')=>`(tactic|kernel_rfl)
namespace L2
open PySem PySem.Spec PyProof.Rows
abbrev Key:=Sum Int Str
def Mj:Key->Value->Bool
 | .inl k,v=>Value.isInt k v
 | .inr x,v=>Value.isStrOf x v
def keyH(w:World):Key->Int
 | .inl k=>hashInt k
 | .inr x=>hashStr w x
theorem bM:∀ {k:Key} {v:Value},Mj k v=true->(∃ i t,k=Sum.inl i/\v=Value.int i t)\/(∃ x t,k=Sum.inr x/\v=Value.str x t)
 | .inl i,v,h=>by
  obtain⟨t,e⟩:=Value.isInt_shape (k:=i) (v:=v) h;exact .inl ⟨i,t,rfl,e⟩
 | .inr x,v,h=>by
  obtain⟨t,e⟩:=Value.isStrOf_shape (x:=x) (v:=v) h;exact .inr ⟨x,t,rfl,e⟩
theorem Mi(a b:Int):decide ((Sum.inl a:Key)=Sum.inl b)=(a==b):=by
 by_cases e:a=b
 ·subst e;simp
 ·have h:¬ (Sum.inl a:Key)=Sum.inl b:=fun q=>e (Sum.inl.inj q)
  rw[A3z h];exact(G1z.mpr e).symm
theorem Mf(a b:Str):decide ((Sum.inr a:Key)=Sum.inr b)=decide (a=b):=by
 by_cases e:a=b
 ·subst e;simp
 ·have h:¬ (Sum.inr a:Key)=Sum.inr b:=fun q=>e (Sum.inr.inj q)
  rw[A3z h,A3z e]
theorem Mh(a:Int)(b:Str):decide ((Sum.inl a:Key)=Sum.inr b)=false:=A3z (fun q=>nomatch q)
theorem Mg(a:Str)(b:Int):decide ((Sum.inr a:Key)=Sum.inl b)=false:=A3z (fun q=>nomatch q)
def xQ(prog:Program)(w:World):PySem.KeyKind prog w Key where
 is:=Mj
 hash:=keyH w
 inj:=fun v a b ha hb=>by
  rcases bM ha with⟨i,t,rfl,rfl⟩ | ⟨x,t,rfl,rfl⟩
  ·rcases bM hb with⟨j,u,rfl,e⟩ | ⟨y,u,rfl,e⟩
   ·injection e with e1 _;rw[e1]
   ·exact nomatch e
  ·rcases bM hb with⟨j,u,rfl,e⟩ | ⟨y,u,rfl,e⟩
   ·exact nomatch e
   ·injection e with e1 _;rw[e1]
 byValue:=fun k v h=>by
  rcases bM h with⟨i,t,rfl,rfl⟩ | ⟨x,t,rfl,rfl⟩<;>rfl
 pyHash:=fun hv h=>by
  rcases bM hv with⟨i,t,rfl,rfl⟩ | ⟨x,t,rfl,rfl⟩
  ·exact wpAny_pyHash_int h
  ·exact wpAny_pyHash_str h
 eqBool:=fun hu hv h=>by
  rcases bM hu with⟨i,t,rfl,rfl⟩ | ⟨x,t,rfl,rfl⟩
  ·rcases bM hv with⟨j,u,rfl,rfl⟩ | ⟨y,u,rfl,rfl⟩
   ·rw[Mi] at h;exact wpAny_eqBool_int h
   ·rw[Mh] at h;exact SeqAt.EqAt.int_str i t y u _ _ _ _ h
  ·rcases bM hv with⟨j,u,rfl,rfl⟩ | ⟨y,u,rfl,rfl⟩
   ·rw[Mg] at h;exact SeqAt.EqAt.str_int x t j u _ _ _ _ h
   ·rw[Mf] at h;exact wpAny_eqBool_str h
 «strs» :=fun k x t v h=>by
  rcases bM h with⟨i,u,rfl,e⟩ | ⟨y,u,rfl,e⟩
  ·exact nomatch e
  ·injection e with e1 _
   subst e1
   cases v<;>rfl
inductive V where
 | non | bl (b:Bool) | int (i:Int) | str (x:Str) | byt (b:Array UInt8) | flt (b:UInt64) | ref (a:Addr) | ty (n:String)
 deriving DecidableEq
def RelV:V->Value->Prop
 | .non,u=>u=Value.none
 | .bl b,u=>u=Value.bool b
 | .int i,u=>∃ t,u=Value.int i t
 | .str x,u=>∃ t,u=Value.str x t
 | .byt b,u=>∃ t,u=Value.bytes b t
 | .flt b,u=>∃ t,u=Value.float b t
 | .ref a,u=>u=Value.ref a
 | .ty n,u=>u=Value.type n
abbrev Vals:List V->List Value->Prop:=Paired RelV
theorem Vals.length{xs:List V}{us:List Value}(r:Vals xs us):xs.length=us.length:=Paired.length r
theorem Vals.get:∀ {xs:List V} {us:List Value} {i:Nat} {x:V},Vals xs us->xs[i]?=some x->∃ u,us[i]?=some u/\RelV x u
 | _,_,_,_,.nil,e=>by simp at e
 | _,_,0,_,.cons r _,e=>by simp at e;subst e;exact⟨_,rfl,r⟩
 | _,_,i+1,x,.cons _ t,e=>by
  obtain⟨u,h1,h2⟩:=Vals.get (i:=i) (x:=x) t (by simpa using e);exact⟨u,by simpa using h1,h2⟩
theorem Vals.set{x:V}{u:Value}(r:RelV x u):∀ {xs:List V} {us:List Value} (i:Nat),Vals xs us->Vals (xs.set i x) (us.set i u)
 | _,_,_,.nil=>.nil
 | _,_,0,.cons _ t=>.cons r t
 | _,_,i+1,.cons q t=>.cons q (Vals.set r i t)
theorem Vals.append:∀ {xs ys:List V} {us ws:List Value},Vals xs us->Vals ys ws->Vals (xs++ys) (us++ws)
 | _,_,_,_,.nil,s=>s
 | _,_,_,_,.cons r t,s=>.cons r (Vals.append t s)
theorem Vals.take:∀ {xs:List V} {us:List Value} (n:Nat),Vals xs us->Vals (xs.take n) (us.take n)
 | _,_,0,_=>.nil
 | _,_,_+1,.nil=>.nil
 | _,_,n+1,.cons r t=>.cons r (Vals.take n t)
theorem Vals.drop:∀ {xs:List V} {us:List Value} (n:Nat),Vals xs us->Vals (xs.drop n) (us.drop n)
 | _,_,0,r=>r
 | _,_,_+1,.nil=>.nil
 | _,_,n+1,.cons _ t=>Vals.drop n t
def Jo:Option V->Option Value->Prop
 | some v,some u=>RelV v u
 | none,none=>True
 | _,_=>False
def KV{κ:Type}:List (κ×V)->List (κ×Value)->Prop:=Paired fun(p:κ×V) (q:κ×Value)=>p.1=q.1/\RelV p.2 q.2
def kV:Key->V
 | .inl i=>.int i
 | .inr x=>.str x
inductive HO where
 | lst (xs:List V)
 | tup (xs:List V)
 | dK (kvs:List (Key×V)) | dT (kvs:List (List Key×V))
 | set (S:Int->Bool) (n:Nat)
 | ins (C dx:Addr) (fs:List (Str×V))
 | own (x:Addr)
 | xd (fs:List (Str×V))
 | met (f x:Addr)
 | rng (lo hi:Int)
 | frz (o:Obj) (u:HO)
 | tbl (ps:Array Value)
 | ext (φ:Heap->Prop)
noncomputable abbrev Hp:=Addr->Option HO
def upd(H:Hp)(a:Addr)(o:HO):Hp:=fun b=>if b=a then some o else H b
theorem aX{H:Hp}{a:Addr}{o:HO}:upd H a o a=some o:=by unfold upd;rw[R5z rfl]
theorem aO{H:Hp}{a b:Addr}{o:HO}(h:b≠a):upd H a o b=H b:=by unfold upd;rw[S5z h]
theorem aK{H:Hp}{a b:Addr}{o:HO}(h:H a=some o)(h':H b=none):a≠b:=by
 intro e;subst e;rw[h] at h';cases h'
section
variable (P:Program) (w:World)
def dZ(H:Hp)(h:Heap)(a:Addr):HO->Prop
 | .lst xs=>xs.length<=sizeLine/\∃ (its:List Value) (n:Nat),Vals xs its/\h.get? a=some { cls:=.type "list",data:=.seq its.toArray n }
 | .tup xs=>xs.length<=sizeLine/\∃ its:List Value,Vals xs its/\IsTup h a its.toArray
 | .dK kvs=>kvs.length<=sizeLine/\(a==sysModules)=false/\∃ vs,KV kvs vs/\h.DictOf (xQ P w) a vs
 | .dT kvs => kvs.length <= sizeLine /\ (a == sysModules) = false /\ ∃ xs : List (List Key × Addr × Value),
   Paired (fun(p:List Key×V) (q:List Key×Addr×Value)=>p.1=q.1/\H q.2.1=some (.tup (p.1.map kV))/\RelV p.2 q.2.2) kvs xs /\
   ∃ o es ep,h.get? a=some o/\o.ExactDict/\o.data=.dict es ep/\es.toList=xs.map (entryOfKey (tupleKind (xQ P w)))/\(xs.map (·.1)).Nodup
 | .set S n=>h.SetOf (intKind P w) a S n
 | .ins C dx fs => H dx = some (.own a) /\ fs.length <= 1000 /\ dx ≠ a /\ h.get? a = some (PySem.W.instObj C dx) /\
   ∃ mA,h.Ns1 dx mA/\(∀ f,Jo (fs.lookup f) (mA f))/\PySem.Within mA (fs.map (·.1))
 | .own _=>∃ o,h.get? a=some o
 | .xd fs=>∃ mA,h.Ns1 a mA/\∀ f,Jo (fs.lookup f) (mA f)
 | .rng lo hi=>∃ t u v,h.get? a=some { cls:=.type "range",data:=.fields #[.int lo t,.int hi u,.int 1 v] }
 | .frz o u=>h.get? a=some o/\dZ H h a u
 | .tbl ps=>h.get? a=some { cls:=.none,data:=.fields ps }
 | .met f x=>h.get? a=some (PySem.W.methodObj (.ref f) (.ref x))
 | .ext φ=>φ h/\(∃ o,h.get? a=some o)/\∀ h1 h2:Heap,φ h1->(∀ o,h1.get? a=some o->h2.get? a=some o)->φ h2
def HOk(H:Hp)(h:Heap):Prop:=∀ a o,H a=some o->dZ P w H h a o
end
section
variable {P:Program} {w:World} {H H':Hp} {h h':Heap} {a:Addr} {o:HO}
theorem dZ.lt(x:dZ P w H h a o):a<h.objs.size:=by
 cases o with
 | lst xs=>obtain⟨_,_,_,_,e⟩:=x;exact O4z e
 | tup xs=>obtain⟨_,_,_,p⟩:=x;exact p.lt
 | dK kvs=>obtain⟨_,_,_,_,o,_,_,e,_⟩:=x;exact O4z e
 | dT kvs=>obtain⟨_,_,_,_,o,_,_,e,_⟩:=x;exact O4z e
 | set S n=>obtain⟨o,_,_,_,e,_⟩:=x;exact O4z e
 | ins C dx fs=>obtain⟨_,_,_,e,_⟩:=x;exact O4z e
 | own y=>obtain⟨_,e⟩:=x;exact O4z e
 | xd fs=>obtain⟨_,⟨_,_,_,e,_⟩,_⟩:=x;exact O4z e
 | rng lo hi=>obtain⟨_,_,_,e⟩:=x;exact O4z e
 | frz ob u=>obtain⟨e,_⟩:=x;exact O4z e
 | tbl ps=>exact O4z (show h.get? a=some _ from x)
 | met f y=>exact O4z (show h.get? a=some _ from x)
 | ext φ=>obtain⟨_,⟨_,e⟩,_⟩:=x;exact O4z e
theorem Paired.mapP{α β:Type}{F G:α->β->Prop}:∀ {l₁:List α} {l₂:List β},Paired F l₁ l₂->(∀ a b,F a b->G a b)->Paired G l₁ l₂
 | _,_,.nil,_=>.nil
 | _,_,.cons r t,f=>.cons (f _ _ r) (Paired.mapP t f)
theorem dZ.stay(x:dZ P w H h a o)(k:∀ b u,(b=a\/H b=some (.own a))->h.get? b=some u->h'.get? b=some u)
  (ho:∀ b,H b=some (.own a)->H' b=some (.own a)) (ht:∀ b xs,H b=some (.tup xs)->H' b=some (.tup xs)):dZ P w H' h' a o:=by
 induction o with
 | lst xs=>obtain⟨z,its,n,r,e⟩:=x;exact⟨z,its,n,r,k _ _ (.inl rfl) e⟩
 | tup xs=>obtain⟨z,its,r,ob,e,c⟩:=x;exact⟨z,its,r,ob,k _ _ (.inl rfl) e,c⟩
 | dK kvs=>obtain⟨z,y,vs,r,ob,es,ep,e,c⟩:=x;exact⟨z,y,vs,r,ob,es,ep,k _ _ (.inl rfl) e,c⟩
 | dT kvs =>
  obtain⟨z,y,xs,r,ob,es,ep,e,c⟩:=x;exact⟨z,y,xs,Paired.mapP r fun p q z=>⟨z.1,ht _ _ z.2.1,z.2.2⟩,ob,es,ep,k _ _ (.inl rfl) e,c⟩
 | set S n=>obtain⟨ob,es,ep,t,e,c⟩:=x;exact⟨ob,es,ep,t,k _ _ (.inl rfl) e,c⟩
 | ins C dx fs =>
  obtain⟨d,z,ne,e,mA,⟨od,es,ep,e2,c⟩,r⟩:=x;exact⟨ho _ d,z,ne,k _ _ (.inl rfl) e,mA,⟨od,es,ep,k _ _ (.inr d) e2,c⟩,r⟩
 | own y=>obtain⟨ob,e⟩:=x;exact⟨ob,k _ _ (.inl rfl) e⟩
 | xd fs=>obtain⟨mA,⟨od,es,ep,e,c⟩,r⟩:=x;exact⟨mA,⟨od,es,ep,k _ _ (.inl rfl) e,c⟩,r⟩
 | rng lo hi=>obtain⟨t,u,v,e⟩:=x;exact⟨t,u,v,k _ _ (.inl rfl) e⟩
 | frz ob u ih=>obtain⟨e,q⟩:=x;exact⟨k _ _ (.inl rfl) e,ih q⟩
 | tbl ps =>
  have e:h.get? a=some { cls:=.none,data:=.fields ps }:=x;show h'.get? a=some { cls:=.none,data:=.fields ps };exact k a _ (.inl rfl) e
 | met f y =>
  have e:h.get? a=some (PySem.W.methodObj (.ref f) (.ref y)):=x;show h'.get? a=some (PySem.W.methodObj (.ref f) (.ref y));exact k a _ (.inl rfl) e
 | ext φ=>obtain⟨p,⟨o,e⟩,st⟩:=x;exact⟨st _ _ p fun o q=>k _ _ (.inl rfl) q,⟨o,k _ _ (.inl rfl) e⟩,st⟩
theorem HOk.lt(x:HOk P w H h)(e:H a=some o):a<h.objs.size:=(x a o e).lt
theorem HOk.fresh(x:HOk P w H h)(e:h.objs.size<=a):H a=none:=by
 cases q:H a with
 | none=>rfl
 | some u=>exact absurd (J1z (x.lt q) e) (F4z _)
theorem HOk.kept(x:HOk P w H h)(k:∀ b u,h.get? b=some u->h'.get? b=some u):HOk P w H h':=fun a o e =>
 (x a o e).stay (fun b u _ q=>k b u q) (fun _ q=>q) fun _ _ q=>q
theorem HOk.laid(x:HOk P w H h)(k:∀ b u,h.get? b=some u->h'.get? b=some u)(hp:h.objs.size<=a)(new:dZ P w (upd H a o) h' a o):HOk P w (upd H a o) h':=fun b u e=>by
 have hn:=x.fresh hp
 by_cases hb:b=a
 ·subst hb;rw[aX] at e;cases e;exact new
 ·rw[aO hb] at e
  exact(x b u e).stay (fun c v _ q=>k c v q) (fun c q=>by rw[aO (aK q hn)];exact q) fun c xs q=>by rw[aO (aK q hn)];exact q
end
def Rd(H:Hp)(a:Addr)(u:HO):Prop:=H a=some u\/∃ o,H a=some (.frz o u)
theorem Rd.ok{P:Program}{w:World}{H:Hp}{h:Heap}{a:Addr}{u:HO}(r:Rd H a u)(x:HOk P w H h):dZ P w H h a u:=by
 rcases r with r | ⟨o,r⟩
 ·exact x a u r
 ·obtain⟨_,q⟩:=x a _ r
  exact q
def Mut:Option HO->Prop
 | some (.lst _)=>True
 | some (.dK _)=>True
 | some (.dT _)=>True
 | some (.set _ _)=>True
 | some (.ins _ _ _)=>True
 | some (.ext _)=>True
 | _=>False
section
variable {P:Program} {w:World} {H:Hp} {h h':Heap} {x e:Addr} {o':HO}
theorem HOk.write(ok:HOk P w H h)(mu:Mut (H x))(he:e=x\/H e=some (.own x))(k:∀ b u,b≠e->h.get? b=some u->h'.get? b=some u)(heo:∃ u,h'.get? e=some u)
  (new:dZ P w (upd H x o') h' x o'):HOk P w (upd H x o') h':=fun b u q=>by
 have nown:∀ c y,H c=some (.own y)->c≠x:=fun c y r z=>by subst z;rw[r] at mu;exact mu
 have ntup:∀ c xs,H c=some (.tup xs)->c≠x:=fun c xs r z=>by subst z;rw[r] at mu;exact mu
 by_cases hb:b=x
 ·subst hb;rw[aX] at q;cases q;exact new
 ·rw[aO hb] at q
  by_cases hbe:b=e
  ·have q':H b=some (.own x):=by
    rcases he with z | z
    ·exact absurd (hbe.trans z) hb
    ·rw[hbe];exact z
   rw[q] at q';cases q'
   obtain⟨v,hv⟩:=heo;exact⟨v,by rw[hbe];exact hv⟩
  ·refine(ok b u q).stay (fun c v hc r=>k c v ?_ r) (fun c r=>by rw[aO (nown c b r)];exact r) fun c xs r=>by rw[aO (ntup c xs r)];exact r
   rcases hc with rfl | hc
   ·exact hbe
   ·rintro rfl
    rcases he with z | z
    ·exact nown c b hc z
    ·rw[hc] at z;cases z;exact hb rfl
end
structure Un (fs ex:List Addr) (H H':Hp) (h h':Heap):Prop where
 keep:∀ b o,h.get? b=some o->H b=none->b∉fs->b∉ex->h'.get? b=some o
 slot:∀ b o,h.get? b=some o->H b=none->b∈fs->b∉ex->∃ sl,h'.get? b=some { o with slots:=sl }
 free:∀ b o,h.get? b=some o->H b=none->b∉ex->H' b=none
 there:∀ b o,h.get? b=some o->b∉ex->∃ o',h'.get? b=some o'
 tups:∀ b xs,H b=some (.tup xs)->H' b=some (.tup xs)
 frzs:∀ b o u,H b=some (.frz o u)->H' b=some (.frz o u)
 tbls:∀ b ps,H b=some (.tbl ps)->∃ more,H' b=some (.tbl (ps++more))
section
variable {fs fs' ex ex':List Addr} {H H1 H2:Hp} {h h1 h2 h':Heap} {a x e:Addr} {o:HO}
theorem Un.any(u:Un fs ex H H1 h h1){b:Addr}{ob:Obj}(q:h.get? b=some ob)(n:H b=none)(hx:b∉ex):∃ sl,h1.get? b=some { ob with slots:=sl }:=by
 by_cases hb:b∈fs
 ·exact u.slot b ob q n hb hx
 ·exact⟨ob.slots,u.keep b ob q n hb hx⟩
theorem Un.trans(a:Un fs ex H H1 h h1)(b:Un fs ex H1 H2 h1 h2):Un fs ex H H2 h h2 where
 keep:=fun c ob q n hc hx=>b.keep c ob (a.keep c ob q n hc hx) (a.free c ob q n hx) hc hx
 slot:=fun c ob q n hc hx=>by
  obtain⟨sl,e1⟩:=a.slot c ob q n hc hx;obtain⟨sl',e2⟩:=b.slot c _ e1 (a.free c ob q n hx) hc hx;exact⟨sl',e2⟩
 free:=fun c ob q n hx=>by
  obtain⟨o',e1⟩:=a.there c ob q hx;exact b.free c o' e1 (a.free c ob q n hx) hx
 there:=fun c ob q hx=>by
  obtain⟨o',e1⟩:=a.there c ob q hx;exact b.there c o' e1 hx
 tups:=fun c xs q=>b.tups c xs (a.tups c xs q)
 frzs:=fun c ob xs q=>b.frzs c ob xs (a.frzs c ob xs q)
 tbls:=fun c ps q=>by
  obtain⟨m1,e1⟩:=a.tbls c ps q;obtain⟨m2,e2⟩:=b.tbls c _ e1;exact⟨m1++m2,by rw[e2,Array.append_assoc]⟩
theorem Un.kept(k:∀ b u,h.get? b=some u->h'.get? b=some u):Un fs ex H H h h' :=
 ⟨fun b ob q _ _ _=>k b ob q,fun b ob q _ _ _=>⟨ob.slots,k b ob q⟩,fun _ _ _ n _=>n,fun b ob q _=>⟨ob,k b ob q⟩,fun _ _ q=>q,fun _ _ _ q=>q,fun _ ps q=>⟨#[],by rw[q];simp⟩⟩
theorem Un.refl:Un fs ex H H h h:=Un.kept fun _ _ q=>q
theorem Un.laid(k:∀ b u,h.get? b=some u->h'.get? b=some u)(hp:h.objs.size<=a)(hn:H a=none):Un fs ex H (upd H a o) h h' where
 keep:=fun b u q _ _ _=>k b u q
 slot:=fun b u q _ _ _=>⟨u.slots,k b u q⟩
 free:=fun b u q n _=>by rw[aO (P4z (J1z (O4z q) hp))];exact n
 there:=fun b u q _=>⟨u,k b u q⟩
 tups:=fun b xs q=>by rw[aO (aK q hn)];exact q
 frzs:=fun b u xs q=>by rw[aO (aK q hn)];exact q
 tbls:=fun b ps q=>⟨#[],by rw[aO (aK q hn),q];simp⟩
theorem Un.write(mu:Mut (H x))(he:e=x\/H e=some (.own x))(k:∀ b u,b≠e->h.get? b=some u->h'.get? b=some u)(heo:∃ u,h'.get? e=some u):Un fs ex H (upd H x o) h h':=by
 have hx:∀ b,H b=none->b≠x:=fun b n z=>by subst z;rw[n] at mu;exact mu
 have hb:∀ b,H b=none->b≠e:=fun b n z=>by
  subst z;rcases he with r | r
  ·exact hx b n r
  ·rw[n] at r;cases r
 have hm:∀ b u,H b=some u->¬ Mut (some u)->b≠x:=fun b u q nm z=>by subst z;rw[q] at mu;exact nm mu
 refine⟨fun b u q n _ _=>k b u (hb b n) q,fun b u q n _ _=>⟨u.slots,k b u (hb b n) q⟩,fun b u q n _=>by rw[aO (hx b n)];exact n,fun b u q _=>?_,
  fun b xs q=>by rw[aO (hm b _ q fun z=>z)];exact q,fun b u xs q=>by rw[aO (hm b _ q fun z=>z)];exact q,fun b ps q=>⟨#[],by rw[aO (hm b _ q fun z=>z),q];simp⟩⟩
 by_cases hbe:b=e
 ·subst hbe;exact heo
 ·exact⟨u,k b u hbe q⟩
theorem Un.mono(u:Un fs ex H H1 h h1)(hs:∀ b∈fs,b∈fs')(hx:∀ b∈ex,b∈ex'):Un fs' ex' H H1 h h1 :=
 ⟨fun b ob q n hb he=>u.keep b ob q n (fun z=>hb (hs b z)) fun z=>he (hx b z),fun _ _ q n _ he=>u.any q n fun z=>he (hx _ z),fun b ob q n he=>u.free b ob q n fun z=>he (hx b z),fun b ob q he=>u.there b ob q fun z=>he (hx b z),u.tups,u.frzs,u.tbls⟩
end
def trk(h:Heap)(H:Hp):List Addr:=(List.range h.objs.size).filter fun a=>(H a).isSome
def BK(h:Heap)(H:Hp):Heap:=PySem.W.hideAll h (trk h H)
theorem yx(h:Heap)(H:Hp):(BK h H).objs.size=h.objs.size:=PySem.W.hideAll_size _ _
theorem BJ{h:Heap}{H:Hp}{b:Addr}{o:Obj}(e:h.get? b=some o)(n:H b=none):(BK h H).get? b=some o :=
 PySem.W.hideAll_get _ e fun hm=>by
  have q:(H b).isSome=true:=(List.mem_filter.mp hm).2;rw[n] at q;simp at q
theorem G9{h:Heap}{H:Hp}{b:Addr}{o:Obj}(e:(BK h H).get? b=some o):h.get? b=some o/\H b=none:=by
 have e':h.get? b=some o:=PySem.W.of_hideAll (trk h H) e;refine⟨e',?_⟩
 cases q:H b with
 | none=>rfl
 | some x =>
  have hm:b∈trk h H:=List.mem_filter.mpr ⟨List.mem_range.mpr (O4z e'),by simp[q]⟩;have z:(BK h H).get? b=none:=PySem.W.hideAll_none (trk h H) hm;rw[z] at e;cases e
def Jm(g h:Heap)(L:Addr):List (Addr×Obj):=(List.range h.objs.size).filterMap fun a=>if a=L\/(g.get? a).isSome=true then none else(h.get? a).map fun o=>(a,o)
def rest(g h:Heap)(L d:Addr):List (Addr×Obj):=(Jm g h L).filter fun p=>decide (p.1≠d)
structure Mod (K:Z3) (mg:Str->Option Value) (base:Heap):Prop where
 kin:K.In base
 glob:base.Ns mainGlobals mg
 blt:∃ mb,base.Ns builtinsNs mb/\∀ x:Str,x≠"__name__"->mb x=bootBuiltins x
 nolimit:base.NoLimit
structure Cx where
 prog:Program
 w:World
 K:Z3
 mg:Str->Option Value
 base:Heap
 A:Around
 N:List Str
 s₀:Shared
 H₀:Hp
 env:Env
 outer:List Env
 stack:List Env
 ex:List Addr
 fn:Str->Bool
 calm:Bool
 pn:List (Addr×Obj)
 xe:Value->Shared->Prop
def frs(l:List Env):List Addr:=l.filterMap (·.frame)
abbrev Cx.fs(X:Cx):List Addr:=frs X.outer
def Vis(sc:Scope)(x:Str):Prop:=sc.names.lookup x=some .local\/sc.names.lookup x=some .cell\/sc.names.lookup x=some .free
def Loc(sc:Scope)(x:Str):Prop:=sc.names.lookup x=some .local\/sc.names.lookup x=some .cell
def Look(env:Env)(h:Heap)(m:Str->Option Value)(x:Str)(u:Value):Prop :=
 (env.kindOf x=some .local/\m x=some u)\/((env.kindOf x=some .cell\/env.kindOf x=some .free)/\∃ c,env.cells.lookup x=some c/\h.IsCell c (some u))
structure Cx.Ok (X:Cx):Prop where
 mod:Mod X.K X.mg X.base
 kind:X.env.scope.kind=.function
 glob:X.env.globals=mainGlobals
 blt:X.env.builtins=builtinsNs
 above:X.s₀.heap.objs.size<=X.env.locals
 inj:∀ x y c,X.env.cells.lookup x=some c->X.env.cells.lookup y=some c->x=y
 has:∀ x,(X.env.kindOf x=some .cell\/X.env.kindOf x=some .free)->∃ c,X.env.cells.lookup x=some c
 cab:∀ x c,X.fn x=true->X.env.cells.lookup x=some c->X.s₀.heap.objs.size<=c
 hd:X.calm=true->X.A.handled=none
 frames:X.A.frames=some X.stack
 stk:X.stack=X.outer\/(X.stack=X.env::X.outer/\X.env.frame=some X.env.locals)
 exf:∀ b∈X.ex,b≠X.env.locals/\∀ x c,X.env.cells.lookup x=some c->c≠b
 bs:∀ b o,X.base.get? b=some o->X.s₀.heap.get? b=some o/\X.H₀ b=none
 bsz:X.base.objs.size<=X.s₀.heap.objs.size
 noex:∀ b o,X.base.get? b=some o->b∉X.ex
 exfs:∀ b∈X.ex,b∉X.fs
 funs:X.s₀.heap.FunFrames X.base X.outer
 frf:∀ b∈X.fs,X.H₀ b=none
structure Inv (X:Cx) (z0:List (Addr×Obj)) (σ:List (Option V)) (H:Hp) (s:Shared):Prop where
 ok:X.Ok
 os:s.os=X.s₀.os
 bare:AllBare s.gens
 base:Un X.fs X.ex X.H₀ H X.s₀.heap s.heap
 loc:∃ m,s.heap.Ns X.env.locals m/\∀ (i:Nat) (x:Str) (v:V),X.N[i]?=some x->σ[i]?=some (some v)->Vis X.env.scope x->∃ u,RelV v u/\Look X.env s.heap m x u
 cell:∀ x c,X.env.cells.lookup x=some c->∃ v,s.heap.IsCell c v
 free:H X.env.locals=none
 freeC:∀ x c,X.env.cells.lookup x=some c->H c=none
 pin:∀ p∈X.pn++z0,s.heap.get? p.1=some p.2/\H p.1=none/\p.1≠X.env.locals/\p.1∉X.fs/\∀ v,p.2.data≠.cell v
 hok:HOk X.prog X.w H s.heap
 len:σ.length=X.N.length
section
variable {X:Cx} {z0:List (Addr×Obj)} {σ:List (Option V)} {H H':Hp} {s:Shared} {h':Heap}
theorem Cx.Ok.nofr(ok:X.Ok){b:Addr}{o:Obj}(e:X.base.get? b=some o):b∉X.fs:=fun hb=>by
 have:=(ok.funs.mem hb).1;rw[e] at this;cases this
theorem Inv.bs(I:Inv X z0 σ H s):∀ b o,X.base.get? b=some o->s.heap.get? b=some o/\H b=none:=fun b o e =>
 ⟨I.base.keep b o (I.ok.bs b o e).1 (I.ok.bs b o e).2 (I.ok.nofr e) (I.ok.noex b o e),I.base.free b o (I.ok.bs b o e).1 (I.ok.bs b o e).2 (I.ok.noex b o e)⟩
theorem Inv.bk(I:Inv X z0 σ H s):∀ b o,X.base.get? b=some o->s.heap.get? b=some o:=fun b o e=>(I.bs b o e).1
theorem Inv.mod(I:Inv X z0 σ H s):Mod X.K X.mg X.base:=I.ok.mod
theorem Inv.kIn(I:Inv X z0 σ H s):X.K.In s.heap:=I.ok.mod.kin.keeps I.bk
theorem Inv.lt(I:Inv X z0 σ H s):X.env.locals<s.heap.objs.size:=let ⟨_,hn,_⟩:=I.loc;hn.lt
theorem Inv.sz(I:Inv X z0 σ H s):X.s₀.heap.objs.size<=s.heap.objs.size:=Q4z I.ok.above (Nat.le_of_lt I.lt)
theorem Inv.nofs(I:Inv X z0 σ H s){a:Addr}(h:s.heap.objs.size<=a):a∉X.fs:=fun hb=>by
 obtain⟨_,o,ho,_⟩:=I.ok.funs.mem hb;exact absurd (J1z (O4z ho) (Q4z I.sz h)) (F4z _)
theorem Inv.cne(I:Inv X z0 σ H s):∀ x c,X.env.cells.lookup x=some c->c≠X.env.locals:=fun x c e z=>by
 obtain⟨v,o,ho,hd⟩:=I.cell x c e;obtain⟨m,⟨o',es,ep,ho',hd',_⟩,_⟩:=I.loc;rw[z,ho'] at ho;cases ho;rw[hd'] at hd;cases hd
theorem Inv.funs(I:Inv X z0 σ H s):s.heap.FunFrames X.base X.outer:=by
 have all:∀ (l:List Env),(∀ b∈frs l,b∈X.fs)->X.s₀.heap.FunFrames X.base l->s.heap.FunFrames X.base l:=by
  intro l
  induction l with
  | nil=>intro _ _;trivial
  | cons env r ih =>
   intro hs hl;obtain⟨hk,⟨L,o,hf,hn,ho,hd⟩,hr⟩:=hl;have hL:L∈X.fs:=hs L (by unfold frs;rw[C1z,hf];exact K1z);obtain⟨sl,e⟩:=I.base.slot L o ho (I.ok.frf L hL) hL fun z=>I.ok.exfs L z hL;exact⟨hk,⟨L,_,hf,hn,e,hd⟩,ih (fun b hb=>hs b (by unfold frs;rw[C1z,hf];exact W0z _ hb)) hr⟩
 exact all X.outer (fun _ hb=>hb) I.ok.funs
theorem Inv.stack(I:Inv X z0 σ H s):s.heap.FunFrames X.base X.stack:=by
 rcases I.ok.stk with e | ⟨e,hf⟩
 ·rw[e];exact I.funs
 ·rw[e]
  obtain⟨m,hn,_⟩:=I.loc;refine .cons (by rw[I.ok.kind];decide) hf hn ?_ I.funs;exact Heap.get?_none_of_le (Q4z I.ok.bsz I.ok.above)
theorem Inv.stkSub(I:Inv X z0 σ H s):∀ b∈frs X.stack,b∈X.env.locals::X.fs:=fun b hb=>by
 rcases I.ok.stk with e | ⟨e,hf⟩
 ·rw[e] at hb;exact W0z _ hb
 ·rw[e] at hb
  unfold frs at hb;rw[C1z,hf] at hb;exact hb
theorem Inv.stkFree(I:Inv X z0 σ H s):∀ b∈frs X.stack,H b=none:=fun b hb=>by
 rcases List.mem_cons.mp (I.stkSub b hb) with e | hb
 ·rw[e];exact I.free
 ·obtain⟨_,o,ho,_⟩:=I.ok.funs.mem hb
  exact I.base.free b o ho (I.ok.frf b hb) fun z=>I.ok.exfs b z hb
theorem Inv.step{g':Array GenState}{t':Nat}{d':Drawn}{ch:List Addr}(I:Inv X z0 σ H s)
  (hch:∀ b∈ch,(b∈X.ex\/X.s₀.heap.objs.size<=b)/\b≠X.env.locals/\(∀ x c,X.env.cells.lookup x=some c->c≠b)/\∀ p∈X.pn++z0,p.1≠b)
  (keep:∀ b o,b≠X.env.locals->b∉X.fs->b∉ch->s.heap.get? b=some o->H b=none->h'.get? b=some o)
  (slot:∀ b o,b≠X.env.locals->b∈X.fs->b∉ch->s.heap.get? b=some o->H b=none->∃ sl,h'.get? b=some { o with slots:=sl }) (free:∀ b o,b∉ch->s.heap.get? b=some o->H b=none->H' b=none)
  (there:∀ b o,b∉ch->s.heap.get? b=some o->∃ o',h'.get? b=some o')
  (tups:∀ b xs,H b=some (.tup xs)->H' b=some (.tup xs)) (frzs:∀ b o u,H b=some (.frz o u)->H' b=some (.frz o u)) (tbls:∀ b ps,H b=some (.tbl ps)->∃ more,H' b=some (.tbl (ps++more)))
  (ns:∀ m,s.heap.Ns X.env.locals m->h'.Ns X.env.locals m) (hok:HOk X.prog X.w H' h') (hg:AllBare g') :
  Inv X z0 σ H' { s with heap:=h',gens:=g',drawn:=d',toks:=t' }:=by
 have neL:∀ b o,X.s₀.heap.get? b=some o->b≠X.env.locals:=fun b o e=>P4z (J1z (O4z e) I.ok.above)
 have neC:∀ b o,X.s₀.heap.get? b=some o->b∉X.ex->b∉ch:=fun b o e hx hb=>by
  rcases(hch b hb).1 with z | z
  ·exact hx z
  ·exact absurd (J1z (O4z e) z) (F4z _)
 have cellK:∀ x c,X.env.cells.lookup x=some c->∀ v,s.heap.IsCell c v->h'.IsCell c v:=fun x c e v ⟨o,ho,hd⟩=>by
  have nch:c∉ch:=fun z=>(hch c z).2.2.1 x c e rfl
  by_cases hc:c∈X.fs
  ·obtain⟨sl,q⟩:=slot c o (I.cne x c e) hc nch ho (I.freeC x c e)
   exact⟨_,q,hd⟩
  ·exact⟨o,keep c o (I.cne x c e) hc nch ho (I.freeC x c e),hd⟩
 refine⟨I.ok,I.os,hg,⟨fun b o e n hb hx=>?_,fun b o e n hb hx=>?_,fun b o e n hx=>?_,fun b o e hx=>?_,fun b xs e=>tups b xs (I.base.tups b xs e),fun b o xs e=>frzs b o xs (I.base.frzs b o xs e),fun b ps e=>?_⟩,?_,fun x c e=>?_,?_,fun x c e=>?_,fun p hp=>?_,hok,I.len⟩
 ·exact keep b o (neL b o e) hb (neC b o e hx) (I.base.keep b o e n hb hx) (I.base.free b o e n hx)
 ·obtain⟨sl,e1⟩:=I.base.slot b o e n hb hx
  obtain⟨sl',e2⟩:=slot b _ (neL b o e) hb (neC b o e hx) e1 (I.base.free b o e n hx);exact⟨sl',e2⟩
 ·obtain⟨o',e1⟩:=I.base.there b o e hx
  exact free b o' (neC b o e hx) e1 (I.base.free b o e n hx)
 ·obtain⟨o',e1⟩:=I.base.there b o e hx
  exact there b o' (neC b o e hx) e1
 ·obtain⟨m1,e1⟩:=I.base.tbls b ps e
  obtain⟨m2,e2⟩:=tbls b _ e1;exact⟨m1++m2,by rw[e2,Array.append_assoc]⟩
 ·obtain⟨m,hn,hl⟩:=I.loc
  refine⟨m,ns m hn,fun i x v e1 e2 e3=>?_⟩;obtain⟨u,r,l⟩:=hl i x v e1 e2 e3;refine⟨u,r,?_⟩;rcases l with l | ⟨k,c,e,z⟩
  ·exact .inl l
  ·exact .inr ⟨k,c,e,cellK x c e _ z⟩
 ·obtain⟨v,z⟩:=I.cell x c e
  exact⟨v,cellK x c e v z⟩
 ·obtain⟨m,⟨o,_,_,ho,_⟩,_⟩:=I.loc
  exact free _ o (fun z=>(hch _ z).2.1 rfl) ho I.free
 ·obtain⟨v,o,ho,hd⟩:=I.cell x c e
  exact free c o (fun z=>(hch c z).2.2.1 x c e rfl) ho (I.freeC x c e)
 ·obtain⟨e,n,ne,nf,d⟩:=I.pin p hp
  have nch:p.1∉ch:=fun z=>(hch p.1 z).2.2.2 p hp rfl;exact⟨keep p.1 p.2 ne nf nch e n,free p.1 p.2 nch e n,ne,nf,d⟩
theorem Inv.un{t':Nat}(I:Inv X z0 σ H s)(u:Un X.fs [] H H' s.heap h')(hok:HOk X.prog X.w H' h'):Inv X z0 σ H' { s with heap:=h',toks:=t' }:=by
 obtain⟨m,⟨o,es,ep,ho,r⟩,_⟩:=id I.loc;obtain⟨sl,hL⟩:=u.any ho I.free (by simp)
 exact I.step (g':=s.gens) (d':=s.drawn) (ch:=[]) (fun _ z=>nomatch z) (fun b o _ hb _ e n=>u.keep b o e n hb (by simp)) (fun b o _ hb _ e n=>u.slot b o e n hb (by simp)) (fun b o _ e n=>u.free b o e n (by simp)) (fun b o _ e=>u.there b o e (by simp)) u.tups u.frzs u.tbls (fun m' hm=>by
  obtain⟨o',es',ep',ho',r'⟩:=hm;rw[ho] at ho';cases ho'
  exact⟨_,es',ep',hL,r'⟩) hok I.bare
theorem Inv.call{g':Array GenState}{t':Nat}{d':Drawn}{ch:List Addr}(I:Inv X z0 σ H s)(u:Un (frs X.stack) ch H H' s.heap h')(hok:HOk X.prog X.w H' h')(hg:AllBare g')
  (hch:∀ b∈ch,(b∈X.ex\/X.s₀.heap.objs.size<=b)/\b≠X.env.locals/\(∀ x c,X.env.cells.lookup x=some c->c≠b)/\∀ p∈X.pn++z0,p.1≠b) :
  Inv X z0 σ H' { s with heap:=h',gens:=g',drawn:=d',toks:=t' }:=by
 obtain⟨m,⟨o,es,ep,ho,r⟩,_⟩:=id I.loc;obtain⟨sl,hL⟩:=u.any ho I.free fun z=>(hch _ z).2.1 rfl
 exact I.step (ch:=ch) hch (fun b o hL hb hc e n=>u.keep b o e n (fun z=>(List.mem_cons.mp (I.stkSub b z)).elim hL hb) hc) (fun b o _ _ hc e n=>u.any e n hc) (fun b o hc e n=>u.free b o e n hc) (fun b o hc e=>u.there b o e hc) u.tups u.frzs u.tbls (fun m' hm=>by
  obtain⟨o',es',ep',ho',r'⟩:=hm;rw[ho] at ho';cases ho'
  exact⟨_,es',ep',hL,r'⟩) hok hg
theorem Inv.turned{t':Nat}{it:Addr}(I:Inv X z0 σ H s)(k:∀ b o,b≠it->s.heap.get? b=some o->h'.get? b=some o)(hn:H it=none)(hL:it≠X.env.locals)
  (h1:it∈X.ex\/X.s₀.heap.objs.size<=it) (h2:∀ x c,X.env.cells.lookup x=some c->c≠it) (h3:∀ p∈X.pn++z0,p.1≠it):Inv X z0 σ H { s with heap:=h',toks:=t' }:=by
 have nit:∀ b u,H b=some u->b≠it:=fun b u e z=>by rw[z,hn] at e;cases e
 refine I.step (g':=s.gens) (d':=s.drawn) (ch:=[it]) (fun b hb=>?_) (fun b o _ _ hc e _=>k b o (fun z=>hc (by simp[z])) e) (fun b o _ _ hc e _=>⟨o.slots,k b o (fun z=>hc (by simp[z])) e⟩) (fun _ _ _ _ n=>n)
  (fun b o hc e=>⟨o,k b o (fun z=>hc (by simp[z])) e⟩) (fun _ _ e=>e) (fun _ _ _ e=>e) (fun b ps e=>⟨#[],by rw[e];simp⟩) (fun m hm=>?_) (fun b u e=>?_) I.bare
 ·have e:b=it:=by simpa using hb
  subst e;exact⟨h1,hL,h2,h3⟩
 ·obtain⟨o,es,ep,ho,r⟩:=hm
  exact⟨o,es,ep,k _ o (P5z hL) ho,r⟩
 ·refine(I.hok b u e).stay (fun c v hc q=>k c v ?_ q) (fun _ q=>q) fun _ _ q=>q
  rcases hc with z | z
  ·rw[z];exact nit b u e
  ·exact nit c _ z
theorem Inv.tok(I:Inv X z0 σ H s)(t:Nat):Inv X z0 σ H { s with toks:=t }:=I.un (h':=s.heap) (t':=t) Un.refl I.hok
theorem Inv.kept{t':Nat}(I:Inv X z0 σ H s)(k:∀ b u,s.heap.get? b=some u->h'.get? b=some u):Inv X z0 σ H { s with heap:=h',toks:=t' }:=I.un (Un.kept k) (I.hok.kept k)
theorem Inv.laid{a:Addr}{o:HO}{t':Nat}(I:Inv X z0 σ H s)(k:∀ b u,s.heap.get? b=some u->h'.get? b=some u)(hp:s.heap.objs.size<=a)(new:dZ X.prog X.w (upd H a o) h' a o) :
  Inv X z0 σ (upd H a o) { s with heap:=h',toks:=t' }:=I.un (Un.laid k hp (I.hok.fresh hp)) (I.hok.laid k hp new)
theorem Inv.write{x e:Addr}{o:HO}{t':Nat}(I:Inv X z0 σ H s)(mu:Mut (H x))(he:e=x\/H e=some (.own x))(k:∀ b u,b≠e->s.heap.get? b=some u->h'.get? b=some u)(heo:∃ u,h'.get? e=some u)
  (new:dZ X.prog X.w (upd H x o) h' x o):Inv X z0 σ (upd H x o) { s with heap:=h',toks:=t' }:=I.un (Un.write mu he k heo) (I.hok.write mu he k heo new)
theorem Inv.pins_of{pins':List (Addr×Obj)}(I:Inv X z0 σ H s)(h:∀ p∈pins',s.heap.get? p.1=some p.2/\H p.1=none/\p.1≠X.env.locals/\p.1∉X.fs/\∀ v,p.2.data≠.cell v):Inv X pins' σ H s :=
 ⟨I.ok,I.os,I.bare,I.base,I.loc,I.cell,I.free,I.freeC,fun p hp=>(List.mem_append.mp hp).elim (fun z=>I.pin p (X0z _ z)) (h p),I.hok,I.len⟩
theorem mJ{N:List Str}(hN:N.Nodup){i j:Nat}{x:Str}(a:N[i]?=some x)(b:N[j]?=some x):i=j:=by
 obtain⟨h1,e1⟩:=List.getElem?_eq_some_iff.mp a;obtain⟨h2,e2⟩:=List.getElem?_eq_some_iff.mp b;exact(List.getElem_inj hN).mp (e1.trans e2.symm)
theorem nT{M:Model}{A:Around}{E:Value->Shared->Prop}{i:Nat}{x:Str}{v:V}{u:Value}{Q:Unit->Shared->Prop}(I:Inv X z0 σ H s)(hN:X.N.Nodup)(hi:X.N[i]?=some x)(hx:Loc X.env.scope x)(r:RelV v u)
  (h:∀ s',Inv X z0 (σ.set i (some v)) H s'->(∃ a,Heap.SameBut a s.heap s'.heap/\(a=X.env.locals\/X.env.cells.lookup x=some a))->Q () s') (hf:X.fn x=true\/X.env.scope.names.lookup x=some .local:=by first | exact .inl rfl | exact .inr rfl | assumption):wpAny M A (storeName X.env x u) Q E s:=by
 obtain⟨m,hn,hl⟩:=id I.loc
 have hcls:(X.env.scope.kind==.class||(X.env.scope.kind==.module&&X.env.locals !=X.env.globals))=false:=by rw[I.ok.kind];rfl
 have hiσ:i<σ.length:=by rw[I.len];exact(List.getElem?_eq_some_iff.mp hi).1
 have cne:=I.cne
 have tracked:∀ {a:Addr} {h':Heap},(∃ o,s.heap.get? a=some o/\H a=none)->Heap.SameBut a s.heap h'->HOk X.prog X.w H h':=fun {a h'} ha hs b ob e=>by
  obtain⟨_,_,hfree⟩:=ha;refine(I.hok b ob e).stay (fun c w' hc q=>(hs.2 c ?_).trans q) (fun _ q=>q) fun _ _ q=>q;rintro rfl;rcases hc with rfl | hc
  ·rw[hfree] at e;cases e
  ·rw[hfree] at hc;cases hc
 rcases hx with hk | hk
 ·refine wpAny_storeName_local hk hn (fun h' hn' hs=>?_) hcls
  obtain⟨oL,_,_,hoL,_⟩:=id hn;refine h _ ⟨I.ok,I.os,I.bare,⟨fun b o e n hb hx=>?_,fun b o e n hb hx=>?_,I.base.free,fun b o e hx=>?_,I.base.tups,I.base.frzs,I.base.tbls⟩,⟨_,hn',fun j y v' e1 e2 e3=>?_⟩,fun y c e=>?_,I.free,I.freeC,fun p hp=>?_,tracked ⟨oL,hoL,I.free⟩ hs,by simpa using I.len⟩ ⟨_,hs,.inl rfl⟩
  ·exact(hs.2 b (P4z (J1z (O4z e) I.ok.above))).trans (I.base.keep b o e n hb hx)
  ·obtain⟨sl,e1⟩:=I.base.slot b o e n hb hx
   exact⟨sl,(hs.2 b (P4z (J1z (O4z e) I.ok.above))).trans e1⟩
  ·obtain⟨o',e1⟩:=I.base.there b o e hx
   exact⟨o',(hs.2 b (P4z (J1z (O4z e) I.ok.above))).trans e1⟩
  ·by_cases hj:j=i
   ·subst hj
    rw[hi] at e1;cases e1
    rw[List.getElem?_set_self hiσ] at e2;cases e2;exact⟨u,r,.inl ⟨hk,by simp⟩⟩
   ·rw[List.getElem?_set_ne (P5z hj)] at e2
    obtain⟨u',r',q⟩:=hl j y v' e1 e2 e3;refine⟨u',r',?_⟩;rcases q with⟨k,e⟩ | ⟨k,c,e,z⟩
    ·refine .inl ⟨k,?_⟩
     have:y≠x:=fun e=>hj (mJ hN e1 (e▸hi));simp[this,e]
    ·exact .inr ⟨k,c,e,z.sameBut hs (cne y c e)⟩
  ·obtain⟨w',z⟩:=I.cell y c e
   exact⟨w',z.sameBut hs (cne y c e)⟩
  ·obtain⟨e,n,ne,nf,d⟩:=I.pin p hp
   exact⟨(hs.2 p.1 ne).trans e,n,ne,nf,d⟩
 ·have hfn:X.fn x=true:=by
   rcases hf with z | z
   ·exact z
   ·rw[z] at hk;cases hk
  obtain⟨c,hc⟩:=I.ok.has x (.inl hk);obtain⟨w',z⟩:=I.cell x c hc;refine wpAny_storeName_cell I.ok.kind hk hc z (fun h' hc' hs=>?_);obtain⟨oc,hoc,hocd⟩:=id z;refine h { s with heap:=h' } ⟨I.ok,I.os,I.bare,⟨fun b o e n hb hx=>?_,fun b o e n hb hx=>?_,I.base.free,fun b o e hx=>?_,I.base.tups,I.base.frzs,I.base.tbls⟩,⟨m,hn.sameBut hs (P5z (cne x c hc)),fun j y v' e1 e2 e3=>?_⟩,fun y c' e=>?_,I.free,I.freeC,fun p hp=>?_,tracked ⟨oc,hoc,I.freeC x c hc⟩ hs,by simpa using I.len⟩ ⟨c,hs,.inr hc⟩
  ·exact(hs.2 b (P4z (J1z (O4z e) (I.ok.cab x c hfn hc)))).trans (I.base.keep b o e n hb hx)
  ·obtain⟨sl,e1⟩:=I.base.slot b o e n hb hx
   exact⟨sl,(hs.2 b (P4z (J1z (O4z e) (I.ok.cab x c hfn hc)))).trans e1⟩
  ·obtain⟨o',e1⟩:=I.base.there b o e hx
   exact⟨o',(hs.2 b (P4z (J1z (O4z e) (I.ok.cab x c hfn hc)))).trans e1⟩
  ·by_cases hj:j=i
   ·subst hj
    rw[hi] at e1;cases e1
    rw[List.getElem?_set_self hiσ] at e2;cases e2;exact⟨u,r,.inr ⟨.inl hk,c,hc,hc'⟩⟩
   ·rw[List.getElem?_set_ne (P5z hj)] at e2
    obtain⟨u',r',q⟩:=hl j y v' e1 e2 e3;refine⟨u',r',?_⟩;rcases q with q | ⟨k,c',e,z'⟩
    ·exact .inl q
    ·refine .inr ⟨k,c',e,z'.sameBut hs ?_⟩
     rintro rfl;exact hj (mJ hN e1 (I.ok.inj _ _ _ e hc▸hi))
  ·by_cases hcc:c'=c
   ·subst hcc;exact⟨_,hc'⟩
   ·obtain⟨w2,z2⟩:=I.cell y c' e
    exact⟨w2,z2.sameBut hs hcc⟩
  ·obtain⟨e,n,ne,nf,d⟩:=I.pin p hp
   refine⟨(hs.2 p.1 ?_).trans e,n,ne,nf,d⟩;intro q;rw[q,hoc] at e;have q':oc=p.2:=B3z e;exact d w' (by rw[<- q'];exact hocd)
theorem gA{M:Model}{A:Around}{E:Value->Shared->Prop}{i:Nat}{x:Str}{v:V}{u:Value}{Q:Unit->Shared->Prop}(I:Inv X z0 σ H s)(hN:X.N.Nodup)(hi:X.N[i]?=some x)(hx:Loc X.env.scope x)(r:RelV v u)
  (h:∀ s',Inv X z0 (σ.set i (some v)) H s'->Q () s') (hf:X.fn x=true\/X.env.scope.names.lookup x=some .local:=by first | exact .inl rfl | exact .inr rfl | assumption):wpAny M A (storeName X.env x u) Q E s :=
 nT I hN hi hx r (fun s' I' _=>h s' I') hf
theorem Inv.call'{s':Shared}{ch:List Addr}(I:Inv X z0 σ H s)(ho:s'.os=s.os)(u:Un (frs X.stack) ch H H' s.heap s'.heap)(hok:HOk X.prog X.w H' s'.heap)(hg:AllBare s'.gens)
  (hch:∀ b∈ch,(b∈X.ex\/X.s₀.heap.objs.size<=b)/\b≠X.env.locals/\(∀ x c,X.env.cells.lookup x=some c->c≠b)/\∀ p∈X.pn++z0,p.1≠b):Inv X z0 σ H' s':=by
 obtain⟨h',g',d',t',o'⟩:=s';have e:o'=s.os:=ho;subst e;exact I.call (g':=g') (t':=t') (d':=d') u hok hg hch
end
abbrev XK:=Value->Option Addr->Hp->Prop
abbrev St:=List (Option V)
abbrev VK:=V->Hp->Prop
abbrev TE:=St->Hp->VK->Prop
abbrev TT:=St->Hp->(Bool->Hp->Prop)->Prop
abbrev TA:=St->Hp->(List V->Hp->Prop)->Prop
structure Ends where
 nx:St->Hp->Prop
 rt:VK
 bk:St->Hp->Prop:=fun _ _=>False
 ct:St->Hp->Prop:=fun _ _=>False
abbrev TS:=Ends->St->Hp->Prop
def EP(X:Cx)(z0:List (Addr×Obj))(σ:St)(Q:VK)(u:Value)(s':Shared):Prop:=∃ v H',Inv X z0 σ H' s'/\RelV v u/\Q v H'
def TP(X:Cx)(z0:List (Addr×Obj))(σ:St)(Q:Bool->Hp->Prop)(b:Bool)(s':Shared):Prop:=∃ H',Inv X z0 σ H' s'/\Q b H'
def AP(X:Cx)(z0:List (Addr×Obj))(σ:St)(Q:List V->Hp->Prop)(us:List Value)(s':Shared):Prop:=∃ vs H',Inv X z0 σ H' s'/\Vals vs us/\Q vs H'
def SP(X:Cx)(z0:List (Addr×Obj))(D:Ends)(f:Flow)(s':Shared):Prop :=
 match f with
 | .next=>∃ σ' H',Inv X z0 σ' H' s'/\D.nx σ' H'
 | .brk=>∃ σ' H',Inv X z0 σ' H' s'/\D.bk σ' H'
 | .cont=>∃ σ' H',Inv X z0 σ' H' s'/\D.ct σ' H'
 | .ret u=>∃ v σ' H',Inv X z0 σ' H' s'/\RelV v u/\D.rt v H'
def PE(X:Cx)(e:Expr)(t:TE):Prop :=
 ∀ (z0:List (Addr×Obj)) (s:Shared) (σ:St) (H:Hp) (Q:VK),Inv X z0 σ H s->t σ H Q->wpAny (model X.prog X.w) X.A (eval e X.env) (EP X z0 σ Q) X.xe s
def PT(X:Cx)(e:Expr)(t:TT):Prop :=
 ∀ (z0:List (Addr×Obj)) (s:Shared) (σ:St) (H:Hp) (Q:Bool->Hp->Prop),Inv X z0 σ H s->t σ H Q->wpAny (model X.prog X.w) X.A (isTrue e X.env (eval e X.env)) (TP X z0 σ Q) X.xe s
def PW(X:Cx)(e:Expr)(t:TT):Prop :=
 ∀ (whole:Sem Value) (z0:List (Addr×Obj)) (s:Shared) (σ:St) (H:Hp) (Q:Bool->Hp->Prop),Inv X z0 σ H s->t σ H Q->wpAny (model X.prog X.w) X.A (isTrue e X.env whole) (TP X z0 σ Q) X.xe s
def PA(X:Cx)(es:List Expr)(t:TA):Prop :=
 ∀ (pos:Pos) (z0:List (Addr×Obj)) (s:Shared) (σ:St) (H:Hp) (Q:List V->Hp->Prop),Inv X z0 σ H s->t σ H Q->wpAny (model X.prog X.w) X.A (spliced (backTo pos (starEach es X.env))) (AP X z0 σ Q) X.xe s
def PS(X:Cx)(st:Stmt)(t:TS):Prop :=
 ∀ (z0:List (Addr×Obj)) (s:Shared) (σ:St) (H:Hp) (D:Ends),Inv X z0 σ H s->t D σ H->wpAny (model X.prog X.w) X.A (exec st X.env) (SP X z0 D) X.xe s
def PSs(X:Cx)(st:List Stmt)(t:TS):Prop :=
 ∀ (z0:List (Addr×Obj)) (s:Shared) (σ:St) (H:Hp) (D:Ends),Inv X z0 σ H s->t D σ H->wpAny (model X.prog X.w) X.A (execs st X.env) (SP X z0 D) X.xe s
theorem thn{α:Type}{t:Sem α}{Q Q':α->Shared->Prop}{M:Model}{A:Around}{E:Value->Shared->Prop}{s:Shared}(h:wpAny M A t Q E s)(hQ:∀ a s,Q a s->Q' a s):wpAny M A t Q' E s:=E5z h hQ fun _ _ x=>x
section
variable {X:Cx}
def N5(i:Nat):TE:=fun σ H Q=>∃ v,σ[i]?=some (some v)/\Q v H
def tC(v:V):TE:=fun _ H Q=>Q v H
theorem jF{i:Nat}{x:Str}{pos:Pos}(hN:X.N[i]?=some x)(hv:Vis X.env.scope x)(hd:(x==("__debug__":Str))=false:=by decide)(hcd:(x==("__classdict__":Str))=false:=by decide):PE X (.Name x pos) (N5 i):=by
 intro z0 s σ H Q I h;obtain⟨v,e,h⟩:=h;obtain⟨m,hn,hl⟩:=I.loc;obtain⟨u,r,l⟩:=hl i x v hN e hv;have fin:EP X z0 σ Q u s:=⟨v,H,I,r,h⟩;rcases l with⟨hk,hm⟩ | ⟨hk,c,hc,hcell⟩
 ·exact wpAny_Name (wpAny_loadName_local I.ok.kind hk hn hm fin) hd
 ·rcases hk with hk | hk
  ·exact wpAny_Name (wpAny_loadName_cell I.ok.kind hk hc hcell fin) hd
  ·exact wpAny_Name (wpAny_loadName_free I.ok.kind hk hc hcell fin hcd) hd
theorem K5{i j pos}:PE X (.Constant (.int i) j pos) (tC (.int i)):=fun _ _ _ H _ I h=>wpAny_Constant_int ⟨.int i,H,I.tok _,⟨_,rfl⟩,h⟩
theorem Qh{b j pos}:PE X (.Constant (.bool b) j pos) (tC (.bl b)):=fun _ _ _ H _ I h=>Constant_bool ⟨.bl b,H,I,rfl,h⟩
theorem K4{j pos}:PE X (.Constant .none j pos) (tC .non):=fun _ _ _ H _ I h=>Constant_none ⟨.non,H,I,rfl,h⟩
theorem Dr{x j pos}:PE X (.Constant (.str x) j pos) (tC (.str x)):=fun _ _ _ H _ I h=>Calls.Constant_str ⟨.str x,H,I.tok _,⟨_,rfl⟩,h⟩
def Gl(X:Cx)(x:Str):Prop:=X.env.kindOf x=some .globalImplicit
theorem jJ{E:Value->Shared->Prop}{z0:List (Addr×Obj)}{s:Shared}{σ:St}{H:Hp}{x:Str}{u:Value}{pos:Pos}{Q:Value->Shared->Prop}(I:Inv X z0 σ H s)(hg:Gl X x)(hm:X.mg x=some u)(h:Q u s)
  (hd:(x==("__debug__":Str))=false:=by decide):wpAny (model X.prog X.w) X.A (eval (.Name x pos) X.env) Q E s :=
 Calls.Name_function_global I.ok.kind hg (Calls.loadGlobal_global (by rw[I.ok.glob];exact I.mod.glob.keeps I.bk) hm h) hd
theorem fV{E:Value->Shared->Prop}{z0:List (Addr×Obj)}{s:Shared}{σ:St}{H:Hp}{x:Str}{u:Value}{pos:Pos}{Q:Value->Shared->Prop}(I:Inv X z0 σ H s)(hg:Gl X x)(hm:X.mg x=none)(hv:bootBuiltins x=some u)(h:Q u s)
  (hn:x≠"__name__":=by decide) (hd:(x==("__debug__":Str))=false:=by decide):wpAny (model X.prog X.w) X.A (eval (.Name x pos) X.env) Q E s:=by
 obtain⟨mb,h1,h2⟩:=I.mod.blt;exact Calls.Name_function_global I.ok.kind hg (Calls.loadGlobal_builtin (by rw[I.ok.glob];exact I.mod.glob.keeps I.bk) hm (by rw[I.ok.blt];exact h1.keeps I.bk) ((h2 x hn).trans hv) h) hd
theorem qC{x:Str}{v:V}{u:Value}{pos:Pos}(hg:Gl X x)(hm:X.mg x=some u)(r:RelV v u)(hd:(x==("__debug__":Str))=false:=by decide):PE X (.Name x pos) (tC v) :=
 fun _ _ _ H _ I h=>jJ I hg hm ⟨v,H,I,r,h⟩ hd
theorem xu{x:Str}{v:V}{u:Value}{pos:Pos}(hg:Gl X x)(hm:X.mg x=none)(hv:bootBuiltins x=some u)(r:RelV v u)(hn:x≠"__name__":=by decide)(hd:(x==("__debug__":Str))=false:=by decide):PE X (.Name x pos) (tC v) :=
 fun _ _ _ H _ I h=>fV I hg hm hv ⟨v,H,I,r,h⟩ hn hd
variable {a b:Expr} {ta tb:TE} {pos:Pos}
def tB(t:TE):TT:=fun σ H Q=>t σ H fun x H1=>∃ c,x=.bl c/\Q c H1
theorem Dl{e:Expr}{t:TE}(h:PE X e t)(he:∀ whole,isTrue e X.env whole=(do let v <- whole;standAt e.pos;holding [v] (truthy v)):=by intro _;rfl):PT X e (tB t):=by
 intro z0 s σ H Q I hw;refine isTrue_plain (thn (h z0 s σ H _ I hw) fun v s1 ⟨x,H1,I1,r1,q1⟩=>?_) (he _);obtain⟨d,rfl,q⟩:=q1;cases r1;exact T1z ⟨H1,I1,q⟩
variable {tA tB':TT} {rest:List Expr}
def Z4(t u:TT):TT:=fun σ H Q=>t σ H fun c H1=>if c=true then u σ H1 Q else Q false H1
def tOr(t u:TT):TT:=fun σ H Q=>t σ H fun c H1=>if c=true then Q true H1 else u σ H1 Q
def ZS(t:TT):TT:=fun σ H Q=>t σ H fun c H1=>Q (!c) H1
theorem Gm(ha:PT X a tA):PW X (.BoolOp .And [a] pos) tA:=by
 intro wh z0 s σ H Q I h;refine isTrue_and (thn (ha z0 s σ H Q I h) fun c s1 e=>?_)
 cases c with
 | true=>exact isTrue_and_nil e
 | false=>exact e
theorem Ky(ha:PT X a tA):PW X (.BoolOp .Or [a] pos) tA:=by
 intro wh z0 s σ H Q I h;refine isTrue_or (thn (ha z0 s σ H Q I h) fun c s1 e=>?_)
 cases c with
 | false=>exact isTrue_or_nil e
 | true=>exact e
theorem Dj(ha:PT X a tA)(hb:PW X (.BoolOp .And (b::rest) pos) tB'):PW X (.BoolOp .And (a::b::rest) pos) (Z4 tA tB'):=by
 intro wh z0 s σ H Q I h;refine isTrue_and (thn (ha z0 s σ H _ I h) fun c s1 ⟨H1,I1,q1⟩=>?_)
 cases c with
 | true=>exact hb wh z0 s1 σ H1 Q I1 q1
 | false=>exact⟨H1,I1,q1⟩
theorem Kz(ha:PT X a tA)(hb:PW X (.BoolOp .Or (b::rest) pos) tB'):PW X (.BoolOp .Or (a::b::rest) pos) (tOr tA tB'):=by
 intro wh z0 s σ H Q I h;refine isTrue_or (thn (ha z0 s σ H _ I h) fun c s1 ⟨H1,I1,q1⟩=>?_)
 cases c with
 | true=>exact⟨H1,I1,q1⟩
 | false=>exact hb wh z0 s1 σ H1 Q I1 q1
theorem Dm(ha:PT X a tA):PT X (.UnaryOp .Not a pos) (ZS tA):=by
 intro z0 s σ H Q I h;exact isTrue_not (ha z0 s σ H (fun c H1=>Q (!c) H1) I h)
def O9(ta tb:TE):TE:=fun σ H Q=>ta σ H fun x H1=>∃ c,x=.bl c/\if c=true then tb σ H1 Q else Q (.bl false) H1
def ZR(ta tb:TE):TE:=fun σ H Q=>ta σ H fun x H1=>∃ c,x=.bl c/\if c=true then Q (.bl true) H1 else tb σ H1 Q
def O6(ta:TE):TE:=fun σ H Q=>ta σ H fun x H1=>∃ c,x=.bl c/\Q (.bl (!c)) H1
theorem K1{op}{t:TE}(h:PE X a t):PE X (.BoolOp op [a] pos) t:=fun z0 s σ H Q I hw=>BoolOp_one (h z0 s σ H Q I hw)
theorem Dt(ha:PE X a ta)(hb:PE X (.BoolOp .And (b::rest) pos) tb):PE X (.BoolOp .And (a::b::rest) pos) (O9 ta tb):=by
 intro z0 s σ H Q I h;refine BoolOp_and (thn (ha z0 s σ H _ I h) fun v s1 ⟨x,H1,I1,r1,q1⟩=>?_);obtain⟨c,rfl,q1⟩:=q1;cases r1;refine T1z ?_
 cases c with
 | true=>exact hb z0 s1 σ H1 Q I1 q1
 | false=>exact⟨.bl false,H1,I1,rfl,q1⟩
theorem KZ(ha:PE X a ta)(hb:PE X (.BoolOp .Or (b::rest) pos) tb):PE X (.BoolOp .Or (a::b::rest) pos) (ZR ta tb):=by
 intro z0 s σ H Q I h;refine BoolOp_or (thn (ha z0 s σ H _ I h) fun v s1 ⟨x,H1,I1,r1,q1⟩=>?_);obtain⟨c,rfl,q1⟩:=q1;cases r1;refine T1z ?_
 cases c with
 | false=>exact hb z0 s1 σ H1 Q I1 q1
 | true=>exact⟨.bl true,H1,I1,rfl,q1⟩
theorem K3(ha:PE X a ta):PE X (.UnaryOp .Not a pos) (O6 ta):=by
 intro z0 s σ H Q I h;refine UnaryOp_ (thn (ha z0 s σ H _ I h) fun v s1 ⟨x,H1,I1,r1,q1⟩=>?_);obtain⟨c,rfl,q1⟩:=q1;cases r1;exact not_of (T1z ⟨.bl (!c),H1,I1,rfl,q1⟩)
def tIf(t:TT)(ta tb:TE):TE:=fun σ H Q=>t σ H fun c H1=>if c=true then ta σ H1 Q else tb σ H1 Q
theorem mz{c:Expr}(hc:PT X c tA)(ha:PE X a ta)(hb:PE X b tb):PE X (.IfExp c a b pos) (tIf tA ta tb):=by
 intro z0 s σ H Q I h;refine wpAny_IfExp (thn (hc z0 s σ H _ I h) fun d s1 ⟨H1,I1,q1⟩=>?_)
 cases d with
 | true=>exact ha z0 s1 σ H1 Q I1 q1
 | false=>exact hb z0 s1 σ H1 Q I1 q1
end
def SqL(K:Z3)(H:Hp)(a:Addr)(xs:List V):Prop :=
 Rd H a (.lst xs) \/
  ∃ (o:Obj) (its:Array Value) (n:Nat),K.lookup a=some o/\o.cls=.type "list"/\o.dict=none/\o.data=.seq its n/\its.size<=sizeLine/\Vals xs its.toList
def SqT(K:Z3)(H:Hp)(a:Addr)(xs:List V):Prop :=
 Rd H a (.tup xs) \/
  ∃ (o:Obj) (its:Array Value) (n:Nat),K.lookup a=some o/\o.cls=.type "tuple"/\o.data=.seq its n/\its.size<=sizeLine/\Vals xs its.toList
def absV:Value->Option V
 | .none=>some .non
 | .bool b=>some (.bl b)
 | .int i _=>some (.int i)
 | .str x _=>some (.str x)
 | .bytes b _=>some (.byt b)
 | .float b _=>some (.flt b)
 | .ref a=>some (.ref a)
 | .type n=>some (.ty n)
 | _=>none
theorem RelV.abs{x:V}{u:Value}(r:RelV x u):absV u=some x:=by
 cases x with
 | non=>cases r;rfl
 | bl _=>cases r;rfl
 | int _=>obtain⟨t,rfl⟩:=r;rfl
 | str _=>obtain⟨t,rfl⟩:=r;rfl
 | byt _=>obtain⟨t,rfl⟩:=r;rfl
 | flt _=>obtain⟨t,rfl⟩:=r;rfl
 | ref _=>cases r;rfl
 | ty _=>cases r;rfl
theorem RelV.inj{x y:V}{u:Value}(r:RelV x u)(q:RelV y u):x=y:=B3z (r.abs.symm.trans q.abs)
theorem Vals.inj:∀ {xs ys:List V} {us:List Value},Vals xs us->Vals ys us->xs=ys
 | _,_,_,.nil,.nil=>rfl
 | _,_,_,.cons r t,.cons r' t'=>by rw[r.inj r',Vals.inj t t']
section
variable {X:Cx} {z0:List (Addr×Obj)} {σ:St} {H:Hp} {s:Shared} {a:Addr} {xs ys:List V}
theorem SqL.of{K:Z3}(h:H a=some (.lst xs)):SqL K H a xs:=.inl (.inl h)
theorem SqT.of{K:Z3}(h:H a=some (.tup xs)):SqT K H a xs:=.inl (.inl h)
theorem Inv.list(I:Inv X z0 σ H s)(h:SqL X.K H a xs):∃ its:List Value,Vals xs its/\PlainL s.heap a its.toArray/\xs.length<=sizeLine:=by
 rcases h with h | ⟨o,its,n,hk,hc,hd,hs,hz,r⟩
 ·obtain⟨z,its,n,r,e⟩:=h.ok I.hok
  exact⟨its,r,⟨_,n,e,rfl,rfl,rfl⟩,z⟩
 ·refine⟨its.toList,r,⟨o,n,I.kIn a o hk,hc,hd,by simpa using hs⟩,?_⟩
  have e:=r.length;simp only[D1z] at e;omega
theorem Inv.tuple(I:Inv X z0 σ H s)(h:SqT X.K H a xs):∃ its:List Value,Vals xs its/\IsTup s.heap a its.toArray/\xs.length<=sizeLine:=by
 rcases h with h | ⟨o,its,n,hk,hc,hs,hz,r⟩
 ·obtain⟨z,its,r,p⟩:=h.ok I.hok
  exact⟨its,r,p,z⟩
 ·refine⟨its.toList,r,⟨o,I.kIn a o hk,hc,n,by simpa using hs⟩,?_⟩
  have e:=r.length;simp only[D1z] at e;omega
theorem Inv.list_inj(I:Inv X z0 σ H s)(h:SqL X.K H a xs)(h':SqL X.K H a ys):xs=ys:=by
 obtain⟨its,r,⟨o,n,e,_,_,d⟩,_⟩:=I.list h;obtain⟨its',r',⟨o',n',e',_,_,d'⟩,_⟩:=I.list h';rw[e] at e';cases e';rw[d] at d';injection d' with d1 _
 have:its=its':=by simpa using congrArg Array.toList d1
 subst this;exact r.inj r'
theorem Inv.tuple_inj(I:Inv X z0 σ H s)(h:SqT X.K H a xs)(h':SqT X.K H a ys):xs=ys:=by
 obtain⟨its,r,⟨o,e,_,n,d⟩,_⟩:=I.tuple h;obtain⟨its',r',⟨o',e',_,n',d'⟩,_⟩:=I.tuple h';rw[e] at e';cases e';rw[d] at d';injection d' with d1 _
 have:its=its':=by simpa using congrArg Array.toList d1
 subst this;exact r.inj r'
end
abbrev Cx.wish(X:Cx)(E:Value->Shared->Prop):Cx:={ X with xe:=E }
abbrev Cx.nox(X:Cx):Cx:=X.wish fun _ _=>False
theorem Cx.Ok.wish{X:Cx}(ok:X.Ok)(E:Value->Shared->Prop):(X.wish E).Ok :=
 ⟨ok.mod,ok.kind,ok.glob,ok.blt,ok.above,ok.inj,ok.has,ok.cab,ok.hd,ok.frames,ok.stk,ok.exf,ok.bs,ok.bsz,ok.noex,ok.exfs,ok.funs,ok.frf⟩
theorem Cx.Ok.unwish{X:Cx}{E:Value->Shared->Prop}(ok:(X.wish E).Ok):X.Ok :=
 ⟨ok.mod,ok.kind,ok.glob,ok.blt,ok.above,ok.inj,ok.has,ok.cab,ok.hd,ok.frames,ok.stk,ok.exf,ok.bs,ok.bsz,ok.noex,ok.exfs,ok.funs,ok.frf⟩
section
variable {X:Cx} {z0:List (Addr×Obj)} {σ:St} {H:Hp} {s:Shared} {E:Value->Shared->Prop}
theorem Inv.wish(I:Inv X z0 σ H s)(E:Value->Shared->Prop):Inv (X.wish E) z0 σ H s:=⟨I.ok.wish E,I.os,I.bare,I.base,I.loc,I.cell,I.free,I.freeC,I.pin,I.hok,I.len⟩
theorem Inv.unwish(I:Inv (X.wish E) z0 σ H s):Inv X z0 σ H s:=⟨I.ok.unwish,I.os,I.bare,I.base,I.loc,I.cell,I.free,I.freeC,I.pin,I.hok,I.len⟩
theorem SP.unwish{D:Ends}{f:Flow}{s':Shared}(h:SP (X.wish E) z0 D f s'):SP X z0 D f s':=by
 cases f with
 | next=>obtain⟨σ',H',I,q⟩:=h;exact⟨σ',H',I.unwish,q⟩
 | brk=>obtain⟨σ',H',I,q⟩:=h;exact⟨σ',H',I.unwish,q⟩
 | cont=>obtain⟨σ',H',I,q⟩:=h;exact⟨σ',H',I.unwish,q⟩
 | ret u=>obtain⟨v,σ',H',I,r,q⟩:=h;exact⟨v,σ',H',I.unwish,r,q⟩
end
section
variable {X:Cx} {st:Stmt} {rest:List Stmt} {t u:TS} {e:Expr} {te:TE} {pos:Pos}
def Fy:TS:=fun D σ H=>D.nx σ H
def W6(t u:TS):TS:=fun D σ H=>t { D with nx:=u D } σ H
theorem wU:PSs X [] Fy:=fun _ _ σ H _ I h=>C3z ⟨σ,H,I,h⟩
theorem lY(h1:PS X st t)(h2:PSs X rest u):PSs X (st::rest) (W6 t u):=by
 intro z0 s σ H D I h;refine wpAny_execs_cons (thn (h1 z0 s σ H { D with nx:=u D } I h) fun f s1 q=>?_)
 cases f with
 | next =>
  obtain⟨σ',H',I',q⟩:=q;exact h2 z0 s1 σ' H' D I' q
 | ret v=>exact q
 | brk=>exact q
 | cont=>exact q
theorem Gs:PS X (.Pass pos) Fy:=fun _ _ σ H _ I h=>wpAny_Pass ⟨σ,H,I,h⟩
theorem Inv.quiet{z0:List (Addr×Obj)}{σ:St}{H:Hp}{s:Shared}(I:Inv X z0 σ H s):interactive X.env=false:=by simp[interactive,I.ok.kind]
def O7(te:TE):TS:=fun D σ H=>te σ H fun _ H1=>D.nx σ H1
theorem jD(he:PE X e te)(hs:swapsWith e none pos.line X.env=pure false:=by rfl):PS X (.Expr e pos) (O7 te):=by
 intro z0 s σ H D I h;exact wpAny_Expr_any (thn (he z0 s σ H _ I h) fun v s1 ⟨x,H1,I1,r1,q1⟩=>⟨σ,H1,I1,q1⟩) I.quiet hs
def ZP(te:TE):TS:=fun D σ H=>te σ H D.rt
theorem KC(he:PE X e te):PS X (.Return (some e) pos) (ZP te):=by
 intro z0 s σ H D I h;exact wpAny_Return_some (thn (he z0 s σ H _ I h) fun v s1 ⟨x,H1,I1,r1,q1⟩=>⟨x,σ,H1,I1,r1,q1⟩)
def O4:TS:=fun D _ H=>D.rt .non H
theorem Gq:PS X (.Return none pos) O4:=fun _ _ σ H _ I h=>wpAny_Return_none ⟨.non,σ,H,I,rfl,h⟩
def ZW(c:TT)(t u:TS):TS:=fun D σ H=>c σ H fun b H1=>if b=true then t D σ H1 else u D σ H1
theorem Gu{c:Expr}{a b:List Stmt}{tc:TT}(hc:PT X c tc)(ha:PSs X a t)(hb:PSs X b u):PS X (.If c a b pos) (ZW tc t u):=by
 intro z0 s σ H D I h;refine wpAny_If (thn (hc z0 s σ H _ I h) fun d s1 ⟨H1,I1,q1⟩=>?_)
 cases d with
 | true=>exact ha z0 s1 σ H1 D I1 q1
 | false=>exact hb z0 s1 σ H1 D I1 q1
end
abbrev TG:=V->St->Hp->(St->Hp->Prop)->Prop
abbrev TGs:=List V->St->Hp->(St->Hp->Prop)->Prop
def PG(X:Cx)(target:Expr)(t:TG):Prop :=
  ∀ (z0 : List (Addr × Obj)) (s : Shared) (σ : St) (H : Hp) (v : V) (u : Value) (Q : St -> Hp -> Prop), Inv X z0 σ H s -> RelV v u -> t v σ H Q ->
    wpAny (model X.prog X.w) X.A (assign target X.env u) (fun _ s'=>∃ σ' H',Inv X z0 σ' H' s'/\Q σ' H') X.xe s
def PGs(X:Cx)(ts:List Expr)(t:TGs):Prop :=
  ∀ (z0 : List (Addr × Obj)) (s : Shared) (σ : St) (H : Hp) (vs : List V) (us : List Value) (Q : St -> Hp -> Prop), Inv X z0 σ H s -> Vals vs us -> t vs σ H Q ->
    wpAny (model X.prog X.w) X.A (assignInOrder ((assignEach ts X.env).map (·.2)) us) (fun _ s'=>∃ σ' H',Inv X z0 σ' H' s'/\Q σ' H') X.xe s
abbrev WY:=V->V->V->Hp->(Hp->Prop)->Prop
def W0(X:Cx)(t:WY):Prop :=
  ∀ (z0 : List (Addr × Obj)) (s : Shared) (σ : St) (H : Hp) (o i v : V) (ov iv u : Value) (Q : Hp -> Prop), Inv X z0 σ H s -> RelV o ov -> RelV i iv -> RelV v u -> t o i v H Q ->
    wpAny (model X.prog X.w) X.A (setItem ov iv u) (fun _ s'=>∃ H',Inv X z0 σ H' s'/\Q H') X.xe s
section
variable {X:Cx} {pos:Pos}
def BW(i:Nat):TG:=fun v σ H Q=>Q (σ.set i (some v)) H
theorem GJ{i:Nat}{x:Str}(hN:X.N.Nodup)(hi:X.N[i]?=some x)(hx:Loc X.env.scope x)(hf:X.fn x=true\/X.env.scope.names.lookup x=some .local:=by first | exact .inl rfl | exact .inr rfl | assumption):PG X (.Name x pos) (BW i):=by
 intro z0 s σ H v u Q I r h;exact wpAny_assign_Name (gA I hN hi hx r (fun s' I'=>⟨_,H,I',h⟩) hf)
def gNil:TGs:=fun vs σ H Q=>vs=[]/\Q σ H
def Ww(t:TG)(u:TGs):TGs:=fun vs σ H Q=>∃ v r,vs=v::r/\t v σ H fun σ' H'=>u r σ' H' Q
theorem GD:PGs X [] gNil:=by
 intro z0 s σ H vs us Q I r h;obtain⟨e,h⟩:=h;subst e;cases r;exact assignInOrder_nil ⟨σ,H,I,h⟩
theorem Bd{e:Expr}{es:List Expr}{t:TG}{u:TGs}(h1:PG X e t)(h2:PGs X es u)
  (hs:(assignEach (e::es) X.env).map (·.2)=assign e X.env::(assignEach es X.env).map (·.2):=by rfl):PGs X (e::es) (Ww t u):=by
 intro z0 s σ H vs us Q I r h;obtain⟨v,vr,e1,h⟩:=h;subst e1
 cases r with
 | cons r rr =>
  rw[hs];refine assignInOrder_cons (thn (h1 z0 s σ H _ _ _ I r h) fun _ s1 ⟨σ1,H1,I1,q1⟩=>?_);exact h2 z0 s1 σ1 H1 _ _ Q I1 rr q1
def gTup(K:Z3)(n:Nat)(t:TGs):TG:=fun v σ H Q=>∃ a xs,v=.ref a/\SqT K H a xs/\xs.length=n/\t xs σ H Q
theorem Dp{es:List Expr}{k:Nat}{t:TGs}{n:Nat}(hc:X.calm=true)(h:PGs X es t)
  (hn:(assignEach es X.env).length=n:=by rfl) (hst:(assignEach es X.env).findIdx? (·.1)=none:=by rfl):PG X (.Tuple es k pos) (gTup X.K n t):=by
 intro z0 s σ H v u Q I r hw;obtain⟨a,xs,e1,hq,hl,hw⟩:=hw;subst e1;cases r;obtain⟨its,rv,ht,hz⟩:=I.tuple hq;refine assign_Tuple_tuple (I.ok.hd hc) ht (by simp[hn,<- hl,rv.length]) hst fun h' hx=>?_;have I1:Inv X z0 σ H { s with heap:=h' }:=I.kept (t':=s.toks) fun b o e=>hx b o (P4z (O4z e)) e;exact h z0 _ σ H xs _ Q I1 (by simpa using rv) hw
def gSub(to ti:TE)(t:WY):TG:=fun v σ H Q=>to σ H fun o H1=>ti σ H1 fun i H2=>t o i v H2 fun H3=>Q σ H3
theorem Dq{o i:Expr}{to ti:TE}{t:WY}(ho:PE X o to)(hi:PE X i ti)(hs:W0 X t)
  (ha:∀ v,assign (.Subscript o i pos) X.env v=(do
   let ov <- holding [v] (eval o X.env)
   let iv <- holding [v,ov] (eval i X.env)
   standAt pos
   holding [v,ov,iv] (setItem ov iv v)
   release [v,ov,iv] []):=by intro _;rfl):PG X (.Subscript o i pos) (gSub to ti t):=by
 intro z0 s σ H v u Q I r h;rw[ha];refine F5z (G4z (thn (ho z0 s σ H _ I h) fun ov s1 ⟨x,H1,I1,r1,q1⟩=>?_));refine F5z (G4z (thn (hi z0 s1 σ H1 _ I1 q1) fun iv s2 ⟨y,H2,I2,r2,q2⟩=>?_));refine F5z (H4z (F5z (G4z (thn (hs z0 s2 σ H2 x y v ov iv u _ I2 r1 r2 r q2) fun _ s3 ⟨H3,I3,q3⟩=>?_))));exact wpAny_release ⟨σ,H3,I3,q3⟩
def N6(te:TE)(g:TG):TS:=fun D σ H=>te σ H fun x H1=>g x σ H1 D.nx
theorem wX{tg e:Expr}{te:TE}{g:TG}(he:PE X e te)(hg:PG X tg g)(hs:swapsWithSole [tg] e pos.line X.env=pure false:=by rfl)(hw:swappedStores [tg] e X.env=pure none:=by rfl)
  (h1:(assignEach [tg] X.env).map (·.2)=[assign tg X.env]:=by rfl):PS X (.Assign [tg] e pos) (N6 te g):=by
 intro z0 s σ H D I h;refine wpAny_Assign_stores (thn (he z0 s σ H _ I h) fun v s1 ⟨x,H1,I1,r1,q1⟩=>?_) hs hw;rw[h1];exact thn (hg z0 s1 σ H1 x v _ I1 r1 q1) fun _ s2 q=>q
theorem jC{i:Nat}{x:Str}{e:Expr}{te:TE}{pos':Pos}(hN:X.N.Nodup)(hi:X.N[i]?=some x)(hx:Loc X.env.scope x)(he:PE X e te)(hs:swapsWith e (some (.Name x pos')) pos.line X.env=pure false:=by rfl)(hf:X.fn x=true\/X.env.scope.names.lookup x=some .local:=by first | exact .inl rfl | exact .inr rfl | assumption) :
  PS X (.Assign [.Name x pos'] e pos) (N6 te (BW i)):=by
 intro z0 s σ H D I h;refine wpAny_Assign_Name (thn (he z0 s σ H _ I h) fun v s1 ⟨y,H1,I1,r1,q1⟩=>?_) hs;exact gA I1 hN hi hx r1 (fun s2 I2=>⟨_,H1,I2,q1⟩) hf
def ZQ(i j:Nat)(ta:TA):TS:=fun D σ H=>ta σ H fun vs H1=>∃ v w,vs=[v,w]/\D.nx ((σ.set i (some v)).set j (some w)) H1
theorem KD{i j:Nat}{x y:Str}{a b:Expr}{ta:TA}{px py pt:Pos}{kt k2 pt2}(hc:X.calm=true)(hN:X.N.Nodup)(hi:X.N[i]?=some x)(hj:X.N[j]?=some y)(hij:i≠j)
  (hx:X.env.scope.names.lookup x=some .local) (hy:X.env.scope.names.lookup y=some .local) (ha:PA X [a,b] ta)
  (hw:swappedStores [.Tuple [.Name x px,.Name y py] kt pt] (.Tuple [a,b] k2 pt2) X.env=pure (some [x,y]))
  (hs:swapsWithSole [.Tuple [.Name x px,.Name y py] kt pt] (.Tuple [a,b] k2 pt2) pos.line X.env=pure false:=by rfl) :
  PS X (.Assign [.Tuple [.Name x px,.Name y py] kt pt] (.Tuple [a,b] k2 pt2) pos) (ZQ i j ta):=by
 intro z0 s σ H D I h;rw[exec_Assign_arm];refine F5z (H4z ?_);rw[hs];refine F5z (G5z ?_);rw[S5z (by decide)];refine F5z (Tuple_ (thn (ha _ z0 s σ H _ I h) fun us s1 ⟨vs,H1,I1,r1,q1⟩=>?_));obtain⟨v,w,e1,q1⟩:=q1;subst e1
 obtain⟨u1,u2,rfl,rv,rw'⟩:∃ u1 u2,us=[u1,u2]/\RelV v u1/\RelV w u2:=by
  cases r1 with
  | cons p q =>
   cases q with
   | cons p' q' =>
    cases q';exact⟨_,_,rfl,p,p'⟩
 refine U1z ?_ (by show 2<=sizeLine;decide)
 have I2:Inv X z0 σ H1 { s1 with heap:=s1.heap.push { cls:=.type "tuple",data:=.seq [u1,u2].toArray } }:=I1.kept (t':=s1.toks) fun b o e=>Heap.get?_push_of_some _ e;rw[hw];refine F5z (G5z ?_);show wpAny (model X.prog X.w) X.A (do rule "assign.swapped-stores";let items <- unpackItems (.ref s1.heap.objs.size) 2 none;assignInOrder [fun v=>bindName X.env y v,fun v=>bindName X.env x v] items.reverse;pure Flow.next) _ _ _;refine F5z (H5z (F5z (unpackItems_tuple (items := #[u1,u2]) (I.ok.hd hc) (IsTup.new s1.heap _) fun h' hx'=>?_)));have I3:=I2.kept (h':=h') (t':=s1.toks) fun b o e=>hx' b o (P4z (O4z e)) e;show wpAny _ _ (assignInOrder [fun v=>bindName X.env y v,fun v=>bindName X.env x v] [u2,u1] >>=fun _=>pure Flow.next) _ _ _;refine F5z (assignInOrder_cons (wpAny_bindName (gA I3 hN hj (.inl hy) rw' (fun s2 I4=>?_) (.inr hy))));refine assignInOrder_cons (wpAny_bindName (gA I4 hN hi (.inl hx) rv (fun s3 I5=>assignInOrder_nil (G5z ?_)) (.inr hx)));rw[List.set_comm _ _ (P5z hij)] at I5;exact⟨_,H1,I5,q1⟩
end
section
variable {X:Cx} {pos:Pos}
def J3(c:TT)(tb:TS):TS:=fun D σ H=>∃ W:Nat->St->Hp->Prop,(∃ m,W m σ H)/\∀ m σ H,W m σ H ->
 c σ H fun b H1=>if b=true then ∃ N:St->Hp->Prop,(∀ σ' H',N σ' H'->∃ m',m'<m/\W m' σ' H')/\tb { D with nx:=N,ct:=N,bk:=D.nx } σ H1 else D.nx σ H1
theorem Aw{c:Expr}{body:List Stmt}{tc:TT}{tb:TS}(hp:PassesOwn (model X.prog X.w) X.A X.env X.xe)(hc:PT X c tc)(hb:PSs X body tb):PS X (.While c body [] pos) (J3 tc tb):=by
 intro z0 s σ H D I h;obtain⟨W,⟨m0,w0⟩,turn⟩:=h;refine wpAny_While (codeAny_whileLoop (fun n s'=>∃ σ' H',Inv X z0 σ' H' s'/\W n σ' H') ?_ m0 ⟨σ,H,I,w0⟩);rintro n s1 ⟨σ1,H1,I1,w1⟩;refine D3z hp (thn (hc z0 s1 σ1 H1 _ I1 (turn n σ1 H1 w1)) fun b s2 ⟨H2,I2,q2⟩=>?_)
 cases b with
 | true =>
  obtain⟨N,hN,q2⟩:=q2;rw[R5z rfl];refine D3z hp (thn (hb z0 s2 σ1 H2 _ I2 q2) fun f s3 q3=>?_)
  cases f with
  | next =>
   obtain⟨σ3,H3,I3,n3⟩:=q3;obtain⟨m',hm,w3⟩:=hN σ3 H3 n3;exact⟨m',hm,σ3,H3,I3,w3⟩
  | cont =>
   obtain⟨σ3,H3,I3,n3⟩:=q3;obtain⟨m',hm,w3⟩:=hN σ3 H3 n3;exact⟨m',hm,σ3,H3,I3,w3⟩
  | brk=>exact q3
  | ret v=>exact q3
 | false =>
  rw[S5z L1z];exact C3z ⟨σ1,H2,I2,q2⟩
end
structure It where
 go:Nat->Hp->Prop
 yld:Nat->Hp->V->Hp->Prop
 stop:Nat->Hp->Prop
def vo(X:Cx)(z0:List (Addr×Obj))(H:Hp)(b:Addr):Prop :=
 H b=none/\b≠X.env.locals/\b∉X.fs/\(b∈X.ex\/X.s₀.heap.objs.size<=b)/\(∀ x c,X.env.cells.lookup x=some c->c≠b)/\∀ p∈X.pn++z0,p.1≠b
theorem Inv.fpOk{X:Cx}{z0:List (Addr×Obj)}{σ:St}{H H':Hp}{s:Shared}{b:Addr}(I:Inv X z0 σ H s)(hb:s.heap.objs.size<=b)(hn:H' b=none):vo X z0 H' b:=by
 refine⟨hn,R4z (J1z I.lt hb),I.nofs hb,.inr (Q4z I.sz hb),fun x c e z=>?_,fun p hp z=>?_⟩
 ·obtain⟨v,q⟩:=I.cell x c e
  exact absurd (J1z q.lt (by rw[z];exact hb)) (F4z _)
 ·exact absurd (J1z (O4z (I.pin p hp).1) (by rw[z];exact hb)) (F4z _)
structure Turn (P:Program) (w:World) (K:Z3) (tg:Expr) (J:It) (fp:List Addr) (it:Addr) (tn:Nat->Heap->Prop):Prop where
 mem:it∈fp
 obj:∀ i h,tn i h->∀ b∈fp,∃ o,h.get? b=some o/\∀ v,o.data≠.cell v
 keep:∀ i h h',tn i h->(∀ b∈fp,∀ o,h.get? b=some o->h'.get? b=some o)->tn i h'
 item:∀ (X:Cx),X.prog=P->X.w=w->X.K=K->X.calm=true->∀ (i:Nat) (z0:List (Addr×Obj)) (s:Shared) (σ:St) (H:Hp) (E:Value->Shared->Prop),Inv X z0 σ H s->(∀ b∈fp,vo X z0 H b)->tn i s.heap->J.go i H ->
  wpAny (model P w) X.A (pyNext (.ref it)) (fun r s1=>∃ u,r=some u /\
   wpAny (model P w) X.A (letOwnedTupleGo tg (.ref it) u) (fun _ s2=>∃ x H',Inv X z0 σ H' s2/\RelV x u/\J.yld i H x H'/\tn (i+1) s2.heap/\∀ b∈fp,H' b=none) E s1) E s
 done:∀ (X:Cx),X.prog=P->X.w=w->X.K=K->X.calm=true->∀ (i:Nat) (z0:List (Addr×Obj)) (s:Shared) (σ:St) (H:Hp) (E:Value->Shared->Prop),Inv X z0 σ H s->(∀ b∈fp,vo X z0 H b)->tn i s.heap->J.stop i H ->
  wpAny (model P w) X.A (pyNext (.ref it)) (fun r s1=>r=none/\Inv X z0 σ H s1) E s
 self:∀ (A:Around) (i:Nat) (s:Shared) (Q:Value->Shared->Prop) (E:Value->Shared->Prop),tn i s.heap->Q (.ref it) s->wpAny (model P w) A (pyIter (.ref it)) Q E s
abbrev TI:=St->Hp->(It->Hp->Prop)->Prop
def PIE(X:Cx)(z0:List (Addr×Obj))(σ:St)(tg:Expr)(R:It->Hp->Prop)(itv:Value)(s2:Shared):Prop :=
 ∃ (it:Addr) (fp:List Addr) (tn:Nat->Heap->Prop) (J:It) (H':Hp),itv=.ref it/\Inv X z0 σ H' s2/\Turn X.prog X.w X.K tg J fp it tn/\tn 0 s2.heap/\(∀ b∈fp,vo X z0 H' b)/\R J H'
def PI(X:Cx)(tg iter:Expr)(wi:TI):Prop :=
  ∀ (z0 : List (Addr × Obj)) (s : Shared) (σ : St) (H : Hp) (R : It -> Hp -> Prop), Inv X z0 σ H s -> wi σ H R ->
    wpAny (model X.prog X.w) X.A (eval iter X.env) (fun v s1=>wpAny (model X.prog X.w) X.A (pyIter v) (PIE X z0 σ tg R) X.xe s1) X.xe s
theorem Ia{M:Model}{A:Around}{E:Value->Shared->Prop}{s:Shared}{tg:Expr}{it:Addr}{u:Value}{o:Obj}{n:String}{vs:Array Value}{Q:Unit->Shared->Prop}(ho:s.heap.get? it=some o)(hc:o.cls=.type n)(hd:o.data=.fields vs)
    (hn:["enumerate","zip","dict_itemiterator","dict_reverseitemiterator","odict_iterator","itertools.zip_longest","itertools.pairwise"].contains n=false) (hQ:Q () s):wpAny M A (letOwnedTupleGo tg (.ref it) u) Q E s:=by
  unfold letOwnedTupleGo
  cases tg<;>first
    | exact G5z hQ
    | (cases u<;>first
        | exact G5z hQ
        | (refine F5z (wpAny_load ho ?_)
           rw[hc,hd]
           show wpAny M A (if(["enumerate","zip","dict_itemiterator","dict_reverseitemiterator","odict_iterator","itertools.zip_longest","itertools.pairwise"].contains n&&vs[0]?==some (rawInt _))=true then _ else _) Q E s
           rw[S5z (by intro h;rw[hn,X3z] at h;cases h)]
           exact G5z hQ))
def Itl(K:Z3)(a:Addr):It :=
 ⟨fun i H=>∃ xs x,SqL K H a xs/\xs[i]?=some x,fun i H x H'=>H'=H/\∀ xs,SqL K H a xs->xs[i]?=some x,fun i H=>∃ xs,SqL K H a xs/\xs.length<=i⟩
def Itt(K:Z3)(a:Addr):It :=
 ⟨fun i H=>∃ xs x,SqT K H a xs/\xs[i]?=some x,fun i H x H'=>H'=H/\∀ xs,SqT K H a xs->xs[i]?=some x,fun i H=>∃ xs,SqT K H a xs/\xs.length<=i⟩
def Itr(lo:Int)(n:Nat):It:=⟨fun i _=>i<n,fun i H x H'=>H'=H/\x=.int (lo+i),fun i _=>n<=i⟩
theorem vU{P:Program}{w:World}{K:Z3}{tg:Expr}(a it:Addr):Turn P w K tg (Itl K a) [it] it (fun i h=>h.IsListIter it a i) where
 mem:=by simp
 obj:=fun i h st b hb=>by
  have e:b=it:=by simpa using hb
  subst e;obtain⟨o,e,c,d⟩:=st;exact⟨o,e,fun v z=>by rw[d] at z;cases z⟩
 keep:=fun i h h' st k=>st.at fun o e=>k it (by simp) o e
 item:=by
  intro X hP hw hK hc i z0 s σ H E I hf st hg;subst hP hw hK;obtain⟨xs,x,hq,hx⟩:=hg;obtain⟨its,rv,p,hz⟩:=I.list hq;obtain⟨u,hu,ru⟩:=rv.get hx;obtain⟨f0,f1,f2,f3,f4,f5⟩:=hf it (by simp);refine wpAny_pyNext_list_item st p.isList (x:=u) (by simpa using hu) fun h' st' sb=>?_;have I1:Inv X z0 σ H { s with heap:=h' }:=I.turned (t':=s.toks) (fun b o hb e=>(sb.2 b hb).trans e) f0 f1 f3 f4 f5;obtain⟨o,e,c,d⟩:=id st';exact⟨u,rfl,Ia (s:={ s with heap:=h' }) e c d (by decide) ⟨x,H,I1,ru,⟨rfl,fun ys hy=>by rw[I.list_inj hy hq];exact hx⟩,st',fun b hb=>(hf b hb).1⟩⟩
 done:=by
  intro X hP hw hK hc i z0 s σ H E I hf st hg;subst hP hw hK;obtain⟨xs,hq,hx⟩:=hg;obtain⟨its,rv,p,hz⟩:=I.list hq;obtain⟨f0,f1,f2,f3,f4,f5⟩:=hf it (by simp);have hl:=rv.length;exact wpAny_pyNext_list_end (I.ok.hd hc) st p.isList (by simp;omega) fun h' eb=>⟨rfl,I.turned (t':=s.toks) (fun b o hb e=>eb b o hb e) f0 f1 f3 f4 f5⟩
 self:=fun _ _ _ _ _ st h=>wpAny_pyIter_listiter st h
theorem uy{P:Program}{w:World}{K:Z3}{tg:Expr}(a it:Addr):Turn P w K tg (Itt K a) [it] it (fun i h=>h.IsTupleIter it a i) where
 mem:=by simp
 obj:=fun i h st b hb=>by
  have e:b=it:=by simpa using hb
  subst e;obtain⟨o,e,c,d⟩:=st;exact⟨o,e,fun v z=>by rw[d] at z;cases z⟩
 keep:=fun i h h' st k=>st.at fun o e=>k it (by simp) o e
 item:=by
  intro X hP hw hK hc i z0 s σ H E I hf st hg;subst hP hw hK;obtain⟨xs,x,hq,hx⟩:=hg;obtain⟨its,rv,p,hz⟩:=I.tuple hq;obtain⟨u,hu,ru⟩:=rv.get hx;obtain⟨f0,f1,f2,f3,f4,f5⟩:=hf it (by simp);refine wpAny_pyNext_tuple_item st (show s.heap.IsTuple a its.toArray from p) (x:=u) (by simpa using hu) fun h' st' sb=>?_;have I1:Inv X z0 σ H { s with heap:=h' }:=I.turned (t':=s.toks) (fun b o hb e=>(sb.2 b hb).trans e) f0 f1 f3 f4 f5;obtain⟨o,e,c,d⟩:=id st';exact⟨u,rfl,Ia (s:={ s with heap:=h' }) e c d (by decide) ⟨x,H,I1,ru,⟨rfl,fun ys hy=>by rw[I.tuple_inj hy hq];exact hx⟩,st',fun b hb=>(hf b hb).1⟩⟩
 done:=by
  intro X hP hw hK hc i z0 s σ H E I hf st hg;subst hP hw hK;obtain⟨xs,hq,hx⟩:=hg;obtain⟨its,rv,p,hz⟩:=I.tuple hq;obtain⟨f0,f1,f2,f3,f4,f5⟩:=hf it (by simp);have hl:=rv.length;exact wpAny_pyNext_tuple_end (I.ok.hd hc) st (show s.heap.IsTuple a its.toArray from p) (by simp;omega) fun h' eb=>⟨rfl,I.turned (t':=s.toks) (fun b o hb e=>eb b o hb e) f0 f1 f3 f4 f5⟩
 self:=fun _ _ _ _ _ st h=>wpAny_pyIter_tupleiter st h
theorem uz{P:Program}{w:World}{K:Z3}{tg:Expr}(it:Addr)(lo:Int)(n:Nat):Turn P w K tg (Itr lo n) [it] it (fun i h=>IsRangeIter h it (lo+(i:Nat)*1) ((n:Int)-(i:Nat)) 1) where
 mem:=by simp
 obj:=fun i h st b hb=>by
  have e:b=it:=by simpa using hb
  subst e
  exact⟨_,st,fun v z=>by
   have z':Data.fields _=Data.cell v:=z
   cases z'⟩
 keep:=fun i h h' st k=>k it (by simp) _ st
 item:=by
  intro X hP hw hK hc i z0 s σ H E I hf st hg;subst hP hw hK;obtain⟨f0,f1,f2,f3,f4,f5⟩:=hf it (by simp);have W:=Walks.range (prog:=X.prog) (w:=X.w) (I.ok.hd hc) it lo 1 n;refine W.item i s _ _ hg st fun v h' tk hv st' kk=>?_;obtain⟨t,rfl⟩:=hv;have I1:Inv X z0 σ H { s with heap:=h',toks:=tk }:=I.turned (fun b o hb e=>kk b o (by simpa using hb) e) f0 f1 f3 f4 f5;refine⟨_,rfl,Ia (s:={ s with heap:=h',toks:=tk }) (n:="range_iterator") st' rfl rfl (by decide) ⟨.int (lo+i),H,I1,⟨t,?_⟩,⟨rfl,rfl⟩,st',fun b hb=>(hf b hb).1⟩⟩;rw[Int.mul_one]
 done:=by
  intro X hP hw hK hc i z0 s σ H E I hf st hg;subst hP hw hK;obtain⟨f0,f1,f2,f3,f4,f5⟩:=hf it (by simp);exact wpAny_pyNext_range_end (I.ok.hd hc) st (by have:n<=i:=hg;omega) fun h' eb=>⟨rfl,I.turned (t':=s.toks) (fun b o hb e=>eb b o hb e) f0 f1 f3 f4 f5⟩
 self:=fun _ _ _ _ _ st h=>wpAny_pyIter_rangeiter st h
section
variable {X:Cx} {tg:Expr}
def Wj(K:Z3)(tl:TE):TI:=fun σ H R=>tl σ H fun x H1=>∃ a,x=.ref a/\(∃ xs,SqL K H1 a xs)/\R (Itl K a) H1
def iTup(K:Z3)(tl:TE):TI:=fun σ H R=>tl σ H fun x H1=>∃ a,x=.ref a/\(∃ xs,SqT K H1 a xs)/\R (Itt K a) H1
theorem Gy{l:Expr}{tl:TE}(hl:PE X l tl):PI X tg l (Wj X.K tl):=by
 intro z0 s σ H R I h;refine thn (hl z0 s σ H _ I h) fun v s1 ⟨x,H1,I1,r1,q1⟩=>?_;obtain⟨a,e,⟨xs,hq⟩,q⟩:=q1;subst e;cases r1;obtain⟨its,rv,p,hz⟩:=I1.list hq;refine wpAny_pyIter_list p.isList ?_;refine⟨s1.heap.objs.size,[s1.heap.objs.size],_,_,H1,rfl,I1.kept (t':=s1.toks) fun b o e=>Heap.get?_push_of_some _ e,vU a _,⟨_,Heap.get?_push_size _ rfl,rfl,rfl⟩,fun b hb=>?_,q⟩
 have e:b=s1.heap.objs.size:=by simpa using hb
 subst e;exact I1.fpOk (A5z _) (I1.hok.fresh (A5z _))
theorem KQ{l:Expr}{tl:TE}(hl:PE X l tl):PI X tg l (iTup X.K tl):=by
 intro z0 s σ H R I h;refine thn (hl z0 s σ H _ I h) fun v s1 ⟨x,H1,I1,r1,q1⟩=>?_;obtain⟨a,e,⟨xs,hq⟩,q⟩:=q1;subst e;cases r1;obtain⟨its,rv,p,hz⟩:=I1.tuple hq;refine M1z (show s1.heap.IsTuple a its.toArray from p) ?_;refine⟨s1.heap.objs.size,[s1.heap.objs.size],_,_,H1,rfl,I1.kept (t':=s1.toks) fun b o e=>Heap.get?_push_of_some _ e,uy a _,⟨_,Heap.get?_push_size _ rfl,rfl,rfl⟩,fun b hb=>?_,q⟩
 have e:b=s1.heap.objs.size:=by simpa using hb
 subst e;exact I1.fpOk (A5z _) (I1.hok.fresh (A5z _))
theorem rT{z0:List (Addr×Obj)}{σ:St}{H:Hp}{s:Shared}{R:It->Hp->Prop}{E:Value->Shared->Prop}{lo hi:Int}{t u v:Tok}{tk:Nat}(I:Inv X z0 σ H s)(h1:-(2^62)<=lo)(h2:lo<2^62)(h3:-(2^62)<=hi)(h4:hi<2^62)
  (q:R (Itr lo (hi-lo).toNat) H):wpAny (model X.prog X.w) X.A (pyIter (.ref s.heap.objs.size)) (PIE X z0 σ tg R) E { s with heap:=s.heap.push { cls:=.type "range",data:=.fields #[.int lo t,.int hi u,.int 1 v] },toks:=tk }:=by
 refine wpAny_pyIter_range (IsRange.new ..) (small_one h1 h2 h3 h4) ?_;have I1:Inv X z0 σ H { s with heap:=s.heap.push { cls:=.type "range",data:=.fields #[.int lo t,.int hi u,.int 1 v] },toks:=tk }:=I.kept fun b o e=>Heap.get?_push_of_some _ e
 refine⟨(s.heap.push { cls:=.type "range",data:=.fields #[.int lo t,.int hi u,.int 1 v] }).objs.size,[(s.heap.push { cls:=.type "range",data:=.fields #[.int lo t,.int hi u,.int 1 v] }).objs.size],_,_,H,rfl,
  I1.kept (t':=tk) fun b o e=>Heap.get?_push_of_some _ e,uz _ lo (hi-lo).toNat,?_,fun b hb=>?_,q⟩
 ·have e1:lo+((0:Nat):Int)*1=lo:=by simp
  have e2:(((hi-lo).toNat:Nat):Int)-((0:Nat):Int)=Builtin.Range.rangeSize lo hi 1:=by rw[rangeSize_one];split<;>omega
  show IsRangeIter _ _ (lo+((0:Nat):Int)*1) ((((hi-lo).toNat:Nat):Int)-((0:Nat):Int)) 1;rw[e1,e2];exact Heap.get?_push_size _ rfl
 ·have e:b=(s.heap.push { cls:=.type "range",data:=.fields #[.int lo t,.int hi u,.int 1 v] }).objs.size:=by simpa using hb
  subst e;exact I1.fpOk (A5z _) (I1.hok.fresh (A5z _))
def Wi(ta:TA):TI:=fun σ H R=>ta σ H fun vs H1=>∃ j:Int,vs=[.int j] /\ -(2^62)<=j/\j<2^62/\R (Itr 0 j.toNat) H1
def Wh(ta:TA):TI:=fun σ H R=>ta σ H fun vs H1=>∃ i j:Int,vs=[.int i,.int j]/\(-(2^62)<=i/\i<2^62 /\ -(2^62)<=j/\j<2^62)/\R (Itr i (j-i).toNat) H1
theorem xq{a:Expr}{ta:TA}{p pos:Pos}(hg:Gl X "range")(hm:X.mg "range"=none)(ha:PA X [a] ta)(hs:starEach [a] X.env=[(false,eval a X.env)]:=by rfl):PI X tg (.Call (.Name "range" p) [a] [] pos) (Wi ta):=by
 intro z0 s σ H R I h;refine Call_ (fV I hg hm boot_range (D0z (thn (ha pos z0 s σ H _ I h) fun us s1 ⟨vs,H1,I1,r1,q1⟩=>?_) hs rfl));obtain⟨j,e,q1,q2,q⟩:=q1;subst e
 cases r1 with
 | cons r rr =>
  cases rr;obtain⟨t,rfl⟩:=r;exact call_range_1 (rT I1 (by omega) (by omega) q1 q2 (by simpa using q))
theorem xg{a b:Expr}{ta:TA}{p pos:Pos}(hg:Gl X "range")(hm:X.mg "range"=none)(ha:PA X [a,b] ta)(hs:starEach [a,b] X.env=[(false,eval a X.env),(false,eval b X.env)]:=by rfl)(hs2:starEach [b] X.env=[(false,eval b X.env)]:=by rfl) :
  PI X tg (.Call (.Name "range" p) [a,b] [] pos) (Wh ta):=by
 intro z0 s σ H R I h;refine Call_ (fV I hg hm boot_range (D0z (thn (ha pos z0 s σ H _ I h) fun us s1 ⟨vs,H1,I1,r1,q1⟩=>?_) (by rw[hs,hs2]) (by rw[hs2];rfl)));obtain⟨i,j,e,⟨q1,q2,q3,q4⟩,q⟩:=q1;subst e
 cases r1 with
 | cons r rr =>
  cases rr with
  | cons r' rr =>
   cases rr;obtain⟨t,rfl⟩:=r;obtain⟨t',rfl⟩:=r';exact call_range_2 (rT I1 q1 q2 q3 q4 q)
def ZX(wi:TI)(g:TG)(tb:TS):TS:=fun D σ H=>wi σ H fun J H1=>∃ W:Nat->Nat->St->Hp->Prop,(∃ m,W 0 m σ H1)/\∀ i m σ H,W i m σ H ->
 (J.stop i H/\D.nx σ H)\/(J.go i H/\∃ N:St->Hp->Prop,(∀ σ' H',N σ' H'->∃ m',m'<m/\W (i+1) m' σ' H')/\∀ x H',J.yld i H x H'->g x σ H' fun σ2 H2=>tb { D with nx:=N,ct:=N,bk:=D.nx } σ2 H2)
def oF(fp:List Addr)(h:Heap):List (Addr×Obj):=fp.filterMap fun b=>(h.get? b).map fun o=>(b,o)
theorem fJ{fp:List Addr}{h:Heap}{b:Addr}{o:Obj}(hb:b∈fp)(e:h.get? b=some o):(b,o)∈oF fp h:=List.mem_filterMap.mpr ⟨b,hb,by rw[e];rfl⟩
theorem xK{fp:List Addr}{h:Heap}{p:Addr×Obj}(hp:p∈oF fp h):p.1∈fp/\h.get? p.1=some p.2:=by
 obtain⟨b,hb,e⟩:=List.mem_filterMap.mp hp
 cases q:h.get? b with
 | none=>rw[q] at e;cases e
 | some o =>
  rw[q] at e;have e':(b,o)=p:=B3z e;subst e';exact⟨hb,q⟩
theorem Inv.pinned{z0:List (Addr×Obj)}{σ:St}{H:Hp}{s:Shared}{fp:List Addr}(I:Inv X z0 σ H s)(hf:∀ b∈fp,vo X z0 H b)(ho:∀ b∈fp,∃ o,s.heap.get? b=some o/\∀ v,o.data≠.cell v):Inv X (z0++oF fp s.heap) σ H s :=
 I.pins_of fun p hp=>(List.mem_append.mp hp).elim (fun z=>I.pin p (S0z _ z)) fun z=>by
  obtain⟨hb,e⟩:=xK z;obtain⟨f0,f1,f2,_⟩:=hf p.1 hb;obtain⟨o,e',d⟩:=ho p.1 hb;rw[e] at e';cases e';exact⟨e,f0,f1,f2,d⟩
theorem Inv.unpinned{z0 pl:List (Addr×Obj)}{σ:St}{H:Hp}{s:Shared}(I:Inv X (z0++pl) σ H s):Inv X z0 σ H s:=I.pins_of fun p hp=>I.pin p (S0z _ (X0z _ hp))
theorem KH{iter:Expr}{body:List Stmt}{wi:TI}{g:TG}{tb:TS}{pos:Pos}(hp:PassesOwn (model X.prog X.w) X.A X.env X.xe)(hc:X.calm=true)(hi:PI X tg iter wi)(hg:PG X tg g)(hb:PSs X body tb)
  (hs:∀ x,foldedSetIterable iter X.env x=pure x:=by intro _;rfl):PS X (.For tg iter body [] pos) (ZX wi g tb):=by
 intro z0 s σ H D I h;refine wpAny_For (thn (hi z0 s σ H _ I h) fun v s1 h1=>thn h1 fun itv s2 h2=>?_) hs;obtain⟨it,fp,tn,J,H2,e,I2,T,st2,f2,W,⟨m0,w0⟩,turn⟩:=h2;subst e;have stat:∀ {H':Hp},(∀ b∈fp,H' b=none)->∀ b∈fp,vo X z0 H' b:=fun hn b hb=>⟨hn b hb,(f2 b hb).2⟩;refine codeAny_forLoop_any (fun n s'=>∃ i σ' H',Inv X z0 σ' H' s'/\tn i s'.heap/\(∀ b∈fp,H' b=none)/\W i n σ' H') ?_ m0 ⟨0,σ,H2,I2,st2,fun b hb=>(f2 b hb).1,w0⟩;rintro n s3 ⟨i,σ3,H3,I3,st3,fr3,w3⟩;rcases turn i n σ3 H3 w3 with⟨stop,qn⟩ | ⟨go,N,hN,step⟩
 ·refine D3z hp (thn (T.done X rfl rfl rfl hc i z0 s3 σ3 H3 X.xe I3 (stat fr3) st3 stop) fun r s4 ⟨hr,I4⟩=>?_)
  subst hr;exact C3z ⟨σ3,H3,I4,qn⟩
 ·refine D3z hp (thn (T.item X rfl rfl rfl hc i z0 s3 σ3 H3 X.xe I3 (stat fr3) st3 go) fun r s4 ⟨u,hr,h4⟩=>?_)
  subst hr;refine D3z hp (thn h4 fun _ s5 ⟨x,H5,I5,r5,y5,st5,fr5⟩=>?_);have I5':=I5.pinned (stat fr5) (T.obj _ _ st5);refine D3z hp (thn (hg _ s5 σ3 H5 x u _ I5' r5 (step x H5 y5)) fun _ s6 ⟨σ6,H6,I6,q6⟩=>?_);refine D3z hp (thn (hb _ s6 σ6 H6 _ I6 q6) fun f s7 q7=>?_)
  have again:∀ {σ7:St} {H7:Hp},Inv X (z0++oF fp s5.heap) σ7 H7 s7->N σ7 H7->∃ m,m<n/\∃ i σ' H',Inv X z0 σ' H' s7/\tn i s7.heap/\(∀ b∈fp,H' b=none)/\W i m σ' H':=fun {σ7 H7} I7 n7=>by
   obtain⟨m',hm,w7⟩:=hN σ7 H7 n7;refine⟨m',hm,i+1,σ7,H7,I7.unpinned,T.keep _ _ _ st5 fun b hb o e=>(I7.pin (b,o) (S0z _ (S0z _ (fJ hb e)))).1,fun b hb=>?_,w7⟩;obtain⟨o,e,d⟩:=T.obj _ _ st5 b hb;exact(I7.pin (b,o) (S0z _ (S0z _ (fJ hb e)))).2.1
  cases f with
  | next=>obtain⟨σ7,H7,I7,n7⟩:=q7;exact again I7 n7
  | cont=>obtain⟨σ7,H7,I7,n7⟩:=q7;exact again I7 n7
  | brk=>obtain⟨σ7,H7,I7,q7⟩:=q7;exact⟨σ7,H7,I7.unpinned,q7⟩
  | ret v=>obtain⟨x7,σ7,H7,I7,r7,q7⟩:=q7;exact⟨x7,σ7,H7,I7.unpinned,r7,q7⟩
end
abbrev R2:=V->V->Hp->VK->Prop
def OpR(X:Cx)(f:Value->Value->Sem Value)(r:R2):Prop :=
  ∀ (z0 : List (Addr × Obj)) (s : Shared) (σ : St) (H : Hp) (x y : V) (v u : Value) (Q : VK), Inv X z0 σ H s -> RelV x v -> RelV y u -> r x y H Q ->
    wpAny (model X.prog X.w) X.A (f v u) (EP X z0 σ Q) X.xe s
def UnR(X:Cx)(f:Value->Sem Value)(r:V->Hp->VK->Prop):Prop :=
  ∀ (z0 : List (Addr × Obj)) (s : Shared) (σ : St) (H : Hp) (x : V) (v : Value) (Q : VK), Inv X z0 σ H s -> RelV x v -> r x H Q ->
    wpAny (model X.prog X.w) X.A (f v) (EP X z0 σ Q) X.xe s
def eG(X:Cx)(f:Value)(r:List V->Hp->VK->Prop):Prop :=
  ∀ (z0 : List (Addr × Obj)) (s : Shared) (σ : St) (H : Hp) (xs : List V) (us : List Value) (Q : VK), Inv X z0 σ H s -> Vals xs us -> r xs H Q ->
    wpAny (model X.prog X.w) X.A (call f us) (EP X z0 σ Q) X.xe s
def tOp(r:R2)(ta tb:TE):TE:=fun σ H Q=>ta σ H fun x H1=>tb σ H1 fun y H2=>r x y H2 Q
def tUn(r:V->Hp->VK->Prop)(ta:TE):TE:=fun σ H Q=>ta σ H fun x H1=>r x H1 Q
def rI(C:Int->Int->Prop)(g:Int->Int->V):R2:=fun x y H Q=>∃ i j,x=.int i/\y=.int j/\C i j/\Q (g i j) H
def rI0(g:Int->Int->V):R2:=fun x y H Q=>∃ i j,x=.int i/\y=.int j/\Q (g i j) H
def rU(g:Int->V):V->Hp->VK->Prop:=fun x H Q=>∃ i,x=.int i/\Q (g i) H
section
variable {X:Cx} {a b c:Expr} {ta tb tc:TE} {pos:Pos}
theorem WQ(ha:PE X a ta)(hb:PE X b tb){z0:List (Addr×Obj)}{s:Shared}{σ:St}{H:Hp}{R:V->V->Hp->Prop}(I:Inv X z0 σ H s)
  (h:ta σ H fun x H1=>tb σ H1 fun y H2=>R x y H2) {Q:Value->Shared->Prop} {f:Value->Value->Sem Value}
  (hf:∀ v u s2 x y H2,Inv X z0 σ H2 s2->RelV x v->RelV y u->R x y H2->wpAny (model X.prog X.w) X.A (f v u) Q X.xe s2) :
  wpAny (model X.prog X.w) X.A (eval a X.env) (fun v s₁=>wpAny (model X.prog X.w) X.A (eval b X.env) (fun u s₂=>wpAny (model X.prog X.w) X.A (f v u) Q X.xe s₂) X.xe s₁) X.xe s:=by
 refine thn (ha z0 s σ H _ I h) fun v s1 ⟨x,H1,I1,r1,q1⟩=>?_;refine thn (hb z0 s1 σ H1 _ I1 q1) fun u s2 ⟨y,H2,I2,r2,q2⟩=>?_;exact hf v u s2 x y H2 I2 r1 r2 q2
theorem iZ{op:Operator}{r:R2}(ho:OpR X (binaryOp op) r)(ha:PE X a ta)(hb:PE X b tb):PE X (.BinOp a op b pos) (tOp r ta tb):=by
 intro z0 s σ H Q I h;exact wpAny_BinOp (WQ ha hb I h fun v u s2 x y H2 I2 rx ry q=>ho z0 s2 σ H2 x y v u Q I2 rx ry q)
theorem Qg{op:UnaryOp}{r:V->Hp->VK->Prop}(ho:UnR X (unaryOp op) r)(ha:PE X a ta):PE X (.UnaryOp op a pos) (tUn r ta):=by
 intro z0 s σ H Q I h;exact UnaryOp_ (thn (ha z0 s σ H _ I h) fun v s1 ⟨x,H1,I1,r1,q1⟩=>ho z0 s1 σ H1 x v Q I1 r1 q1)
theorem opI{f:Value->Value->Sem Value}{C:Int->Int->Prop}{g:Int->Int->Int}
  (rule:∀ (i j:Int) (t u:Tok) (s:Shared) (Q:Value->Shared->Prop) (E:Value->Shared->Prop),C i j->Q (.int (g i j) s.toks) { s with toks:=s.toks+1 }->wpAny (model X.prog X.w) X.A (f (.int i t) (.int j u)) Q E s) :
  OpR X f (rI C fun i j=>.int (g i j)):=by
 intro z0 s σ H x y v u Q I rx ry h;obtain⟨i,j,rfl,rfl,hc,q⟩:=h;obtain⟨t,rfl⟩:=rx;obtain⟨t',rfl⟩:=ry;exact rule i j t t' s _ _ hc ⟨.int (g i j),H,I.tok _,⟨_,rfl⟩,q⟩
theorem Xf{f:Value->Value->Sem Value}{g:Int->Int->Int}
  (rule:∀ (i j:Int) (t u:Tok) (s:Shared) (Q:Value->Shared->Prop) (E:Value->Shared->Prop),Q (.int (g i j) s.toks) { s with toks:=s.toks+1 }->wpAny (model X.prog X.w) X.A (f (.int i t) (.int j u)) Q E s) :
  OpR X f (rI0 fun i j=>.int (g i j)):=by
 intro z0 s σ H x y v u Q I rx ry h;obtain⟨i,j,rfl,rfl,q⟩:=h;obtain⟨t,rfl⟩:=rx;obtain⟨t',rfl⟩:=ry;exact rule i j t t' s _ _ ⟨.int (g i j),H,I.tok _,⟨_,rfl⟩,q⟩
theorem Oa{f:Value->Value->Sem Value}{g:Int->Int->Bool}
  (rule:∀ (i j:Int) (t u:Tok) (s:Shared) (Q:Value->Shared->Prop) (E:Value->Shared->Prop),Q (.bool (g i j)) s->wpAny (model X.prog X.w) X.A (f (.int i t) (.int j u)) Q E s) :
  OpR X f (rI0 fun i j=>.bl (g i j)):=by
 intro z0 s σ H x y v u Q I rx ry h;obtain⟨i,j,rfl,rfl,q⟩:=h;obtain⟨t,rfl⟩:=rx;obtain⟨t',rfl⟩:=ry;exact rule i j t t' s _ _ ⟨.bl (g i j),H,I,rfl,q⟩
def CDiv(i j:Int):Prop:=0<j/\j<1073741824
def W2(i j:Int):Prop:=(-(2^64)<i/\i<2^64)\/(-(2^64)<j/\j<2^64)
theorem W2.ok{i j:Int}(h:W2 i j):IntMulOk i j:=by
 rcases h with⟨h1,h2⟩ | ⟨h1,h2⟩
 ·exact .of_left (intBits_le_64 h1 h2)
 ·exact .of_right (intBits_le_64 h1 h2)
theorem Le:OpR X (binaryOp .Add) (rI0 fun i j=>.int (i+j)):=Xf fun _ _ _ _ _ _ _ q=>add_int q
theorem La:OpR X (binaryOp .Sub) (rI0 fun i j=>.int (i-j)):=Xf fun _ _ _ _ _ _ _ q=>sub_int q
theorem G6:OpR X (binaryOp .FloorDiv) (rI CDiv fun i j=>.int (i / j)):=opI fun i j _ _ _ _ _ hc q=>by
 have h1:(0:Int)<j:=hc.1;have h2:j<1073741824:=hc.2;exact floordiv_int (by omega) (by rw[Int.fdiv_eq_ediv_of_nonneg i (by omega)];exact q) (.inl (PyProof.noPylong_small (by omega)))
theorem Lb:OpR X (binaryOp .Mod) (rI (fun _ j=>0<j) fun i j=>.int (i%j)):=opI fun i j _ _ _ _ _ hc q=>by
 have h1:(0:Int)<j:=hc;exact mod_int' (by omega) (by rw[Int.fmod_eq_emod_of_nonneg i (by omega)];exact q)
theorem G5:OpR X (binaryOp .Mod) (rI (fun _ j=>j≠0) fun i j=>.int (i.fmod j)):=opI fun _ _ _ _ _ _ _ hc q=>mod_int' hc q
theorem unI{f:Value->Sem Value}{g:Int->Int}
  (rule:∀ (i:Int) (t:Tok) (s:Shared) (Q:Value->Shared->Prop) (E:Value->Shared->Prop),Q (.int (g i) s.toks) { s with toks:=s.toks+1 }->wpAny (model X.prog X.w) X.A (f (.int i t)) Q E s) :
  UnR X f (rU fun i=>.int (g i)):=by
 intro z0 s σ H x v Q I rx h;obtain⟨i,rfl,q⟩:=h;obtain⟨t,rfl⟩:=rx;exact rule i t s _ _ ⟨.int (g i),H,I.tok _,⟨_,rfl⟩,q⟩
theorem JZ:UnR X (unaryOp .USub) (rU fun i=>.int (-i)):=unI fun _ _ _ _ _ q=>neg_int q
end
section
variable {X:Cx} {a b c:Expr} {ta tb tc:TE} {pos:Pos}
theorem Eb{z0:List (Addr×Obj)}{σ:St}{H:Hp}{s:Shared}{Q:VK}{k k':Bool}(I:Inv X z0 σ H s)(q:Q (.bl k) H)(e:k=k'):EP X z0 σ Q (.bool k') s:=by
 subst e;exact⟨.bl k,H,I,rfl,q⟩
theorem Qk:OpR X (compareOp .Lt) (rI0 fun i j=>.bl (decide (i<j))):=Oa fun _ _ _ _ _ _ _ q=>lt_int q
theorem Ql:OpR X (compareOp .LtE) (rI0 fun i j=>.bl (decide (i<=j))):=Oa fun _ _ _ _ _ _ _ q=>le_int q
theorem Qm:OpR X (compareOp .Gt) (rI0 fun i j=>.bl (decide (j<i))):=Oa fun _ _ _ _ _ _ _ q=>gt_int q
theorem Qn:OpR X (compareOp .GtE) (rI0 fun i j=>.bl (decide (j<=i))):=Oa fun _ _ _ _ _ _ _ q=>ge_int q
theorem Ld:OpR X (compareOp .Is) (fun x y H Q=>y=.non/\Q (.bl (decide (x=.non))) H):=by
 intro z0 s σ H x y v u Q I rx ry h;obtain⟨rfl,q⟩:=h;cases ry;refine is_none_gen (Eb I q ?_)
 cases x<;>first
  | (cases rx;rfl)
  | (obtain⟨t,rfl⟩:=rx;rfl)
theorem G3:OpR X (compareOp .IsNot) (fun x y H Q=>y=.non/\Q (.bl (!decide (x=.non))) H):=by
 intro z0 s σ H x y v u Q I rx ry h;obtain⟨rfl,q⟩:=h;cases ry;refine isnot_none_gen (Eb I q ?_)
 cases x<;>first
  | (cases rx;rfl)
  | (obtain⟨t,rfl⟩:=rx;rfl)
theorem GP{op:CmpOp}{r:R2}(ho:OpR X (compareOp op) r)(ha:PE X a ta)(hb:PE X b tb)(hm:behindInMarks op b=false):PE X (.Compare a [op] [b] pos) (tOp r ta tb):=by
 intro z0 s σ H Q I h;exact wpAny_Compare1 (WQ ha hb I h fun v u s2 x y H2 I2 rx ry q=>ho z0 s2 σ H2 x y v u Q I2 rx ry q) hm
def J4(t:TE):TT:=fun σ H Q=>t σ H fun x H'=>∃ k,x=.bl k/\Q k H'
theorem Gp{op:CmpOp}{r:R2}(ho:OpR X (compareOp op) r)(ha:PE X a ta)(hb:PE X b tb)(hm:behindInMarks op b=false):PT X (.Compare a [op] [b] pos) (J4 (tOp r ta tb)):=by
 intro z0 s σ H Q I h
 refine wpAny_isTrue_Compare1 (thn (ha z0 s σ H _ I h) fun v s1 ⟨x,H1,I1,r1,q1⟩=>thn (hb z0 s1 σ H1 _ I1 q1) fun u s2 ⟨y,H2,I2,r2,q2⟩ =>
  thn (ho z0 s2 σ H2 x y v u _ I2 r1 r2 q2) fun c s3 ⟨z,H3,I3,r3,k,e,q3⟩=>?_) hm
 subst e;cases r3;exact T1z ⟨H3,I3,q3⟩
def vZ(r r':R2)(ta tb tc:TE):TE:=fun σ H Q=>ta σ H fun x H1=>tb σ H1 fun y H2=>r x y H2 fun z H3=>∃ k,z=.bl k /\
 (if k=true then tc σ H3 fun w' H4=>r' y w' H4 Q else Q (.bl false) H3)
theorem Bf{op op':CmpOp}{r r':R2}(ho:OpR X (compareOp op) r)(ho':OpR X (compareOp op') r')(ha:PE X a ta)(hb:PE X b tb)(hc:PE X c tc)
  (hm:lastMarks [op,op'] [b,c]=false:=by with_unfolding_all rfl):PE X (.Compare a [op,op'] [b,c] pos) (vZ r r' ta tb tc):=by
 intro z0 s σ H Q I h
 refine Compare_chain (thn (ha z0 s σ H _ I h) fun v s1 ⟨x,H1,I1,r1,q1⟩=>chain_link (thn (hb z0 s1 σ H1 _ I1 q1) fun u s2 ⟨y,H2,I2,r2,q2⟩ =>
  thn (ho z0 s2 σ H2 x y v u _ I2 r1 r2 q2) fun d s3 ⟨z,H3,I3,r3,k,e,q3⟩=>?_)) hm
 subst e;cases r3;refine T1z ?_
 cases k with
 | false=>exact ite_ff ⟨.bl false,H3,I3,rfl,q3⟩
 | true=>exact ite_tt (chain_last (thn (hc z0 s3 σ H3 _ I3 q3) fun w' s4 ⟨z',H4,I4,r4,q4⟩=>ho' z0 s4 σ H4 y z' u w' Q I4 r2 r4 q4))
theorem Av{op op':CmpOp}{r r':R2}(ho:OpR X (compareOp op) r)(ho':OpR X (compareOp op') r')(ha:PE X a ta)(hb:PE X b tb)(hc:PE X c tc)
  (hm:lastMarks [op,op'] [b,c]=false:=by with_unfolding_all rfl):PT X (.Compare a [op,op'] [b,c] pos) (J4 (vZ r r' ta tb tc)):=by
 intro z0 s σ H Q I h
 refine isTrue_chain (thn (ha z0 s σ H _ I h) fun v s1 ⟨x,H1,I1,r1,q1⟩=>test_link (thn (hb z0 s1 σ H1 _ I1 q1) fun u s2 ⟨y,H2,I2,r2,q2⟩ =>
  thn (ho z0 s2 σ H2 x y v u _ I2 r1 r2 q2) fun d s3 ⟨z,H3,I3,r3,k,e,q3⟩=>?_)) hm
 subst e;cases r3;refine T1z ?_
 cases k with
 | false =>
  obtain⟨k',e',q'⟩:=q3;cases e';exact ite_ff ⟨H3,I3,q'⟩
 | true =>
  refine ite_tt (test_last (thn (hc z0 s3 σ H3 _ I3 q3) fun w' s4 ⟨z',H4,I4,r4,q4⟩=>thn (ho' z0 s4 σ H4 y z' u w' _ I4 r2 r4 q4) fun d' s5 ⟨z2,H5,I5,r5,k2,e2,q5⟩=>?_));subst e2;cases r5;exact T1z ⟨H5,I5,q5⟩
theorem oN:(sizeLine:Nat)<2^63:=by rw[B5z];decide
theorem vals1{x:V}{us:List Value}(r:Vals [x] us):∃ u,us=[u]/\RelV x u:=by
 cases r with
 | cons r1 r2=>cases r2;exact⟨_,rfl,r1⟩
theorem CJ:eG X (.builtin "abs") (fun xs H Q=>∃ i,xs=[.int i]/\Q (.int (if i<0 then -i else i)) H):=by
 intro z0 s σ H xs us Q I r h;obtain⟨i,rfl,q⟩:=h;obtain⟨u,rfl,t,rfl⟩:=vals1 r;exact call_abs_int fun u tk=>⟨.int (if i<0 then -i else i),H,I.tok _,⟨_,rfl⟩,q⟩
theorem pF:eG X (.type "int") (fun xs H Q=>(∃ i,xs=[.int i]/\Q (.int i) H)\/∃ k,xs=[.bl k]/\Q (.int (if k then 1 else 0)) H):=by
 intro z0 s σ H xs us Q I r h;rcases h with⟨i,rfl,q⟩ | ⟨k,rfl,q⟩
 ·obtain⟨u,rfl,t,rfl⟩:=vals1 r
  exact call_int_int ⟨.int i,H,I,⟨_,rfl⟩,q⟩
 ·obtain⟨u,rfl,r1⟩:=vals1 r
  cases r1;exact call_int_bool ⟨.int (if k then 1 else 0),H,I.tok _,⟨_,rfl⟩,q⟩
end
section
variable {prog:Program} {w:World} {A:Around} {E:Value->Shared->Prop} {s:Shared} {K:Z3} {x dx C f:Addr} {mA:Str->Option Value} {name:Str} {v:Value}
end
section
variable {P:Program} {w:World} {H H':Hp} {h h':Heap} {a C dx:Addr} {fs fs':List (Str×V)}
end
section
variable {X:Cx} {z0:List (Addr×Obj)} {σ:St} {H:Hp} {s:Shared} {a C dx:Addr} {fs:List (Str×V)} {f:Str} {v:V} {A:Around} {E:Value->Shared->Prop}
end
section
variable {X:Cx} {o e value:Expr} {f:Str} {pos pos' tpos:Pos} {ta tv:TE}
end
section
variable {X:Cx} {z0:List (Addr×Obj)} {σ:St} {H:Hp} {s:Shared} {A:Around} {E:Value->Shared->Prop} {Q:Value->Shared->Prop} {c:Value} {b:Bool}
end
structure Room (k:Nat) (A:Around):Prop where
 hd:A.handled=none
 dp:A.depth+3*k+5<recursionLimit
 un:A.units+16*k+200<cLine
theorem Room.deeper{k:Nat}{A:Around}(r:Room (k+1) A)(env:Env):Room k (A.deeper env) :=
 ⟨r.hd,by have:=r.dp;show A.depth+1+3*k+5<_;omega,by have:=r.un;show A.units+3+16*k+200<_;omega⟩
theorem Room.depth{k:Nat}{A:Around}(r:Room k A):A.depth<recursionLimit:=by have:=r.dp;omega
theorem Room.units{k:Nat}{A:Around}(r:Room k A):A.units+64<cLine:=by have:=r.un;omega
def W7:TA:=fun _ H Q=>Q [] H
def J5(ta:TE)(tr:TA):TA:=fun σ H Q=>ta σ H fun x H1=>tr σ H1 fun xs H2=>Q (x::xs) H2
section
variable {X:Cx} {e:Expr} {es:List Expr} {te:TE} {t:TA} {pos:Pos}
theorem cY:PA X [] W7:=fun _ _ _ _ H Q I h=>Calls.spliced_nil ⟨[],H,I,.nil,h⟩
theorem bI(ha:PE X e te)(hr:PA X es t)(hs:starEach (e::es) X.env=(false,eval e X.env)::starEach es X.env:=by rfl):PA X (e::es) (J5 te t):=by
 intro pos z0 s σ H Q I h;rw[hs];show wpAny _ _ (spliced ((false,eval e X.env)::backTo pos (starEach es X.env))) _ _ s;refine N1z (thn (ha z0 s σ H _ I h) fun u s1 ⟨x,H1,I1,r1,q1⟩=>?_);exact thn (hr pos z0 s1 σ H1 _ I1 q1) fun us s2 ⟨xs,H2,I2,r2,q2⟩=>⟨x::xs,H2,I2,.cons r1 r2,q2⟩
def ZM(t:TA):TE:=fun σ H Q=>t σ H fun xs H1=>xs.length<=sizeLine/\∀ p,H1 p=none->Q (.ref p) (upd H1 p (.tup xs))
def ZV(t:TA):TE:=fun σ H Q=>t σ H fun xs H1=>xs.length<=sizeLine/\∀ p,H1 p=none->Q (.ref p) (upd H1 p (.lst xs))
theorem KY{x1}(h:PA X es t):PE X (.Tuple es x1 pos) (ZM t):=by
 intro z0 s σ H Q I hq;refine wpAny_Tuple_spliced (thn (h pos z0 s σ H _ I hq) fun us s1 ⟨xs,H1,I1,r,z,q⟩=>⟨by rw[<- r.length];exact z,?_⟩);have hf:H1 s1.heap.objs.size=none:=I1.hok.fresh (A5z _);refine⟨.ref s1.heap.objs.size,upd H1 s1.heap.objs.size (.tup xs),I1.laid (t':=s1.toks) (fun b u e=>Heap.get?_push_of_some _ e) (A5z _) ?_,rfl,q _ hf⟩;exact⟨z,us,r,⟨_,Heap.get?_push_size _ rfl,rfl,_,rfl⟩⟩
theorem Ds(h:PA X es t):PE X (.List es pos) (ZV t):=by
 intro z0 s σ H Q I hq;refine wpAny_List_spliced (thn (h pos z0 s σ H _ I hq) fun us s1 ⟨xs,H1,I1,r,z,q⟩=>⟨by rw[<- r.length];exact z,?_⟩);have hf:H1 s1.heap.objs.size=none:=I1.hok.fresh (A5z _);refine⟨.ref s1.heap.objs.size,upd H1 s1.heap.objs.size (.lst xs),I1.laid (t':=s1.toks) (fun b u e=>Heap.get?_push_of_some _ e) (A5z _) ?_,rfl,q _ hf⟩;exact⟨z,us,0,r,Heap.get?_push_size _ rfl⟩
end
abbrev Sp:=List V->Hp->VK->XK->Prop
abbrev CXT:=List Env->Hp->Shared->XK->Value->Shared->Prop
structure Env0 (P:Program) (w:World) (K:Z3) (mg:Str->Option Value) (base:Heap) (A:Around) (outer:List Env) (s:Shared) (H:Hp):Prop where
 frames:A.frames=some outer
 mod:Mod K mg base
 bs:∀ b o,base.get? b=some o->s.heap.get? b=some o/\H b=none
 bsz:base.objs.size<=s.heap.objs.size
 funs:s.heap.FunFrames base outer
 frf:∀ b∈frs outer,H b=none
 hok:HOk P w H s.heap
 bare:AllBare s.gens
def CE(outer:List Env)(P:Program)(w:World)(H:Hp)(s:Shared)(Q:VK)(u:Value)(s':Shared):Prop :=
 ∃ v H',s'.os=s.os/\AllBare s'.gens/\Un (frs outer) [] H H' s.heap s'.heap/\HOk P w H' s'.heap/\RelV v u/\Q v H'
def CR(CX:CXT)(outer:List Env)(P:Program)(w:World)(H:Hp)(s:Shared)(Q:VK)(E:XK)(r:Result)(s':Shared):Prop :=
 match r with
 | .ok (.ret u)=>CE outer P w H s Q u s'
 | .ok _=>False
 | .error e=>CX outer H s E e s'
structure FnOk (P:Program) (w:World) (K:Z3) (mg:Str->Option Value) (base:Heap) (CX:CXT) (k:Nat) (f:Addr) (fd:FuncData) (ps:List Str) (sp:Sp):Prop where
 len:∀ vs H Q E,sp vs H Q E->vs.length=ps.length
 run:∀ (A:Around) (outer:List Env) (s:Shared) (H:Hp) (args:Args) (us:List Value) (vs:List V) (Q:VK) (E:XK),Room k A->Env0 P w K mg base A outer s H->BindsTo s fd args (ps.zip us)->Vals vs us->sp vs H Q E ->
  codeAny (model P w) A (.call (.ref f) args) (CR CX outer P w H s Q E) s
theorem FnOk.imp{P:Program}{w:World}{K:Z3}{mg:Str->Option Value}{base:Heap}{CX:CXT}{k:Nat}{f:Addr}{fd:FuncData}{ps:List Str}{sp sp':Sp}(F:FnOk P w K mg base CX k f fd ps sp)
  (h:∀ vs H Q E,sp' vs H Q E->sp vs H Q E):FnOk P w K mg base CX k f fd ps sp' :=
 ⟨fun vs H Q E q=>F.len vs H Q E (h _ _ _ _ q),fun A outer s H args us vs Q E hr he hb hv hs=>F.run A outer s H args us vs Q E hr he hb hv (h _ _ _ _ hs)⟩
section
variable {X:Cx} {z0:List (Addr×Obj)} {σ:St} {H:Hp} {s s':Shared}
theorem Inv.env0(I:Inv X z0 σ H s):Env0 X.prog X.w X.K X.mg X.base X.A X.stack s H :=
 ⟨I.ok.frames,I.ok.mod,I.bs,Q4z I.ok.bsz I.sz,I.stack,I.stkFree,I.hok,I.bare⟩
theorem Inv.after{Q:VK}{u:Value}(I:Inv X z0 σ H s)(h:CE X.stack X.prog X.w H s Q u s'):EP X z0 σ Q u s':=by
 obtain⟨v,H',os,bare,un,hok,r,q⟩:=h;obtain⟨hh,g,d,t,os'⟩:=s';obtain rfl:os'=s.os:=os;exact⟨v,H',I.call (h':=hh) (g':=g) (d':=d) (t':=t) (ch:=[]) un hok bare (fun b z=>absurd z (by simp)),r,q⟩
end
def O8(sp:Sp)(dvs:List V)(E:XK)(t:TA):TE:=fun σ H Q=>t σ H fun vs H1=>sp (vs++dvs) H1 Q E
def Binds(K:Z3)(fd:FuncData)(ps:List Str)(ds:List Value):Prop :=
 ∀ (s:Shared) (us:List Value),K.In s.heap->(us++ds).length=ps.length->BindsTo s fd ⟨us,[]⟩ (ps.zip (us++ds))
theorem Binds.all{K:Z3}{fd:FuncData}{ps:List Str}(h:∀ us:List Value,us.length=ps.length->bindArgs fd ⟨us,[]⟩=pure (ps.zip us)):Binds K fd ps []:=fun s us _ hl=>by
 rw[E3z] at hl ⊢;exact .of_eq (h us hl)
def Passes(CX:CXT)(X:Cx)(E:XK):Prop:=∀ (z0:List (Addr×Obj)) (σ:St) (H:Hp) (s:Shared) (e:Value) (s':Shared),Inv X z0 σ H s->CX X.stack H s E e s'->X.xe e s'
section
variable {X:Cx} {CX:CXT} {k:Nat} {f C:Addr} {fd:FuncData} {ps:List Str} {sp:Sp} {dvs:List V} {ds:List Value} {E:XK} {x m:Str} {p pos apos:Pos} {e o:Expr} {es:List Expr} {ta:TE} {t:TA}
theorem Kp{z0:List (Addr×Obj)}{σ:St}{H:Hp}{s:Shared}{Q:VK}{us:List Value}{vs:List V}(F:FnOk X.prog X.w X.K X.mg X.base CX k f fd ps sp)(hr:Room k X.A)(hb:Binds X.K fd ps ds)(hd:Vals dvs ds)(hx:Passes CX X E)
  (I:Inv X z0 σ H s) (r:Vals vs us) (h:sp (vs++dvs) H Q E):wpAny (model X.prog X.w) X.A (call (.ref f) us) (EP X z0 σ Q) X.xe s:=by
 have r2:Vals (vs++dvs) (us++ds):=r.append hd
 have hl:(us++ds).length=ps.length:=by rw[<- r2.length];exact F.len _ _ _ _ h
 refine wpAny_call (S4z (F.run X.A X.stack s H ⟨us,[]⟩ (us++ds) (vs++dvs) Q E hr I.env0 (hb s us I.kIn hl) r2 h) fun r s' hq=>?_)
 cases r with
 | error e=>exact hx z0 σ H s e s' I hq
 | ok fl =>
  cases fl with
  | ret u=>exact I.after hq
  | next=>exact False.elim hq
  | brk=>exact False.elim hq
  | cont=>exact False.elim hq
theorem GQ(F:FnOk X.prog X.w X.K X.mg X.base CX k f fd ps sp)(hr:Room k X.A)(hg:Gl X x)(hm:X.mg x=some (.ref f))(hk:PySem.W.keepIn X.K (.ref f)=true)(hb:Binds X.K fd ps ds)(hd:Vals dvs ds)(hx:Passes CX X E)
  (ha:PA X (e::es) t) (hdb:(x==("__debug__":Str))=false:=by decide) (he:starEach (e::es) X.env=(false,eval e X.env)::starEach es X.env:=by rfl) (hpl:(backTo pos (starEach es X.env)).any (·.1)=false:=by rfl) :
  PE X (.Call (.Name x p) (e::es) [] pos) (O8 sp dvs E t):=by
 intro z0 s σ H Q I h;refine O1z (jJ I hg hm ?_ hdb);refine PySem.W.callWith_K (h₀:=X.base) I.ok.mod.kin hk (thn (ha pos z0 s σ H _ I h) fun us s1 ⟨vs,H1,I1,r,q⟩=>⟨I1.kIn,?_⟩) he hpl;exact Kp F hr hb hd hx I1 r q
end
section
variable {X:Cx} {CX:CXT} {k:Nat} {f C:Addr} {fd:FuncData} {ps ks:List Str} {sp:Sp} {E:XK} {x m:Str} {p pos apos kpos:Pos} {e o:Expr} {es:List Expr} {kws:List Keyword} {te ta:TE} {t tk:TA} {nm:Option Str}
variable {g:List Value->List Value->List Value} {gV:List V->List V->List V}
end
structure FnScope (N P:List Str) (sc:Scope):Prop where
 kind:sc.kind=.function
 co:sc.isCoroutine=false
 gen:sc.isGenerator=false
 nd:N.Nodup
 pre:N.take P.length=P
 par:∀ x∈P,sc.names.lookup x=some .local\/sc.names.lookup x=some .cell
 nofree:∀ y∈sc.names,y.2≠.free
theorem pJ{kindOf:Str->Option NameKind}{x:Str}:∀ {binds:List (Str×Value)} {m:Str->Option Value},(∀ v,(x,v)∉binds)->bindL kindOf binds m x=m x
 | [],_,_=>rfl
 | (n,v)::r,m,h=>by
  unfold bindL;rw[pJ fun w hw=>h w (W0z _ hw)];split
  ·have:x≠n:=by rintro rfl;exact h v K1z
   simp[this]
  ·rfl
theorem pL{kindOf:Str->Option NameKind}{x:Str}:∀ {binds:List (Str×Value)} {m:Str->Option Value},(∀ v,(x,v)∉binds)->bindC kindOf binds m x=m x
 | [],_,_=>rfl
 | (n,v)::r,m,h=>by
  unfold bindC;rw[pL fun w hw=>h w (W0z _ hw)];split
  ·rfl
  ·have:x≠n:=by rintro rfl;exact h v K1z
   simp[this]
theorem pK{kindOf:Str->Option NameKind}{x:Str}{v:Value}:∀ {P:List Str} {vs:List Value} {i:Nat} {m:Str->Option Value},P.Nodup->P[i]?=some x->vs[i]?=some v->kindOf x=some .local ->
  bindL kindOf (P.zip vs) m x=some v
 | [],_,_,_,_,h,_,_=>by simp at h
 | _::_,[],_,_,_,_,h,_=>by simp at h
 | p::P,w::vs,0,m,nd,h1,h2,hk=>by
  simp at h1 h2;subst h1;subst h2
  show bindL kindOf ((p,w)::P.zip vs) m p=_;unfold bindL;rw[pJ fun v hv=>(K3z.mp nd).1 (F3z hv).1,R5z hk];simp
 | p::P,w::vs,i+1,m,nd,h1,h2,hk=>by
  show bindL kindOf ((p,w)::P.zip vs) m x=_;unfold bindL;exact pK (i:=i) (K3z.mp nd).2 (by simpa using h1) (by simpa using h2) hk
theorem pN{kindOf:Str->Option NameKind}{x:Str}{v:Value}:∀ {P:List Str} {vs:List Value} {i:Nat} {m:Str->Option Value},P.Nodup->P[i]?=some x->vs[i]?=some v->kindOf x≠some .local ->
  bindC kindOf (P.zip vs) m x=some v
 | [],_,_,_,_,h,_,_=>by simp at h
 | _::_,[],_,_,_,_,h,_=>by simp at h
 | p::P,w::vs,0,m,nd,h1,h2,hk=>by
  simp at h1 h2;subst h1;subst h2
  show bindC kindOf ((p,w)::P.zip vs) m p=_;unfold bindC;rw[pL fun v hv=>(K3z.mp nd).1 (F3z hv).1,S5z hk];simp
 | p::P,w::vs,i+1,m,nd,h1,h2,hk=>by
  show bindC kindOf ((p,w)::P.zip vs) m x=_;unfold bindC;exact pN (i:=i) (K3z.mp nd).2 (by simpa using h1) (by simpa using h2) hk
def start(N:List Str)(vs:List V):St:=vs.map some++List.replicate (N.length-vs.length) none
def iI(CX:CXT)(P:Program)(w:World)(K:Z3)(mg:Str->Option Value)(base:Heap)(N:List Str)(qual:Str)(scope:Scope)(f:Addr)(cd:Value)(A:Around)(outer:List Env)(s:Shared)(H:Hp)(E:XK):Cx where
 prog:=P
 w:=w
 K:=K
 mg:=mg
 base:=base
 A:=A.deeper (envOfC qual scope s.heap.objs.size f cd)
 N:=N
 s₀:=s
 H₀:=H
 env:=envOfC qual scope s.heap.objs.size f cd
 outer:=outer
 stack:=envOfC qual scope s.heap.objs.size f cd::outer
 ex:=[]
 calm:=true
 fn:=fun _=>true
 pn:=[]
 xe:=fun e s'=>wpAny (model P w) (A.deeper (envOfC qual scope s.heap.objs.size f cd)) (leaving (envOfC qual scope s.heap.objs.size f cd) e) (fun _ s''=>CX outer H s E e s'') (fun e' s''=>CX outer H s E e' s'') s'
theorem tV{sc:Scope}{n:Nat}{x:Str}(h:sc.names.lookup x=some .cell):∃ c,(cellsFrom n sc.names []).lookup x=some c:=by
 have q:=M0z sc.names n [] (.inl h);exact Option.isSome_iff_exists.mp q
theorem yu{CX:CXT}{P:Program}{w:World}{K:Z3}{mg:Str->Option Value}{base:Heap}{N ps:List Str}{qual:Str}{scope:Scope}{f:Addr}{cd:Value}{A:Around}{outer:List Env}{s s1:Shared}{H:Hp}{E:XK}{us:List Value}{vs:List V}
  (S:FnScope N ps scope) (hd:A.handled=none) (e0:Env0 P w K mg base A outer s H) (hl:vs.length=ps.length) (r:Vals vs us)
  (x:InCallC s s.heap.objs.size (bindL (envOfC qual scope s.heap.objs.size f cd).kindOf (ps.zip us) fun _=>none) (cellsFrom (s.heap.objs.size+1) scope.names []) (bindC (envOfC qual scope s.heap.objs.size f cd).kindOf (ps.zip us) fun _=>none) s1) :
  Inv (iI CX P w K mg base N qual scope f cd A outer s H E) [] (start N vs) H s1:=by
 have hpl:ps.length<=N.length:=by have:=congrArg List.length S.pre;rw[H2z] at this;omega
 obtain⟨h1,tk,rfl,hk⟩:=x.done;have noA:∀ b:Addr,b∉(iI CX P w K mg base N qual scope f cd A outer s H E).ex:=fun b z=>absurd (show b∈([]:List Addr) from z) (by simp)
 refine⟨⟨e0.mod,S.kind,rfl,rfl,A5z _,fun y z c h1 h2=>?_,fun y hy=>?_,fun y c _ h=>?_,fun _=>hd,Around.frames_deeper e0.frames,.inr ⟨rfl,rfl⟩,fun b z=>absurd z (noA b),e0.bs,e0.bsz,fun b _ _=>noA b,fun b z=>absurd z (noA b),e0.funs,e0.frf⟩,
  rfl,e0.bare,Un.kept hk,⟨_,x.toInCall.ns,fun i y v h1 h2 h3=>?_⟩,fun y c h=>⟨_,x.cell y c h⟩,e0.hok.fresh (A5z _),fun y c h=>?_,fun p hp=>absurd (show p∈([]:List (Addr×Obj)) from hp) (by simp),e0.hok.kept hk,?_⟩
 ·exact name_of_addr x.apart (E1z h1) (E1z h2)
 ·have hy:scope.names.lookup y=some .cell\/scope.names.lookup y=some .free:=hy
  rcases hy with hy | hy
  ·exact tV hy
  ·exact absurd rfl (S.nofree _ (E1z hy))
 ·exact Nat.le_of_lt (x.above y c (E1z h))
 ·have hi:i<vs.length:=by
   unfold start at h2
   by_cases hi:i<vs.length
   ·exact hi
   ·rw[List.getElem?_append_right (by simpa using hi)] at h2
    rw[List.getElem?_replicate] at h2
    split at h2<;>cases h2
  have ha:vs[i]?=some v:=by
   unfold start at h2;rw[List.getElem?_append_left (by simpa using hi),List.getElem?_map] at h2
   cases e:vs[i]? with
   | none=>rw[e] at h2;cases h2
   | some a=>rw[e] at h2;cases h2;rfl
  obtain⟨u,hu,rv⟩:=r.get ha
  have hp:ps[i]?=some y:=by
   rw[<- S.pre,List.getElem?_take_of_lt (by omega)];exact h1
  have ndP:ps.Nodup:=by rw[<- S.pre];exact S.nd.sublist (List.take_sublist _ _)
  refine⟨u,rv,?_⟩;rcases S.par y (List.mem_of_getElem? hp) with k | k
  ·exact .inl ⟨k,pK ndP hp hu k⟩
  ·obtain⟨c,e⟩:=tV (n:=s.heap.objs.size+1) k
   refine .inr ⟨.inl k,c,e,?_⟩;have q:=x.cell y c e;rw[pN ndP hp hu (by show scope.names.lookup y≠_;rw[k];decide)] at q;exact q
 ·exact e0.hok.fresh (Nat.le_of_lt (x.above y c (E1z h)))
 ·unfold start
  show _=N.length;rw[P1z,G3z,List.length_replicate];omega
theorem Wx{CX:CXT}{P:Program}{w:World}{K:Z3}{mg:Str->Option Value}{base:Heap}{k:Nat}{f:Addr}{name qual:Str}{params:Arguments}{body:List Stmt}{scope:Scope}{dV kV doc pm cdv ct oc:Value}{an od:Option Addr}
  {osl:Array (Option Value)} {N ps:List Str} {sp:Sp} (lk:K.lookup f=some ⟨oc,od,.func (PySem.W.fnOf name qual params body scope dV kV doc pm an cdv ct),osl⟩) (hcd:PySem.W.codeIn K cdv qual=true) (S:FnScope N ps scope)
  (len:∀ vs H Q E,sp vs H Q E->vs.length=ps.length)
  (hbody : ∀ (A : Around) (outer : List Env) (s : Shared) (H : Hp) (vs : List V) (Q : VK) (E : XK), Room k (A.deeper (envOfC qual scope s.heap.objs.size f cdv)) -> sp vs H Q E ->
   ∃ t,PSs (iI CX P w K mg base N qual scope f cdv A outer s H E) body t/\t { nx:=fun _ H'=>Q .non H',rt:=Q } (start N vs) H) :
  FnOk P w K mg base CX (k+1) f (PySem.W.fnOf name qual params body scope dV kV doc pm an cdv ct) ps sp:=by
 refine⟨len,fun A outer s H args us vs Q E hr e0 hb r hsp=>?_⟩;have hl:=len _ _ _ _ hsp;have KX:K.In s.heap:=e0.mod.kin.keeps fun b o e=>(e0.bs b o e).1;have lim:s.heap.NoLimit:=e0.mod.nolimit.keeps fun b o e=>(e0.bs b o e).1
 have hkind:∀ y∈ps.zip us,scope.names.lookup y.1=some .local\/(scope.names.lookup y.1=some .cell/\((cellsFrom (s.heap.objs.size+1) scope.names []).lookup y.1).isSome=true):=fun⟨n,v⟩ hy=>by
  rcases S.par n (F3z hy).1 with q | q
  ·exact .inl q
  ·exact .inr ⟨q,M0z _ _ _ (.inl q)⟩
 refine codeAny_call_function hr.depth (KX _ _ lk) rfl S.co S.gen rfl (PySem.W.codeRec_of KX hcd) (hb _ _ _ _ ?_);refine wpAny_newFunctionEnv_cells S.kind hkind fun env he s1 x=>?_;subst he;refine⟨lim.keeps x.toInCall.keep,codeAny_func ?_⟩;obtain⟨t,ht,hq⟩:=hbody A outer s H vs Q E (hr.deeper _) hsp;have I:Inv (iI CX P w K mg base N qual scope f cdv A outer s H E) [] (start N vs) H s1:=yu S hr.hd e0 hl r x;refine E5z (ht [] s1 (start N vs) H _ I hq) (fun fl s' hs=>?_) fun e s' hs=>hs
 have fin:∀ {σ':St} {H':Hp} {v:V} {u:Value},Inv (iI CX P w K mg base N qual scope f cdv A outer s H E) [] σ' H' s'->RelV v u->Q v H'->CE outer P w H s Q u s' :=
  fun {σ' H' v u} J rv q=>⟨v,H',J.os,J.bare,J.base,J.hok,rv,q⟩
 cases fl with
 | ret u =>
  obtain⟨v,σ',H',J,rv,q⟩:=hs;exact fin J rv q
 | next =>
  obtain⟨σ',H',J,q⟩:=hs;exact fin (v:=V.non) (u:=Value.none) J rfl q
 | brk =>
  obtain⟨_,_,_,q⟩:=hs;exact False.elim q
 | cont =>
  obtain⟨_,_,_,q⟩:=hs;exact False.elim q
section
variable {X:Cx} {x:Str} {p pos:Pos} {e:Expr} {es:List Expr} {t:TA} {id T:String} {r:List V->Hp->VK->Prop}
def tCB(r:List V->Hp->VK->Prop)(t:TA):TE:=fun σ H Q=>t σ H fun vs H1=>r vs H1 Q
theorem mD(hc:eG X (.builtin id) r)(hg:Gl X x)(hm:X.mg x=none)(hv:bootBuiltins x=some (.builtin id))(ha:PA X (e::es) t)(hn:x≠"__name__":=by decide)(hdb:(x==("__debug__":Str))=false:=by decide)
  (he:starEach (e::es) X.env=(false,eval e X.env)::starEach es X.env:=by rfl) (hpl:(backTo pos (starEach es X.env)).any (·.1)=false:=by rfl):PE X (.Call (.Name x p) (e::es) [] pos) (tCB r t):=by
 intro z0 s σ H Q I h;refine O1z (fV I hg hm hv ?_ hn hdb);exact PyProof.Rows.callWith_builtin1 (thn (ha pos z0 s σ H _ I h) fun us s1 ⟨vs,H1,I1,r1,q1⟩=>hc z0 s1 σ H1 vs us Q I1 r1 q1) he hpl
theorem oG(hc:eG X (.type T) r)(hg:Gl X x)(hm:X.mg x=none)(hv:bootBuiltins x=some (.type T))(ha:PA X (e::es) t)(hn:x≠"__name__":=by decide)(hdb:(x==("__debug__":Str))=false:=by decide)
  (he:starEach (e::es) X.env=(false,eval e X.env)::starEach es X.env:=by rfl) (hpl:(backTo pos (starEach es X.env)).any (·.1)=false:=by rfl):PE X (.Call (.Name x p) (e::es) [] pos) (tCB r t):=by
 intro z0 s σ H Q I h;refine O1z (fV I hg hm hv ?_ hn hdb);exact D0z (thn (ha pos z0 s σ H _ I h) fun us s1 ⟨vs,H1,I1,r1,q1⟩=>hc z0 s1 σ H1 vs us Q I1 r1 q1) he hpl
end
end L2
namespace HT
open PySem PyProof.Rows
section
open PySem.SeqAt
open PySem.AutoSeq1 (wpAny_loadPart')
open PySem.MeetsSeq PySem.MeetsSeq2 PySem.MeetsSeq3
end
section
variable {prog:Program} {w:World} {A:Around} {E:Value->Shared->Prop} {s:Shared}
theorem Jk{t b:Addr}{vs ws:List Value}{Q:Value->Shared->Prop}(ht:IsTup s.heap t vs.toArray)(hb:IsTup s.heap b ws.toArray)(hv:vs≠[])
  (h1:ws=[]->Q (.ref t) s) (h2:ws≠[]->Q (.ref s.heap.objs.size) { s with heap:=s.heap.push { cls:=.type "tuple",data:=.seq (vs++ws).toArray } })
  (hsz:vs.length+ws.length<=sizeLine):wpAny (model prog w) A (binaryOp .Add (.ref t) (.ref b)) Q E s:=by
 obtain⟨⟨cls,dd,data,sl⟩,ho,hc,n,hd⟩:=id ht;obtain⟨⟨cls2,dd2,data2,sl2⟩,ho2,hc2,n2,hd2⟩:=id hb;simp only at hc hd hc2 hd2;subst hc hd hc2 hd2
 have e:vs.toArray++ws.toArray=(vs++ws).toArray:=by simp
 by_cases hw:ws=[]
 ·exact concat_meets ⟨_,ho,rfl⟩ ⟨_,ho2,rfl⟩ noFill_tuple_add seq_tuple_add N0z J0z (H0z _ _)
   (tuple_addW1 t b vs.toArray ws.toArray n n2 dd dd2 sl sl2 (by simpa using hv) (by simp[hw])) ⟨ho,ho2,h1 hw⟩
 ·refine concat_meets ⟨_,ho,rfl⟩ ⟨_,ho2,rfl⟩ noFill_tuple_add seq_tuple_add N0z J0z (H0z _ _)
   (tuple_addW2 t b vs.toArray ws.toArray n n2 dd dd2 sl sl2 (by simpa using hv) (by simpa using hw) (by rw[V1z,V1z];exact hsz)) ⟨ho,ho2,?_⟩
  rw[e];exact h2 hw
def sIx(n d:Nat):Option Int->Nat
 | none=>d
 | some v=>if v<0 then(v+(n:Int)).toNat else min v.toNat n
theorem Kl(n d:Nat)(hd:d<=n)(o:Option Int):sIx n d o<=n:=by
 cases o with
 | none=>exact hd
 | some v =>
  show(if v<0 then(v+(n:Int)).toNat else min v.toNat n)<=n
  by_cases hv:v<0
  ·rw[R5z hv];omega
  ·rw[S5z hv];exact Nat.min_le_right _ _
theorem zH(v:Int)(n d:Nat):(if v<0 then max (v+(n:Int)) 0 else min v (n:Int))=((sIx n d (some v):Nat):Int):=by
 show(if v<0 then max (v+(n:Int)) 0 else min v (n:Int))=(((if v<0 then(v+(n:Int)).toNat else min v.toNat n):Nat):Int)
 by_cases hv:v<0
 ·simp only[R5z hv];omega
 ·simp only[S5z hv];omega
theorem vm(lo hi:Option Int)(n:Nat):Builtin.Slice.sliceAdjust lo hi 1 (n:Int)=(((sIx n 0 lo:Nat):Int),((sIx n n hi:Nat):Int)):=by
 have h1:¬ ((1:Int)<0):=by omega
 unfold Builtin.Slice.sliceAdjust;simp only[h1,O5z];refine Prod.ext ?_ ?_
 ·cases lo with
  | none=>rfl
  | some v=>exact zH v n 0
 ·cases hi with
  | none=>rfl
  | some v=>exact zH v n n
theorem uN(i j:Nat):Builtin.Slice.slicePlaces (i:Int) (j:Int) 1=j-i:=by
 unfold Builtin.Slice.slicePlaces
 have h1:(1:Int)>0:=by omega
 simp only[h1,Q5z,Int.ediv_one]
 split<;>omega
theorem j8{v:Value}{o:Option Int}{Q:Option Int->Shared->Prop}(p:IsPart v o)(h:Q o s):wpAny (model prog w) A (Builtin.Slice.slicePartIndex v) Q E s:=by
 cases p with
 | none=>exact slicePart_none h
 | int i t=>exact slicePart_int h
theorem eO{sl:Addr}{vl vu:Value}{lo hi:Option Int}{n:Nat}{Q:Int×Int×Nat->Shared->Prop}(hs:s.heap.IsSliceOf sl vl vu .none)(pl:IsPart vl lo)(pu:IsPart vu hi)
  (h:Q (((sIx n 0 lo:Nat):Int),1,sIx n n hi-sIx n 0 lo) s):wpAny (model prog w) A (Builtin.Slice.sliceApplied (.ref sl) (pure (n:Int))) Q E s:=by
 obtain⟨os,hos,hcs,hds⟩:=id hs;unfold Builtin.Slice.sliceApplied Builtin.Slice.sliceFields;refine F5z (F5z (C5z hos hds (x:=vl) rfl (F5z (C5z hos hds (x:=vu) rfl (F5z (C5z hos hds (x:=.none) rfl (G5z ?_)))))));refine F5z (slicePart_none ?_);show wpAny _ _ (if((1:Int)==0)=true then _ else _) _ _ s;rw[S5z (by decide)];refine F5z (j8 pl (F5z (j8 pu (F5z (G5z ?_)))));show wpAny _ _ (match Builtin.Slice.sliceAdjust lo hi 1 (n:Int) with | (lo,hi)=>pure (lo,(1:Int),Builtin.Slice.slicePlaces lo hi 1)) _ _ s;rw[vm lo hi n];show wpAny _ _ (pure (((sIx n 0 lo:Nat):Int),(1:Int),Builtin.Slice.slicePlaces ((sIx n 0 lo:Nat):Int) ((sIx n n hi:Nat):Int) 1)) _ _ s;rw[uN];exact G5z h
theorem Ba(xs:Array Value)(i k:Nat):((List.range k).filterMap fun(m:Nat)=>xs[((i:Int)+(m:Int)*1).toNat]?).toArray=((xs.toList.drop i).take k).toArray:=by
 have e:(fun(m:Nat)=>xs[((i:Int)+(m:Int)*1).toNat]?)=fun m=>xs[i+m]?:=by
  funext m
  have:((i:Int)+(m:Int)*1).toNat=i+m:=by omega
  rw[this]
 rw[e];have:=pick_run xs i k;rw[List.filterMap_map] at this;have e2:((fun x=>xs[x]?)∘fun x=>i+x)=fun m=>xs[i+m]?:=rfl;rw[e2] at this;rw[this]
theorem iH{t sl:Addr}{items:Array Value}{vl vu:Value}{lo hi:Option Int}{Q:Value->Shared->Prop}(ht:IsTup s.heap t items)(hs:s.heap.IsSliceOf sl vl vu .none)(pl:IsPart vl lo)(pu:IsPart vu hi)
  (hw:¬ (sIx items.size 0 lo=0/\sIx items.size items.size hi=items.size))
  (h:Q (.ref s.heap.objs.size) { s with heap:=s.heap.push { cls:=.type "tuple",data:=.seq ((items.toList.drop (sIx items.size 0 lo)).take (sIx items.size items.size hi-sIx items.size 0 lo)).toArray } })
  (hsz:items.size<=sizeLine):wpAny (model prog w) A (getItem (.ref t) (.ref sl)) Q E s:=by
 have htake:sizeOk (.seq ((items.toList.drop (sIx items.size 0 lo)).take (sIx items.size items.size hi-sIx items.size 0 lo)).toArray):=by
  show((items.toList.drop (sIx items.size 0 lo)).take (sIx items.size items.size hi-sIx items.size 0 lo)).toArray.size<=sizeLine;rw[V1z,H2z,I2z,D1z];omega
 have hj:sIx items.size items.size hi<=items.size:=Kl _ _ (A5z _) hi;obtain⟨os,hos,hcs,hds⟩:=id hs;have hTs:s.TypeIs (.ref sl) "slice":=⟨os,hos,hcs⟩;unfold getItem
 try with_reducible refine G4z ?_
 first | refine F5z (G5z ?_) | skip
 refine F5z (wpAny_sequenceKey ht.typeIs (by decide) ?_)
 refine F5z (wpAny_callSpecial?_slot (name:=Str.ofString "__getitem__") ht.typeIs A0z
  (J2z A0z ht.typeIs entry_tuple_getitem ?_ (args_tuple_getitem _ _)))
 show wpAny _ _ (Builtin.Tuple.tupleItemsOf (.ref t) >>=_) _ _ s;refine F5z (tupleItemsOf_ ht ?_);refine F5z (wpAny_typeOf hTs ?_);rw[R5z (by decide)];refine F5z (eO hs pl pu ?_)
 have hno:¬ ((((sIx items.size 0 lo:Nat):Int)==0&&(1:Int)==1&&(sIx items.size items.size hi-sIx items.size 0 lo)==items.size)=true):=by
  intro q;rw[K2z,K2z] at q;have q1:((sIx items.size 0 lo:Nat):Int)=0:=eq_of_beq q.1.1;have q2:sIx items.size items.size hi-sIx items.size 0 lo=items.size:=eq_of_beq q.2;exact hw ⟨by omega,by omega⟩
 show wpAny _ _ (if(((sIx items.size 0 lo:Nat):Int)==0&&(1:Int)==1&&(sIx items.size items.size hi-sIx items.size 0 lo)==items.size)=true then _ else _) _ _ s;rw[S5z hno,Ba]
 first
  | exact F5z (m:=Builtin.Tuple.tupleExact _) (U1z (G5z ⟨_,rfl,G5z h⟩) htake)
  | exact F5z (m:=Builtin.Tuple.tupleExact _) (U1z (F5z (G5z (G5z ⟨_,rfl,G5z h⟩))) htake)
  | exact F5z (F5z (m:=Builtin.Tuple.tupleExact _) (U1z (G5z (G5z ⟨_,rfl,G5z h⟩)) htake))
  | exact F5z (F5z (m:=Builtin.Tuple.tupleExact _) (U1z (G5z ⟨_,rfl,G5z h⟩) htake))
end
end HT
namespace L2
open PySem PySem.Spec PyProof.Rows
abbrev TO:=St->Hp->(Option Int->Hp->Prop)->Prop
def PO(X:Cx)(e:Option Expr)(t:TO):Prop :=
  ∀ (z0 : List (Addr × Obj)) (s : Shared) (σ : St) (H : Hp) (Q : Option Int -> Hp -> Prop), Inv X z0 σ H s -> t σ H Q ->
    wpAny (model X.prog X.w) X.A (evalPart e X.env) (fun u s'=>∃ o H',Inv X z0 σ H' s'/\IsPart u o/\Q o H') X.xe s
def Fx:TO:=fun _ H Q=>Q none H
def O5(t:TE):TO:=fun σ H Q=>t σ H fun x H1=>∃ i,x=.int i/\Q (some i) H1
section
variable {X:Cx} {e:Expr} {te:TE} {lo hi:Option Expr} {tl th:TO} {pos p2:Pos}
theorem Gx:PO X none Fx:=by
 intro z0 s σ H Q I h;rw[evalPart_none];exact G5z ⟨none,H,I,.none,h⟩
theorem Gw(h:PE X e te):PO X (some e) (O5 te):=by
 intro z0 s σ H Q I hw;rw[evalPart_some];refine thn (h z0 s σ H _ I hw) fun u s1 ⟨x,H1,I1,r1,q1⟩=>?_;obtain⟨i,rfl,q⟩:=q1;obtain⟨t,rfl⟩:=r1;exact⟨some i,H1,I1,.int i t,q⟩
def SlR(X:Cx)(r:V->Option Int->Option Int->Hp->VK->Prop):Prop :=
  ∀ (z0 : List (Addr × Obj)) (s : Shared) (σ : St) (H : Hp) (x : V) (v vl vu : Value) (lo hi : Option Int) (sl : Addr) (Q : VK), Inv X z0 σ H s -> RelV x v -> s.heap.IsSliceOf sl vl vu .none -> IsPart vl lo -> IsPart vu hi -> r x lo hi H Q ->
    ∃ T id,typeLookup (.type T) "__getitem__"=pure (some (.builtin id))/\s.TypeIs v T/\wpAny (model X.prog X.w) X.A (getItem v (.ref sl)) (EP X z0 σ Q) X.xe s
def tSl(r:V->Option Int->Option Int->Hp->VK->Prop)(te:TE)(tl th:TO):TE:=fun σ H Q=>te σ H fun x H1=>tl σ H1 fun l H2=>th σ H2 fun u H3=>r x l u H3 Q
theorem mq{r:V->Option Int->Option Int->Hp->VK->Prop}(hr:SlR X r)(he:PE X e te)(hl:PO X lo tl)(hu:PO X hi th):PE X (.Subscript e (.Slice lo hi none p2) pos) (tSl r te tl th):=by
 intro z0 s σ H Q I h;refine Subscript_ (thn (he z0 s σ H _ I h) fun v s1 ⟨x,H1,I1,r1,q1⟩=>?_);refine wpAny_Slice (thn (hl z0 s1 σ H1 _ I1 q1) fun vl s2 ⟨l,H2,I2,pl,q2⟩=>thn (hu z0 s2 σ H2 _ I2 q2) fun vu s3 ⟨u,H3,I3,pu,q3⟩=>?_);rw[evalPart_none];refine G5z ?_;have I4:Inv X z0 σ H3 { s3 with heap:=s3.heap.push { cls:=.type "slice",data:=.fields #[vl,vu,.none] } }:=I3.kept (t':=s3.toks) fun b ob q=>Heap.get?_push_of_some _ q;obtain⟨T,id,hT,ht,hg⟩:=hr z0 { s3 with heap:=s3.heap.push { cls:=.type "slice",data:=.fields #[vl,vu,.none] } } σ H3 x v vl vu l u s3.heap.objs.size Q I4 r1 (Heap.IsSliceOf.new ..) pl pu q3;show wpAny (model X.prog X.w) X.A (subscriptTail e (.Slice lo hi none p2) v (.ref s3.heap.objs.size)) (EP X z0 σ Q) X.xe { s3 with heap:=s3.heap.push { cls:=.type "slice",data:=.fields #[vl,vu,.none] } };exact tail_any (ops:=[.ref s3.heap.objs.size,v]) ht hT hg (by with_unfolding_all rfl)
def El(xs:List V)(lo hi:Option Int):List V:=(xs.drop (HT.sIx xs.length 0 lo)).take (HT.sIx xs.length xs.length hi-HT.sIx xs.length 0 lo)
theorem jQ(xs:List V)(lo hi:Option Int):(El xs lo hi).length<=xs.length:=by
 unfold El;rw[H2z,I2z];omega
def rSlT(K:Z3):V->Option Int->Option Int->Hp->VK->Prop:=fun x lo hi H Q=>∃ a xs,x=.ref a/\SqT K H a xs /\
 ¬ (HT.sIx xs.length 0 lo=0/\HT.sIx xs.length xs.length hi=xs.length)/\∀ p,H p=none->Q (.ref p) (upd H p (.tup (El xs lo hi)))
theorem Kf:SlR X (rSlT X.K):=by
 intro z0 s σ H x v vl vu lo hi sl Q I rx hs pl pu h;obtain⟨a,xs,rfl,hx,hw,q⟩:=h;cases rx;obtain⟨its,r,ht,hz⟩:=I.tuple hx
 have hlen:its.toArray.size=xs.length:=by rw[V1z];exact r.length.symm
 refine⟨"tuple",_,A0z.lookup,ht.typeIs,?_⟩;refine HT.iH ht hs pl pu (by rw[hlen];exact hw) ?_ (by rw[hlen];exact hz);rw[hlen];refine⟨.ref s.heap.objs.size,_,I.laid (t':=s.toks) (o:=.tup (El xs lo hi)) (fun b ob q=>Heap.get?_push_of_some _ q) (A5z _) ?_,rfl,q _ (I.hok.fresh (A5z _))⟩;exact⟨Q4z (jQ xs lo hi) hz,_,(r.drop (HT.sIx xs.length 0 lo)).take (HT.sIx xs.length xs.length hi-HT.sIx xs.length 0 lo),IsTup.new _ _⟩
def P0(K:Z3):R2:=fun x y H Q=>∃ a b xs ys,x=.ref a/\y=.ref b/\SqT K H a xs/\SqT K H b ys/\xs≠[]/\xs.length+ys.length<=sizeLine /\
 (ys=[]->Q (.ref a) H)/\(ys≠[]->∀ p,H p=none->Q (.ref p) (upd H p (.tup (xs++ys))))
theorem Vals.nil_iff{xs:List V}{us:List Value}(r:Vals xs us):us=[]↔xs=[]:=by
 cases r with
 | nil=>simp
 | cons _ _=>simp
theorem G7:OpR X (binaryOp .Add) (P0 X.K):=by
 intro z0 s σ H x y v u Q I rx ry h;obtain⟨a,b,xs,ys,rfl,rfl,ha,hb,hx,hz,q1,q2⟩:=h;cases rx;cases ry;obtain⟨its,r1,p1,_⟩:=I.tuple ha;obtain⟨its2,r2,p2,_⟩:=I.tuple hb;refine HT.Jk p1 p2 (fun z=>hx (r1.nil_iff.mp z)) (fun z=>⟨.ref a,H,I,rfl,q1 (r2.nil_iff.mp z)⟩) (fun z=>?_) (by rw[<- r1.length,<- r2.length];exact hz);refine⟨.ref s.heap.objs.size,_,I.laid (t':=s.toks) (o:=.tup (xs++ys)) (fun b ob q=>Heap.get?_push_of_some _ q) (A5z _) ?_,rfl,q2 (fun w=>z (r2.nil_iff.mpr w)) _ (I.hok.fresh (A5z _))⟩;exact⟨by rw[P1z];exact hz,_,r1.append r2,IsTup.new _ _⟩
end
def ixN(n:Nat)(i:Int):Option Nat:=if 0<=i then(if i<n then some i.toNat else none) else if -(n:Int)<=i then some (i+n).toNat else none
def atI{α:Type}(xs:List α)(i:Int):Option α:=(ixN xs.length i).bind fun j=>xs[j]?
theorem yq{n:Nat}{i:Int}{j:Nat}(h:ixN n i=some j):seqIndex? i n=some j/\j<n /\ -(n:Int)<=i/\i<n:=by
 unfold ixN at h
 by_cases h0:0<=i
 ·rw[R5z h0] at h
  by_cases h1:i<n
  ·rw[R5z h1] at h
   have e:i.toNat=j:=B3z h;exact⟨by rw[seqIndex_of h0 h1,e],by omega,by omega,h1⟩
  ·rw[S5z h1] at h;cases h
 ·rw[S5z h0] at h
  by_cases h1:-(n:Int)<=i
  ·rw[R5z h1] at h
   have e:(i+n).toNat=j:=B3z h;exact⟨by rw[seqIndex_neg (by omega) h1,e],by omega,h1,by omega⟩
  ·rw[S5z h1] at h;cases h
theorem zQ{α:Type}{xs:List α}{i:Int}{v:α}(h:atI xs i=some v):∃ j,seqIndex? i xs.length=some j/\xs[j]?=some v/\j<xs.length /\ -(xs.length:Int)<=i/\i<xs.length:=by
 unfold atI at h
 cases e:ixN xs.length i with
 | none=>rw[e] at h;cases h
 | some j =>
  rw[e] at h;obtain⟨h1,h2,h3,h4⟩:=yq e;exact⟨j,h1,h,h2,h3,h4⟩
def zW(b:Expr):Prop:=∀ o i,subscripted b false o i=operate [o,i] (getItem o i)
def IxR(X:Cx)(r:R2):Prop :=
  ∀ (value slice : Expr) (z0 : List (Addr × Obj)) (s : Shared) (σ : St) (H : Hp) (x y : V) (v u : Value) (Q : VK), Inv X z0 σ H s -> RelV x v -> RelV y u -> r x y H Q ->
    subscripted slice false v u=operate [v,u] (getItem v u)->wpAny (model X.prog X.w) X.A (subscriptTail value slice v u) (EP X z0 σ Q) X.xe s
def MtR(X:Cx)(id:String)(r:V->List V->Hp->VK->Prop):Prop :=
  ∀ (z0 : List (Addr × Obj)) (s : Shared) (σ : St) (H : Hp) (x : V) (xs : List V) (v : Value) (us : List Value) (Q : VK), Inv X z0 σ H s -> RelV x v -> Vals xs us -> r x xs H Q ->
    wpAny (model X.prog X.w) X.A (call (.builtin id) (v::us)) (EP X z0 σ Q) X.xe s
section
variable {X:Cx} {a b:Expr} {ta tb:TE} {pos:Pos}
theorem GK{r:R2}(hr:IxR X r)(ha:PE X a ta)(hb:PE X b tb)(hs:zW b):PE X (.Subscript a b pos) (tOp r ta tb):=by
 intro z0 s σ H Q I h;exact Subscript_ (WQ ha hb I h fun v u s2 x y H2 I2 rx ry q=>hr a b z0 s2 σ H2 x y v u Q I2 rx ry q (hs _ _))
def rIxL(K:Z3):R2:=fun x y H Q=>∃ p xs i v,x=.ref p/\y=.int i/\SqL K H p xs/\atI xs i=some v/\Q v H
def rIxT(K:Z3):R2:=fun x y H Q=>∃ p xs i v,x=.ref p/\y=.int i/\SqT K H p xs/\atI xs i=some v/\Q v H
theorem yp:IxR X (rIxL X.K):=by
 intro value slice z0 s σ H x y v u Q I rx ry h hs;obtain⟨p,xs,i,z,rfl,rfl,hq,he,q⟩:=h;cases rx;obtain⟨t,rfl⟩:=ry;obtain⟨its,r,pl,hz⟩:=I.list hq;obtain⟨j,h1,h2,h3,h4,h5⟩:=zQ he;obtain⟨w,ew,rw'⟩:=r.get h2;have hl:=r.length;have hn:=oN;have fin:EP X z0 σ Q w s:=⟨z,H,I,rw',q⟩
 by_cases h0:0<=i
 ·have hj:i.toNat=j:=by
   rw[seqIndex_of h0 h5] at h1;exact B3z h1
  exact item_listR pl.isList h0 (by omega) (by rw[hj];simpa using ew) fin hs
 ·have hj:(i+(its.toArray.size:Int)).toNat=j:=by
   rw[seqIndex_neg (by omega) h4] at h1;rw[V1z,<- hl];exact B3z h1
  exact subscriptTail_builtinR (x:=w) pl.isList.typeIs slot_list_getitem.lookup
   (wpAny_getItem_list_neg (Q:=fun r s'=>r=w/\EP X z0 σ Q r s') pl.isList (by omega) (by rw[V1z]<;>omega) (by omega) (by rw[hj];simpa using ew) ⟨rfl,fin⟩) hs
theorem Ml:IxR X (rIxT X.K):=by
 intro value slice z0 s σ H x y v u Q I rx ry h hs;obtain⟨p,xs,i,z,rfl,rfl,hq,he,q⟩:=h;cases rx;obtain⟨t,rfl⟩:=ry;obtain⟨its,r,pl,hz⟩:=I.tuple hq;obtain⟨j,h1,h2,h3,h4,h5⟩:=zQ he;obtain⟨w,ew,rw'⟩:=r.get h2;have hl:=r.length;have hn:=oN;have fin:EP X z0 σ Q w s:=⟨z,H,I,rw',q⟩
 exact subscriptTail_builtinR (x:=w) pl.typeIs slot_tuple_getitem.lookup
  (getItem_tuple (j:=j) (Q:=fun r s'=>r=w/\EP X z0 σ Q r s') pl (by omega) (by omega) (by rw[V1z,<- hl];exact h1) (by simpa using ew) ⟨rfl,fin⟩) hs
theorem uP(its:List Value)(n j:Nat)(u:Value):Obj.mapSeq (·.setIfInBounds j u) { cls:=.type "list",data:=.seq its.toArray n }={ cls:=.type "list",data:=.seq (its.set j u).toArray n }:=by
 simp[Obj.mapSeq]
theorem Inv.lst{z0:List (Addr×Obj)}{σ:St}{H:Hp}{s:Shared}{p:Addr}{xs:List V}(I:Inv X z0 σ H s)(h:H p=some (.lst xs)) :
  ∃ (its:List Value) (n:Nat),Vals xs its/\s.heap.get? p=some { cls:=.type "list",data:=.seq its.toArray n }/\xs.length<=sizeLine:=by
 obtain⟨z,its,n,r,e⟩:=I.hok p _ h;exact⟨its,n,r,e,z⟩
theorem Inv.lstUpd{z0:List (Addr×Obj)}{σ:St}{H:Hp}{s:Shared}{p:Addr}{xs ys:List V}{its its':List Value}{n n':Nat}{f:Obj->Obj}(I:Inv X z0 σ H s)(h:H p=some (.lst xs))
  (ho:s.heap.get? p=some { cls:=.type "list",data:=.seq its.toArray n }) (hf:f { cls:=.type "list",data:=.seq its.toArray n }={ cls:=.type "list",data:=.seq its'.toArray n' }) (r:Vals ys its') (hz:ys.length<=sizeLine) (t:Nat) :
  Inv X z0 σ (upd H p (.lst ys)) { s with heap:=s.heap.update p f,toks:=t }:=by
 have e:(s.heap.update p f).get? p=some { cls:=.type "list",data:=.seq its'.toArray n' }:=by
  rw[Heap.get?_update_self f ho (by rw[hf]<;>rfl),hf]
 refine I.write (x:=p) (e:=p) (by rw[h];trivial) (.inl rfl) (fun b u hb q=>(Heap.get?_update_other _ _ (P5z hb)).trans q) ⟨_,e⟩ ?_
 exact⟨hz,its',n',r,e⟩
def PB:V->V->V->Hp->(Hp->Prop)->Prop:=fun o i v H Q=>∃ p xs k j,o=.ref p/\i=.int k/\H p=some (.lst xs)/\ixN xs.length k=some j/\Q (upd H p (.lst (xs.set j v)))
theorem set_list:W0 X PB:=by
 intro z0 s σ H o i v ov iv u Q I ro ri rv h;obtain⟨p,xs,k,j,rfl,rfl,hp,hj,q⟩:=h;cases ro;obtain⟨t,rfl⟩:=ri;obtain⟨its,n,r,ho,hz⟩:=I.lst hp;obtain⟨h1,h2,h3,h4⟩:=yq hj;have hl:=r.length;have hn:=oN
 have I':Inv X z0 σ (upd H p (.lst (xs.set j v))) { s with heap:=s.heap.update p (Obj.mapSeq (·.setIfInBounds j u)) } :=
  I.lstUpd hp ho (uP its n j u) (r.set rv j) (by rw[H3z];exact hz) s.toks
 by_cases h0:0<=k
 ·have hk:k.toNat=j:=by
   rw[seqIndex_of h0 h4] at h1;exact B3z h1
  exact PySem.W.ki_setAt ho h0 (by omega) (by rw[V1z,<- hl];exact h4) (by rw[hk];exact⟨_,I',q⟩)
 ·have hk:(k+(its.toArray.size:Int)).toNat=j:=by
   rw[seqIndex_neg (by omega) h3] at h1;rw[V1z,<- hl];exact B3z h1
  exact PySem.W.ki_setBack ho (by omega) (by rw[V1z,<- hl];exact h3) (by omega) (by rw[hk];exact⟨_,I',q⟩)
theorem nU(lo hi:Option Int)(n:Nat):(sliceBounds lo hi none n).1=((HT.sIx n 0 lo:Nat):Int)/\(sliceBounds lo hi none n).2.1=((HT.sIx n n hi:Nat):Int)/\(sliceBounds lo hi none n).2.2=1:=by
 refine⟨?_,?_,rfl⟩
 ·cases lo with
  | none=>simp[sliceBounds,HT.sIx]
  | some i =>
   simp only[sliceBounds,HT.sIx,Option.getD_none,show(1:Int)>0 by decide,Q5z]
   by_cases h:i<0
   ·simp only[h,Q5z]<;>omega
   ·simp only[h,O5z]<;>omega
 ·cases hi with
  | none=>simp[sliceBounds,HT.sIx]
  | some i =>
   simp only[sliceBounds,HT.sIx,Option.getD_none,show(1:Int)>0 by decide,Q5z]
   by_cases h:i<0
   ·simp only[h,Q5z]<;>omega
   ·simp only[h,O5z]<;>omega
theorem lO(its:List Value)(lo hi:Option Int):slicePick its.toArray lo hi none=((its.drop (HT.sIx its.length 0 lo)).take (HT.sIx its.length its.length hi-HT.sIx its.length 0 lo)).toArray:=by
 obtain⟨h1,h2,h3⟩:=nU lo hi its.toArray.size;unfold slicePick;rw[h1,h2,h3]
 simp only[sliceRange_one,pick_run,V1z]<;>rfl
def rSlL(K:Z3):V->Option Int->Option Int->Hp->VK->Prop:=fun x lo hi H Q=>∃ a xs,x=.ref a/\SqL K H a xs/\∀ p,H p=none->Q (.ref p) (upd H p (.lst (El xs lo hi)))
theorem FZ:SlR X (rSlL X.K):=by
 intro z0 s σ H x v vl vu lo hi sl Q I rx hs pl pu h;obtain⟨a,xs,rfl,hx,q⟩:=h;cases rx;obtain⟨its,r,ht,hz⟩:=I.list hx;have hlen:=r.length;refine⟨"list",_,slot_list_getitem.lookup,ht.isList.typeIs,?_⟩;refine wpAny_getItem_list_slice ht.isList hs pl pu .none (by simp) ?_ (by rw[V1z]<;>omega);rw[lO,<- hlen];refine⟨.ref s.heap.objs.size,_,I.laid (t':=s.toks) (o:=.lst (El xs lo hi)) (fun b ob q=>Heap.get?_push_of_some _ q) (A5z _) ?_,rfl,q _ (I.hok.fresh (A5z _))⟩;exact⟨Q4z (jQ xs lo hi) hz,_,0,(r.drop (HT.sIx xs.length 0 lo)).take (HT.sIx xs.length xs.length hi-HT.sIx xs.length 0 lo),Heap.get?_push_size _ rfl⟩
theorem pD:eG X (.builtin "len") (fun xs H Q=>∃ p ys,xs=[.ref p]/\(SqL X.K H p ys\/SqT X.K H p ys)/\Q (.int ys.length) H):=by
 intro z0 s σ H xs us Q I r h;obtain⟨p,ys,rfl,hq,q⟩:=h;obtain⟨u,rfl,rx⟩:=vals1 r;cases rx;have hn:=oN;rcases hq with hq | hq
 ·obtain⟨its,r',pl,hz⟩:=I.list hq
  have hlen:=r'.length;exact Calls.call_len_list pl.isList (by simp only[V1z]<;>omega) ⟨.int ys.length,H,I.tok _,⟨s.toks+1,by rw[V1z,hlen]⟩,q⟩
 ·obtain⟨its,r',pl,hz⟩:=I.tuple hq
  have hlen:=r'.length;exact len_tuple pl (by simp only[V1z]<;>omega) ⟨.int ys.length,H,I.tok _,⟨s.toks+1,by rw[V1z,hlen]⟩,q⟩
theorem iT:eG X (.type "list") (fun xs H Q=>∃ p ys,xs=[.ref p]/\(SqL X.K H p ys\/SqT X.K H p ys)/\∀ l,H l=none->Q (.ref l) (upd H l (.lst ys))):=by
 intro z0 s σ H xs us Q I r h;obtain⟨p,ys,rfl,hq,q⟩:=h;obtain⟨u,rfl,rx⟩:=vals1 r;cases rx
 have fin:∀ (its:List Value),Vals ys its->ys.length<=sizeLine->∀ (h':Heap) (c':Nat),(∀ b o',s.heap.get? b=some o'->h'.get? b=some o') ->
   h'.get? s.heap.objs.size=some { cls:=.type "list",dict:=none,data:=.seq its.toArray c',slots := #[] }->EP X z0 σ Q (.ref s.heap.objs.size) { s with heap:=h' }:=fun its r' hz h' c' kp e =>
  ⟨.ref s.heap.objs.size,_,I.laid (t':=s.toks) kp (A5z _) (show dZ X.prog X.w _ h' _ (.lst ys) from⟨hz,its,c',r',e⟩),rfl,q _ (I.hok.fresh (A5z _))⟩
 rcases hq with hq | hq
 ·obtain⟨its,r',pl,hz⟩:=I.list hq
  have hlen:=r'.length;obtain⟨o,ho,hc,n,hd⟩:=pl.isList;exact call_list_seq p (.inl rfl) ho hc hd (fun h' c' kp e=>fin its r' hz h' c' kp e) (by simp only[V1z]<;>omega)
 ·obtain⟨its,r',pl,hz⟩:=I.tuple hq
  have hlen:=r'.length;obtain⟨o,ho,hc,n,hd⟩:=pl;exact call_list_seq p (.inr rfl) ho hc hd (fun h' c' kp e=>fin its r' hz h' c' kp e) (by simp only[V1z]<;>omega)
theorem m8:eG X (.type "tuple") (fun xs H Q=>∃ p ys,xs=[.ref p]/\((SqL X.K H p ys/\∀ l,H l=none->Q (.ref l) (upd H l (.tup ys)))\/(SqT X.K H p ys/\Q (.ref p) H))):=by
 intro z0 s σ H xs us Q I r h;obtain⟨p,ys,rfl,h⟩:=h;obtain⟨u,rfl,rx⟩:=vals1 r;cases rx;rcases h with⟨hq,q⟩ | ⟨hq,q⟩
 ·obtain⟨its,r',pl,hz⟩:=I.list hq
  have hlen:=r'.length;refine call_tuple_list pl.isList (fun h' kp=>?_) (by simp only[V1z]<;>omega);have I1:Inv X z0 σ H { s with heap:=h' }:=I.kept (t':=s.toks) kp
  have I2:Inv X z0 σ (upd H h'.objs.size (.tup ys)) { s with heap:=h'.push { cls:=.type "tuple",data:=.seq its.toArray } } :=
   I1.laid (t':=s.toks) (fun b o e=>Heap.get?_push_of_some _ e) (A5z _) (show dZ X.prog X.w _ _ _ (.tup ys) from⟨hz,its,r',IsTup.new _ _⟩)
  exact⟨.ref h'.objs.size,_,I2,rfl,q _ (I1.hok.fresh (A5z _))⟩
 ·obtain⟨its,r',pl,hz⟩:=I.tuple hq
  exact call_tuple_same pl ⟨.ref p,H,I,rfl,q⟩
def tyV(K:Z3)(T:String)(x:V)(H:Hp):Prop:=match x with
 | .str _=>T="str"
 | .int _=>T="int"
 | .ref p => (T = "list" /\ ∃ xs, SqL K H p xs) \/ (T = "tuple" /\ ∃ o, K.lookup p = some o /\ o.cls = .type "tuple" /\ o.dict = none) \/
   (T="dict"/\((∃ kvs,H p=some (.dK kvs))\/∃ kvs,H p=some (.dT kvs)))\/(T="set"/\∃ S n,H p=some (.set S n))
 | _=>False
theorem J1{z0:List (Addr×Obj)}{σ:St}{H:Hp}{s:Shared}{T:String}{x:V}{v:Value}(I:Inv X z0 σ H s)(r:RelV x v)(ty:tyV X.K T x H) :
  s.TypeIs v T/\∀ a,v=.ref a->∃ ob,s.heap.get? a=some ob/\ob.dict=none:=by
 cases x with
 | str z =>
  obtain⟨t,rfl⟩:=r;cases (show T="str" from ty);exact⟨typeIs_str s z t,fun _ e=>nomatch e⟩
 | int i =>
  obtain⟨t,rfl⟩:=r;cases (show T="int" from ty);exact⟨typeIs_int s i t,fun _ e=>nomatch e⟩
 | ref p =>
  cases r;rcases ty with⟨rfl,xs,hq⟩ | ⟨rfl,o,hk,hc,hd⟩ | ⟨rfl,hk⟩ | ⟨rfl,S,n,hk⟩
  ·obtain⟨its,_,pl,_⟩:=I.list hq
   refine⟨pl.isList.typeIs,fun a e=>?_⟩;cases e;obtain⟨o,n,e,c,hd,_⟩:=pl;exact⟨o,e,hd⟩
  ·refine⟨⟨o,I.kIn p o hk,hc⟩,fun a e=>?_⟩
   cases e;exact⟨o,I.kIn _ o hk,hd⟩
  ·have z:∃ o,s.heap.get? p=some o/\o.ExactDict:=by
    rcases hk with⟨kvs,hk⟩ | ⟨kvs,hk⟩
    ·obtain⟨_,_,_,_,o,_,_,e,ex,_⟩:=I.hok p _ hk
     exact⟨o,e,ex⟩
    ·obtain⟨_,_,_,_,o,_,_,e,ex,_⟩:=I.hok p _ hk
     exact⟨o,e,ex⟩
   obtain⟨o,e,ex⟩:=z;refine⟨⟨o,e,ex.1⟩,fun a e2=>?_⟩;cases e2;exact⟨o,e,ex.2.1⟩
  ·obtain⟨o,_,_,_,e,ex,_⟩:=I.hok p _ hk
   refine⟨⟨o,e,ex.1⟩,fun a e2=>?_⟩;cases e2;exact⟨o,e,ex.2.1⟩
 | _=>exact False.elim ty
def tBM(K:Z3)(T:String)(r:V->List V->Hp->VK->Prop)(to:TE)(t:TA):TE:=fun σ H Q=>to σ H fun x H1=>tyV K T x H1/\t σ H1 fun xs H2=>r x xs H2 Q
variable {o e:Expr} {es:List Expr} {to:TE} {t:TA} {name:Str} {apos cpos:Pos} {T id:String} {r:V->List V->Hp->VK->Prop}
theorem xr(pa:PlainAttrs T)(slot:Slot T name id)(hty:typeOf (.builtin id)=pure (.type "method_descriptor"))(hm:MtR X id r)(ho:PE X o to)(ha:PA X (e::es) t)
  (hbase:attributeBase o name X.env (eval o X.env)=eval o X.env:=by rfl)
  (hfew : ((backTo cpos (starEach (e :: es) X.env)).all (fun x => !x.1) && (backToKw cpos (keywordEach [] X.env)).all (fun x => x.1.isSome)
   && decide ((e::es).length+([]:List Keyword).length+(if([]:List Keyword).isEmpty then 0 else 1)<30))=true:=by rfl)
  (hline:(apos.endLine==cpos.line)=true:=by rfl) (hs:starEach (e::es) X.env=(false,eval e X.env)::starEach es X.env:=by rfl) (hplain:(backTo cpos (starEach es X.env)).any (·.1)=false:=by rfl) :
  PE X (.Call (.Attribute o name apos) (e::es) [] cpos) (tBM X.K T r to t):=by
 intro z0 s σ H Q I h;refine wpAny_Call_method_late hbase hfew hline rfl (thn (ho z0 s σ H _ I h) fun v s1 ⟨x,H1,I1,r1,ty,q1⟩=>?_);obtain⟨h1,h2⟩:=J1 I1 r1 ty;refine⟨T,id,pa,slot,hty,h1,h2,?_⟩;have hA:=ha cpos z0 s1 σ H1 _ I1 q1;rw[hs] at hA ⊢;refine O0z (by show(false||(backTo cpos (starEach es X.env)).any (·.1))=false;rw[hplain]<;>rfl) (Y0z ?_);exact thn hA fun us s2 ⟨vs,H2,I2,r2,q2⟩=>hm z0 s2 σ H2 x vs v us Q I2 r1 r2 q2
end
def MtM(X:Cx)(id:String)(r:V->List V->Hp->VK->Prop):Prop :=
  ∀ (z0 : List (Addr × Obj)) (s : Shared) (σ : St) (H : Hp) (x : V) (xs : List V) (v : Value) (us : List Value) (Q : VK), Inv X z0 σ H s -> RelV x v -> Vals xs us -> r x xs H Q ->
    wpAny (model X.prog X.w) X.A (call (.builtin id) (v::us)) (EP X z0 σ Q) X.xe s
theorem Vals.one:∀ {x:V} {us:List Value},Vals [x] us->∃ u,us=[u]/\RelV x u
 | _,_,.cons r .nil=>⟨_,rfl,r⟩
theorem Vals.rep{xs:List V}{us:List Value}(h:Vals xs us):∀ k:Nat,Vals (List.replicate k xs).flatten (List.replicate k us).flatten
 | 0=>.nil
 | k+1=>by
  rw[F1z,F1z,W1z,W1z];exact Vals.append h (Vals.rep h k)
theorem foldl_rep(its:List Value):∀ (k:Nat) (acc:List Value),
  List.foldl (fun x1 x2=>x1++x2) acc.toArray (List.replicate k its.toArray)=(acc++(List.replicate k its).flatten).toArray
 | 0,acc=>by simp
 | k+1,acc=>by
  have e:acc.toArray++its.toArray=(acc++its).toArray:=by simp
  have e2:(acc++its)++(List.replicate k its).flatten=acc++(List.replicate (k+1) its).flatten:=by
   rw[F1z,W1z,X1z]
  rw[<- e2,<- foldl_rep its k (acc++its),<- e,F1z,I3z]
section
variable {X:Cx} {z0:List (Addr×Obj)} {σ:St} {H:Hp} {s:Shared} {l b:Addr} {xs ys zs:List V}
theorem Inv.lset{its its':List Value}{n:Nat}{f:Array Value->Array Value}{t':Nat}(I:Inv X z0 σ H s)(hH:H l=some (.lst xs))
  (e:s.heap.get? l=some { cls:=.type "list",data:=.seq its.toArray n }) (hf:f its.toArray=its'.toArray) (hv:Vals ys its') (hz:ys.length<=sizeLine) :
  Inv X z0 σ (upd H l (.lst ys)) { s with heap:=s.heap.update l (Obj.mapSeq f),toks:=t' }:=by
 have q:=PySem.IsL.update e f;rw[hf] at q;refine I.write (x:=l) (e:=l) (by rw[hH];exact trivial) (.inl rfl) (fun b' u hb hu=>(Heap.get?_update_other s.heap (Obj.mapSeq f) (P5z hb)).trans hu) ⟨_,q⟩ ?_;exact⟨hz,its',_,hv,q⟩
theorem Inv.lnew{its:List Value}{t':Nat}(I:Inv X z0 σ H s)(hv:Vals ys its)(hz:ys.length<=sizeLine) :
  Inv X z0 σ (upd H s.heap.objs.size (.lst ys)) { s with heap:=s.heap.push { cls:=.type "list",data:=.seq its.toArray },toks:=t' } :=
 I.laid (fun _ _ q=>Heap.get?_push_of_some _ q) (A5z _) ⟨hz,its,0,hv,Heap.get?_push_size _ rfl⟩
theorem Inv.fresh(I:Inv X z0 σ H s):H s.heap.objs.size=none:=I.hok.fresh (A5z _)
theorem Inv.lstM(I:Inv X z0 σ H s)(hH:H l=some (.lst xs)):xs.length<=sizeLine/\∃ (its:List Value) (n:Nat),Vals xs its/\xs.length=its.length/\s.heap.get? l=some { cls:=.type "list",data:=.seq its.toArray n }:=by
 obtain⟨z,its,n,r,e⟩:=I.hok l _ hH;exact⟨z,its,n,r,r.length,e⟩
theorem mH{n:Nat}(h:n<=sizeLine):Builtin.List.listTooLong n=false:=by
 unfold Builtin.List.listTooLong;exact A3z (by omega)
end
section
variable {X:Cx}
def Gj:V->List V->Hp->VK->Prop:=fun x vs H Q=>∃ l xs y,x=.ref l/\vs=[y]/\H l=some (.lst xs)/\xs.length<sizeLine/\Q .non (upd H l (.lst (xs++[y])))
theorem oM:MtM X "list.append" Gj:=by
 intro z0 s σ H x vs v us Q I rx rv h;obtain⟨l,xs,y,rfl,rfl,hH,hz,q⟩:=h;cases rx;obtain⟨u,rfl,ru⟩:=rv.one;obtain⟨z,its,n,r,hl,e⟩:=I.lstM hH;refine I5z F.slot_list_append ⟨_,e,rfl⟩ F.entry_list_append (F.args_list_append_2 _ _) (PySem.list_append l its.toArray n u (by rw[V1z];omega)) ⟨e,?_⟩;refine⟨.non,_,I.lset (its':=its++[u]) hH e (by simp) (r.append (.cons ru .nil)) ?_,rfl,q⟩;rw[P1z,T0z];omega
theorem len_rep{α:Type}(xs:List α)(k:Nat):(List.replicate k xs).flatten.length=k*xs.length:=by
 induction k with
 | zero=>simp
 | succ k ih=>rw[F1z,W1z,P1z,ih,T4z,Nat.add_comm]
end
section
variable {prog:Program} {w:World} {A:Around} {E:Value->Shared->Prop} {s:Shared}
set_option maxRecDepth 100000 in
end
section
variable {X:Cx}
end
end L2
namespace Att
open PySem PySem.W PySem.Calls PyProof.Rows
theorem jM{P:Params}{h:Heap}:∀ (ns:List Int) (vs:List Value),WellAll P h vs (ns.map WData.int)->IntsAre vs ns:=by
 intro ns
 induction ns with
 | nil =>
  intro vs w;rw[U4z] at w;cases w;exact .nil
 | cons n ns ih =>
  intro vs w;rw[I4z] at w
  cases w with
  | cons a b =>
   cases a;exact .cons _ _ (ih _ b)
theorem wI{l:OpenLaw}{n:Nat}(hn:l.most=some n){P:Params}{h:Heap}{args:List WData}{vals:List Value}
  (hpre:l.row.toRowW.claim.pre args=true) (hwl:WellAll P h vals args) :
  ∃ a vs ns,vals=[Value.ref a]/\args=[WData.list (ns.map WData.int)]/\h.get? a=some { cls:=.type "list",data:=.seq vs.toArray }/\IntsAre vs ns/\ns.length<=n:=by
 have hsh:WShape.hasAll [] args [.list .int]=true:=(pre_splitW hpre).1;have hc:l.pre.holds [] { args:=args }=true:=(pre_splitW hpre).2;obtain⟨d,r,rfl,h1,h2⟩:=hasAllW_cons hsh;obtain rfl:=hasAllW_nil h2;obtain⟨xs,rfl,h3⟩:=hasW_list h1;obtain⟨ns,rfl⟩:=items_int h3
 have hlen:ns.length<=n:=by
  unfold OpenLaw.pre at hc
  have h4:(WTm.not (.lt (.lit (.int n)) (.len (.arg 0)))).holds [] { args:=[.list (ns.map .int)] }=true:=by
   have h4:=(holds_andW hc).1;rw[hn] at h4;exact h4
  have h5:=condW_of h4 (w_not (w_lt w_lit (w_len_list (w_arg rfl))));rw[G3z] at h5;refine Nat.le_of_not_lt fun q=>?_
  have q':(n:Int)<((ns.length:Nat):Int):=by omega
  first
   | (rw[Y3z q'] at h5;exact absurd h5 (by decide))
   | (simp at h5;omega)
 cases hwl with
 | cons w1 w2 =>
  cases w2
  cases w1 with
  | list ho hall=>exact⟨_,_,ns,rfl,rfl,ho,jM ns _ hall,hlen⟩
theorem wZ(l:OpenLaw)(args:List WData):l.row.toRowW.claim.post args (.bool true) args=true :=
 postW_of (r:=l.row.toRowW) (X:=(true==true))
  (show WShape.has [] (.bool true) .bool=true by first | rfl | decide | simp[WShape.has,WShape.arms,WShape.armsAll])
  (show(WTm.eq .res (.lit (.bool true))).value [] { args:=args,res:=some (.bool true),after:=args }=some (.bool (true==true)) from w_eq_bool (w_res rfl) w_lit) rfl
theorem qZ{l:OpenLaw}{n:Nat}{q:Program}{loose:List Str}{XP:(Str->Option Value)->Heap->Prop}{YP:World->Heap->Prop}{d:DefRec}
  (hn:l.most=some n) (hdf:d.params.defaults=[])
  (call : ∀ (w : World) (s₀ s₁ : Shared) (mg mb : Str -> Option Value) (fa : Addr) (o : Obj) (pm cd doc : Value) (a : Addr) (vs : List Value) (ns : List Int),
   Ground q loose [] XP w s₀ mg mb s₁.heap->YP w s₁.heap ->
   s₁.heap.get? fa=some o->o.data=.func (docDef d.name d.params d.body d.scope pm cd doc)->s₁.heap.CodeRec cd d.name->mg d.name=some (.ref fa) ->
   s₁.heap.get? a=some { cls:=.type "list",data:=.seq vs.toArray }->IntsAre vs ns->ns.length<=n->s₁.gens = #[] ->
   codeAny (model l.prog w) callerA (.call (.ref fa) ⟨[.ref a],[]⟩) (fun r s'=>r=.ok (.ret (.bool true))/\OldK s₁.heap s'.heap/\s'.os=s₁.os/\AllBare s'.gens) s₁) :
  WalkO q loose XP YP l.row.toRowW d [] (fun f vs=>PySem.call f vs):=by
 intro w s₀ s₁ mg mb G Y fa o pm cd doc dV kV ho hd hcd hD hmg hg args vals as hpre hlay hrd hwl hlo;obtain rfl:dV=.none:=Dflts.none hD hdf;obtain rfl:kV=.none:=Dflts.noKw hD;obtain⟨a,vs,ns,rfl,rfl,hobj,hints,hlen⟩:=wI hn hpre hwl;refine enter_call (S4z (call w s₀ s₁ mg mb fa o pm cd doc a vs ns G Y ho (fd_plain hd) hcd hmg hobj hints hlen hg) fun r s' hq=>?_);obtain⟨rfl,h2,h3,h4⟩:=hq;exact⟨.inl ⟨.bool true,.bool true,[],rfl,fun _=>rfl,.bool true,wZ l _,fun _=>⟨List.Pairwise.nil,fun _ hm=>(nomatch hm)⟩⟩,h2,h3,h4⟩
section
variable {prog:Program} {w:World} {A:Around} {E:Value->Shared->Prop} {s:Shared} {K:Frag}
def ledger(h:Heap)(L d:Addr):List (Addr×Obj):=(List.range h.objs.size).filterMap fun a=>if a=L\/a=d then none else(h.get? a).map fun o=>(a,o)
end
end Att
namespace L2
open PySem PySem.Spec PyProof.Rows
theorem nM:∀ {vs:List Value} {ns:List Int},IntsAre vs ns->Vals (ns.map V.int) vs
 | _,_,.nil=>.nil
 | _,_,.cons n t h=>.cons ⟨t,rfl⟩ (nM h)
def Only(H:Hp):Prop:=∀ b,H b=none\/∃ o xs,H b=some (.frz o (.lst xs))
theorem Bu{P:Program}{w:World}{K:Z3}{mg mb:Str->Option Value}{CX:CXT}{k:Nat}{fa a:Addr}{fd:FuncData}{x:Str}{sp:Sp}{s₁:Shared}{vs:List Value}{ns:List Int}
  (KX:K.In s₁.heap) (hns:s₁.heap.Ns mainGlobals mg) (hb:s₁.heap.Ns builtinsNs mb) (hbb:∀ x:Str,x≠"__name__"->mb x=bootBuiltins x) (hlim:s₁.heap.NoLimit) (hg:s₁.gens = #[])
  (ha:s₁.heap.get? a=some { cls:=.type "list",data:=.seq vs.toArray }) (hi:IntsAre vs ns) (hl:ns.length<=sizeLine) (hr:Room k callerA)
  (F:∀ base:Heap,K.In base->base.Ns mainGlobals mg->FnOk P w K mg base CX k fa fd [x] sp) (hbind:∀ (s:Shared) (u:Value),BindsTo s fd ⟨[u],[]⟩ [(x,u)])
  (hsp:∀ H:Hp,Only H->SqL K H a (ns.map V.int)->sp [.ref a] H (fun v _=>v=.bl true) fun _ _ _=>False)
  (hCX:∀ H e s',CX [] H s₁ (fun _ _ _=>False) e s'->False) :
  codeAny (model P w) callerA (.call (.ref fa) ⟨[.ref a],[]⟩) (fun r s'=>r=.ok (.ret (.bool true))/\OldK s₁.heap s'.heap/\s'.os=s₁.os/\AllBare s'.gens) s₁:=by
 have rv:=nM hi;have lenV:=hi.length
 have core:∀ H:Hp,Only H->SqL K H a (ns.map V.int)->HOk P w H s₁.heap->(∀ b,H b≠none->b=a)->(H a≠none->K.lookup a=none) ->
   codeAny (model P w) callerA (.call (.ref fa) ⟨[.ref a],[]⟩) (fun r s'=>r=.ok (.ret (.bool true))/\OldK s₁.heap s'.heap/\s'.os=s₁.os/\AllBare s'.gens) s₁:=by
  intro H hO hS hok hA hK;have base_of:∀ {b:Addr} {o:Obj},s₁.heap.get? b=some o->H b=none->(BK s₁.heap H).get? b=some o:=fun e n=>BJ e n
  have noA:∀ {b:Addr} {o:Obj} {es:Array DictEntry} {ep:Nat},s₁.heap.get? b=some o->o.data=.dict es ep->H b=none:=fun {b o es ep} e d=>by
   cases q:H b with
   | none=>rfl
   | some u =>
    have e':b=a:=hA b (by rw[q];simp)
    subst e';rw[ha] at e;cases e;have d':Data.seq vs.toArray _=Data.dict es ep:=d;cases d'
  have nsK:∀ {b:Addr} {m:Str->Option Value},s₁.heap.Ns b m->(BK s₁.heap H).Ns b m:=fun {b m} ⟨o,es,ep,e,d,r⟩=>⟨o,es,ep,base_of e (noA e d),d,r⟩
  have hKb:K.In (BK s₁.heap H):=fun b o e=>base_of (KX b o e) (by
   cases q:H b with
   | none=>rfl
   | some u =>
    have e':b=a:=hA b (by rw[q];simp)
    subst e'
    rw[hK (by rw[q];simp)] at e;cases e)
  have hM:Mod K mg (BK s₁.heap H):=⟨hKb,nsK hns,⟨mb,nsK hb,hbb⟩,let ⟨mc,h1,h2⟩:=hlim;⟨mc,nsK h1,h2⟩⟩
  have e0:Env0 P w K mg (BK s₁.heap H) callerA [] s₁ H:=⟨rfl,hM,fun b o e=>G9 e,Nat.le_of_eq (yx _ _),trivial,fun b hb=>absurd (show b∈([]:List Addr) from hb) (by simp),hok,.of_eq hg⟩;refine S4z ((F _ hKb (nsK hns)).run callerA [] s₁ H ⟨[.ref a],[]⟩ [.ref a] [.ref a] _ _ hr e0 (hbind s₁ (.ref a)) (.cons rfl .nil) (hsp H hO hS)) fun r s' h=>?_
  cases r with
  | error e=>exact(hCX H e s' h).elim
  | ok fl =>
   cases fl with
   | next=>exact False.elim h
   | brk=>exact False.elim h
   | cont=>exact False.elim h
   | ret u =>
    obtain⟨v,H',os,bare,un,hok',r',q⟩:=h;have q':v=.bl true:=q;subst q';obtain rfl:u=Value.bool true:=r';refine⟨rfl,OldK.of_keep fun b o e=>?_,os,bare⟩
    cases q:H b with
    | none=>exact un.keep b o e q (by intro z;exact absurd (show b∈([]:List Addr) from z) (by simp)) (by simp)
    | some u =>
     rcases hO b with z | ⟨ob,xs,z⟩
     ·rw[q] at z;cases z
     ·have z2:=un.frzs b ob _ z
      obtain⟨e1,_⟩:=hok b _ z;obtain⟨e2,_⟩:=hok' b _ z2;rw[e] at e1;cases e1;exact e2
 cases hk:K.lookup a with
 | some o =>
  have e:=KX a o hk;rw[ha] at e;cases e;refine core (fun _=>none) (fun _=>.inl rfl) (.inr ⟨_,vs.toArray,_,hk,rfl,rfl,rfl,by rw[V1z,lenV];exact hl,by simpa using rv⟩) (fun b u z=>by have z':(none:Option HO)=some u:=z;cases z') (fun b z=>absurd rfl z) fun z=>absurd rfl z
 | none =>
  refine core (fun b=>if b=a then some (.frz { cls:=.type "list",data:=.seq vs.toArray } (.lst (ns.map V.int))) else none) (fun b=>?_) (.inl (.inr ⟨{ cls:=.type "list",data:=.seq vs.toArray },R5z rfl⟩)) (fun b u z=>?_) (fun b z=>?_) fun _=>hk
  ·by_cases hb:b=a
   ·exact .inr ⟨_,_,R5z hb⟩
   ·exact .inl (S5z hb)
  ·by_cases hb:b=a
   ·have z':=(R5z hb).symm.trans z
    cases z';subst hb;exact⟨ha,by rw[G3z];exact hl,vs,_,rv,ha⟩
   ·have z':=(S5z hb).symm.trans z
    cases z'
  ·by_cases hb:b=a
   ·exact hb
   ·exact absurd (S5z hb) z
theorem Fp{l:PySem.W.OpenLaw}{n k:Nat}{q:Program}{loose:List Str}{XP:(Str->Option Value)->Heap->Prop}{YP:World->Heap->Prop}{d:DefRec}{K:Params->Z3}{CX:World->CXT}{sp:World->Sp}{x:Str}
    (hn:l.most=some n) (hn2:n<=sizeLine) (hdf:d.params.defaults=[]) (hr:Room k callerA)
    (hY:∀ (w:World) (h:Heap),YP w h->(K w.params).In h)
    (F:∀ (w:World) (mg:Str->Option Value) (fa:Addr) (h:Heap),(K w.params).In h->h.Ns mainGlobals mg->mg d.name=some (.ref fa) ->
      ∃ fd : FuncData, (∀ (s : Shared) (u : Value), BindsTo s fd ⟨[u], []⟩ [(x, u)]) /\
        ∀ base:Heap,(K w.params).In base->base.Ns mainGlobals mg->FnOk l.prog w (K w.params) mg base (CX w) k fa fd [x] (sp w))
    (hsp:∀ (w:World) (H:Hp) (a:Addr) (ns:List Int),ns.length<=n->Only H->SqL (K w.params) H a (ns.map V.int)->sp w [.ref a] H (fun v _=>v=.bl true) fun _ _ _=>False)
    (hCX:∀ (w:World) (H:Hp) (s:Shared) (e:Value) (s':Shared),CX w [] H s (fun _ _ _=>False) e s'->False) :
    PySem.W.WalkO q loose XP YP l.row.toRowW d [] (fun f vs=>PySem.call f vs):=by
  refine Att.qZ hn hdf fun w s₀ s₁ mg mb fa o pm cd doc a vs ns G Y ho hd hcd hmg hobj hints hlen hg=>?_
  have KX:=hY w _ Y
  obtain⟨fd,hb,hF⟩:=F w mg fa _ KX G.T.g hmg
  exact Bu KX G.T.g G.T.b G.T.builtins G.T.nolimit hg hobj hints (Q4z hlen hn2) hr hF hb (fun H hO hS=>hsp w H a ns hlen hO hS) fun H e s'=>hCX w H s₁ e s'
def dY(s:Stmt):Arguments:=match s with
 | .FunctionDef _ a _ _ _ _ _ _ _ _=>a
 | _=>{ posonlyargs:=[],args:=[],vararg:=none,kwonlyargs:=[],kw_defaults:=[],kwarg:=none,defaults:=[] }
def bV(s:Stmt):List Stmt:=match s with
 | .FunctionDef _ _ b _ _ _ _ _ _ _=>b
 | _=>[]
def bh(s:Stmt):Scope:=match s with
 | .FunctionDef _ _ _ _ _ _ sc _ _ _=>sc
 | _=>{ kind:=.function,names:=[],isGenerator:=false,isCoroutine:=false }
abbrev CX0:CXT:=fun _ _ _ _ _ _=>False
abbrev E0:XK:=fun _ _ _=>False
structure Fun (K:Z3) (x qual:Str) (st:Stmt) (f:Addr) (fd:FuncData):Prop where
 ex:∃ (oc:Value) (od:Option Addr) (kV doc pm:Value) (an:Option Addr) (cdv ct:Value) (osl:Array (Option Value)),
  fd=PySem.W.fnOf x qual (dY st) (bV st) (bh st) .none kV doc pm an cdv ct/\K.lookup f=some ⟨oc,od,.func fd,osl⟩/\PySem.W.codeIn K cdv qual=true
 kp:PySem.W.keepIn K (.ref f)=true
section
variable {P:Program} {w:World} {K:Z3} {mg:Str->Option Value} {base:Heap}
theorem Fun.binds{x qual:Str}{st:Stmt}{f:Addr}{fd:FuncData}{ps:List Str}(F:Fun K x qual st f fd)
  (h:∀ (kV doc pm:Value) (an:Option Addr) (cdv ct:Value) (us:List Value),us.length=ps.length->bindArgs (PySem.W.fnOf x qual (dY st) (bV st) (bh st) .none kV doc pm an cdv ct) ⟨us,[]⟩=pure (ps.zip us)):Binds K fd ps []:=by
 obtain⟨oc,od,kV,doc,pm,an,cdv,ct,osl,rfl,lk,hcd⟩:=F.ex;exact .all (h kV doc pm an cdv ct)
theorem yF{x qual:Str}{st:Stmt}{f:Addr}{oc:Value}{od an:Option Addr}{osl:Array (Option Value)}{kV doc pm cdv ct:Value}(l:K.lookup f=some ⟨oc,od,.func (PySem.W.fnOf x qual (dY st) (bV st) (bh st) .none kV doc pm an cdv ct),osl⟩)
  (c:PySem.W.codeIn K cdv qual=true) (k:PySem.W.keepIn K (.ref f)=true):Fun K x qual st f (PySem.W.fnOf x qual (dY st) (bV st) (bh st) .none kV doc pm an cdv ct):=⟨⟨oc,od,kV,doc,pm,an,cdv,ct,osl,rfl,l,c⟩,k⟩
end
section
variable {X:Cx}
end
theorem yt{A B:Prop}(h:B):if false=true then A else B:=by
 rw[S5z L1z];exact h
theorem vH{A B:Prop}(h:A):if true=true then A else B:=by
 rw[R5z rfl];exact h
def Same(H H':Hp):Prop:=∀ b o,H b=some o->H' b=some o
theorem Same.refl(H:Hp):Same H H:=fun _ _ h=>h
theorem Same.trans{H H1 H2:Hp}(a:Same H H1)(b:Same H1 H2):Same H H2:=fun c o h=>b c o (a c o h)
theorem Same.free{H H':Hp}(e:Same H H'){l:Addr}(h:H' l=Option.none):H l=Option.none:=by
 cases q:H l with
 | none=>rfl
 | some o =>
  rw[e l o q] at h;cases h
theorem Same.seq{K:Z3}{H H':Hp}{a:Addr}{xs:List V}(e:Same H H')(h:SqL K H a xs):SqL K H' a xs:=by
 rcases h with(h | ⟨o,h⟩) | h
 ·exact .inl (.inl (e _ _ h))
 ·exact .inl (.inr ⟨o,e _ _ h⟩)
 ·exact .inr h
def iR(cells:List (Str×Addr)):List (Str×NameKind)->List (Str×Addr)->List (Str×Addr)
 | [],acc=>acc
 | (x,k)::r,acc=>if k==.free then iR cells r ((x,(cells.lookup x).getD 0)::acc) else iR cells r acc
theorem mV{env:Env}(f:Str×NameKind->List (Str×Addr)->Sem (ForInStep (List (Str×Addr))))
  (hf:∀ name kind cs,f (name,kind) cs=if kind==.free then(do let a <- cellOf env name;pure (.yield ((name,a)::cs))) else pure (.yield cs)) :
  ∀ (l:List (Str×NameKind)) (acc:List (Str×Addr)),(∀ x,(x,NameKind.free)∈l->∃ c,env.cells.lookup x=some c)->(forIn l acc f:Sem (List (Str×Addr)))=pure (iR env.cells l acc)
 | [],acc,_=>by rw[Z3z];rfl
 | (x,k)::r,acc,h=>by
  rw[J3z,hf];unfold iR
  cases hk:k==NameKind.free with
  | false =>
   simp only[Q1z,O5z];show(forIn r acc f:Sem _)=_;exact mV f hf r acc fun y hy=>h y (W0z _ hy)
  | true =>
   simp only[Q5z]
   have ek:k=.free:=by simpa using hk
   obtain⟨c,hc⟩:=h x (by rw[ek];exact K1z)
   have e1:cellOf env x=pure c:=by unfold cellOf;rw[hc]
   rw[e1,hc];show(forIn r ((x,c)::acc) f:Sem _)=_;exact mV f hf r _ fun y hy=>h y (W0z _ hy)
theorem fD{env:Env}{scope:Scope}(h:∀ x,(x,NameKind.free)∈scope.names->∃ c,env.cells.lookup x=some c):closureFor scope env=pure (iR env.cells scope.names []):=by
 simp only[closureFor];rw[mV (env:=env) _ (fun name kind cs=>by cases hk:kind==NameKind.free<;>simp[hk]) scope.names [] h];rfl
theorem qG{M:Model}{A:Around}{E:Value->Shared->Prop}{s:Shared}{scope:Scope}{globals:Addr}{closure:List (Str×Addr)}{qual:Str}{outer:Env}{Q:Env->Shared->Prop}
  (hQ:Q (newEnv scope s.heap.objs.size globals (cellsFrom (s.heap.objs.size+1) scope.names closure) qual none .none (some outer) builtinsNs) { s with heap:=pushCells (s.heap.push { cls:=.type "dict",data:=.dict #[] }) scope.names }) :
  wpAny M A (newFunctionEnv scope globals closure [] qual none .none (some outer)) Q E s:=by
 simp only[newFunctionEnv,Option.isSome_some,Q5z];refine F5z (wpAny_alloc ?_);refine F5z (wpAny_layCells _ (fun name kind cells=>by cases hkc:kind==NameKind.cell<;>simp[hkc]) _ _ _ _ ?_);rw[show({ s with heap:=s.heap.push { cls:=.type "dict",data:=.dict #[] } }:Shared).heap.objs.size=s.heap.objs.size+1 from A4z ..];rw[Z3z];exact F5z (G5z (G5z hQ))
theorem gM{α:Type}:∀ {l:List (Str×α)} {x:Str} {c:α},(x,c)∈l->∃ d,l.lookup x=some d
 | (y,d)::r,x,c,h=>by
  rw[L2z]
  cases hb:x==y with
  | true=>exact⟨d,rfl⟩
  | false =>
   rcases List.mem_cons.mp h with e | h
   ·cases e;simp at hb
   ·exact gM h
theorem bT{α:Type}:∀ {l:List (Str×α)} {x:Str} {c:α},(l.map (·.1)).Nodup->(x,c)∈l->l.lookup x=some c
 | (y,d)::r,x,c,hn,h=>by
  rw[I4z,K3z] at hn;rw[L2z];rcases List.mem_cons.mp h with e | h'
  ·cases e;simp
  ·have hne:(x==y)=false:=by
    rw[G1z];intro exy;exact hn.1 (List.mem_map.mpr ⟨(x,c),h',exy⟩)
   rw[hne];exact bT hn.2 h'
theorem cU{x:Str}{c:Addr}:∀ (names:List (Str×NameKind)) (n:Nat) (acc:List (Str×Addr)),(cellsFrom n names acc).lookup x=some c ->
  ((x,NameKind.cell)∈names/\n<=c)\/((x,NameKind.cell)∉names/\acc.lookup x=some c)
 | [],_,_,h=>.inr ⟨by simp,h⟩
 | (y,k)::r,n,acc,h=>by
  unfold cellsFrom at h
  cases hk:k==NameKind.cell with
  | true =>
   have ek:k=.cell:=by simpa using hk
   subst ek;rw[R5z (show(NameKind.cell==NameKind.cell)=true from rfl)] at h;rcases cU r _ _ h with⟨h1,h2⟩ | ⟨h1,h2⟩
   ·exact .inl ⟨W0z _ h1,by omega⟩
   ·rw[L2z] at h2
    cases hb:x==y with
    | true =>
     rw[hb] at h2;cases h2
     have:x=y:=by simpa using hb
     subst this;exact .inl ⟨K1z,A5z _⟩
    | false =>
     rw[hb] at h2;refine .inr ⟨fun hm=>?_,h2⟩;rcases List.mem_cons.mp hm with e | hm
     ·cases e;simp at hb
     ·exact h1 hm
  | false =>
   rw[hk] at h;simp only[Q1z,O5z] at h;rcases cU r _ _ h with⟨h1,h2⟩ | ⟨h1,h2⟩
   ·exact .inl ⟨W0z _ h1,h2⟩
   ·refine .inr ⟨fun hm=>?_,h2⟩
    rcases List.mem_cons.mp hm with e | hm
    ·cases e;simp at hk
    ·exact h1 hm
theorem dI:∀ (names:List (Str×NameKind)) (n:Nat) (acc:List (Str×Addr)),(acc.Pairwise fun x y=>x.2≠y.2)->(∀ p∈acc,p.2<n)->(cellsFrom n names acc).Pairwise fun x y=>x.2≠y.2
 | [],_,_,h,_=>h
 | (y,k)::r,n,acc,h,hl=>by
  unfold cellsFrom;split
  ·refine dI r _ _ (List.pairwise_cons.mpr ⟨fun p hp e=>?_,h⟩) fun p hp=>?_
   ·have e':n=p.2:=e
    have q:=hl p hp;rw[<- e'] at q;exact F4z _ q
   ·rcases List.mem_cons.mp hp with e | hp
    ·subst e;exact M2z _
    ·exact Y1z (hl p hp)
  ·exact dI r _ _ h hl
theorem qU{cells:List (Str×Addr)}(inj:∀ x y c,cells.lookup x=some c->cells.lookup y=some c->x=y):∀ (names:List (Str×NameKind)) (acc:List (Str×Addr)),(names.map (·.1)).Nodup->(∀ x,(x,NameKind.free)∈names->∃ c,cells.lookup x=some c) ->
  (acc.Pairwise fun x y=>x.2≠y.2)->(∀ p∈acc,cells.lookup p.1=some p.2/\p.1∉names.map (·.1))->((iR cells names acc).Pairwise fun x y=>x.2≠y.2)/\∀ p∈iR cells names acc,cells.lookup p.1=some p.2
 | [],acc,_,_,h1,h2=>⟨h1,fun p hp=>(h2 p hp).1⟩
 | (y,k)::r,acc,hn,hf,h1,h2=>by
  rw[I4z,K3z] at hn;have hf':∀ x,(x,NameKind.free)∈r->∃ c,cells.lookup x=some c:=fun x hx=>hf x (W0z _ hx);unfold iR;split
  ·rename_i hk
   have ek:k=.free:=by simpa using hk
   subst ek;obtain⟨c,hc⟩:=hf y K1z;rw[hc];refine qU inj r _ hn.2 hf' (List.pairwise_cons.mpr ⟨fun p hp e=>?_,h1⟩) fun p hp=>?_
   ·have e':c=p.2:=e
    obtain⟨a1,a2⟩:=h2 p hp;rw[<- e'] at a1;have:=inj _ _ _ a1 hc;exact a2 (by rw[this];simp)
   ·rcases List.mem_cons.mp hp with e | hp
    ·subst e;exact⟨hc,hn.1⟩
    ·exact⟨(h2 p hp).1,fun z=>(h2 p hp).2 (W0z _ z)⟩
  ·exact qU inj r _ hn.2 hf' h1 fun p hp=>⟨(h2 p hp).1,fun z=>(h2 p hp).2 (W0z _ z)⟩
theorem m7{cells:List (Str×Addr)}{p:Str×Addr}:∀ (names:List (Str×NameKind)) (acc:List (Str×Addr)),p∈acc->p∈iR cells names acc
 | [],_,h=>h
 | (y,k)::r,acc,h=>by
  unfold iR;split
  ·exact m7 r _ (W0z _ h)
  ·exact m7 r _ h
theorem m6{cells:List (Str×Addr)}{x:Str}:∀ (names:List (Str×NameKind)) (acc:List (Str×Addr)),(x,NameKind.free)∈names->∃ c,(x,c)∈iR cells names acc
 | (y,k)::r,acc,h=>by
  unfold iR;rcases List.mem_cons.mp h with e | h
  ·cases e
   rw[R5z (show(NameKind.free==NameKind.free)=true from rfl)];exact⟨_,m7 r _ K1z⟩
  ·split
   ·exact m6 r _ h
   ·exact m6 r _ h
theorem dW{env:Env}{x:Str}:∀ (names:List (Str×NameKind)),
  (names.map fun (n, k) => if (k == NameKind.free && env.scope.kind == .function && env.kindOf n == some .cell) then (n, NameKind.cell) else (n, k)).lookup x =
   (names.lookup x).map fun k=>if(k==NameKind.free&&env.scope.kind==.function&&env.kindOf x==some .cell) then NameKind.cell else k
 | []=>rfl
 | (y,k)::r=>by
  have ih:=dW (x:=x) (env:=env) r
  by_cases hx:x=y
  ·subst hx
   cases hc:(k==NameKind.free&&env.scope.kind==.function&&env.kindOf x==some .cell)<;>simp only[I4z,hc,L2z,N2z,L3z,Q5z,O5z,Q1z]
  ·have hb:(x==y)=false:=by simpa using hx
   cases hc:(k==NameKind.free&&env.scope.kind==.function&&env.kindOf y==some .cell)<;>simp only[I4z,hc,L2z,hb,Q5z,O5z,Q1z]<;>exact ih
def rO(N:List Str)(σ:St)(x:Str):Option V:=match N.idxOf? x with
 | some j=>(σ[j]?).getD none
 | none=>none
def qH(N:List Str)(names:List (Str×NameKind))(σ:St):St:=names.map fun p=>if p.2==.free then rO N σ p.1 else none
def tR(scope:Scope)(cells:List (Str×Addr))(C:Addr)(env:Env):Env :=
 { scope:=relabel scope env,locals:=C,globals:=env.globals,cells:=cells,qual:=env.qual,func:=none,code:=env.code,frame:=env.frame,builtins:=env.builtins }
structure CompOf (X:Cx) (scope:Scope) (Xc:Cx):Prop where
 prog:Xc.prog=X.prog
 w:Xc.w=X.w
 K:Xc.K=X.K
 mg:Xc.mg=X.mg
 base:Xc.base=X.base
 A:Xc.A=X.A
 N:Xc.N=scope.names.map (·.1)
 sc:Xc.env.scope=relabel scope X.env
 calm:Xc.calm=true
 fn:Xc.fn=fun x=>scope.names.lookup x==some .cell
 xe:Xc.xe=fun _ _=>False
def pq(X:Cx)(scope:Scope)(cells:List (Str×Addr))(C:Addr)(s:Shared)(H:Hp)(fp:List Addr):Cx where
 prog:=X.prog
 w:=X.w
 K:=X.K
 mg:=X.mg
 base:=X.base
 A:=X.A
 N:=scope.names.map (·.1)
 s₀:=s
 H₀:=H
 env:=tR scope cells C X.env
 outer:=X.stack
 stack:=X.stack
 ex:=fp
 fn:=fun x=>scope.names.lookup x==some .cell
 calm:=true
 pn:=[]
 xe:=fun _ _=>False
def zZ(X:Cx)(ifs:List Expr)(t:TT):Prop :=
  ∀ (z0 : List (Addr × Obj)) (s : Shared) (σ : St) (H : Hp) (Q : Bool -> Hp -> Prop), Inv X z0 σ H s -> t σ H Q ->
    wpAny (model X.prog X.w) X.A (forIn ifs true fun c r=>if r=true then do let ok <- isTrue c X.env (eval c X.env);pure (ForInStep.yield ok) else pure (ForInStep.yield r)) (TP X z0 σ Q) X.xe s
theorem Az{X:Cx}:zZ X [] (fun _ H Q=>Q true H):=fun _ _ _ H _ I h=>wpAny_tests_nil ⟨H,I,h⟩
theorem Ay{X:Cx}{c:Expr}{t:TT}(h:PT X c t):zZ X [c] t:=fun z0 s σ H Q I hw=>wpAny_tests_one (h z0 s σ H Q I hw)
def qt(X:Cx)(scope:Scope)(wi:TI)(mk:St->St)(g:Cx->TG)(tc:Cx->TT)(te:Cx->TE):TE:=fun σ H Q=>wi σ H fun J H1=>∀ acc,H1 acc=none->∀ Xc,CompOf X scope Xc ->
  ∃ W : Nat -> Nat -> St -> Hp -> Prop, (∃ m, W 0 m (mk σ) (upd H1 acc (.lst []))) /\ ∀ i m σc H, W i m σc H ->
    (J.stop i H/\Q (.ref acc) H)\/(J.go i H/\∃ N:St->Hp->Prop,(∀ σ' H',N σ' H'->∃ m',m'<m/\W (i+1) m' σ' H')/\∀ x H',J.yld i H x H' ->
      g Xc x σc H' fun σ2 H2=>tc Xc σ2 H2 fun b H3=>if b=true then te Xc σ2 H3 fun v H4=>∃ ys,H4 acc=some (.lst ys)/\ys.length<sizeLine/\N σ2 (upd H4 acc (.lst (ys++[v]))) else N σ2 H3)
theorem fO{prog:Program}{w:World}{A:Around}{R:Result->Shared->Prop}{s:Shared}{elt target iter:Expr}{ifs:List Expr}{scope:Scope}{pos:Pos}{it acc:Value}{env:Env}(I:Nat->Shared->Prop)
  (turn:∀ n s,I n s->wpAny (model prog w) A (pyNext it) (fun r s₁=>match r with
   | none=>R (.ok .next) s₁
   | some v=>wpAny (model prog w) A (letOwnedTupleGo target it v) (fun _ s₁'=>wpAny (model prog w) A (assign target env v) (fun _ s₂ =>
     wpAny (model prog w) A (forIn ifs true fun c r=>if r=true then do let ok <- isTrue c env (eval c env);pure (ForInStep.yield ok) else pure (ForInStep.yield r)) (fun ok s₃ =>
      if ok=true then wpAny (model prog w) A (eval elt env) (fun x s₄ =>
       wpAny (model prog w) A (call (.builtin "list.append") [acc,x]) (fun _ s₅=>∃ m,m<n/\I m s₅) (fun _ _=>False) s₄) (fun _ _=>False) s₃
      else ∃ m,m<n/\I m s₃) (fun _ _=>False) s₂) (fun _ _=>False) s₁') (fun _ _=>False) s₁) (fun _ _=>False) s)
  (n:Nat) (h:I n s) :
  codeAny (model prog w) A (.compLoop (.ListComp elt [⟨target,iter,ifs,0⟩] scope pos) 0 it acc env) R s:=by
 refine codeAny_loop rfl I (fun n s hI=>?_) n h;show wpAny _ A ((compTurn (.ListComp elt [⟨target,iter,ifs,0⟩] scope pos) 0 it acc env).onRaise (fun x=>do noteFrame x env;theTreesLotGoes x)) _ _ s;refine wpAny_noted ?_;rw[compTurn_list];refine F5z (H4z (F5z (E5z (turn n s hI) (fun r s₁ h₁=>?_) fun _ _ h'=>h'.elim)))
 cases r with
 | none=>exact G5z h₁
 | some v =>
  refine F5z (E5z h₁ (fun _ s₁' h₁'=>?_) fun _ _ h'=>h'.elim);refine F5z (E5z h₁' (fun _ s₂ h₂=>F5z (E5z h₂ (fun ok s₃ h₃=>?_) fun _ _ h'=>h'.elim)) fun _ _ h'=>h'.elim)
  cases ok with
  | false=>exact G5z ⟨rfl,h₃⟩
  | true =>
   exact F5z (F5z (E5z h₃ (fun x s₄ h₄=>F5z (E5z h₄ (fun _ s₅ h₅=>G5z (G5z ⟨rfl,h₅⟩)) fun _ _ h'=>h'.elim)) fun _ _ h'=>h'.elim))
section
variable {X:Cx}
theorem iJ{z0:List (Addr×Obj)}{σ:St}{H:Hp}{s:Shared}{scope:Scope}(I:Inv X z0 σ H s)(hnd:(scope.names.map (·.1)).Nodup)
  (hcap:∀ x,(x,NameKind.free)∈scope.names->X.env.kindOf x=some .cell\/X.env.kindOf x=some .free) :
  (∀ x,(x,NameKind.free)∈scope.names->∃ c,X.env.cells.lookup x=some c) /\
  ((cellsFrom (s.heap.objs.size+1) scope.names (iR X.env.cells scope.names [])).Pairwise fun x y=>x.2≠y.2) /\
  (∀ x c,(cellsFrom (s.heap.objs.size+1) scope.names (iR X.env.cells scope.names [])).lookup x=some c->((x,NameKind.cell)∈scope.names/\s.heap.objs.size+1<=c)\/((x,NameKind.cell)∉scope.names/\X.env.cells.lookup x=some c/\c<s.heap.objs.size)) /\
  (∀ x,(x,NameKind.free)∈scope.names->(cellsFrom (s.heap.objs.size+1) scope.names (iR X.env.cells scope.names [])).lookup x=X.env.cells.lookup x):=by
 have hf:∀ x,(x,NameKind.free)∈scope.names->∃ c,X.env.cells.lookup x=some c:=fun x hx=>I.ok.has x (hcap x hx);have ok:=qU I.ok.inj scope.names [] hnd hf List.Pairwise.nil (fun p hp=>absurd hp (by simp))
 have small:∀ x c,X.env.cells.lookup x=some c->c<s.heap.objs.size:=fun x c e=>by
  obtain⟨v,z⟩:=I.cell x c e;exact z.lt
 refine⟨hf,dI _ _ _ ok.1 fun p hp=>Y1z (small p.1 p.2 (ok.2 p hp)),fun x c e=>?_,fun x hx=>?_⟩
 ·rcases cU _ _ _ e with h | ⟨h1,h2⟩
  ·exact .inl h
  ·have h3:=ok.2 _ (E1z h2)
   exact .inr ⟨h1,h3,small _ _ h3⟩
 ·obtain⟨c,hc⟩:=hf x hx
  have nc:(x,NameKind.cell)∉scope.names:=fun z=>by
   have e1:=bT hnd z;rw[bT hnd hx] at e1;cases e1
  obtain⟨d,hd⟩:=m6 (cells:=X.env.cells) scope.names [] hx;obtain⟨d',hd'⟩:=gM hd;have hs:((cellsFrom (s.heap.objs.size+1) scope.names (iR X.env.cells scope.names [])).lookup x).isSome=true:=M0z _ _ _ (.inr (by rw[hd'];rfl));obtain⟨c',hc'⟩:=Option.isSome_iff_exists.mp hs;rcases cU _ _ _ hc' with⟨h,_⟩ | ⟨_,h2⟩
  ·exact absurd h nc
  ·rw[hc',ok.2 _ (E1z h2)]
theorem GZ:∀ (names:List (Str×NameKind)) (h:Heap) (acc:List (Str×Addr)) {x:Str} {c:Addr},(cellsFrom h.objs.size names acc).lookup x=some c->(x,NameKind.cell)∈names->(pushCells h names).IsCell c none:=by
 intro names
 induction names with
 | nil=>intro h acc x c e hx;cases hx
 | cons p r ih =>
  obtain⟨y,k⟩:=p;intro h acc x c e hx;unfold cellsFrom at e;unfold pushCells
  by_cases hin:(x,NameKind.cell)∈r
  ·split at e
   ·rename_i hk
    rw[R5z hk];refine ih (h.push { cls:=.type "cell",data:=.cell none }) ((y,h.objs.size)::acc) ?_ hin;rw[A4z];exact e
   ·rename_i hk
    rw[S5z hk];exact ih h acc e hin
  ·rcases List.mem_cons.mp hx with ex | hx
   ·cases ex
    rw[R5z (show(NameKind.cell==NameKind.cell)=true from rfl)] at e ⊢;rcases cU _ _ _ e with⟨h1,_⟩ | ⟨_,h2⟩
    ·exact absurd h1 hin
    ·rw[L2z] at h2
     simp at h2;subst h2;exact⟨_,M3z _ _ _ _ (Heap.get?_push_size _ rfl),rfl⟩
   ·exact absurd hx hin
theorem Cw{z0:List (Addr×Obj)}{σ:St}{H:Hp}{s:Shared}{scope:Scope}{fp:List Addr}(I:Inv X z0 σ H s)(hc:X.calm=true)(hk:scope.kind=.function)(hnd:(scope.names.map (·.1)).Nodup)
  (hcap:∀ x,(x,NameKind.free)∈scope.names->X.env.kindOf x=some .cell\/X.env.kindOf x=some .free) (hfp:∀ b∈fp,vo X z0 H b) (hlt:∀ b∈fp,b<s.heap.objs.size) :
  Inv (pq X scope (cellsFrom (s.heap.objs.size+1) scope.names (iR X.env.cells scope.names [])) s.heap.objs.size s H fp) [] (qH X.N scope.names σ) H { s with heap:=pushCells (s.heap.push { cls:=.type "dict",data:=.dict #[] }) scope.names }:=by
 obtain⟨hf,apart,look,same⟩:=iJ I hnd hcap;have keep:∀ b o,s.heap.get? b=some o->(pushCells (s.heap.push { cls:=.type "dict",data:=.dict #[] }) scope.names).get? b=some o:=fun b o e=>M3z _ _ b o (Heap.get?_push_of_some _ e);have ckd:=cellsFrom_ok scope.names (s.heap.push { cls:=.type "dict",data:=.dict #[] }) (s.heap.objs.size+1) [] ⟨fun _ _ hm=>(nomatch hm),List.Pairwise.nil⟩ (by rw[A4z];exact A5z _);rw[A4z] at ckd;have own:∀ x c,(cellsFrom (s.heap.objs.size+1) scope.names (iR X.env.cells scope.names [])).lookup x=some c->(x,NameKind.cell)∈scope.names->(pushCells (s.heap.push { cls:=.type "dict",data:=.dict #[] }) scope.names).IsCell c none:=fun x c e hx=>GZ scope.names (s.heap.push { cls:=.type "dict",data:=.dict #[] }) _ (by rw[A4z];exact e) hx;have kinds:∀ x,(pq X scope (cellsFrom (s.heap.objs.size+1) scope.names (iR X.env.cells scope.names [])) s.heap.objs.size s H fp).env.kindOf x=(scope.names.lookup x).map fun k=>if(k==NameKind.free&&X.env.scope.kind==.function&&X.env.kindOf x==some .cell) then NameKind.cell else k:=fun x=>dW scope.names;have fresh:∀ {b:Addr},s.heap.objs.size<=b->H b=none:=fun hb=>I.hok.fresh hb
 refine⟨⟨I.ok.mod,hk,I.ok.glob,I.ok.blt,A5z _,fun x y c e1 e2=>name_of_addr apart (E1z e1) (E1z e2),fun x hx=>?_,fun x c hx e=>?_,fun _=>I.ok.hd hc,I.ok.frames,.inl rfl,fun b hb=>⟨P4z (hlt b hb),fun x c e=>?_⟩,I.bs,Q4z I.ok.bsz I.sz,fun b o e hb=>?_,fun b hb z=>?_,I.stack,I.stkFree⟩,
  rfl,I.bare,Un.kept keep,⟨fun _=>none,?_,fun i x v e1 e2 e3=>?_⟩,fun x c e=>?_,fresh (A5z _),fun x c e=>?_,fun p hp=>absurd (show p∈([]:List (Addr×Obj)) from hp) (by simp),I.hok.kept keep,?_⟩
 ·
  rw[kinds x] at hx
  cases hl:scope.names.lookup x with
  | none=>rw[hl] at hx;rcases hx with h | h<;>cases h
  | some k =>
   rw[hl] at hx;have hm:=E1z hl
   cases k with
   | cell=>exact Option.isSome_iff_exists.mp (M0z _ _ _ (.inl hl))
   | free =>
    obtain⟨c,h⟩:=hf x hm;exact⟨c,(same x hm).trans h⟩
   | _=>simp at hx
 ·have hm:(x,NameKind.cell)∈scope.names:=E1z (by simpa[pq] using hx)
  rcases look x c e with⟨_,h⟩ | ⟨h,_⟩
  ·exact Z1z h
  ·exact absurd hm h
 ·rcases look x c e with⟨_,h⟩ | ⟨_,h,_⟩
  ·exact R4z (J1z (hlt b hb) (Z1z h))
  ·exact(hfp b hb).2.2.2.2.1 x c h
 ·rcases(hfp b hb).2.2.2.1 with z | z
  ·exact I.ok.noex b o e z
  ·exact absurd (J1z (O4z e) (Q4z I.ok.bsz z)) (F4z _)
 ·rcases List.mem_cons.mp (I.stkSub b z) with h | h
  ·exact(hfp b hb).2.1 h
  ·exact(hfp b hb).2.2.1 h
 ·exact(Heap.Ns.new s.heap (.type "dict")).keeps (M3z _ _)
 ·
  have e1':(scope.names.map (·.1))[i]?=some x:=e1;rw[List.getElem?_map] at e1';unfold qH at e2;rw[List.getElem?_map] at e2
  cases hp:scope.names[i]? with
  | none=>rw[hp] at e2;cases e2
  | some p =>
   rw[hp] at e1' e2;have ex:p.1=x:=B3z e1';have e2':(if p.2==.free then rO X.N σ p.1 else none)=some v:=B3z e2
   cases hk2:p.2==NameKind.free with
   | false=>rw[hk2] at e2';simp at e2'
   | true =>
    rw[hk2] at e2';simp only[Q5z] at e2'
    have ek:p.2=.free:=by simpa using hk2
    have hm:(x,NameKind.free)∈scope.names:=by
     have:=List.mem_of_getElem? hp;rw[<- ex,<- ek];exact this
    unfold rO at e2';rw[ex] at e2'
    cases hj:X.N.idxOf? x with
    | none=>rw[hj] at e2';cases e2'
    | some j =>
     rw[hj] at e2';have e3:(σ[j]?).getD none=some v:=e2'
     have hσ:σ[j]?=some (some v):=by
      cases q:σ[j]? with
      | none=>rw[q] at e3;simp at e3
      | some o=>rw[q] at e3;simp at e3;rw[e3]
     have hN:X.N[j]?=some x:=by
      rw[List.idxOf?,List.findIdx?_eq_some_iff_getElem] at hj;obtain⟨h1,h2,_⟩:=hj;rw[List.getElem?_eq_getElem h1];simpa using h2
     obtain⟨m,hn,hl⟩:=I.loc;have kx:=hcap x hm;obtain⟨u,r,l⟩:=hl j x v hN hσ (by rcases kx with k | k;exact .inr (.inl k);exact .inr (.inr k));refine⟨u,r,.inr ⟨?_,?_⟩⟩
     ·rw[kinds x,bT hnd hm]
      simp only[L3z];split
      ·exact .inl rfl
      ·exact .inr rfl
     ·rcases l with⟨k,_⟩ | ⟨_,c,hc',z⟩
      ·rcases kx with k' | k'<;>(rw[k'] at k;cases k)
      ·exact⟨c,(same x hm).trans hc',z.keeps keep⟩
 ·rcases look x c e with⟨h,_⟩ | ⟨_,h,_⟩
  ·exact⟨_,own x c e h⟩
  ·obtain⟨v,z⟩:=I.cell x c h
   exact⟨v,z.keeps keep⟩
 ·rcases look x c e with⟨_,h⟩ | ⟨_,h,_⟩
  ·exact fresh (Z1z h)
  ·exact I.freeC x c h
 ·show(qH X.N scope.names σ).length=(scope.names.map (·.1)).length
  unfold qH;rw[G3z,G3z]
structure Blk (X:Cx) (z0:List (Addr×Obj)) (H:Hp) (s:Shared) (C:Addr):Prop where
 ns:∃ m,s.heap.Ns C m
 free:H C=none
 loc:C≠X.env.locals
 abv:X.s₀.heap.objs.size<=C
 cel:∀ x c,X.env.cells.lookup x=some c->c≠C
 pin:∀ p∈X.pn++z0,p.1≠C
theorem pA{elt tg iter:Expr}{ifs:List Expr}{scope:Scope}{pos:Pos}{wi:TI}{g:Cx->TG}{tc:Cx->TT}{te:Cx->TE}(hc:X.calm=true)(hk:scope.kind=.function)(hnd:(scope.names.map (·.1)).Nodup)
  (hcap:∀ x,(x,NameKind.free)∈scope.names->X.env.kindOf x=some .cell\/X.env.kindOf x=some .free) (hi:PI X tg iter wi)
  (hin:∀ Xc:Cx,CompOf X scope Xc->PG Xc tg (g Xc)/\zZ Xc ifs (tc Xc)/\PE Xc elt (te Xc)) {z0:List (Addr×Obj)} {s:Shared} {σ:St} {H:Hp} {Q:VK} (I:Inv X z0 σ H s) (h:qt X scope wi (qH X.N scope.names) g tc te σ H Q) {R:Value->Addr->Result->Shared->Prop}
  (fin:∀ acc C H' s',Inv X z0 σ H' s'->Blk X z0 H' s' C->Q (.ref acc) H'->R (.ref acc) C (.ok .next) s') :
  wpAny (model X.prog X.w) X.A (eval iter X.env) (fun x s₁=>wpAny (model X.prog X.w) X.A (pyIter x) (fun it s₂=>wpAny (model X.prog X.w) X.A (newList []) (fun acc s₃ =>
   wpAny (model X.prog X.w) X.A (newFunctionEnv scope X.env.globals (iR X.env.cells scope.names []) [] X.env.qual none .none (some X.env)) (fun cenv s₄ =>
    codeAny (model X.prog X.w) X.A (.compStart (.ListComp elt [⟨tg,iter,ifs,0⟩] scope pos) 0 it acc { cenv with scope:=relabel scope X.env }) (R acc cenv.locals) s₄) X.xe s₃) X.xe s₂) X.xe s₁) X.xe s:=by
 refine thn (hi z0 s σ H _ I h) fun v s1 h1=>thn h1 fun itv s2 h2=>?_;obtain⟨it,fp,tn,J,H2,rfl,I2,T,st2,f2,q2⟩:=h2;refine U1z ?_;have hf:H2 s2.heap.objs.size=none:=I2.hok.fresh (A5z _);have I3:=I2.lnew (ys:=[]) (its:=[]) (t':=s2.toks) .nil (D5z _);generalize hs3:({ s2 with heap:=s2.heap.push { cls:=.type "list",data:=.seq ([]:List Value).toArray },toks:=s2.toks }:Shared)=s3 at I3
 have lt2:∀ b∈fp,b<s2.heap.objs.size:=fun b hb=>by
  obtain⟨o,e,_⟩:=T.obj _ _ st2 b hb;exact O4z e
 have f3:∀ b∈fp,vo X z0 (upd H2 s2.heap.objs.size (.lst [])) b:=fun b hb=>⟨by rw[aO (P4z (lt2 b hb))];exact(f2 b hb).1,(f2 b hb).2⟩
 have sz3:s3.heap.objs.size=s2.heap.objs.size+1:=by rw[<- hs3];exact A4z ..
 have lt3:∀ b∈fp,b<s3.heap.objs.size:=fun b hb=>by rw[sz3];exact Y1z (lt2 b hb)
 have st3:tn 0 s3.heap:=T.keep _ _ _ st2 fun b hb o e=>by rw[<- hs3];exact Heap.get?_push_of_some _ e
 have J0:=Cw I3 hc hk hnd hcap f3 lt3;have cO:CompOf X scope (pq X scope (cellsFrom (s3.heap.objs.size+1) scope.names (iR X.env.cells scope.names [])) s3.heap.objs.size s3 (upd H2 s2.heap.objs.size (.lst [])) fp):=⟨rfl,rfl,rfl,rfl,rfl,rfl,rfl,rfl,rfl,rfl,rfl⟩;obtain⟨hg,hif,he⟩:=hin _ cO;obtain⟨W,⟨m0,w0⟩,turn⟩:=q2 s2.heap.objs.size hf _ cO;refine qG ?_;have st4:tn 0 (pushCells (s3.heap.push { cls:=.type "dict",data:=.dict #[] }) scope.names):=T.keep _ _ _ st3 fun b _ o e=>M3z _ _ b o (Heap.get?_push_of_some _ e);generalize hXc:pq X scope (cellsFrom (s3.heap.objs.size+1) scope.names (iR X.env.cells scope.names [])) s3.heap.objs.size s3 (upd H2 s2.heap.objs.size (.lst [])) fp=Xc at J0 hg hif he turn
 have hprog:Xc.prog=X.prog:=by rw[<- hXc];rfl
 have hw:Xc.w=X.w:=by rw[<- hXc];rfl
 have hK:Xc.K=X.K:=by rw[<- hXc];rfl
 have hA:Xc.A=X.A:=by rw[<- hXc];rfl
 have hcm:Xc.calm=true:=by rw[<- hXc];rfl
 have hxe:Xc.xe=fun _ _=>False:=by rw[<- hXc];rfl
 have hen:Xc.env=tR scope (cellsFrom (s3.heap.objs.size+1) scope.names (iR X.env.cells scope.names [])) s3.heap.objs.size X.env:=by rw[<- hXc];rfl
 have hex:Xc.ex=fp:=by rw[<- hXc];rfl
 have hfs:Xc.fs=frs X.stack:=by rw[<- hXc];rfl
 have hs0:Xc.s₀=s3:=by rw[<- hXc];rfl
 have hH0:Xc.H₀=upd H2 s2.heap.objs.size (.lst []):=by rw[<- hXc];rfl
 have hpn:Xc.pn=[]:=by rw[<- hXc];rfl
 have stat:∀ {H':Hp},(∀ b∈fp,H' b=none)->∀ b∈fp,vo Xc [] H' b:=fun {H'} hn b hb=>by
  refine⟨hn b hb,(J0.ok.exf b (by rw[hex];exact hb)).1,fun z=>J0.ok.exfs b (by rw[hex];exact hb) z,.inl (by rw[hex];exact hb),(J0.ok.exf b (by rw[hex];exact hb)).2,fun p hp=>?_⟩
  rw[hpn] at hp;exact absurd hp (by simp)
 have loop:codeAny (model X.prog X.w) X.A (.compLoop (.ListComp elt [⟨tg,iter,ifs,0⟩] scope pos) 0 (.ref it) (.ref s2.heap.objs.size) Xc.env)
   (R (.ref s2.heap.objs.size) s3.heap.objs.size) { s3 with heap:=pushCells (s3.heap.push { cls:=.type "dict",data:=.dict #[] }) scope.names }:=by
  refine fO (fun n s'=>∃ i σ' H',Inv Xc [] σ' H' s'/\tn i s'.heap/\(∀ b∈fp,H' b=none)/\W i n σ' H') ?_ m0 ⟨0,_,_,J0,st4,fun b hb=>(f3 b hb).1,w0⟩;rintro n s5 ⟨i,σ5,H5,I5,st5,fr5,w5⟩;rcases turn i n σ5 H5 w5 with⟨stop,qn⟩ | ⟨go,N,hN,step⟩
  ·have q:=T.done Xc hprog hw hK hcm i [] s5 σ5 H5 (fun _ _=>False) I5 (stat fr5) st5 stop
   rw[hA] at q;refine thn q fun r s6 ⟨hr,I6⟩=>?_;subst hr
   have hL:Xc.env.locals=s3.heap.objs.size:=by rw[hen];rfl
   have ub:=I6.base;rw[hfs,hex,hH0,hs0] at ub
   have IX:Inv X z0 σ H5 s6:=by
    refine I3.call' (ch:=fp) ?_ ub ?_ I6.bare fun b hb=>⟨(f3 b hb).2.2.2.1,(f3 b hb).2.1,(f3 b hb).2.2.2.2.1,(f3 b hb).2.2.2.2.2⟩
    ·have:=I6.os
     rw[hs0] at this;exact this
    ·have hok:=I6.hok
     rw[hprog,hw] at hok;exact hok
   refine fin _ _ _ _ IX ⟨?_,?_,R4z I3.lt,I3.sz,fun x c e=>?_,fun p hp=>?_⟩ qn
   ·obtain⟨m,hn,_⟩:=I6.loc
    rw[hL] at hn;exact⟨m,hn⟩
   ·have:=I6.free
    rw[hL] at this;exact this
   ·obtain⟨v,z⟩:=I3.cell x c e
    exact P4z z.lt
   ·exact P4z (O4z (I3.pin p hp).1)
  ·have q:=T.item Xc hprog hw hK hcm i [] s5 σ5 H5 (fun _ _=>False) I5 (stat fr5) st5 go
   rw[hA] at q;refine thn q fun r s6 ⟨u,hr,h6⟩=>?_;subst hr;refine thn h6 fun _ s7 ⟨x,H7,I7,r7,y7,st7,fr7⟩=>?_;have I7':=I7.pinned (stat fr7) (T.obj _ _ st7);have q8:=hg _ s7 σ5 H7 x u _ I7' r7 (step x H7 y7);rw[hprog,hw,hA,hxe] at q8;refine thn q8 fun _ s8 ⟨σ8,H8,I8,z8⟩=>?_;have q9:=hif _ s8 σ8 H8 _ I8 z8;rw[hprog,hw,hA,hxe] at q9;refine thn q9 fun ok s9 ⟨H9,I9,z9⟩=>?_
   have again:∀ {s':Shared} {σ':St} {H':Hp},Inv Xc ([]++oF fp s7.heap) σ' H' s'->N σ' H'->∃ m,m<n/\∃ i σ' H',Inv Xc [] σ' H' s'/\tn i s'.heap/\(∀ b∈fp,H' b=none)/\W i m σ' H':=fun {s' σ' H'} I' n'=>by
    obtain⟨m',hm,w'⟩:=hN σ' H' n';refine⟨m',hm,i+1,σ',H',I'.unpinned,T.keep _ _ _ st7 fun b hb o e=>(I'.pin (b,o) (S0z _ (S0z _ (fJ hb e)))).1,fun b hb=>?_,w'⟩;obtain⟨o,e,d⟩:=T.obj _ _ st7 b hb;exact(I'.pin (b,o) (S0z _ (S0z _ (fJ hb e)))).2.1
   cases ok with
   | false =>
    rw[S5z L1z] at z9 ⊢;exact again I9 z9
   | true =>
    rw[R5z rfl] at z9 ⊢;have q10:=he _ s9 σ8 H9 _ I9 z9;rw[hprog,hw,hA,hxe] at q10;refine thn q10 fun uv s10 ⟨v,H10,I10,r10,ys,hy,hz,z10⟩=>?_;have q11:=oM (X:=Xc) _ s10 σ8 H10 (.ref s2.heap.objs.size) [v] (.ref s2.heap.objs.size) [uv] (fun _ H'=>N σ8 H') I10 rfl (.cons r10 .nil) ⟨_,ys,v,rfl,rfl,hy,hz,z10⟩;rw[hprog,hw,hA,hxe] at q11;exact thn q11 fun _ s11 ⟨_,H11,I11,_,z11⟩=>again I11 z11
 have eenv:({ (newEnv scope s3.heap.objs.size X.env.globals (cellsFrom (s3.heap.objs.size+1) scope.names (iR X.env.cells scope.names [])) X.env.qual none .none (some X.env) builtinsNs) with scope:=relabel scope X.env }:Env)=Xc.env:=by rw[hen];rfl
 rw[eenv];exact codeAny_compStart_list loop (T.self X.A 0 _ _ _ st4 loop)
theorem Blk.gone{z0:List (Addr×Obj)}{σ:St}{H:Hp}{s:Shared}{C:Addr}{h':Heap}(b:Blk X z0 H s C)(I:Inv X z0 σ H s)(hs:Heap.SameBut C s.heap h'):Inv X z0 σ H { s with heap:=h' } :=
 I.turned (t':=s.toks) (fun c o hc e=>(hs.2 c hc).trans e) b.free b.loc (.inr b.abv) b.cel b.pin
theorem mC{elt tg iter:Expr}{ifs:List Expr}{scope:Scope}{pos:Pos}{wi:TI}{g:Cx->TG}{tc:Cx->TT}{te:Cx->TE}(hc:X.calm=true)(hk:scope.kind=.function)(hnd:(scope.names.map (·.1)).Nodup)
  (hcap:∀ x,(x,NameKind.free)∈scope.names->X.env.kindOf x=some .cell\/X.env.kindOf x=some .free) (hi:PI X tg iter wi)
  (hin:∀ Xc:Cx,CompOf X scope Xc->PG Xc tg (g Xc)/\zZ Xc ifs (tc Xc)/\PE Xc elt (te Xc)) (hs:∀ x,foldedSetIterable iter X.env x=pure x) :
  PE X (.ListComp elt [⟨tg,iter,ifs,0⟩] scope pos) (qt X scope wi (qH X.N scope.names) g tc te):=by
 intro z0 s σ H Q I h;rw[eval_ListComp];refine wpAny_comprehension_free (use:=none) (cl:=iR X.env.cells scope.names []) rfl hs (fD (iJ I hnd hcap).1) hk (fun x hx hl=>bT hnd (by rw[<- hl];exact hx)) ?_;refine pA hc hk hnd hcap hi hin I h fun acc C H' s' I' b q=>?_;obtain⟨m,hn⟩:=b.ns;exact⟨m,hn,fun h' hsb=>⟨.ref acc,H',b.gone I' hsb,rfl,q⟩⟩
theorem wW{i:Nat}{x:Str}{elt tg iter:Expr}{ifs:List Expr}{scope:Scope}{pos pos' spos:Pos}{wi:TI}{g:Cx->TG}{tc:Cx->TT}{te:Cx->TE}(hN:X.N.Nodup)(hix:X.N[i]?=some x)(hx:X.env.scope.names.lookup x=some .local)
  (hc:X.calm=true) (hk:scope.kind=.function) (hnd:(scope.names.map (·.1)).Nodup)
  (hcap:∀ x,(x,NameKind.free)∈scope.names->X.env.kindOf x=some .cell\/X.env.kindOf x=some .free) (hi:PI X tg iter wi)
  (hin:∀ Xc:Cx,CompOf X scope Xc->PG Xc tg (g Xc)/\zZ Xc ifs (tc Xc)/\PE Xc elt (te Xc)) (hs:∀ x,foldedSetIterable iter X.env x=pure x)
  (hsw:swapsWith (.ListComp elt [⟨tg,iter,ifs,0⟩] scope pos) (some (.Name x pos')) spos.line X.env=pure true) :
  PS X (.Assign [.Name x pos'] (.ListComp elt [⟨tg,iter,ifs,0⟩] scope pos) spos) (N6 (qt X scope wi (qH X.N scope.names) g tc te) (BW i)):=by
 intro z0 s σ H D I h;rw[exec_Assign_Name_used _ _ _ _ hsw];refine F5z (H4z (F5z ?_));show wpAny _ X.A (do let _ <- comprehension (.ListComp elt [⟨tg,iter,ifs,0⟩] scope pos) scope X.env _ (newList []) false (eval iter X.env) (some (assign (.Name x pos') X.env))) _ _ s
 refine F5z (thn (wpAny_comprehension_free (use:=some (assign (.Name x pos') X.env)) (Q:=fun _ s'=>SP X z0 D .next s') (cl:=iR X.env.cells scope.names []) rfl hs (fD (iJ I hnd hcap).1) hk (fun x hx hl=>bT hnd (by rw[<- hl];exact hx))
  (pA hc hk hnd hcap hi hin I h fun acc C H' s' I' b q=>?_)) fun _ s' hq=>G5z (G5z hq))
 show wpAny _ X.A (assign (.Name x pos') X.env (.ref acc)) _ _ s';refine wpAny_assign_Name (nT I' hN hix (.inl hx) (v:=.ref acc) rfl (fun s'' I'' ⟨a,hsb,ha⟩=>?_) (.inr hx));obtain⟨m,hn⟩:=b.ns
 have hCa:C≠a:=by
  rcases ha with ha | ha
  ·rw[ha];exact b.loc
  ·exact(b.cel x a ha).symm
 have b2:Blk X z0 H' s'' C:=⟨⟨m,hn.sameBut hsb hCa⟩,b.free,b.loc,b.abv,b.cel,b.pin⟩;exact⟨m,hn.sameBut hsb hCa,fun h' hsb'=>⟨_,H',b2.gone I'' hsb',q⟩⟩
end
section
variable {prog:Program} {w:World} {A:Around} {E:Value->Shared->Prop} {s:Shared}
theorem Cu{it t:Addr}{i:Nat}{its:Array Value}{Q:Value->Shared->Prop}(hh:A.handled=none)(hit:s.heap.IsTupleIter it t i)(ht:s.heap.IsTuple t its)
  (hs:∀ x h',its[i]?=some x->h'.IsTupleIter it t (i+1)->Heap.SameBut it s.heap h'->Q x { s with heap:=h' })
  (he:∀ h' e,its[i]?=none->Heap.ExtBut it s.heap h'->(∃ o,h'.get? e=some o/\o.cls=.type "StopIteration")->E (.ref e) { s with heap:=h' }) :
  wpAny (model prog w) A (Builtin.SmallTypes.nextOf (.ref it)) Q E s:=by
 obtain⟨oi,hoi,hci,hdi⟩:=id hit;obtain⟨ot,hot,_,nt,hdt⟩:=ht;unfold Builtin.SmallTypes.nextOf;refine F5z (wpAny_callSpecial?_slot (name:=Str.ofString "__next__") hit.typeIs F.slot_tuple_iterator_next (J2z F.slot_tuple_iterator_next hit.typeIs F.entry_tuple_iterator_next ?_ (F.args_tuple_iterator_next_1 _)));show wpAny _ _ (field (.ref it) 0 >>=_) _ _ s;refine F5z (C5z hoi hdi (x:=.ref t) rfl ?_);have nn:¬ ((Value.ref t==Value.none)=true):=L1z;show wpAny _ _ (if(Value.ref t==Value.none)=true then _ else _) _ _ s;rw[S5z nn];show wpAny _ _ (field (.ref it) 1 >>=_) _ _ s;refine F5z (C5z hoi hdi (x:=.int i 0) rfl ?_);show wpAny _ _ (seqItems? (.ref t) >>=_) _ _ s;refine F5z (B4z hot hdt ?_)
 cases hx:its[i]? with
 | some x =>
  simp only[A2z,hx];have fin:(s.heap.update it fun o=>o.mapFields (·.setIfInBounds 1 (rawInt ((i:Int)+1)))).IsTupleIter it t (i+1):=⟨_,Heap.get?_update_self _ hoi (Obj.isFreed_of_fields (Obj.data_mapFields hdi _)),(Obj.cls_mapFields ..).trans hci,by rw[Obj.data_mapFields hdi];simp[rawInt]⟩;exact F5z (wpAny_setField hoi hdi (by simp) (G5z ⟨x,rfl,G5z (hs x _ hx fin (H1z ..))⟩))
 | none =>
  simp only[A2z,hx];refine F5z (H5z (F5z (wpAny_setField hoi hdi (by simp) (F5z (m:=newExc (.type "StopIteration") []) ?_))));simp only[newExc,newTuple];refine F5z (U1z (F5z (m:=firstArgMember _ _) (wpAny_of_eq (a:=Value.none) (by first | rfl | (simp only[firstArgMember];rfl)) (U1z ?_ (by size_fits)))) (by size_fits));simp only[raiseNew];refine F5z (wpAny_handled ?_)
  first | rw[show A.in1.handled=none from hh] | rw[hh]
  exact F5z (G5z (wpAny_throw (he _ _ hx (((H1z ..).extBut.push _).push _) ⟨_,Heap.get?_push_size _ rfl,rfl⟩)))
structure ZT (h:Heap) (z ti to i1 i2 t1 t2:Addr) (k:Nat) (f:Value):Prop where
 hz:IsZip h z ti to f
 hi:IsPair h ti (.ref i1) (.ref i2)
 ho:∃ a b,IsPair h to a b
 h1:h.IsTupleIter i1 t1 k
 h2:h.IsTupleIter i2 t2 k
theorem ZT.keep{h h':Heap}{z ti to i1 i2 t1 t2:Addr}{k:Nat}{f:Value}(x:ZT h z ti to i1 i2 t1 t2 k f)(kp:∀ b∈[z,ti,to,i1,i2],∀ o,h.get? b=some o->h'.get? b=some o):ZT h' z ti to i1 i2 t1 t2 k f :=
 ⟨kp z (by simp) _ x.hz,kp ti (by simp) _ x.hi,let ⟨a,b,e⟩:=x.ho;⟨a,b,kp to (by simp) _ e⟩,x.h1.at fun o e=>kp i1 (by simp) o e,x.h2.at fun o e=>kp i2 (by simp) o e⟩
theorem vK{z ti to i1 i2 t1 t2:Addr}{k:Nat}{xs ys:Array Value}{Q:Fin->Shared->Prop}(hh:A.handled=none)(D:ZipApart z ti to i1 i2 t1 t2)(hZ:ZT s.heap z ti to i1 i2 t1 t2 k .none)
  (ht1:s.heap.IsTuple t1 xs) (ht2:s.heap.IsTuple t2 ys)
  (hs : ∀ x y h', xs[k]? = some x -> ys[k]? = some y -> ZT h' z ti to i1 i2 t1 t2 (k + 1) (rawInt s.heap.objs.size) -> IsPair h' s.heap.objs.size x y -> h'.objs.size = s.heap.objs.size + 1 ->
   (∀ c o,c∉[z,to,i1,i2]->s.heap.get? c=some o->h'.get? c=some o)->Q (.done (.ret (.ref s.heap.objs.size))) { s with heap:=h' })
  (he:∀ h' e,(xs[k]?=none\/ys[k]?=none)->(∀ c o,c∉[z,to,i1,i2]->s.heap.get? c=some o->h'.get? c=some o)->(∃ o,h'.get? e=some o/\o.cls=.type "StopIteration")->E (.ref e) { s with heap:=h' }) :
  wpAny (model prog w) A (Builtin.«zip.__next__» ⟨[.ref z],[]⟩) Q E s:=by
 obtain⟨hz,hi,⟨a,b,ho⟩,h1,h2⟩:=hZ;show wpAny _ _ (field (.ref z) 2 >>=_) _ _ _;refine F5z (C5z hz rfl (x:=.bool false) rfl ?_);show wpAny _ _ (field (.ref z) 3 >>=_) _ _ _;refine F5z (C5z hz rfl (x:=.ref ti) rfl (F5z (B4z hi rfl ?_)));show wpAny _ _ (Builtin.SmallTypes.ownedTupleIsFree (.ref z) >>=_) _ _ _;unfold Builtin.SmallTypes.ownedTupleIsFree;refine F5z (F5z (C5z hz rfl (x:=.none) rfl (G5z ?_)));simp only[Q5z];refine F5z (H5z (F5z (C5z hz rfl (x:=.ref to) rfl (F5z (R1z hz (by simp) fun ha za sa=>?_)))))
 replace za:IsZip ha z ti to .ellipsis:=za
 refine F5z ?_;simp only[List.zipIdx_cons,List.zipIdx_nil,J3z,Z3z];refine F5z (F5z (wpAny_onRaise ?_))
 have ne4:∀ {c:Addr},c∉[z,to,i1,i2]->c≠z/\c≠to/\c≠i1/\c≠i2:=fun hc=>by simpa using hc
 show wpAny _ _ (Builtin.SmallTypes.nextOf (.ref i1) >>=_) _ _ _;refine F5z (Cu hh (h1.extBut sa.extBut D.i1z) (ht1.extBut sa.extBut D.l1z) (fun x hb hx itb sb=>G5z ?_) fun hb e hx eb ⟨oe,oe1,oe2⟩=>?_)
 ·have tob:IsPair hb to a b:=sb.extBut _ _ D.TOi1 (sa.extBut _ _ D.TOz ho)
  refine F5z (B4z tob rfl (F5z (wpAny_updateSeq_pair tob fun hc toc sc=>F5z (wpAny_letGo (G5z ?_)))))
  replace toc:IsPair hc to x b:=toc
  refine F5z (F5z (wpAny_onRaise ?_));have h2c:hc.IsTupleIter i2 t2 k:=((h2.extBut sa.extBut D.i2z).extBut sb.extBut D.i12.symm).extBut sc.extBut D.TOi2.symm;have t2c:hc.IsTuple t2 ys:=((ht2.extBut sa.extBut D.l2z).extBut sb.extBut D.l2i1).extBut sc.extBut D.l2TO;show wpAny _ _ (Builtin.SmallTypes.nextOf (.ref i2) >>=_) _ _ _;refine F5z (Cu hh h2c t2c (fun y hd hy itd sd=>G5z ?_) fun hd e hy ed ⟨oe,oe1,oe2⟩=>?_)
  ·have tod:IsPair hd to x b:=sd.extBut _ _ D.TOi2 toc
   refine F5z (B4z tod rfl (F5z (wpAny_updateSeq_pair tod fun hf tof sf=>F5z (wpAny_letGo (G5z (G5z ?_))))))
   replace tof:IsPair hf to x y:=tof
   refine F5z (B4z tof rfl (F5z (wpAny_newTuple ?_)))
   have szf:hf.objs.size=s.heap.objs.size:=by rw[sf.1,sd.1,sc.1,sb.1,sa.1]
   have zf:IsZip hf z ti to .ellipsis:=sf.extBut _ _ D.TOz.symm (sd.extBut _ _ D.i2z.symm (sc.extBut _ _ D.TOz.symm (sb.extBut _ _ D.i1z.symm za)))
   have kf:∀ c o,c∉[z,to,i1,i2]->s.heap.get? c=some o->hf.get? c=some o:=fun c o hc' e=>by
    obtain⟨c1,c2,c3,c4⟩:=ne4 hc';exact sf.extBut _ _ c2 (sd.extBut _ _ c4 (sc.extBut _ _ c2 (sb.extBut _ _ c3 (sa.extBut _ _ c1 e))))
   have i1f:hf.IsTupleIter i1 t1 (k+1):=((itb.extBut sc.extBut D.TOi1.symm).extBut sd.extBut D.i12).extBut sf.extBut D.TOi1.symm;have i2f:hf.IsTupleIter i2 t2 (k+1):=itd.extBut sf.extBut D.TOi2.symm;have tif:IsPair hf ti (.ref i1) (.ref i2):=sf.extBut _ _ D.TITO (sd.extBut _ _ D.TIi2 (sc.extBut _ _ D.TITO (sb.extBut _ _ D.TIi1 (sa.extBut _ _ D.TIz hi))));have zlt:z<hf.objs.size:=O4z zf;show wpAny _ _ (Builtin.SmallTypes.ownedTupleHandOut (.ref z) (.ref hf.objs.size) >>=_) _ _ _;unfold Builtin.SmallTypes.ownedTupleHandOut;have zg:IsZip (hf.push { cls:=.type "tuple",data:=.seq #[x,y] }) z ti to .ellipsis:=Heap.get?_push_of_some _ zf;refine F5z (F5z (R1z zg (by simp) fun hk zk sk=>R1z (show IsZip hk z ti to (rawInt hf.objs.size) from zk) (by simp) fun hm zm sm=>G5z ?_))
   replace zm:IsZip hm z ti to (rawInt hf.objs.size):=zm
   have up:∀ c o,c≠z->hf.get? c=some o->hm.get? c=some o:=fun c o c1 e=>sm.extBut _ _ c1 (sk.extBut _ _ c1 (Heap.get?_push_of_some _ e));have new:IsPair hm hf.objs.size x y:=sm.extBut _ _ (R4z zlt) (sk.extBut _ _ (R4z zlt) (Heap.get?_push_size _ rfl))
   have szm:hm.objs.size=hf.objs.size+1:=by rw[sm.1,sk.1,A4z]
   have q:=hs x y hm hx hy ⟨by rw[<- szf];exact zm,up _ _ D.TIz tif,⟨x,y,up _ _ D.TOz tof⟩,i1f.at fun o e=>up _ o D.i1z e,i2f.at fun o e=>up _ o D.i2z e⟩ (by rw[<- szf];exact new) (by rw[szm,szf]) fun c o hc' e=>up c o (ne4 hc').1 (kf c o hc' e)
   rw[<- szf] at q;exact q
  ·have zd:IsZip hd z ti to .ellipsis:=ed _ _ D.i2z.symm (sc.extBut _ _ D.TOz.symm (sb.extBut _ _ D.i1z.symm za))
   have ez:e≠z:=fun q=>by subst q;rw[zd] at oe1;cases oe1;simp at oe2
   refine R1z zd (by simp) fun hf _ sf=>he hf e (.inr hy) (fun c o hc' q=>?_) ⟨oe,sf.extBut _ _ ez oe1,oe2⟩;obtain⟨c1,c2,c3,c4⟩:=ne4 hc';exact sf.extBut _ _ c1 (ed _ _ c4 (sc.extBut _ _ c2 (sb.extBut _ _ c3 (sa.extBut _ _ c1 q))))
 ·have zb:IsZip hb z ti to .ellipsis:=eb _ _ D.i1z.symm za
  have ez:e≠z:=fun q=>by subst q;rw[zb] at oe1;cases oe1;simp at oe2
  refine R1z zb (by simp) fun hf _ sf=>he hf e (.inl hx) (fun c o hc' q=>?_) ⟨oe,sf.extBut _ _ ez oe1,oe2⟩;obtain⟨c1,c2,c3,c4⟩:=ne4 hc';exact sf.extBut _ _ c1 (eb _ _ c3 (sa.extBut _ _ c1 q))
theorem jB{z ti to i1 i2 t1 t2:Addr}{k:Nat}{xs ys:Array Value}{Q:Option Value->Shared->Prop}(hh:A.handled=none)(D:ZipApart z ti to i1 i2 t1 t2)(hZ:ZT s.heap z ti to i1 i2 t1 t2 k .none)
  (ht1:s.heap.IsTuple t1 xs) (ht2:s.heap.IsTuple t2 ys)
  (hs : ∀ x y h', xs[k]? = some x -> ys[k]? = some y -> ZT h' z ti to i1 i2 t1 t2 (k + 1) (rawInt s.heap.objs.size) -> IsPair h' s.heap.objs.size x y -> h'.objs.size = s.heap.objs.size + 1 ->
   (∀ c o,c∉[z,to,i1,i2]->s.heap.get? c=some o->h'.get? c=some o)->Q (some (.ref s.heap.objs.size)) { s with heap:=h' })
  (he:∀ h',(xs[k]?=none\/ys[k]?=none)->(∀ c o,c∉[z,to,i1,i2]->s.heap.get? c=some o->h'.get? c=some o)->Q none { s with heap:=h' }) :
  wpAny (model prog w) A (pyNext (.ref z)) Q E s:=by
 have hT:s.TypeIs (.ref z) "zip":=⟨_,hZ.hz,rfl⟩;unfold pyNext
 refine F5z (wpAny_attempt (wpAny_callSpecial?_slot (name:=Str.ofString "__next__") hT F.slot_zip_next (J2z F.slot_zip_next hT F.entry_zip_next
  (vK hh D hZ ht1 ht2 (fun x y h' a1 a2 a3 a4 a5 a6=>⟨_,rfl,G5z (hs x y h' a1 a2 a3 a4 a5 a6)⟩) fun h' e a1 a2 ⟨o,e1,e2⟩=>?_) (F.args_zip_next_1 _))))
 exact F5z (wpAny_isInstance (T:="StopIteration") (b:=true) ⟨o,e1,e2⟩ isSubtype_stop (G5z (he h' a1 a2)))
abbrev itT(t:Addr):Obj:={ cls:=.type "tuple_iterator",data:=.fields #[.ref t,.int 0 0] }
theorem Ez(hp H1 H2 H3 H4 H5:Heap)(t1 t2:Addr)(e1:H1=hp.push (itT t1))(e2:H2=H1.push (itT t2))(e3:H3=H2.push { cls:=.type "tuple",data:=.seq #[.ref hp.objs.size,.ref H1.objs.size] })(e4:H4=H3.push { cls:=.type "tuple",data:=.seq #[.none,.none] })
  (e5:H5=H4.push { cls:=.type "zip",data:=.fields #[.none,.bool false,.bool false,.ref H2.objs.size,.ref H3.objs.size] }) :
  H4.objs.size=hp.objs.size+4/\H5.objs.size=hp.objs.size+5/\(∀ c o,hp.get? c=some o->H5.get? c=some o)/\ZT H5 (hp.objs.size+4) (hp.objs.size+2) (hp.objs.size+3) hp.objs.size (hp.objs.size+1) t1 t2 0 .none:=by
 have z1:H1.objs.size=hp.objs.size+1:=by rw[e1,A4z]
 have z2:H2.objs.size=hp.objs.size+2:=by rw[e2,A4z,z1]
 have z3:H3.objs.size=hp.objs.size+3:=by rw[e3,A4z,z2]
 have z4:H4.objs.size=hp.objs.size+4:=by rw[e4,A4z,z3]
 have z5:H5.objs.size=hp.objs.size+5:=by rw[e5,A4z,z4]
 have k5:∀ c o,H4.get? c=some o->H5.get? c=some o:=fun c o e=>by rw[e5];exact Heap.get?_push_of_some _ e
 have k4:∀ c o,H3.get? c=some o->H5.get? c=some o:=fun c o e=>k5 c o (by rw[e4];exact Heap.get?_push_of_some _ e)
 have k3:∀ c o,H2.get? c=some o->H5.get? c=some o:=fun c o e=>k4 c o (by rw[e3];exact Heap.get?_push_of_some _ e)
 have k2:∀ c o,H1.get? c=some o->H5.get? c=some o:=fun c o e=>k3 c o (by rw[e2];exact Heap.get?_push_of_some _ e)
 have k1:∀ c o,hp.get? c=some o->H5.get? c=some o:=fun c o e=>k2 c o (by rw[e1];exact Heap.get?_push_of_some _ e)
 refine⟨z4,z5,k1,?_,?_,⟨.none,.none,?_⟩,⟨_,k2 _ _ (by rw[e1];exact Heap.get?_push_size _ rfl),rfl,rfl⟩,⟨_,k3 _ _ (by rw[e2,<- z1];exact Heap.get?_push_size _ rfl),rfl,rfl⟩⟩
 ·have q:H5.get? H4.objs.size=some { cls:=.type "zip",data:=.fields #[.none,.bool false,.bool false,.ref H2.objs.size,.ref H3.objs.size] }:=by rw[e5];exact Heap.get?_push_size _ rfl
  rw[z2,z3,z4] at q;exact q
 ·have q:H5.get? H2.objs.size=some { cls:=.type "tuple",data:=.seq #[.ref hp.objs.size,.ref H1.objs.size] }:=k4 _ _ (by rw[e3];exact Heap.get?_push_size _ rfl)
  rw[z1,z2] at q;exact q
 ·have q:H5.get? H3.objs.size=some { cls:=.type "tuple",data:=.seq #[.none,.none] }:=k5 _ _ (by rw[e4];exact Heap.get?_push_size _ rfl)
  rw[z3] at q;exact q
theorem z6(t1 t2:Addr)(xs ys:Array Value) :
    Meets (Builtin.«zip.__new__» ⟨[.type "zip",.ref t1,.ref t2],[]⟩) (fun _ R s=>s.heap.IsTuple t1 xs/\s.heap.IsTuple t2 ys /\
      ∀ h', (∀ c o, s.heap.get? c = some o -> h'.get? c = some o) -> h'.objs.size = s.heap.objs.size + 5 -> ZT h' (s.heap.objs.size + 4) (s.heap.objs.size + 2) (s.heap.objs.size + 3) s.heap.objs.size (s.heap.objs.size + 1) t1 t2 0 .none ->
        R (.ok (.ret (.ref (s.heap.objs.size+4)))) { s with heap:=h' }) :=
  .of_wp fun prog w A R s h=>by
    obtain⟨hp,g,d,tk,os⟩:=s;obtain⟨hl1,hl2,h⟩:=h
    have hsub:=sub_zip
    have hL1:Heap.IsTuple (Shared.heap ⟨hp,g,d,tk,os⟩) t1 xs:=hl1
    have hL2:Heap.IsTuple (Shared.heap ⟨hp.push (itT t1),g,d,tk,os⟩) t2 ys:=let ⟨o,e,r⟩:=hl2;⟨o,Heap.get?_push_of_some _ e,r⟩
    wp_walk using M1z hL1,M1z hL2
    refine⟨_,rfl,?_⟩
    obtain⟨z4,z5,kp,Z⟩:=Ez hp _ _ _ _ _ t1 t2 rfl rfl rfl rfl rfl
    have q:=h _ kp z5 Z
    rw[<- z4] at q
    exact q
theorem zK{t1 t2:Addr}{xs ys:Array Value}{Q:Value->Shared->Prop}(hl1:s.heap.IsTuple t1 xs)(hl2:s.heap.IsTuple t2 ys)
  (h : ∀ h', (∀ c o, s.heap.get? c = some o -> h'.get? c = some o) -> h'.objs.size = s.heap.objs.size + 5 -> ZT h' (s.heap.objs.size + 4) (s.heap.objs.size + 2) (s.heap.objs.size + 3) s.heap.objs.size (s.heap.objs.size + 1) t1 t2 0 .none ->
   Q (.ref (s.heap.objs.size+4)) { s with heap:=h' }):wpAny (model prog w) A (call (.type "zip") [.ref t1,.ref t2]) Q E s:=by
 refine callType_new F.called_zip (by decide) (F.typeCall_zip_2 _ _) (F.newCall_zip_2 _ _) (fun obj=>F.args_object_init_3 obj _ _) F.entry_zip_new (z6 t1 t2 xs ys) ⟨hl1,hl2,fun h' kp z5 Z=>?_⟩;exact⟨⟨_,Z.hz,rfl⟩,h h' kp z5 Z⟩
end
namespace RF
end RF
section
variable {prog:Program} {w:World} {A:Around} {E:Value->Shared->Prop} {s:Shared}
end
end L2
namespace L2
open PySem PySem.Spec PyProof.Rows PySem.SeqAt
section
variable {prog:Program} {w:World} {A:Around} {E:Value->Shared->Prop} {s:Shared}
end
end L2
namespace L2
open PySem PySem.Spec PyProof.Rows
def Itz(K:Z3)(t1 t2:Addr):It :=
  ⟨fun i H=>∃ xs ys x y,SqT K H t1 xs/\SqT K H t2 ys/\xs[i]?=some x/\ys[i]?=some y,
   fun i H v H'=>∃ p,H p=none/\v=.ref p/\∀ xs ys x y,SqT K H t1 xs->SqT K H t2 ys->xs[i]?=some x->ys[i]?=some y->H'=upd H p (.tup [x,y]),
   fun i H=>∃ xs ys,SqT K H t1 xs/\SqT K H t2 ys/\(xs.length<=i\/ys.length<=i)⟩
theorem Inv.turnedNew{X:Cx}{z0:List (Addr×Obj)}{σ:St}{H:Hp}{s:Shared}{h':Heap}{ch:List Addr}{o:HO}{t':Nat}(I:Inv X z0 σ H s)(hf:∀ b∈ch,vo X z0 H b)(k:∀ b u,b∉ch->s.heap.get? b=some u->h'.get? b=some u)
  (new:dZ X.prog X.w (upd H s.heap.objs.size o) h' s.heap.objs.size o):Inv X z0 σ (upd H s.heap.objs.size o) { s with heap:=h',toks:=t' }:=by
 have hn:H s.heap.objs.size=none:=I.hok.fresh (A5z _);refine I.call' (s':={ s with heap:=h',toks:=t' }) (ch:=ch) rfl ?_ ?_ I.bare fun b hb=>⟨(hf b hb).2.2.2.1,(hf b hb).2.1,(hf b hb).2.2.2.2.1,(hf b hb).2.2.2.2.2⟩
 ·refine⟨fun b u e _ _ hc=>k b u hc e,fun b u e _ _ hc=>⟨u.slots,k b u hc e⟩,fun b u e n hc=>?_,fun b u e hc=>⟨u,k b u hc e⟩,fun b xs e=>?_,fun b u xs e=>?_,fun b ps e=>⟨#[],?_⟩⟩
  ·rw[aO (P4z (O4z e))];exact n
  ·rw[aO (aK e hn)];exact e
  ·rw[aO (aK e hn)];exact e
  ·rw[aO (aK e hn),e];simp
 ·intro b u e
  by_cases hb:b=s.heap.objs.size
  ·subst hb;rw[aX] at e;cases e;exact new
  ·rw[aO hb] at e
   refine(I.hok b u e).stay (fun c v hc q=>k c v (fun z=>?_) q) (fun c q=>by rw[aO (aK q hn)];exact q) fun c xs q=>by rw[aO (aK q hn)];exact q
   have zn:=(hf c z).1;rcases hc with rfl | hc
   ·rw[zn] at e;cases e
   ·rw[zn] at hc;cases hc
theorem Inv.turnedAll{X:Cx}{z0:List (Addr×Obj)}{σ:St}{H:Hp}{s:Shared}{h':Heap}{ch:List Addr}{t':Nat}(I:Inv X z0 σ H s)(hf:∀ b∈ch,vo X z0 H b)(k:∀ b u,b∉ch->s.heap.get? b=some u->h'.get? b=some u) :
  Inv X z0 σ H { s with heap:=h',toks:=t' }:=by
 refine I.call' (s':={ s with heap:=h',toks:=t' }) (ch:=ch) rfl ?_ ?_ I.bare fun b hb=>⟨(hf b hb).2.2.2.1,(hf b hb).2.1,(hf b hb).2.2.2.2.1,(hf b hb).2.2.2.2.2⟩
 ·exact⟨fun b u e _ _ hc=>k b u hc e,fun b u e _ _ hc=>⟨u.slots,k b u hc e⟩,fun b u e n hc=>n,fun b u e hc=>⟨u,k b u hc e⟩,fun b xs e=>e,fun b u xs e=>e,fun b ps e=>⟨#[],by rw[e];simp⟩⟩
 ·intro b u e
  refine(I.hok b u e).stay (fun c v hc q=>k c v (fun z=>?_) q) (fun c q=>q) fun c xs q=>q;have zn:=(hf c z).1;rcases hc with rfl | hc
  ·rw[zn] at e;cases e
  ·rw[zn] at hc;cases hc
theorem Ad{P:Program}{w:World}{K:Z3}{es:List Expr}{kt:Nat}{pt:Pos}{z ti to i1 i2 t1 t2:Addr}(D:ZipApart z ti to i1 i2 t1 t2) :
    Turn P w K (.Tuple es kt pt) (Itz K t1 t2) [z,ti,to,i1,i2] z (fun i h=>ZT h z ti to i1 i2 t1 t2 i .none) where
  mem:=by simp
  obj:=fun i h st b hb=>by
    simp at hb
    rcases hb with rfl | rfl | rfl | rfl | rfl
    · exact⟨_,st.hz,fun v q=>by have q':Data.fields _=Data.cell v:=q;cases q'⟩
    · exact⟨_,st.hi,fun v q=>by have q':Data.seq _ _=Data.cell v:=q;cases q'⟩
    · obtain⟨a,c,e⟩:=st.ho
      exact⟨_,e,fun v q=>by have q':Data.seq _ _=Data.cell v:=q;cases q'⟩
    · obtain⟨o,e,_,d⟩:=st.h1
      exact⟨o,e,fun v q=>by rw[d] at q;cases q⟩
    · obtain⟨o,e,_,d⟩:=st.h2
      exact⟨o,e,fun v q=>by rw[d] at q;cases q⟩
  keep:=fun i h h' st k=>st.keep k
  item:=by
    intro X hP hw hK hc i z0 s σ H E I hf st hg
    subst hP hw hK
    obtain⟨xs,ys,x,y,hq1,hq2,hx,hy⟩:=hg
    obtain⟨its1,rv1,p1,_⟩:=I.tuple hq1
    obtain⟨its2,rv2,p2,_⟩:=I.tuple hq2
    obtain⟨u1,hu1,ru1⟩:=rv1.get hx
    obtain⟨u2,hu2,ru2⟩:=rv2.get hy
    refine jB (I.ok.hd hc) D st (show s.heap.IsTuple t1 its1.toArray from p1) (show s.heap.IsTuple t2 its2.toArray from p2) (fun a b h' ha hb Z pr sz kp=>?_) fun h' hn _=>?_
    · have ea : a = u1 := by have : its1[i]? = some a := by simpa using ha
                             rw[hu1] at this;exact(B3z this).symm
      have eb : b = u2 := by have : its2[i]? = some b := by simpa using hb
                             rw[hu2] at this;exact(B3z this).symm
      subst ea eb
      have szl:2<=sizeLine:=by decide
      have hf4:∀ c∈[z,to,i1,i2],vo X z0 H c:=fun c hc'=>hf c (by simp at hc' ⊢;rcases hc' with h | h | h | h<;>simp[h])
      have I1:Inv X z0 σ (upd H s.heap.objs.size (.tup [x,y])) { s with heap:=h',toks:=s.toks }:=I.turnedNew hf4 kp ⟨szl,[a,b],.cons ru1 (.cons ru2 .nil),⟨_,pr,rfl,_,rfl⟩⟩
      have fresh:H s.heap.objs.size=none:=I.hok.fresh (A5z _)
      have ltf:∀ c∈[z,ti,to,i1,i2],c≠s.heap.objs.size:=fun c hc' e=>by
        have:H c=none:=(hf c hc').1
        simp at hc'
        have lt:c<s.heap.objs.size:=by
          rcases hc' with rfl | rfl | rfl | rfl | rfl
          · exact O4z st.hz
          · exact O4z st.hi
          · obtain⟨_,_,e'⟩:=st.ho;exact O4z e'
          · obtain⟨o,e',_⟩:=st.h1;exact O4z e'
          · obtain⟨o,e',_⟩:=st.h2;exact O4z e'
        exact P4z lt e
      refine⟨_,rfl,wpAny_letOwnedTupleGo_zip (s:={ s with heap:=h' }) Z.hz fun h2 z2 sb=>?_⟩
      have fz:=hf z (by simp)
      have I2:Inv X z0 σ (upd H s.heap.objs.size (.tup [x,y])) { s with heap:=h2 }:=I1.turned (t':=s.toks) (fun c o hc' e=>(sb.2 c hc').trans e) (by rw[aO (ltf z (by simp))];exact fz.1) fz.2.1 fz.2.2.2.1 fz.2.2.2.2.1 fz.2.2.2.2.2
      refine⟨.ref s.heap.objs.size,_,I2,rfl,⟨_,fresh,rfl,fun xs' ys' x' y' a1 a2 a3 a4=>?_⟩,?_,fun c hc'=>by rw[aO (ltf c hc')];exact(hf c hc').1⟩
      · have e1:=I.tuple_inj a1 hq1
        have e2:=I.tuple_inj a2 hq2
        subst e1 e2
        rw[hx] at a3;rw[hy] at a4
        cases a3;cases a4
        rfl
      · obtain⟨a',b',e'⟩:=Z.ho
        exact⟨z2,(sb.2 ti D.TIz).trans Z.hi,⟨a',b',(sb.2 to D.TOz).trans e'⟩,Z.h1.at fun o e=>(sb.2 i1 D.i1z).trans e,Z.h2.at fun o e=>(sb.2 i2 D.i2z).trans e⟩
    · rcases hn with hn | hn
      · have:its1[i]?=none:=by simpa using hn
        rw[hu1] at this;cases this
      · have:its2[i]?=none:=by simpa using hn
        rw[hu2] at this;cases this
  done:=by
    intro X hP hw hK hc i z0 s σ H E I hf st hg
    subst hP hw hK
    obtain⟨xs,ys,hq1,hq2,hl⟩:=hg
    obtain⟨its1,rv1,p1,_⟩:=I.tuple hq1
    obtain⟨its2,rv2,p2,_⟩:=I.tuple hq2
    have l1:=rv1.length
    have l2:=rv2.length
    refine jB (I.ok.hd hc) D st (show s.heap.IsTuple t1 its1.toArray from p1) (show s.heap.IsTuple t2 its2.toArray from p2) (fun a b h' ha hb Z pr sz kp=>?_) fun h' _ kp=>⟨rfl,?_⟩
    · exfalso
      have h1 : i < its1.length := by have : its1[i]? = some a := by simpa using ha
                                      exact(List.getElem?_eq_some_iff.mp this).1
      have h2 : i < its2.length := by have : its2[i]? = some b := by simpa using hb
                                      exact(List.getElem?_eq_some_iff.mp this).1
      omega
    · have hf4:∀ c∈[z,to,i1,i2],vo X z0 H c:=fun c hc'=>hf c (by simp at hc' ⊢;rcases hc' with h | h | h | h<;>simp[h])
      exact I.turnedAll (t':=s.toks) hf4 kp
  self:=fun _ _ _ _ _ st h=>wpAny_pyIter_zip st.hz h
section
variable {X:Cx}
def iZip(K:Z3)(ta:TA):TI:=fun σ H R=>ta σ H fun vs H1=>∃ a b,vs=[.ref a,.ref b]/\(∃ xs,SqT K H1 a xs)/\(∃ ys,SqT K H1 b ys)/\R (Itz K a b) H1
theorem KN{a b:Expr}{ta:TA}{p pos pt:Pos}{es:List Expr}{kt:Nat}(hg:Gl X "zip")(hm:X.mg "zip"=none)(ha:PA X [a,b] ta)(hs:starEach [a,b] X.env=[(false,eval a X.env),(false,eval b X.env)])(hs2:starEach [b] X.env=[(false,eval b X.env)]) :
  PI X (.Tuple es kt pt) (.Call (.Name "zip" p) [a,b] [] pos) (iZip X.K ta):=by
 intro z0 s σ H R I h;refine Call_ (fV I hg hm boot_zip (D0z (thn (ha pos z0 s σ H _ I h) fun us s1 ⟨vs,H1,I1,r1,q1⟩=>?_) (by rw[hs,hs2]) (by rw[hs2];rfl)));obtain⟨a1,b1,e,⟨xs,hx⟩,⟨ys,hy⟩,q⟩:=q1;subst e
 cases r1 with
 | cons r rr =>
  cases rr with
  | cons r' rr =>
   cases rr;cases (show _=Value.ref a1 from r);cases (show _=Value.ref b1 from r');obtain⟨its1,_,p1,_⟩:=I1.tuple hx;obtain⟨its2,_,p2,_⟩:=I1.tuple hy;refine zK (show s1.heap.IsTuple a1 its1.toArray from p1) (show s1.heap.IsTuple b1 its2.toArray from p2) fun h' kp sz Z=>?_;refine wpAny_pyIter_zip (s:={ s1 with heap:=h' }) Z.hz ?_;have I2:Inv X z0 σ H1 { s1 with heap:=h' }:=I1.kept (t':=s1.toks) kp;refine⟨s1.heap.objs.size+4,_,_,_,H1,rfl,I2,Ad (zipApart_new p1.lt p2.lt),Z,fun c hc=>?_,q⟩
   have hc':s1.heap.objs.size<=c:=by
    simp at hc
    rcases hc with h | h | h | h | h<;>rw[h]<;>first | exact A5z _ | exact O2z _ _
   exact I1.fpOk hc' (I1.hok.fresh hc')
end
section
variable {X:Cx}
end
section
variable {X:Cx} {tg:Expr}
end
section
variable {prog:Program} {w:World} {A:Around} {E:Value->Shared->Prop} {s:Shared}
theorem Ej(hh:A.handled=none)(it t:Addr)(ap:t≠it)(its:Array Value):Draws prog w A it [it,t] its.size (fun k v=>its[k]?=some v) (fun k h=>h.IsTupleIter it t k/\h.IsTuple t its) where
 live:=fun _ _ q=>by obtain⟨⟨o,e,_⟩,_⟩:=q;exact⟨o,e⟩
 frame:=fun _ _ _ q kp=>by
  obtain⟨⟨o,e,r⟩,⟨o2,e2,r2⟩⟩:=q;exact⟨⟨o,kp it (by simp) o e,r⟩,⟨o2,kp t (by simp) o2 e2,r2⟩⟩
 item:=fun k s Q E lt q fin=>Cu hh q.1 q.2 (fun x h' hx a sb=>fin x h' s.toks hx ⟨a,by obtain⟨o2,e2,r2⟩:=q.2;exact⟨o2,(sb.2 t ap).trans e2,r2⟩⟩ sb) fun h' e hx _ _=>by
  have:its[k]?=some its[k]:=by simp[lt]
  rw[this] at hx;cases hx
 done:=fun s Q E q fin=>Cu hh q.1 q.2 (fun x h' hx _ _=>by simp at hx) fun h' e _ a b=>fin h' e a b
set_option maxHeartbeats 1000000 in
theorem yU(t:Addr)(its:Array Value)(n:Nat)(dd:Option Addr)(sl:Array (Option Value)) :
  Meets (Builtin.«enumerate.__new__» ⟨[.type "enumerate",.ref t],[]⟩) (fun _ R s=>s.heap.get? t=some { cls:=.type "tuple",dict:=dd,data:=.seq its n,slots:=sl } /\
   R (.ok (.ret (.ref (s.heap.push (itT t)).objs.size))) { s with heap:=(s.heap.push (itT t)).push { cls:=.type "enumerate",data:=.fields #[.none,.bool false,.ref s.heap.objs.size,rawInt 0,.none,.none] } }) :=
 .of_wp fun prog w A R s h=>by
  obtain⟨hp,g,d,tk,os⟩:=s;obtain⟨hl,h⟩:=h
  have hsub:=sub_enumerate;have hL:Heap.IsTuple (Shared.heap ⟨hp,g,d,tk,os⟩) t its:=⟨_,hl,rfl,n,rfl⟩
  wp_walk using I0z hl
  refine wpAny_stack_any fun fr=>G5z ?_;split
  ·rename_i c _ _ _ _ _
   cases (c==Value.type "enumerate")<;>(wp_walk using I0z hl,M1z hL;exact⟨_,rfl,h⟩)
  ·wp_walk using I0z hl,M1z hL;exact⟨_,rfl,h⟩
theorem u6{t:Addr}{its:Array Value}{Q:Value->Shared->Prop}(ht:s.heap.IsTuple t its)
  (q:∀ h',IsEnum h' (s.heap.objs.size+1) s.heap.objs.size 0 .none->h'.IsTupleIter s.heap.objs.size t 0->(∀ b o,s.heap.get? b=some o->h'.get? b=some o)->Q (.ref (s.heap.objs.size+1)) { s with heap:=h' }) :
  wpAny (model prog w) A (call (.type "enumerate") [.ref t]) Q E s:=by
 obtain⟨⟨c,dd,dt,sl⟩,e,hc,n,hd⟩:=ht;cases (show c=.type "tuple" from hc);cases (show dt=.seq its n from hd);refine callType_new F.called_enumerate (by decide) (F.typeCall_enumerate_1 _) (F.newCall_enumerate_1 _) (fun obj=>F.args_object_init_2 obj _) F.entry_enumerate_new (yU t its n dd sl) ⟨e,?_⟩;have z:(s.heap.push (itT t)).objs.size=s.heap.objs.size+1:=A4z ..;have en:=Heap.get?_push_size (s.heap.push (itT t)) (o:={ cls:=.type "enumerate",data:=.fields #[.none,.bool false,.ref s.heap.objs.size,rawInt 0,.none,.none] }) rfl;rw[z] at en;show _/\_;rw[z];exact⟨⟨_,en,rfl⟩,q _ en ⟨_,Heap.get?_push_of_some _ (Heap.get?_push_size _ rfl),rfl,rfl⟩ fun b o x=>Heap.get?_push_of_some _ (Heap.get?_push_of_some _ x)⟩
end
def Ite(K:Z3)(t:Addr):It :=
 ⟨fun i H=>∃ xs x,SqT K H t xs/\xs[i]?=some x,fun i H v H'=>∃ p,H p=none/\v=.ref p/\∀ xs x,SqT K H t xs->xs[i]?=some x->H'=upd H p (.tup [.int i,x]),fun i H=>∃ xs,SqT K H t xs/\xs.length=i⟩
theorem vV{P:Program}{w:World}{K:Z3}{es:List Expr}{kt:Nat}{pt:Pos}{e it t:Addr}(d1:e≠it)(d2:e≠t)(d3:t≠it) :
  Turn P w K (.Tuple es kt pt) (Ite K t) [e,it] e (fun i h=>(∃ old,IsEnum h e it (i:Int) old)/\h.IsTupleIter it t i) where
 mem:=by simp
 obj:=fun i h q b hb=>by
  obtain⟨⟨old,q1⟩,o2,q2,_,q3⟩:=q;simp at hb;rcases hb with rfl | rfl
  ·exact⟨_,q1,fun v z=>by have z':Data.fields _=Data.cell v:=z;cases z'⟩
  ·exact⟨o2,q2,fun v z=>by rw[q3] at z;cases z⟩
 keep:=fun i h h' q kp=>by
  obtain⟨⟨old,q1⟩,o2,q2,q3⟩:=q;exact⟨⟨old,kp e (by simp) _ q1⟩,o2,kp it (by simp) _ q2,q3⟩
 item:=by
  intro X hP hw hK hc i z0 s σ H E I hf q hg;subst hP hw hK;obtain⟨xs,x,hq,hx⟩:=hg;obtain⟨⟨old,q1⟩,q2⟩:=q;obtain⟨its,rv,p,hz⟩:=I.tuple hq;obtain⟨u,hu,ru⟩:=rv.get hx
  have hi:i<its.toArray.size:=by simpa using(List.getElem?_eq_some_iff.mp hu).1
  have D:=Ej (prog:=X.prog) (w:=X.w) (A:=X.A.in1) (I.ok.hd hc) it t d3 its.toArray;refine wpAny_pyNext_enum_itemD D q1 ⟨q2,(show s.heap.IsTuple t its.toArray from p)⟩ hi d1 (by simp;exact⟨d1,d2⟩) fun y h' tk hy eo st' new sz kp=>?_
  have ey:y=u:=by
   have:its[i]?=some y:=by simpa using hy
   rw[hu] at this;exact(B3z this).symm
  subst ey
  have szl:2<=sizeLine:=by decide
  have hlt:∀ c∈[e,it],c<s.heap.objs.size:=fun c hc'=>by
   simp at hc';rcases hc' with rfl | rfl
   ·exact O4z q1
   ·obtain⟨o2,q2,_⟩:=q2;exact O4z q2
  have I1:Inv X z0 σ (upd H s.heap.objs.size (.tup [.int i,x])) { s with heap:=h',toks:=tk+1 }:=I.turnedNew (ch:=[e,it]) hf (fun b o hb z=>kp b o (fun q=>hb (by simp[q])) (fun q=>hb (by simp[q])) z) ⟨szl,[.int i tk,y],.cons ⟨tk,rfl⟩ (.cons ru .nil),⟨_,new,rfl,_,rfl⟩⟩;refine⟨_,rfl,wpAny_letOwnedTupleGo_enum (s:={ s with heap:=h',toks:=tk+1 }) eo fun h2 e2 sb=>?_⟩;obtain⟨f0,f1,f2,f3,f4,f5⟩:=hf e (by simp);have I2:Inv X z0 σ (upd H s.heap.objs.size (.tup [.int i,x])) { s with heap:=h2,toks:=tk+1 }:=I1.turned (t':=tk+1) (fun c o hc' z=>(sb.2 c hc').trans z) (by rw[aO (P4z (hlt e (by simp)))];exact f0) f1 f3 f4 f5;refine⟨.ref s.heap.objs.size,_,I2,rfl,⟨_,I.hok.fresh (A5z _),rfl,fun xs' x' a1 a2=>?_⟩,⟨⟨y,by simpa using e2⟩,?_⟩,fun b hb=>by rw[aO (P4z (hlt b hb))];exact(hf b hb).1⟩
  ·have e1:=I.tuple_inj a1 hq
   subst e1;rw[hx] at a2;cases a2;rfl
  ·obtain⟨o3,g1,g2⟩:=st'.1
   exact⟨o3,(sb.2 it d1.symm).trans g1,g2⟩
 done:=by
  intro X hP hw hK hc i z0 s σ H E I hf q hg;subst hP hw hK;obtain⟨xs,hq,hl⟩:=hg;obtain⟨⟨old,q1⟩,q2⟩:=q;obtain⟨its,rv,p,hz⟩:=I.tuple hq
  have hn:its.toArray.size=i:=by rw[V1z,<- rv.length,hl]
  have D:=Ej (prog:=X.prog) (w:=X.w) (A:=X.A.in1) (I.ok.hd hc) it t d3 its.toArray;refine wpAny_pyNext_enum_endD D q1 ⟨by rw[hn];exact q2,(show s.heap.IsTuple t its.toArray from p)⟩ fun h' eb=>⟨rfl,?_⟩;obtain⟨f0,f1,f2,f3,f4,f5⟩:=hf it (by simp);exact I.turned (t':=s.toks) (fun b o hb z=>eb b o hb z) f0 f1 f3 f4 f5
 self:=fun _ _ _ _ _ q h=>by obtain⟨⟨old,q1⟩,_⟩:=q;exact B2z q1 h
section
variable {X:Cx}
def Wm(K:Z3)(ta:TA):TI:=fun σ H R=>ta σ H fun vs H1=>∃ a,vs=[.ref a]/\(∃ xs,SqT K H1 a xs)/\R (Ite K a) H1
theorem Gz{a:Expr}{ta:TA}{p pos pt:Pos}{es:List Expr}{kt:Nat}(hg:Gl X "enumerate")(hm:X.mg "enumerate"=none)(ha:PA X [a] ta)(hs:starEach [a] X.env=[(false,eval a X.env)]) :
  PI X (.Tuple es kt pt) (.Call (.Name "enumerate" p) [a] [] pos) (Wm X.K ta):=by
 intro z0 s σ H R I h;refine Call_ (fV I hg hm (show bootBuiltins "enumerate"=some (.type "enumerate") by decide +kernel) (D0z (thn (ha pos z0 s σ H _ I h) fun us s1 ⟨vs,H1,I1,r1,q1⟩=>?_) hs rfl));obtain⟨a1,e,⟨xs,hx⟩,q⟩:=q1;subst e
 cases r1 with
 | cons r rr =>
  cases rr;cases (show _=Value.ref a1 from r);obtain⟨its1,rv,p1,hz⟩:=I1.tuple hx;refine u6 (show s1.heap.IsTuple a1 its1.toArray from p1) fun h' en ti kp=>?_;refine B2z (s:={ s1 with heap:=h' }) en ?_;have I2:Inv X z0 σ H1 { s1 with heap:=h' }:=I1.kept (t':=s1.toks) kp;have lt1:a1<s1.heap.objs.size:=p1.lt;refine⟨s1.heap.objs.size+1,_,_,_,H1,rfl,I2,vV (Nat.succ_ne_self _) (R4z (Y1z lt1)) (P4z lt1),⟨⟨_,en⟩,ti⟩,fun c hc=>?_,q⟩
  have hc':s1.heap.objs.size<=c:=by
   simp at hc
   rcases hc with h | h<;>rw[h]<;>first | exact A5z _ | exact O2z _ _
  exact I1.fpOk hc' (I1.hok.fresh hc')
end
section
variable {X:Cx}
end
section
variable {prog:Program} {w:World} {A:Around} {E:Value->Shared->Prop} {s:Shared}
end
section
variable {X:Cx}
end
section
variable {prog:Program} {w:World} {A:Around} {E:Value->Shared->Prop} {s:Shared}
end
section
variable {X:Cx}
end
def ZF(K:Z3)(t:Addr):It :=
 ⟨fun i H=>∃ us x,SqL K H t us/\us[i]?=some x,fun i H v H'=>∃ p,H p=none/\v=.ref p/\∀ us x,SqL K H t us->us[i]?=some x->H'=upd H p (.tup [.int i,x]),fun i H=>∃ us,SqL K H t us/\us.length=i⟩
theorem uE{P:Program}{w:World}{K:Z3}{es:List Expr}{kt:Nat}{pt:Pos}{e it t:Addr}(d1:e≠it)(d2:e≠t)(d3:t≠it) :
  Turn P w K (.Tuple es kt pt) (ZF K t) [e,it] e (fun i h=>(∃ old,IsEnum h e it (i:Int) old)/\h.IsListIter it t i) where
 mem:=by simp
 obj:=fun i h q b hb=>by
  obtain⟨⟨old,q1⟩,o2,q2,_,q3⟩:=q;simp at hb;rcases hb with rfl | rfl
  ·exact⟨_,q1,fun v z=>by have z':Data.fields _=Data.cell v:=z;cases z'⟩
  ·exact⟨o2,q2,fun v z=>by rw[q3] at z;cases z⟩
 keep:=fun i h h' q kp=>by
  obtain⟨⟨old,q1⟩,o2,q2,q3⟩:=q;exact⟨⟨old,kp e (by simp) _ q1⟩,o2,kp it (by simp) _ q2,q3⟩
 item:=by
  intro X hP hw hK hc i z0 s σ H E I hf q hg;subst hP hw hK;obtain⟨us,x,hq,hx⟩:=hg;obtain⟨⟨old,q1⟩,q2⟩:=q;obtain⟨its,rv,p,hz⟩:=I.list hq;obtain⟨u,hu,ru⟩:=rv.get hx
  have hi:i<its.toArray.size:=by simpa using(List.getElem?_eq_some_iff.mp hu).1
  have D:=Draws.list (prog:=X.prog) (w:=X.w) (A:=X.A.in1) (I.ok.hd hc) it t d3 its.toArray;refine wpAny_pyNext_enum_itemD D q1 ⟨q2,p.isList⟩ hi d1 (by simp;exact⟨d1,d2⟩) fun y h' tk hy eo st' new sz kp=>?_
  have ey:y=u:=by
   have:its[i]?=some y:=by simpa using hy
   rw[hu] at this;exact(B3z this).symm
  subst ey
  have szl:2<=sizeLine:=by decide
  have hlt:∀ c∈[e,it],c<s.heap.objs.size:=fun c hc'=>by
   simp at hc';rcases hc' with rfl | rfl
   ·exact O4z q1
   ·obtain⟨o2,q2,_⟩:=q2;exact O4z q2
  have I1:Inv X z0 σ (upd H s.heap.objs.size (.tup [.int i,x])) { s with heap:=h',toks:=tk+1 }:=I.turnedNew (ch:=[e,it]) hf (fun b o hb z=>kp b o (fun q=>hb (by simp[q])) (fun q=>hb (by simp[q])) z) ⟨szl,[.int i tk,y],.cons ⟨tk,rfl⟩ (.cons ru .nil),⟨_,new,rfl,_,rfl⟩⟩;refine⟨_,rfl,wpAny_letOwnedTupleGo_enum (s:={ s with heap:=h',toks:=tk+1 }) eo fun h2 e2 sb=>?_⟩;obtain⟨f0,f1,f2,f3,f4,f5⟩:=hf e (by simp);have I2:Inv X z0 σ (upd H s.heap.objs.size (.tup [.int i,x])) { s with heap:=h2,toks:=tk+1 }:=I1.turned (t':=tk+1) (fun c o hc' z=>(sb.2 c hc').trans z) (by rw[aO (P4z (hlt e (by simp)))];exact f0) f1 f3 f4 f5;refine⟨.ref s.heap.objs.size,_,I2,rfl,⟨_,I.hok.fresh (A5z _),rfl,fun us' x' a1 a2=>?_⟩,⟨⟨y,by simpa using e2⟩,?_⟩,fun b hb=>by rw[aO (P4z (hlt b hb))];exact(hf b hb).1⟩
  ·have e1:=I.list_inj a1 hq
   subst e1;rw[hx] at a2;cases a2;rfl
  ·obtain⟨o3,g1,g2⟩:=st'.1
   exact⟨o3,(sb.2 it d1.symm).trans g1,g2⟩
 done:=by
  intro X hP hw hK hc i z0 s σ H E I hf q hg;subst hP hw hK;obtain⟨us,hq,hl⟩:=hg;obtain⟨⟨old,q1⟩,q2⟩:=q;obtain⟨its,rv,p,hz⟩:=I.list hq
  have hn:its.toArray.size=i:=by rw[V1z,<- rv.length,hl]
  have D:=Draws.list (prog:=X.prog) (w:=X.w) (A:=X.A.in1) (I.ok.hd hc) it t d3 its.toArray;refine wpAny_pyNext_enum_endD D q1 ⟨by rw[hn];exact q2,p.isList⟩ fun h' eb=>⟨rfl,?_⟩;obtain⟨f0,f1,f2,f3,f4,f5⟩:=hf it (by simp);exact I.turned (t':=s.toks) (fun b o hb z=>eb b o hb z) f0 f1 f3 f4 f5
 self:=fun _ _ _ _ _ q h=>by obtain⟨⟨old,q1⟩,_⟩:=q;exact B2z q1 h
section
variable {X:Cx}
def Mw(K:Z3)(ta:TA):TI:=fun σ H R=>ta σ H fun vs H1=>∃ a,vs=[.ref a]/\(∃ us,SqL K H1 a us)/\R (ZF K a) H1
theorem Bc{a:Expr}{ta:TA}{p pos pt:Pos}{es:List Expr}{kt:Nat}(hg:Gl X "enumerate")(hm:X.mg "enumerate"=none)(ha:PA X [a] ta)(hs:starEach [a] X.env=[(false,eval a X.env)]) :
  PI X (.Tuple es kt pt) (.Call (.Name "enumerate" p) [a] [] pos) (Mw X.K ta):=by
 intro z0 s σ H R I h;refine Call_ (fV I hg hm (show bootBuiltins "enumerate"=some (.type "enumerate") by decide +kernel) (D0z (thn (ha pos z0 s σ H _ I h) fun us s1 ⟨vs,H1,I1,r1,q1⟩=>?_) hs rfl));obtain⟨a1,e,⟨us,hx⟩,q⟩:=q1;subst e
 cases r1 with
 | cons r rr =>
  cases rr;cases (show _=Value.ref a1 from r);obtain⟨its1,rv,p1,hz⟩:=I1.list hx;refine call_enumerate_list p1.isList fun h' en ti _ kp=>?_;refine B2z (s:={ s1 with heap:=h' }) en ?_;have I2:Inv X z0 σ H1 { s1 with heap:=h' }:=I1.kept (t':=s1.toks) kp
  have lt1:a1<s1.heap.objs.size:=by obtain⟨_,e,_⟩:=p1.isList;exact O4z e
  refine⟨s1.heap.objs.size+1,_,_,_,H1,rfl,I2,uE (Nat.succ_ne_self _) (R4z (Y1z lt1)) (P4z lt1),⟨⟨_,en⟩,ti⟩,fun c hc=>?_,q⟩
  have hc':s1.heap.objs.size<=c:=by
   simp at hc
   rcases hc with h | h<;>rw[h]<;>first | exact A5z _ | exact O2z _ _
  exact I1.fpOk hc' (I1.hok.fresh hc')
end
end L2
namespace L2
open PySem PySem.Spec PyProof.Rows PySem.SeqAt
section
variable {X:Cx}
def Qa(K:Z3):R2:=fun x y H Q=>∃ l b us zs,x=.ref l/\y=.ref b/\SqL K H l us/\SqL K H b zs/\us.length+zs.length<=sizeLine/\∀ p,H p=none->Q (.ref p) (upd H p (.lst (us++zs)))
theorem xJ:OpR X (binaryOp .Add) (Qa X.K):=by
 intro z0 s σ H x y v u Q I rx ry h;obtain⟨l,b,us,zs,rfl,rfl,hH,hB,hz,q⟩:=h;cases (show v=Value.ref l from rx);cases (show u=Value.ref b from ry);obtain⟨its,r,pl,z1⟩:=I.list hH;obtain⟨its2,r2,pl2,z2⟩:=I.list hB;have e1:=r.length;have e2:=r2.length;obtain⟨⟨c1,d1,w1,t1⟩,n1,o1,hc1,hd1,hs1⟩:=pl;obtain⟨⟨c2,d2,w2,t2⟩,n2,o2,hc2,hd2,hs2⟩:=pl2;simp only at hc1 hs1 hc2 hs2;subst hc1 hs1 hc2 hs2;refine concat_meets ⟨_,o1,rfl⟩ ⟨_,o2,rfl⟩ noFill_list_add seq_list_add PySem.F.slot_list_add PySem.F.entry_list_add (PySem.F.args_list_add_2 _ _) (list_addW l b its.toArray its2.toArray n1 n2 d1 d2 t1 t2 (by rw[V1z,V1z];omega)) ⟨o1,o2,?_⟩;rw[show its.toArray++its2.toArray=(its++its2).toArray by simp];exact⟨.ref _,_,I.lnew (t':=s.toks) (r.append r2) (by rw[P1z];omega),rfl,q _ I.fresh⟩
def PJ(K:Z3):R2:=fun x y H Q=>∃ l k us,x=.ref l/\y=.int k/\SqL K H l us /\ -(2^63)<=k/\k<2^63/\us.length*k.toNat<=sizeLine /\
 ∀ p,H p=none->Q (.ref p) (upd H p (.lst (List.replicate k.toNat us).flatten))
theorem xH:OpR X (binaryOp .Mult) (PJ X.K):=by
 intro z0 s σ H x y v u Q I rx ry h;obtain⟨l,k,us,rfl,rfl,hH,h1,h2,hz,q⟩:=h;cases (show v=Value.ref l from rx);obtain⟨t,rfl⟩:=ry;obtain⟨its,r,pl,z1⟩:=I.list hH;have hl:=r.length;obtain⟨⟨c1,d1,w1,t1⟩,n1,e,hc1,hd1,hs1⟩:=pl;simp only at hc1 hs1;subst hc1 hs1
 have a1:its.toArray.size*k.toNat<=sizeLine:=by rw[V1z,<- hl];exact hz
 have a2:¬ its.toArray.size*k.toNat>(2^63-1) / 8:=by
  have:(sizeLine:Nat)<=(2^63-1) / 8:=by decide
  omega
 have a3:¬ (!Builtin.List.listFitsIndex k)=true:=by rw[fitsIndex_both h1 h2];exact L1z
 have a4:¬ Builtin.List.listTooLong (its.toArray.size*k.toNat)=true:=by rw[mH a1];exact L1z
 have a5:List.foldl (fun x1 x2=>x1++x2) #[] (List.replicate (if its.toArray.isEmpty=true then 0 else k.toNat) its.toArray)=(List.replicate k.toNat its).flatten.toArray:=by
  have f0:∀ m:Nat,List.foldl (fun x1 x2=>x1++x2) #[] (List.replicate m its.toArray)=(List.replicate m its).flatten.toArray:=fun m=>(foldl_rep its m []).trans (by rw[N3z]);rw[f0]
  cases its with
  | nil=>simp
  | cons a r'=>rw[S5z (by simp)]
 refine wpAny_binaryOp_repeat_ref (T:="list") (U:="int") (by decide) ⟨_,e,rfl⟩ (fun s'=>typeIs_int s' k t) noFill_list_mul F.fills_int_mul F.slot_int_rmul repeat_list F.slot_int_index.lookup ?_;refine I5z F.slot_int_rmul (typeIs_int s k t) F.entry_int_rmul (F.args_int_rmul_2 _ _) (lm_int_rmul_list_any k t l its.toArray n1 d1 t1) ⟨e,rfl,⟨_,e,rfl⟩,?_⟩;refine I5z F.slot_list_mul ⟨_,e,rfl⟩ F.entry_list_mul (F.args_list_mul_2 _ _) (lm_list_mul_any l its.toArray n1 d1 t1 k t a3 a2 a4) ⟨e,?_⟩;rw[a5];exact⟨.ref _,_,I.lnew (t':=s.toks) (r.rep k.toNat) (by rw[len_rep,V4z];exact hz),rfl,q _ I.fresh⟩
end
section
variable {X:Cx}
end
section
variable {prog:Program} {w:World} {A:Around} {E:Value->Shared->Prop} {s:Shared}
end
section
variable {X:Cx}
end
end L2
namespace HT
open PySem PySem.Spec PyProof.Rows PySem.SeqAt L2
section
variable {prog:Program} {w:World} {A:Around} {E:Value->Shared->Prop} {s:Shared}
theorem fZ{t sl:Addr}{items:Array Value}{vl vu:Value}{lo hi:Option Int}{Q:Value->Shared->Prop}(ht:IsTup s.heap t items)(hs:s.heap.IsSliceOf sl vl vu .none)(pl:IsPart vl lo)(pu:IsPart vu hi)
  (hw:sIx items.size 0 lo=0/\sIx items.size items.size hi=items.size) (h:Q (.ref t) s):wpAny (model prog w) A (getItem (.ref t) (.ref sl)) Q E s:=by
 obtain⟨os,hos,hcs,hds⟩:=id hs;have hTs:s.TypeIs (.ref sl) "slice":=⟨os,hos,hcs⟩;unfold getItem
 try with_reducible refine G4z ?_
 first | refine F5z (G5z ?_) | skip
 refine F5z (wpAny_sequenceKey ht.typeIs (by decide) ?_)
 refine F5z (wpAny_callSpecial?_slot (name:=Str.ofString "__getitem__") ht.typeIs A0z
  (J2z A0z ht.typeIs entry_tuple_getitem ?_ (args_tuple_getitem _ _)))
 show wpAny _ _ (Builtin.Tuple.tupleItemsOf (.ref t) >>=_) _ _ s;refine F5z (tupleItemsOf_ ht ?_);refine F5z (wpAny_typeOf hTs ?_);rw[R5z (by decide)];refine F5z (eO hs pl pu ?_)
 have hyes:(((sIx items.size 0 lo:Nat):Int)==0&&(1:Int)==1&&(sIx items.size items.size hi-sIx items.size 0 lo)==items.size)=true:=by
  rw[hw.1,hw.2];simp
 show wpAny _ _ (if(((sIx items.size 0 lo:Nat):Int)==0&&(1:Int)==1&&(sIx items.size items.size hi-sIx items.size 0 lo)==items.size)=true then _ else _) _ _ s;rw[R5z hyes];refine F5z (F5z (wpAny_typeOf ht.typeIs (G5z ?_)));rw[R5z (by decide)]
 first
  | exact F5z (H5z (F5z (G5z (G5z ⟨_,rfl,G5z h⟩))))
  | exact F5z (H5z (F5z (G5z ⟨_,rfl,G5z h⟩)))
  | exact F5z (H5z (G5z ⟨_,rfl,G5z h⟩))
end
end HT
namespace L2
open PySem PyProof.Rows
section
variable {X:Cx}
def Z9(K:Z3):V->Option Int->Option Int->Hp->VK->Prop:=fun x lo hi H Q=>∃ a xs,x=.ref a/\SqT K H a xs /\
 (HT.sIx xs.length 0 lo=0/\HT.sIx xs.length xs.length hi=xs.length)/\Q (.ref a) H
theorem FW:SlR X (Z9 X.K):=by
 intro z0 s σ H x v vl vu lo hi sl Q I rx hs pl pu h;obtain⟨a,xs,rfl,hx,hw,q⟩:=h;cases rx;obtain⟨its,r,ht,hz⟩:=I.tuple hx
 have hlen:its.toArray.size=xs.length:=by rw[V1z];exact r.length.symm
 refine⟨"tuple",_,A0z.lookup,ht.typeIs,?_⟩;exact HT.fZ ht hs pl pu (by rw[hlen];exact hw) ⟨.ref a,H,I,rfl,q⟩
end
end L2
namespace Kas
open PySem PySem.W PyProof.Rows
def run{α:Type}(lt:Nat->Nat->Bool):KasT α->α
 | .ret a=>a
 | .ask i j k=>run lt (k (lt i j))
section
variable {r:Nat->Nat} {N:Nat}
abbrev K(r:Nat->Nat)(p:Array Nat)(i:Nat):Nat:=r (p.getD i 0)
structure Ok (r:Nat->Nat) (N:Nat) (p:Array Nat):Prop where
 z:p.size=N
 pm:p.toList.Perm (List.range N)
 inj:∀ i j,i<N->j<N->r i=r j->i=j
end
def okP{α:Type}(n:Nat):KasT α->(α->Prop)->Prop
 | .ret a,P=>P a
 | .ask i j k,P=>i<n/\j<n/\∀ b,okP n (k b) P
section
variable {n:Nat}
end
section
variable {prog:Program} {w:World} {A:Around} {E:Value->Shared->Prop} {s:Shared} {Q:Bool->Shared->Prop} {b fin:Bool}
end
section
variable {prog:Program} {w:World} {A:Around} {E:Value->Shared->Prop} {s:Shared}
end
section
variable {prog:Program} {w:World} {A:Around} {E:Value->Shared->Prop} {s:Shared}
end
section
variable {prog:Program} {w:World} {A:Around} {E:Value->Shared->Prop} {s:Shared}
end
end Kas
namespace DE
open PySem
inductive D where
 | non | bl (b:Bool) | int (i:Int) | str (x:Str) | tup (xs:List D) | lst (xs:List D)
 | exc (c:Str)
 | dic (ks:List (Sum Int Str)) (xs:List D)
 | dt (ks:List (List Int)) (xs:List D)
 deriving Inhabited
inductive Sl where
 | no | sh (d:D) | ow (ds:List D) | oo (dss:List (List D))
 | od (l:List (List Int×D))
 deriving Inhabited
abbrev Rho:=List (Str×Sl)
inductive Fl where
 | nxt (ρ:Rho) | ret (d:D)
 deriving Inhabited
def b2i(b:Bool):Int:=if b then 1 else 0
mutual
def deq:D->D->Bool
 | .non,.non=>true
 | .bl a,.bl b=>a==b
 | .bl a,.int j=>b2i a==j
 | .int i,.bl b=>i==b2i b
 | .int i,.int j=>i==j
 | .str x,.str y=>x==y
 | .tup xs,.tup ys=>jP xs ys
 | .lst xs,.lst ys=>jP xs ys
 | _,_=>false
def jP:List D->List D->Bool
 | [],[]=>true
 | x::xs,y::ys=>deq x y&&jP xs ys
 | _,_=>false
end
mutual
def dep:D->Nat
 | .tup xs=>deps xs+1
 | .lst xs=>deps xs+1
 | .exc _=>1000
 | .dic _ _=>1000
 | .dt _ _=>1000
 | _=>0
def deps:List D->Nat
 | []=>0
 | x::xs=>max (dep x) (deps xs)
end
def asB:D->Option Bool
 | .bl b=>some b
 | _=>none
def asI:D->Option Int
 | .int i=>some i
 | _=>none
def items:D->Option (List D)
 | .tup xs=>some xs
 | .lst xs=>some xs
 | _=>none
def Jx:D->Option (List D)
 | .lst xs=>some xs
 | _=>none
def iU:List D->Option (List Int)
 | []=>some []
 | .int i::r=>(iU r).map (i::·)
 | _=>none
def whF:Nat:=10000000000000000000000000000000000000000000000000000000000000000000000000000000000000000000000000000
def pP:List D->Option (List Bool)
 | []=>some []
 | .bl i::r=>(pP r).map (i::·)
 | _=>none
def small(i:Int):Bool:=decide (-(2^64)<i)&&decide (i<2^64)
def mid(i:Int):Bool:=decide (i.natAbs.log2<10000)
def szl(n:Nat):Bool:=decide (n<=100000)
def binop:Operator->D->D->Option D
 | .Add,.int i,.int j=>some (.int (i+j))
 | .Add,.tup xs,.tup ys=>if szl (xs.length+ys.length) then some (.tup (xs++ys)) else none
 | .Add,.lst xs,.lst ys=>if szl (xs.length+ys.length) then some (.lst (xs++ys)) else none
 | .Sub,.int i,.int j=>some (.int (i-j))
 | .Mult,.int i,.int j=>if small i||small j||(mid i&&mid j) then some (.int (i*j)) else none
 | .Mult,.lst xs,.int j=>if decide (j<=1000)&&decide (-1000<=j)&&szl (xs.length*j.toNat) then some (.lst (List.replicate j.toNat xs).flatten) else none
 | .Mult,.tup xs,.int j=>if true then none else none
 | .FloorDiv,.int i,.int j=>if decide (0<j)&&decide (j<1073741824) then some (.int (i / j)) else if decide (j≠0)&&decide (j.natAbs.log2<9000) then some (.int (i.fdiv j)) else none
 | .Mod,.int i,.int j=>if decide (0<j) then some (.int (i%j)) else if decide (j≠0) then some (.int (i.fmod j)) else none
 | _,_,_=>none
def pY:List D->Option (List Str)
 | []=>some []
 | .str i::r=>(pY r).map (i::·)
 | _=>none
def inS(x:D)(ys:List D):Option Bool:=(pY ys).bind fun ss=>if decide (dep x<=50) then some (ss.any fun t=>deq (.str t) x) else none
def inT(x:D)(ys:List D):Option Bool:=match asI x,iU ys with
 | some i,some ns=>some (ns.any (· ==i))
 | _,_=>inS x ys
def Dk(l:List (List Int×D))(k:List Int)(d:D):List (List Int×D):=if(l.any fun q=>decide (q.1=k))=true then l.map (fun q=>if q.1=k then(q.1,d) else q) else l++[(k,d)]
def xV(l:List (List Int×D))(k:List Int):Option D:=(l.find? fun q=>decide (q.1=k)).map (·.2)
def fK(l:List (List Int×D)):D:=.dt (l.map (·.1)) (l.map (·.2))
def uU:D->Option (List Int)
 | .tup ts=>iU ts
 | _=>none
def Ib:D->D->D->Option D
 | .dt ks ds,y,z=>(uU y).map fun k=>(xV (ks.zip ds) k).getD z
 | _,_,_=>none
def Jz:D->Option (List D)
 | .dt ks ds=>some ((ks.zip ds).map fun q=>.tup [.tup (q.1.map D.int),q.2])
 | _=>none
def dt1(f:Expr->Option D):List (Option Expr)->List Expr->Option D
 | [some k],[v]=>do let x <- (f k).bind uU;let d <- f v;some (.dt [x] [d])
 | _,_=>none
def HF:D->Bool
 | .non=>true
 | _=>false
def cmpop:CmpOp->D->D->Option D
 | .Eq,x,y=>if decide (dep x<=50)&&decide (dep y<=50) then some (.bl (deq x y)) else none
 | .NotEq,x,y=>if decide (dep x<=50)&&decide (dep y<=50) then some (.bl (!deq x y)) else none
 | .Lt,.int i,.int j=>some (.bl (decide (i<j)))
 | .LtE,.int i,.int j=>some (.bl (decide (i<=j)))
 | .Gt,.int i,.int j=>some (.bl (decide (j<i)))
 | .GtE,.int i,.int j=>some (.bl (decide (j<=i)))
 | .Is,x,.non=>some (.bl (HF x))
 | .IsNot,x,.non=>some (.bl (!HF x))
 | .In,x,.tup ys=>(inT x ys).map fun b=>.bl b
 | .NotIn,x,.tup ys=>(inT x ys).map fun b=>.bl (!b)
 | .In,x,.lst ys=>if decide (dep x<=50)&&decide (deps ys<=50) then some (.bl (ys.any fun y=>deq y x)) else none
 | _,_,_=>none
def ixD(n:Nat)(i:Int):Option Nat:=if 0<=i then(if i<n then some i.toNat else none) else if -(n:Int)<=i then some (i+n).toNat else none
def atD(xs:List D)(i:Int):Option D:=(ixD xs.length i).bind fun j=>xs[j]?
def lV(n d:Nat):Option Int->Nat
 | none=>d
 | some v=>if v<0 then(v+(n:Int)).toNat else min v.toNat n
def nD(xs:List D)(lo hi:Option Int):List D:=(xs.drop (lV xs.length 0 lo)).take (lV xs.length xs.length hi-lV xs.length 0 lo)
def N7:D->D->Option D
 | .tup xs,.int i=>atD xs i
 | .lst xs,.int i=>atD xs i
 | _,_=>none
mutual
def fB:D->Bool
 | .non=>true
 | .bl _=>true
 | .int _=>true
 | .str _=>true
 | .tup ds=>gR ds
 | _=>false
def gR:List D->Bool
 | []=>true
 | d::r=>fB d&&gR r
end
def DR:String->D->Bool
 | "int",.int _=>true
 | "int",.bl _=>true
 | "bool",.bl _=>true
 | "tuple",.tup _=>true
 | "list",.lst _=>true
 | "str",.str _=>true
 | _,_=>false
def blt:String->List D->Option D
 | "len",[d]=>do let l <- items d;some (.int l.length)
 | "all",[.lst xs]=>do let bs <- pP xs;some (.bl (bs.all id))
 | "tuple",[d]=>do let l <- items d;some (.tup l)
 | "list",[d]=>do let l <- items d;some (.lst l)
 | "abs",[.int i]=>some (.int (if i<0 then -i else i))
 | "int",[.bl b]=>some (.int (b2i b))
 | "int",[.int i]=>some (.int i)
 | _,_=>none
structure Cxt where
 cst:List (Str×D)
 blt:List (Str×String)
 fns:List Str
 exs:List Str
 top:Str
 rs:Bool
 call:Str->List D->Option D
 callx:Str->List D->Option Str
def isExc:D->Bool
 | .exc _=>true
 | .dic _ _=>true
 | .dt _ _=>true
 | _=>false
def Jp(top c c':Str):Bool:=c==c'||c'==top
noncomputable def jZ(scope sc:Scope):Scope :=
 { scope with names:=scope.names.map fun(n,k)=>if(k==.free&&sc.kind==.function&&sc.names.lookup n==some .cell) then(n,.cell) else(n,k) }
def Pr:Option Sl->Sl
 | some (.sh d)=>.sh d
 | _=>.no
def bJ(scope:Scope)(ρ:Rho):Rho:=scope.names.map fun p=>(p.1,if p.2==.free then Pr (ρ.lookup p.1) else .no)
def sE:List Str->Bool
 | []=>true
 | x::r => !r.contains x&&sE r
def gY(sc scope:Scope):Bool :=
 scope.kind==.function&&sE (scope.names.map (·.1))&&scope.names.all fun p=>p.2 !=.free||sc.names.lookup p.1==some .cell||sc.names.lookup p.1==some .free
def cC:Rho->Str->Sl->Rho
 | [],_,_=>[]
 | (y,s)::r,x,v=>if x==y then(y,v)::r else(y,s)::cC r x v
def aH(x:Str):Bool:=x !="__debug__"&&x !="__classdict__"
def ownIn(scope:Scope)(x:Str):Bool:=scope.names.lookup x==some .local||scope.names.lookup x==some .cell
def bindNames(scope:Scope):List Expr->List D->Rho->Option Rho
 | [],[],ρ=>some ρ
 | .Name x _::es,d::ds,ρ=>if ownIn scope x&&(ρ.map (·.1)).contains x then bindNames scope es ds (cC ρ x (.sh d)) else none
 | _,_,_=>none
def fP(scope:Scope):Expr->D->Rho->Option Rho
 | .Name x _,d,ρ=>if ownIn scope x&&(ρ.map (·.1)).contains x then some (cC ρ x (.sh d)) else none
 | .Tuple es _ _,.tup ds,ρ=>bindNames scope es ds ρ
 | _,_,_=>none
def mQ(cx:Cxt)(sc:Scope)(x:Str):Bool:=sc.names.lookup x==some .globalImplicit
def bC(cx:Cxt)(sc:Scope)(x:Str):Option String:=if mQ cx sc x then cx.blt.lookup x else none
def bG(f:D->Option (Option D)):List D->Option (List D)
 | []=>some []
 | x::r=>do
  match <- f x with
  | some v=>(bG f r).map (v::·)
  | none=>bG f r
def d7(lo hi:Int):List D:=(List.range (hi-lo).toNat).map fun(k:Nat)=>.int (lo+(k:Int))
def j4(f:Expr->Option D):List Expr->Option (List D)
 | []=>some []
 | e::r=>do let d <- f e;let ds <- j4 f r;some (d::ds)
def cg(op:BoolOp)(f:Expr->Option D):List Expr->Option D
 | []=>none
 | [e]=>f e
 | e::e'::r=>do
  let d <- f e
  let b <- asB d
  match op with
  | .And=>if b then cg op f (e'::r) else some (.bl false)
  | .Or=>if b then some (.bl true) else cg op f (e'::r)
def fM(i:Int):Bool:=decide (-(2^62)<=i)&&decide (i<2^62)
def d8:Expr->Bool
 | .Tuple .. =>true
 | _=>false
inductive Wk where
 | r1 (a:Expr) | r2 (a b:Expr) | r3 (a b c:Expr) | zp (a b:Expr) | rv (a:Expr) | en (a:Expr) | it (a:Expr) | sq
def pR(cx:Cxt)(sc:Scope):Expr->Wk
 | .Call (.Name x _) args [] _=>(match bC cx sc x with
  | some "range"=>(match args with | [a]=>.r1 a | [a,b]=>.r2 a b | [a,b,c]=>.r3 a b c | _=>.sq)
  | some "zip"=>(match args with | [a,b]=>.zp a b | _=>.sq)
  | some "reversed"=>(match args with | [a]=>.rv a | _=>.sq)
  | some "enumerate"=>(match args with | [a]=>.en a | _=>.sq)
  | _=>.sq)
 | .Call (.Attribute (.Name y py) m ap) [] [] p=>if ap.endLine==p.line&&m=="items" then .it (.Name y py) else .sq
 | _=>.sq
def enD(xs:List D):List D:=xs.zipIdx.map fun q=>.tup [.int (q.2:Int),q.1]
def NP:D->D->Option (List D)
 | .tup xs,.tup ys=>some ((xs.zip ys).map fun q=>.tup [q.1,q.2])
 | .lst xs,.lst ys=>if true then none else none
 | .lst xs,.tup ys=>if true then none else none
 | .tup xs,.lst ys=>if true then none else none
 | _,_=>none
def evI(cx:Cxt)(tup:Bool)(f:Expr->Option D)(sc:Scope)(e:Expr):Option (List D):=match pR cx sc e with
 | .r1 a=>do let j <- (f a).bind asI;if fM j then some (d7 0 j) else none
 | .r2 a b=>do let i <- (f a).bind asI;let j <- (f b).bind asI;if fM i&&fM j then some (d7 i j) else none
 | .r3 a b c=>if true then none else none
 | .zp a b=>do let x <- f a;let y <- f b;if tup then NP x y else none
 | .rv a=>if true then none else none
 | .en a=>do let x <- f a;if tup then(items x).map enD else none
 | .it a=>do let x <- f a;if tup then Jz x else none
 | .sq=>(f e).bind items
inductive Wc where
 | lr1 (a:Expr) | lr2 (a b:Expr) | tv (a:Expr) | ls (a:Expr) | tr1 (a:Expr) | al
def Xa(cx:Cxt)(sc:Scope):Expr->Option Expr
 | .Call (.Name y _) [a] [] _=>if bC cx sc y==some "set" then some a else none
 | _=>none
def ddp(ns:List Int):List Int:=ns.foldl (fun l k=>if l.any (· ==k) then l else l++[k]) []
def Aa(cx:Cxt)(sc:Scope)(b:String)(args:List Expr):Wc:=match args with
 | [e]=>(match b,pR cx sc e with
  | "list",.r1 a=>.lr1 a
  | "list",.r2 a b=>.lr2 a b
  | "tuple",.rv a=>.tv a
  | "tuple",.r1 a=>.tr1 a
  | "len",.sq=>(match Xa cx sc e with | some a=>.ls a | none=>.al)
  | _,_=>.al)
 | _=>.al
def fW:String->Bool
 | "int"=>true
 | "bool"=>true
 | "tuple"=>true
 | "list"=>true
 | "str"=>true
 | _=>false
def tyOf(cx:Cxt)(sc:Scope):Expr->Option String
 | .Name x _=>bC cx sc x
 | _=>none
def xOf(cx:Cxt)(sc:Scope):Expr->Option Str
 | .Name x _=>if mQ cx sc x&&(cx.exs.contains x||x==cx.top)&&aH x then some x else none
 | _=>none
def cntB(b:Bool)(bs:List Bool):Nat:=(bs.filter (· ==b)).length
def mR(f:Expr->Option D):List Expr->Option Bool
 | []=>some true
 | [c]=>(f c).bind asB
 | _=>none
def qI(m:Str):D->D->Option D
 | .lst xs,.bl b=>do
  let bs <- pP xs
  if m=="count" then some (.int (cntB b bs)) else if m=="index"&&bs.contains b then some (.int (bs.idxOf b)) else none
 | _,_=>none
def aL:Expr->Bool
 | .Starred .. =>false
 | .Set .. =>false
 | .Slice .. =>false
 | _=>true
def Xe:D->Option Expr->Option Expr->Option Int->Option D
 | _,_,_,_=>none
def ev(cx:Cxt):Nat->Scope->Rho->Expr->Option D
 | 0,_,_,_=>none
 | n+1,sc,ρ,e=>match e with
  | .Name x _=>if aH x then(match sc.names.lookup x with
    | some .local=>(match ρ.lookup x with | some (.sh d)=>some d | _=>none)
    | some .cell=>(match ρ.lookup x with | some (.sh d)=>some d | _=>none)
    | some .free=>(match ρ.lookup x with | some (.sh d)=>some d | _=>none)
    | some .globalImplicit=>cx.cst.lookup x
    | _=>none) else none
  | .Constant c _ _=>(match c with
    | .none=>some .non
    | .bool b=>some (.bl b)
    | .int i=>some (.int i)
    | .str x=>some (.str x)
    | _=>none)
  | .BinOp a op b _=>do let x <- ev cx n sc ρ a;let y <- ev cx n sc ρ b;binop op x y
  | .UnaryOp op a _=>do
    let x <- ev cx n sc ρ a
    match op with
    | .USub=>(asI x).map fun i=>.int (-i)
    | .Not=>(asB x).map fun b=>.bl (!b)
    | _=>none
  | .BoolOp op es _=>cg op (ev cx n sc ρ) es
  | .Compare a ops bs _=>(match ops,bs with
    | [op],[b]=>do let x <- ev cx n sc ρ a;let y <- ev cx n sc ρ b;cmpop op x y
    | [op,op'],[b,c]=>if !aL c then none else do
     let x <- ev cx n sc ρ a
     let y <- ev cx n sc ρ b
     let k <- (cmpop op x y).bind asB
     if k then do let z <- ev cx n sc ρ c;cmpop op' y z else some (.bl false)
    | _,_=>none)
  | .IfExp c a b _=>do
    let k <- (ev cx n sc ρ c).bind asB
    if k then ev cx n sc ρ a else ev cx n sc ρ b
  | .Tuple es _ _=>do let ds <- j4 (ev cx n sc ρ) es;if szl ds.length then some (.tup ds) else none
  | .List es _=>do let ds <- j4 (ev cx n sc ρ) es;if szl ds.length then some (.lst ds) else none
  | .Subscript a b _=>do
    let x <- ev cx n sc ρ a
    match b with
    | .Slice lo hi st _=>(match st with
     | none=>do
      let l <- (match lo with | none=>some none | some e=>(ev cx n sc ρ e).bind fun d=>(asI d).map some)
      let h <- (match hi with | none=>some none | some e=>(ev cx n sc ρ e).bind fun d=>(asI d).map some)
      match x with
      | .tup xs=>if lV xs.length 0 l==0&&lV xs.length xs.length h==xs.length then some (.tup xs) else some (.tup (nD xs l h))
      | .lst xs=>some (.lst (nD xs l h))
      | _=>none
     | some c=>Xe x lo hi ((ev cx n sc ρ c).bind asI))
    | b=>do
     let y <- ev cx n sc ρ b
     N7 x y
  | .Dict ks vs _=>dt1 (ev cx n sc ρ) ks vs
  | .Call f args kws p=>(match f,kws with
    | .Name x _,[] =>
     if mQ cx sc x then
      match cx.blt.lookup x with
      | some "isinstance"=>(match args with
       | [a,t]=>do
        let d <- ev cx n sc ρ a
        match xOf cx sc t with
        | some c'=>(match d with | .exc c=>if cx.exs.contains c then some (.bl (Jp cx.top c c')) else none | _=>none)
        | none=>do
         let ty <- tyOf cx sc t
         match d with
         | .exc c=>if cx.exs.contains c&&ty=="ValueError" then some (.bl true) else none
         | .dic _ _=>none
         | .dt _ _=>none
         | d=>if fW ty then some (.bl (DR ty d)) else none
       | _=>none)
      | some b=>(match Aa cx sc b args with
       | .lr1 a=>if true then none else none
       | .lr2 a a'=>if true then none else none
       | .tr1 a=>if true then none else none
       | .tv a=>if true then none else none
       | .ls a=>do let xs <- (ev cx n sc ρ a).bind Jx;let ns <- iU xs;if decide (xs.length<=1000) then some (.int (ddp ns).length) else none
       | .al=>if args.isEmpty then none else do let ds <- j4 (ev cx n sc ρ) args;blt b ds)
      | none=>if cx.fns.contains x && !args.isEmpty then do let ds <- j4 (ev cx n sc ρ) args;cx.call x ds else none
     else none
    | .Name x _,[k]=>(match args with
     | [a]=>if bC cx sc x==some "max" then none else none
     | _=>none)
    | .Attribute (.Name y py) m ap,[]=>(match args with
     | [e]=>if ap.endLine==p.line then do
       let x <- ev cx n sc ρ (.Name y py)
       let z <- ev cx n sc ρ e
       qI m x z else none
     | [e,e2]=>if ap.endLine==p.line&&m=="get"&&aL e&&aL e2 then do
       let x <- ev cx n sc ρ (.Name y py)
       let y <- ev cx n sc ρ e
       let z <- ev cx n sc ρ e2
       Ib x y z else none
     | _=>none)
    | .Attribute (.Call g (a1::as) ks gp) m ap,[]=>(match args with
     | [e,e2]=>if ap.endLine==p.line&&m=="get"&&aL e&&aL e2 then do
       let x <- ev cx n sc ρ (.Call g (a1::as) ks gp)
       let y <- ev cx n sc ρ e
       let z <- ev cx n sc ρ e2
       Ib x y z else none
     | _=>none)
    | .Subscript (.List es _) ix _,[]=>if true then none else none
    | _,_=>none)
  | .ListComp elt gens scope _=>(match gens with
    | [⟨tg,iter,ifs,a⟩]=>if a==0&&gY sc scope then do
      let l <- evI cx (d8 tg) (ev cx n sc ρ) sc iter
      if szl l.length then do
       let out <- bG (fun d=>do
        let ρ1 <- fP scope tg d (bJ scope ρ)
        let b <- mR (ev cx n (jZ scope sc) ρ1) ifs
        if b then(ev cx n (jZ scope sc) ρ1 elt).map some else some none) l
       some (.lst out)
      else none
     else none
    | _=>none)
  | _=>none
def evx(cx:Cxt):Nat->Scope->Rho->Expr->Option Str
 | 0,_,_,_=>none
 | n+1,sc,ρ,e=>match e with
  | .Call (.Name x _) args [] _=>if mQ cx sc x && !args.isEmpty&&args.all aL&&cx.fns.contains x then
    (match j4 (ev cx n sc ρ) args with
    | some ds=>cx.callx x ds
    | none=>none)
   else none
  | .IfExp c a b _=>(match (ev cx n sc ρ c).bind asB with
   | some true=>evx cx n sc ρ a
   | some false=>evx cx n sc ρ b
   | none=>none)
  | _=>none
def dh:Nat->Str->Expr->Bool
 | 0,_,_=>true
 | n+1,x,e=>match e with
  | .Name y _=>x==y
  | .Constant .. =>false
  | .BinOp a _ b _=>dh n x a||dh n x b
  | .UnaryOp _ a _=>dh n x a
  | .BoolOp _ es _=>es.any (dh n x)
  | .Compare a _ bs _=>dh n x a||bs.any (dh n x)
  | .IfExp c a b _=>dh n x c||dh n x a||dh n x b
  | .Tuple es _ _=>es.any (dh n x)
  | .List es _=>es.any (dh n x)
  | .Subscript a b _=>dh n x a||dh n x b
  | .Slice lo hi st _=>(lo.map (dh n x)).getD false||(hi.map (dh n x)).getD false||(st.map (dh n x)).getD false
  | .Attribute a _ _=>dh n x a
  | .Call f args kws _=>dh n x f||args.any (dh n x) || !kws.isEmpty
  | .ListComp elt gens _ _=>dh n x elt||gens.any fun g=>dh n x g.iter||g.ifs.any (dh n x)
  | _=>true
def frz(n:Nat)(e:Expr)(ρ:Rho):Rho:=ρ.map fun p=>match p.2 with
 | .ow ds=>if dh n p.1 e then(p.1,.sh (.lst ds)) else p
 | .oo dss=>if dh n p.1 e then(p.1,.sh (.lst (dss.map .lst))) else p
 | .od l=>if dh n p.1 e then(p.1,.sh (fK l)) else p
 | _=>p
def Oe:Expr->Bool
 | .Dict [] [] _=>true
 | _=>false
noncomputable def isL:Expr->Bool
 | .List .. =>true
 | _=>false
def Zr:Operator->Bool
 | .Mult=>true
 | _=>false
def aZ:Expr->Bool
 | .List .. =>true
 | .ListComp .. =>true
 | .BinOp a op _ _=>isL a&&Zr op
 | _=>false
def qW:Sl->Bool
 | .no=>true
 | .sh _=>true
 | _=>false
def JB:Sl->Bool
 | .oo _=>true
 | .od _=>true
 | _=>false
def mG(ρ:Rho)(x:Str):Bool:=ρ.all fun p=>p.1==x||qW p.2
def qF(ρ:Rho)(x:Str):Bool:=ρ.all fun p=>p.1==x || !JB p.2
def Od(cx:Cxt)(sc:Scope):Expr->Bool
 | .Name y _=>aH y&&sc.names.lookup y==some .local
 | .Call (.Name f _) _ [] _=>mQ cx sc f&&(cx.blt.lookup f).isNone
 | _=>false
def Zt:Operator->Bool
 | .Add=>true
 | _=>false
def Qj(cx:Cxt)(sc:Scope):Expr->Bool
 | .Call (.Name l _) [y] [] _=>bC cx sc l==some "list"&&Od cx sc y
 | .ListComp .. =>true
 | .BinOp _ op b _=>Zt op&&aZ b
 | _=>false
def Jy(cx:Cxt)(sc:Scope):Expr->Bool
 | .Call (.Name l _) [y] [] _=>bC cx sc l==some "list"&&Od cx sc y
 | _=>false
def ooE(cx:Cxt)(sc:Scope):Expr->Bool
 | .ListComp elt [⟨.Name _ _,_,[],_⟩] scope _=>Qj cx (jZ scope sc) elt
 | _=>false
def Jw:List D->Option (List (List D))
 | []=>some []
 | .lst ds::r=>(Jw r).map (ds::·)
 | _=>none
def Ly:D->Option (List (List D))
 | .lst ds=>Jw ds
 | _=>none
def Nv(x:Str):Expr->Option (Expr×Expr)
 | .BinOp (.Subscript (.Name y _) i _) .Add e _=>if x==y then some (i,e) else none
 | _=>none
def lQ(e:Expr)(d:D):Sl:=match d with
 | .lst ds=>if aZ e then .ow ds else .sh (.lst ds)
 | d=>.sh d
def nc0:Expr->Bool
 | .Call .. =>true
 | .Name x _=>x !="__debug__"
 | .IfExp .. =>true
 | .ListComp .. =>true
 | .Compare .. =>true
 | _=>false
def nc1:Expr->Bool
 | .Subscript v _ _=>nc0 v
 | e=>nc0 e
def nc:Expr->Bool
 | .Subscript v i _=>nc0 v||nc0 i
 | .BinOp l _ r _=>nc1 l||nc1 r
 | e=>nc0 e
def Bx:Expr->Bool
 | .Constant .. =>true
 | _=>false
def swp(sc:Scope)(ts:List Expr)(value:Expr):Option Bool:=match value with
 | .Tuple vs _ _=>(match ts,vs with
  | [.Name x px,.Name y py],[a,b] =>
   if sc.names.lookup x==some .local&&sc.names.lookup y==some .local then
    (if px.line==py.line&&x !=y&&(nc a||nc b)&&aL a&&aL b then some true else if Bx a&&Bx b then some false else none)
   else some false
  | [.Name x _,.Name y _,.Name z _],[_,_,_]=>if sc.names.lookup x==some .cell&&sc.names.lookup y==some .cell&&sc.names.lookup z==some .cell then some false else none
  | _,_=>none)
 | _=>some false
def rdA:Expr->Bool
 | .Call (.Name _ _) [.Subscript _ _ _,.Subscript _ _ _] [] _=>true
 | _=>false
def bU(f:D->Rho->Option Fl):List D->Rho->Option Fl
 | [],ρ=>some (.nxt ρ)
 | x::r,ρ=>do
  match <- f x ρ with
  | .ret d=>some (.ret d)
  | .nxt ρ'=>bU f r ρ'
def iY(f:Rho->Stmt->Option Fl):List Stmt->Rho->Option Fl
 | [],ρ=>some (.nxt ρ)
 | s::r,ρ=>do
  match <- f ρ s with
  | .ret d=>some (.ret d)
  | .nxt ρ'=>iY f r ρ'
def rB(c:Rho->Option (Rho×Bool))(f:Rho->Option Fl):Nat->Rho->Option Fl
 | 0,_=>none
 | m+1,ρ=>match c ρ with
  | none=>none
  | some (ρ1,b)=>if b then(match f ρ1 with
   | none=>none
   | some (.ret d)=>some (.ret d)
   | some (.nxt ρ')=>rB c f m ρ') else some (.nxt ρ1)
def uF:List ExceptHandler->List Stmt->List Stmt->Option (Str×Str×Str)
 | [.ExceptHandler (some (.Name c _)) (some e) [.Assign [.Name kn _] (.Name e' _) _] _],[],[]=>if e==e' then some (c,e,kn) else none
 | _,_,_=>none
def xO:Expr->Option Expr
 | .UnaryOp .Not (.Call f as ks p) _=>some (.Call f as ks p)
 | _=>none
def gw(f:Rho->Stmt->Option Fl)(g:Rho->Stmt->Option (Str×Rho)):List Stmt->Rho->Option (Str×Rho)
 | [],_=>none
 | s::r,ρ=>match f ρ s with
  | some (.nxt ρ')=>gw f g r ρ'
  | some (.ret _)=>none
  | none=>g ρ s
mutual
def st(cx:Cxt)(F:Nat):Nat->Scope->Rho->Stmt->Option Fl
 | 0,_,_,_=>none
 | n+1,sc,ρ,s=>match s with
  | .Pass _=>some (.nxt ρ)
  | .Return v _=>(match v with
    | none=>some (.ret .non)
    | some e=>(ev cx F sc (frz F e ρ) e).map .ret)
  | .Assign tgs e _=>(match tgs with
    | [.Name x _]=>if ownIn sc x&&(ρ.map (·.1)).contains x then
      (if ooE cx sc e&&mG (frz F e ρ) x then(ev cx F sc (frz F e ρ) e).bind fun d=>(Ly d).map fun dss=>.nxt (cC (frz F e ρ) x (.oo dss))
      else if Jy cx sc e&&qF (frz F e ρ) x then none
      else if aZ e && !qF (frz F e ρ) x then none
      else if rdA e then none
      else(match ev cx F sc (frz F e ρ) e with
       | some d=>some (.nxt (cC (frz F e ρ) x (lQ e d)))
       | none=>if Oe e&&mG ρ x then some (.nxt (cC ρ x (.od []))) else none)) else none
    | [.Tuple es _ _]=>if(swp sc es e).isSome||false then do
      let d <- ev cx F sc (frz F e ρ) e
      let l <- items d
      (bindNames sc es l (frz F e ρ)).map .nxt
     else none
    | [.Subscript t ie _]=>(match t with
     | .Name x _=>(match Nv x e with
      | some (i2,e2)=>if true then none else none
      | none=>(match (frz F ie (frz F e ρ)).lookup x with
       | some (.sh _)=>(match ρ.lookup x with
        | some (.od l)=>if ownIn sc x&&aH x && !aZ e then do
          let d <- ev cx F sc (frz F e ρ) e
          let y <- ev cx F sc (frz F e ρ) ie
          let k <- uU y
          if fB d&&decide (l.length<=1000) then some (.nxt (cC ρ x (.od (Dk l k d)))) else none
         else none
        | _=>none)
       | _=>none))
     | .Subscript (.Name x _) i1 _=>(match ρ.lookup x with
      | some (.oo dss)=>if ownIn sc x&&aH x && !aZ e then do
        let d <- ev cx F sc (frz F e ρ) e
        let j1 <- (ev cx F sc (frz F i1 ρ) i1).bind asI
        let n1 <- ixD dss.length j1
        let ds <- dss[n1]?
        let j2 <- (ev cx F sc (frz F ie ρ) ie).bind asI
        let n2 <- ixD ds.length j2
        if fB d then some (.nxt (cC ρ x (.oo (dss.set n1 (ds.set n2 d))))) else none
       else none
      | _=>none)
     | _=>none)
    | _=>none)
  | .Expr v _=>(match v with
    | .Call (.Attribute (.Name x _) m ap) [e] [] cp=>(match (frz F e ρ).lookup x with
      | some (.ow ds)=>if ownIn sc x&&aH x&&ap.endLine==cp.line then
        if m=="append"&&szl (ds.length+1) then(ev cx F sc (frz F e ρ) e).map fun d=>.nxt (cC (frz F e ρ) x (.ow (ds++[d])))
        else if m=="extend" then do
         let d <- ev cx F sc (frz F e ρ) e
         (match d with
         | .lst zs=>if szl (ds.length+zs.length) then some (.nxt (cC (frz F e ρ) x (.ow (ds++zs)))) else none
         | .tup zs=>if szl (ds.length+zs.length) then some (.nxt (cC (frz F e ρ) x (.ow (ds++zs)))) else none
         | _=>none)
        else none
       else none
      | _=>none)
    | .ListComp .. =>none
    | .Constant .. =>none
    | e=>(ev cx F sc (frz F e ρ) e).map fun _=>.nxt (frz F e ρ))
  | .If c a b _=>do
    let k <- (ev cx F sc (frz F c ρ) c).bind asB
    if k then iY (fun ρ s=>st cx F n sc ρ s) a ρ else iY (fun ρ s=>st cx F n sc ρ s) b ρ
  | .For tg iter body orelse _=>(match orelse with
    | []=>do
     let l <- evI cx (d8 tg) (ev cx F sc (frz F iter ρ)) sc iter
     bU (fun d ρ=>do let ρ1 <- fP sc tg d ρ;iY (fun ρ s=>st cx F n sc ρ s) body ρ1) l (frz F iter ρ)
    | _=>none)
  | .While c body orelse _=>(match orelse with
    | []=>rB (fun ρ=>((ev cx F sc (frz F c ρ) c).bind asB).map fun b=>(frz F c ρ,b)) (fun ρ=>iY (fun ρ s=>st cx F n sc ρ s) body ρ) whF ρ
    | _=>none)
  | .Try body hs orelse fin _=>(match uF hs orelse fin with
   | some (c,e,kn)=>(match iY (fun ρ s=>st cx F n sc ρ s) body ρ with
    | some fl=>some fl
    | none=>(match gw (fun ρ s=>st cx F n sc ρ s) (fun ρ s=>stx { cx with rs:=false } F n sc ρ s) body ρ with
     | some (c',ρ')=>if mQ cx sc c&&c==cx.top&&cx.exs.contains c'&&e !=kn&&aH e&&sc.names.lookup e==some .local&&sc.names.lookup kn==some .local&&(ρ.map (·.1)).contains e&&(ρ.map (·.1)).contains kn&&aH c then
       some (.nxt (cC (cC ρ' kn (.sh (.exc c'))) e .no)) else none
     | none=>none))
   | none=>none)
  | _=>none
def stx(cx:Cxt)(F:Nat):Nat->Scope->Rho->Stmt->Option (Str×Rho)
 | 0,_,_,_=>none
 | n+1,sc,ρ,s=>match s with
  | .Raise (some (.Call (.Name c _) [.Constant (.str _) _ _] [] _)) none _=>if cx.rs&&mQ cx sc c&&cx.exs.contains c&&aH c then some (c,ρ) else none
  | .Expr e _=>if aZ e then none else(evx cx F sc (frz F e ρ) e).map fun c=>(c,frz F e ρ)
  | .Assign [.Name _ _] e _=>if aZ e then none else(evx cx F sc (frz F e ρ) e).map fun c=>(c,frz F e ρ)
  | .If c a b _=>(match (ev cx F sc (frz F c ρ) c).bind asB with
    | some k=>gw (fun ρ s=>st cx F n sc ρ s) (fun ρ s=>stx cx F n sc ρ s) (if k then a else b) (frz F c ρ)
    | none=>(match xO c with
     | some e=>(evx cx F sc (frz F c ρ) e).map fun x=>(x,frz F c ρ)
     | none=>none))
  | _=>none
end
structure Fd where
 ps:List Str
 N:List Str
 sc:Scope
 body:List Stmt
def cu(fd:Fd)(ds:List D):Rho:=(fd.ps.zip (ds.map Sl.sh))++(fd.N.drop fd.ps.length).map fun x=>(x,.no)
structure Pg where
 cst:List (Str×D)
 blt:List (Str×String)
 defs:List (Str×Fd)
 exs:List Str:=[]
 top:Str:="MinorError"
inductive Rs where
 | val (d:D) | exc (c:Str)
def Rs.val?:Option Rs->Option D
 | some (.val d)=>some d
 | _=>none
def Rs.exc?:Option Rs->Option Str
 | some (.exc c)=>some c
 | _=>none
def Pg.cx(P:Pg)(c:Str->List D->Option Rs):Cxt:=⟨P.cst,P.blt,P.defs.map (·.1),P.exs,P.top,true,fun f ds=>Rs.val? (c f ds),fun f ds=>Rs.exc? (c f ds)⟩
def pG(cx:Cxt)(F:Nat)(sc:Scope)(body:List Stmt)(ρ:Rho):Option Rs:=match iY (fun ρ s=>st cx F F sc ρ s) body ρ with
 | some (.ret d)=>some (.val d)
 | some (.nxt _)=>some (.val .non)
 | none=>(match gw (fun ρ s=>st cx F F sc ρ s) (fun ρ s=>stx cx F F sc ρ s) body ρ with
  | some (c,_)=>some (.exc c)
  | none=>none)
@[irreducible] def eV (P:Pg) (F:Nat):Nat->Str->List D->Option Rs
 | 0,_,_=>none
 | k+1,f,ds=>match P.defs.lookup f with
  | none=>none
  | some fd=>if ds.length==fd.ps.length then pG (P.cx (eV P F k)) F fd.sc fd.body (cu fd ds) else none
theorem qX{P:Pg}{F:Nat}{f:Str}{ds:List D}:eV P F 0 f ds=none:=by with_unfolding_all rfl
theorem jX{P:Pg}{F k:Nat}{f:Str}{ds:List D}:eV P F (k+1) f ds=(match P.defs.lookup f with
  | none=>none
  | some fd=>if ds.length==fd.ps.length then pG (P.cx (eV P F k)) F fd.sc fd.body (cu fd ds) else none):=by with_unfolding_all rfl
@[irreducible] def aG (P:Pg) (F k:Nat) (f:Str) (ds:List D):Option D:=Rs.val? (eV P F k f ds)
theorem ig{P:Pg}{F k:Nat}{f:Str}{ds:List D}:aG P F k f ds=Rs.val? (eV P F k f ds):=by with_unfolding_all rfl
@[irreducible] def u9 (P:Pg) (F k:Nat) (f:Str) (ds:List D):Option Str:=Rs.exc? (eV P F k f ds)
theorem tX{P:Pg}{F k:Nat}{f:Str}{ds:List D}:u9 P F k f ds=Rs.exc? (eV P F k f ds):=by with_unfolding_all rfl
end DE
namespace L2
open PySem PySem.Spec PyProof.Rows PySem.SeqAt
section
variable {prog:Program} {w:World} {A:Around} {I:Addr} {fp wr:List Addr} {n:Nat} {P:Nat->Value->Prop} {St:Nat->Heap->Prop}
end
end L2
namespace L2
open PySem PySem.Spec PyProof.Rows
section
variable (P:Program) (w:World)
end
section
variable {P:Program} {w:World} {H H':Hp} {h h':Heap} {a:Addr} {o:HO}
end
section
variable {P:Program} {w:World} {H:Hp} {h h':Heap} {x e:Addr} {o':HO}
end
section
variable {fs fs' ex ex':List Addr} {H H1 H2:Hp} {h h1 h2 h':Heap} {a x e:Addr} {o:HO}
end
section
variable {X:Cx} {z0:List (Addr×Obj)} {σ:List (Option V)} {H H':Hp} {s:Shared} {h':Heap}
end
section
variable {X:Cx}
variable {a b:Expr} {ta tb:TE} {pos:Pos}
variable {tA tB':TT} {rest:List Expr}
end
section
variable {X:Cx} {z0:List (Addr×Obj)} {σ:St} {H:Hp} {s:Shared} {a:Addr} {xs ys:List V}
end
section
variable {X:Cx} {z0:List (Addr×Obj)} {σ:St} {H:Hp} {s:Shared} {E:Value->Shared->Prop}
end
section
variable {X:Cx} {st:Stmt} {rest:List Stmt} {t u:TS} {e:Expr} {te:TE} {pos:Pos}
end
section
variable {X:Cx} {pos:Pos}
end
section
variable {X:Cx} {pos:Pos}
end
section
variable {X:Cx} {tg:Expr}
end
section
variable {X:Cx} {a b c:Expr} {ta tb tc:TE} {pos:Pos}
end
section
variable {X:Cx} {a b c:Expr} {ta tb tc:TE} {pos:Pos}
end
section
variable {prog:Program} {w:World} {A:Around} {E:Value->Shared->Prop} {s:Shared} {K:Z3} {x dx C f:Addr} {mA:Str->Option Value} {name:Str} {v:Value}
end
section
variable {P:Program} {w:World} {H H':Hp} {h h':Heap} {a C dx:Addr} {fs fs':List (Str×V)}
end
section
variable {X:Cx} {z0:List (Addr×Obj)} {σ:St} {H:Hp} {s:Shared} {a C dx:Addr} {fs:List (Str×V)} {f:Str} {v:V} {A:Around} {E:Value->Shared->Prop}
end
section
variable {X:Cx} {o e value:Expr} {f:Str} {pos pos' tpos:Pos} {ta tv:TE}
end
section
variable {X:Cx} {z0:List (Addr×Obj)} {σ:St} {H:Hp} {s:Shared} {A:Around} {E:Value->Shared->Prop} {Q:Value->Shared->Prop} {c:Value} {b:Bool}
end
section
variable {X:Cx} {e:Expr} {es:List Expr} {te:TE} {t:TA} {pos:Pos}
end
section
variable {X:Cx} {z0:List (Addr×Obj)} {σ:St} {H:Hp} {s s':Shared}
end
section
variable {X:Cx} {CX:CXT} {k:Nat} {f C:Addr} {fd:FuncData} {ps:List Str} {sp:Sp} {dvs:List V} {ds:List Value} {E:XK} {x m:Str} {p pos apos:Pos} {e o:Expr} {es:List Expr} {ta:TE} {t:TA}
end
section
variable {X:Cx} {CX:CXT} {k:Nat} {f C:Addr} {fd:FuncData} {ps ks:List Str} {sp:Sp} {E:XK} {x m:Str} {p pos apos kpos:Pos} {e o:Expr} {es:List Expr} {kws:List Keyword} {te ta:TE} {t tk:TA} {nm:Option Str}
variable {g:List Value->List Value->List Value} {gV:List V->List V->List V}
end
section
variable {X:Cx} {x:Str} {p pos:Pos} {e:Expr} {es:List Expr} {t:TA} {id T:String} {r:List V->Hp->VK->Prop}
end
section
variable {κ:Type} [DecidableEq κ]
theorem Jo.isSome_eq{o:Option V}{u:Option Value}(r:Jo o u):o.isSome=u.isSome:=by
 cases o with
 | none=>cases u with
  | none=>rfl
  | some _=>exact(show False from r).elim
 | some _=>cases u with
  | none=>exact(show False from r).elim
  | some _=>rfl
theorem Jo.getD{o:Option V}{u:Option Value}{d:V}{d':Value}(r:Jo o u)(rd:RelV d d'):RelV (o.getD d) (u.getD d'):=by
 cases o with
 | none=>cases u with
  | none=>exact rd
  | some _=>exact(show False from r).elim
 | some _=>cases u with
  | none=>exact(show False from r).elim
  | some _=>exact r
end
section
variable {P:Program} {w:World} {H:Hp} {h:Heap} {a:Addr}
end
section
variable {X:Cx} {z0:List (Addr×Obj)} {σ:St} {H:Hp} {s:Shared} {a:Addr} {y v:V} {u r:Value} {o:Option V} {A:Around} {E:Value->Shared->Prop}
theorem Inv.big(I:Inv X z0 σ H s):sysModules<s.heap.objs.size:=by
 have h:mainGlobals<s.heap.objs.size:=(I.mod.glob.keeps I.bk).lt;exact Nat.lt_trans (by decide) h
theorem zF{h':Heap}{t':Nat}{ob:HO}(I:Inv X z0 σ H s)(mu:Mut (H a))(hs:Heap.SameBut a s.heap h')(he:∃ q,h'.get? a=some q)(new:dZ X.prog X.w (upd H a ob) h' a ob) :
  Inv X z0 σ (upd H a ob) { s with heap:=h',toks:=t' } :=
 I.write (x:=a) (e:=a) mu (.inl rfl) (fun b q hb z=>(hs.2 b hb).trans z) he new
end
section
variable {X:Cx} {z0:List (Addr×Obj)} {σ:St} {H:Hp} {s:Shared} {a:Addr} {kvs:List (Key×V)} {k:Key} {u:Value} {A:Around} {E:Value->Shared->Prop}
end
section
variable {X:Cx} {o i e value:Expr} {pos pos' tpos:Pos} {td ty tv:TE}
end
section
variable {X:Cx} {pos:Pos}
end
def vY:List (TE×TE)->St->Hp->(List (V×V)->Hp->Prop)->Prop
 | [],_,H,Q=>Q [] H
 | (tk,tv)::r,σ,H,Q=>tk σ H fun x H1=>tv σ H1 fun y H2=>vY r σ H2 fun ps H3=>Q ((x,y)::ps) H3
abbrev VV:List (V×V)->List (Value×Value)->Prop:=Paired fun p q=>RelV p.1 q.1/\RelV p.2 q.2
def PPs(X:Cx)(pos:Pos)(keys:List (Option Expr))(values:List Expr)(trs:List (TE×TE)):Prop :=
  ∀ (z0 : List (Addr × Obj)) (s : Shared) (σ : St) (H : Hp) (Q : List (V × V) -> Hp -> Prop), Inv X z0 σ H s -> vY trs σ H Q ->
    wpAny (model X.prog X.w) X.A (evalPairs (pairTrees keys values X.env pos)) (fun vs s'=>∃ ps H',Inv X z0 σ H' s'/\VV ps vs/\Q ps H') X.xe s
theorem Gv{X:Cx}{pos:Pos}:PPs X pos [] [] []:=fun z0 s σ H Q I h=>pairTrees_nil_walk ⟨[],H,I,.nil,h⟩
theorem Ax{X:Cx}{pos:Pos}{k v:Expr}{ks:List (Option Expr)}{vs:List Expr}{tk tv:TE}{trs:List (TE×TE)}(hk:PE X k tk)(hv:PE X v tv)(hr:PPs X pos ks vs trs) :
  PPs X pos (some k::ks) (v::vs) ((tk,tv)::trs):=fun z0 s σ H Q I h =>
 pairTrees_cons_walk (thn (hk z0 s σ H _ I h) fun u s1 ⟨x,H1,I1,rx,q1⟩=>thn (hv z0 s1 σ H1 _ I1 q1) fun w2 s2 ⟨y,H2,I2,ry,q2⟩ =>
  thn (hr z0 s2 σ H2 _ I2 q2) fun ws s3 ⟨ps,H3,I3,rel,q3⟩=>⟨(x,y)::ps,H3,I3,.cons ⟨rx,ry⟩ rel,q3⟩)
structure M2 (X:Cx) (o:Expr) (m:Str) (apos:Pos) (e f:Expr) (cpos:Pos):Prop where
 base:attributeBase o m X.env (eval o X.env)=eval o X.env
 few:((backTo cpos (starEach [e,f] X.env)).all (fun x => !x.1)&&(backToKw cpos (keywordEach [] X.env)).all (fun x=>x.1.isSome)
  && decide (([e,f]:List Expr).length+([]:List Keyword).length+(if([]:List Keyword).isEmpty then 0 else 1)<30))=true
 line:(apos.endLine==cpos.line)=true
 trees:backTo cpos (starEach [e,f] X.env)=[(false,eval e X.env),(false,eval f X.env)]
section
variable {X:Cx} {z0:List (Addr×Obj)} {σ:St} {H:Hp} {s:Shared} {a:Addr} {y d:V} {u r:Value} {o:Option V} {A:Around} {E:Value->Shared->Prop}
end
section
variable {X:Cx} {o e f:Expr} {apos cpos:Pos} {td ty tx:TE}
end
section
variable {X:Cx} {z0:List (Addr×Obj)} {σ:St} {H:Hp} {s:Shared} {a:Addr} {kvs:List (Key×V)} {A:Around} {E:Value->Shared->Prop}
end
section
variable {X:Cx} {z0:List (Addr×Obj)} {σ:St} {H:Hp} {s:Shared} {a:Addr} {y:V} {u:Value} {A:Around} {E:Value->Shared->Prop}
end
end L2
namespace Att
open PySem PySem.W PySem.Calls PyProof.Rows
section
variable {prog:Program} {w:World} {A:Around} {E:Value->Shared->Prop} {s:Shared} {K:Frag}
end
end Att
namespace L2
open PySem PySem.Spec PyProof.Rows
section
variable {P:Program} {w:World} {K:Z3} {mg:Str->Option Value} {base:Heap}
end
section
variable {X:Cx}
end
section
variable {κ:Type} [DecidableEq κ]
end
def hsO(o:Obj):List Int:=match o.data with | .dict es _=>es.toList.map (·.hash) | _=>[]
def hsX(w:World)(o:Obj):List Int:=match o.data with | .dict es _=>es.toList.map (fun e=>match e.key with | .str x _=>hashStr w x | _=>e.hash) | _=>[]
def KnW(K:Z3)(w:World):Prop:=K.map (fun p=>hsO p.2)=K.map (fun p=>hsX w p.2)
section
variable {X:Cx} {z0:List (Addr×Obj)} {σ:St} {H:Hp} {s:Shared} {a:Addr} {kvs:List (Key×V)} {k:Key} {v d:V} {u r:Value} {A:Around} {E:Value->Shared->Prop} {o i e f:Expr} {td ty tx:TE} {pos apos cpos:Pos}
end
section
variable {prog:Program} {w:World} {A:Around} {E:Value->Shared->Prop} {s:Shared} {d it v:Addr} {od:Obj} {es:Array DictEntry} {ep i:Nat} {k0 v0:Value}
theorem IV(hd:(d==sysModules)=false):MeetsIn prog w (Builtin.«dict.items» ⟨[.ref d],[]⟩) (fun _ R s=>s.TypeIs (.ref d) "dict" /\
   R (.ok (.ret (.ref s.heap.objs.size))) { s with heap:=s.heap.push { cls:=.type "dict_items",data:=.fields #[.ref d] } }) :=
 .of_wp fun A R s ⟨ht,q⟩=>by
  unfold Builtin.«dict.items» Builtin.Dict.noArgs;refine F5z (F5z (wpAny_notOrdered_dict ht ?_));show wpAny _ _ (pure d) _ _ s;apply G5z;show wpAny _ _ (Builtin.Dict.showsAll d >>=_) _ _ s;unfold Builtin.Dict.showsAll;simp only[hd,Q1z,O5z];exact F5z (G5z (F5z (U1z (G5z ⟨_,rfl,q⟩))))
theorem Jb{Q:Value->Shared->Prop}(hv:s.heap.IsItemsView v d)(ho:s.heap.get? d=some od)(hd:od.data=.dict es ep)
  (q:Q (.ref s.heap.objs.size) { s with heap:=s.heap.push { cls:=.type "dict_itemiterator",data:=.fields #[.none,.bool false,.ref d,.int 0 0,.int es.size 0,.int ep 0,.none,.none] } }) :
  wpAny (model prog w) A (pyIter (.ref v)) Q E s:=by
 obtain⟨ov,e1,e2,e3⟩:=id hv;apply wpAny_pyIter_slot hv.typeIs F.slot_dict_items_iter;refine J2z F.slot_dict_items_iter hv.typeIs F.entry_dict_items_iter ?_ (F.args_dict_items_iter_1 _);unfold Builtin.«dict_items.__iter__»;refine F5z (G5z (F5z ?_));unfold Builtin.Dict_items.dictOf;refine F5z (C5z e1 e3 (x:=.ref d) rfl (G5z (F5z ?_)));unfold Builtin.Dict_items.newIterator;refine F5z (wpAny_dictEntries ho hd (F5z (wpAny_dictEpoch ho hd ?_)))
 have ow:Builtin.Dict_items.ownsTuple "dict_itemiterator"=true:=by decide
 simp only[ow,Q5z];refine U1z (G5z ⟨_,rfl,"dict_itemiterator",_,⟨_,Heap.get?_push_size _ rfl,rfl⟩,C0z.lookup,?_⟩) ?_
 ·simpa[rawInt,Builtin.Dict_items.ownedTupleFields] using q
 ·simp only[sizeOk,Builtin.Dict_items.ownedTupleFields,V1z,P1z,P2z,List.length_nil,B5z];omega
theorem Ja{Q:Option Value->Shared->Prop}(hit:IsItemIter s.heap it d i es.size ep k0 v0)(ho:s.heap.get? d=some od)(hd:od.data=.dict es ep)(hi:i<es.size)
  (q : ∀ h', IsItemIterOut h' it d (i + 1) es.size ep es[i].key es[i].val s.heap.objs.size -> h'.get? s.heap.objs.size = some { cls := .type "tuple", data := .seq #[es[i].key, es[i].val] } -> h'.objs.size = s.heap.objs.size + 1 ->
   (∀ b o,b≠it->s.heap.get? b=some o->h'.get? b=some o)->Q (some (.ref s.heap.objs.size)) { s with heap:=h' }) :
  wpAny (model prog w) A (pyNext (.ref it)) Q E s:=by
 obtain⟨hp,g,dr,tk,os⟩:=s;have ty:Shared.TypeIs ⟨hp,g,dr,tk,os⟩ (.ref it) "dict_itemiterator":=⟨_,hit,rfl⟩
 have ow:Builtin.Dict_items.ownsTuple "dict_itemiterator"=true:=by decide
 unfold pyNext;apply F5z;apply wpAny_attempt;apply wpAny_callSpecial?_slot (name:=Str.ofString "__next__") ty C0z;refine J2z C0z ty F.entry_dict_itemiterator_next ?_ (F.args_dict_itemiterator_next_1 _);refine F5z (G5z (F5z (F5z ?_)))
 first | refine F5z (B0z ty (G5z ?_)) | refine F5z (F0z ty (G5z ?_))
 apply F5z;apply wpAny_fieldsOf hit rfl;simp only[ow,Q5z];show wpAny _ _ (if(Value.ref d==Value.none)=true then _ else _) _ _ _;rw[S5z (show ¬ ((Value.ref d==Value.none)=true) from L1z)];refine F5z (G5z (F5z (wpAny_dictEntries ho hd ?_)));rw[S5z (by simp)];refine F5z (G5z (F5z (wpAny_dictEpoch ho hd ?_)));rw[S5z (by simp)];apply G5z;simp only[show ¬ ((i:Int)<0) from by omega,O5z,A2z,Array.getElem?_eq_getElem hi];apply F5z
 first | refine F5z (B0z ty (G5z ?_)) | refine F5z (F0z ty (G5z ?_))
 refine F5z (P0z ty ?_);show wpAny _ _ (setField (.ref it) 3 (rawInt ((i:Int)+1)) >>=_) _ _ ⟨hp,g,dr,tk,os⟩;refine F5z (R1z hit (by simp) fun ha fa sa=>?_);have sa:Heap.SameBut it hp ha:=sa
 have fa:IsItemIter ha it d (i+1) es.size ep k0 v0:=by
  have e:((i+1:Nat):Int)=(i:Int)+1:=by omega
  unfold IsItemIter;rw[e];simpa[rawInt] using fa
 have ta:Shared.TypeIs ⟨ha,g,dr,tk,os⟩ (.ref it) "dict_itemiterator":=⟨_,fa,rfl⟩;refine F5z (G4z (F5z (P0z ta (F5z (P0z ta ?_)))));show wpAny _ _ (Builtin.Dict_items.pairFromOwner (.ref it) 6 es[i].key es[i].val) _ _ ⟨ha,g,dr,tk,os⟩;unfold Builtin.Dict_items.pairFromOwner;refine F5z (wpAny_newTuple ?_);have fb:IsItemIter (ha.push { cls:=.type "tuple",data:=.seq #[es[i].key,es[i].val] }) it d (i+1) es.size ep k0 v0:=Heap.get?_push_of_some _ fa;have za:ha.objs.size=hp.objs.size:=sa.1;have lt:it<hp.objs.size:=O4z hit
 have gb:(ha.push { cls:=.type "tuple",data:=.seq #[es[i].key,es[i].val] }).get? hp.objs.size=some { cls:=.type "tuple",data:=.seq #[es[i].key,es[i].val] }:=by rw[<- za];exact Heap.get?_push_size _ rfl
 have zb:(ha.push { cls:=.type "tuple",data:=.seq #[es[i].key,es[i].val] }).objs.size=hp.objs.size+1:=by rw[A4z,za]
 have kb:∀ b o,b≠it->hp.get? b=some o->(ha.push { cls:=.type "tuple",data:=.seq #[es[i].key,es[i].val] }).get? b=some o:=fun b o n e=>Heap.get?_push_of_some _ (sa.extBut b o n e);generalize ha.push { cls:=.type "tuple",data:=.seq #[es[i].key,es[i].val] }=hb at fb gb zb kb;show wpAny _ _ (Builtin.Dict_items.ownedTupleIsFree (.ref it) >>=_) _ _ ⟨hb,g,dr,tk,os⟩;rw[za];apply F5z;unfold Builtin.Dict_items.ownedTupleIsFree;refine F5z (C5z fb rfl (x:=.none) rfl (G5z ?_));simp only[Q5z];refine F5z (C5z fb rfl (x:=k0) rfl (F5z (C5z fb rfl (x:=v0) rfl ?_)));refine F5z (R1z fb (by simp) fun hc fc sc=>?_);have sc:Heap.SameBut it hb hc:=sc;have fc:IsItemIter hc it d (i+1) es.size ep es[i].key v0:=fc;refine F5z (R1z fc (by simp) fun hd' fd sd=>?_);have sd:Heap.SameBut it hc hd':=sd;have fd:IsItemIter hd' it d (i+1) es.size ep es[i].key es[i].val:=fd;refine F5z (R1z fd (by simp) fun he fe se=>?_);have se:Heap.SameBut it hd' he:=se;have fe:IsItemIterOut he it d (i+1) es.size ep es[i].key es[i].val hp.objs.size:=fe;refine F5z (R1z fe (by simp) fun hf ff sf=>?_);have sf:Heap.SameBut it he hf:=sf;have ff:IsItemIterOut hf it d (i+1) es.size ep es[i].key es[i].val hp.objs.size:=ff;have all:∀ b o,b≠it->hb.get? b=some o->hf.get? b=some o:=fun b o n e=>sf.extBut b o n (se.extBut b o n (sd.extBut b o n (sc.extBut b o n e)));refine F5z (wpAny_letGo (G5z (G5z ⟨_,rfl,G5z (q hf ff ?_ ?_ ?_)⟩)))
 ·exact all _ _ (R4z lt) gb
 ·show hf.objs.size=hp.objs.size+1
  rw[sf.1,se.1,sd.1,sc.1,zb]
 ·exact fun b o n e=>all b o n (kb b o n e)
theorem Np{Q:Option Value->Shared->Prop}(hh:A.handled=none)(hit:IsItemIter s.heap it d es.size es.size ep k0 v0)(ho:s.heap.get? d=some od)(hd:od.data=.dict es ep)
  (q:∀ h',Heap.ExtBut it s.heap h'->Q none { s with heap:=h' }):wpAny (model prog w) A (pyNext (.ref it)) Q E s:=by
 have ty:s.TypeIs (.ref it) "dict_itemiterator":=⟨_,hit,rfl⟩
 have ow:Builtin.Dict_items.ownsTuple "dict_itemiterator"=true:=by decide
 unfold pyNext;apply F5z;apply wpAny_attempt;apply wpAny_callSpecial?_slot (name:=Str.ofString "__next__") ty C0z;refine J2z C0z ty F.entry_dict_itemiterator_next ?_ (F.args_dict_itemiterator_next_1 _);refine F5z (G5z (F5z (F5z ?_)))
 first | refine F5z (B0z ty (G5z ?_)) | refine F5z (F0z ty (G5z ?_))
 apply F5z;apply wpAny_fieldsOf hit rfl;simp only[ow,Q5z];show wpAny _ _ (if(Value.ref d==Value.none)=true then _ else _) _ _ s;rw[S5z (show ¬ ((Value.ref d==Value.none)=true) from L1z)];refine F5z (G5z (F5z (wpAny_dictEntries ho hd ?_)));rw[S5z (by simp)];refine F5z (G5z (F5z (wpAny_dictEpoch ho hd ?_)));rw[S5z (by simp)];apply G5z;simp only[show ¬ ((es.size:Int)<0) from by omega,O5z,A2z,Array.getElem?_eq_none (A5z es.size)];apply F5z
 first | refine F5z (B0z ty (G5z ?_)) | refine F5z (F0z ty (G5z ?_))
 show wpAny _ _ (setField (.ref it) 2 .none >>=_) _ _ s;apply F5z;refine wpAny_setField hit rfl (by simp) ?_;show wpAny _ _ (newExc (.type "StopIteration") [] >>=_) _ _ _;apply F5z;simp only[newExc,newTuple];refine F5z (U1z (F5z (m:=firstArgMember _ _) (wpAny_of_eq (a:=Value.none) (by first | rfl | (simp only[firstArgMember];rfl)) (U1z ?_ (by size_fits)))) (by size_fits));simp only[raiseNew];refine F5z (wpAny_handled ?_);rw[show A.in1.handled=none from hh];refine F5z (G5z (wpAny_throw ?_));refine F5z (wpAny_isInstance (T:="StopIteration") (b:=true) ⟨_,Heap.get?_push_size _ rfl,rfl⟩ isSubtype_stop ?_);exact G5z (q _ (((H1z ..).extBut.push _).push _))
end
def hKt(ks:List Int):Int:=reduceHash (Builtin.Tuple.tupleHashOf (ks.map fun k=>hashInt k))
abbrev En:=List Int×Addr×V
abbrev EnV:=List Int×Addr×Value
def Zy(x:EnV):DictEntry:=⟨hKt x.1,.ref x.2.1,x.2.2⟩
abbrev KE:List En->List EnV->Prop:=Paired fun e x=>e.1=x.1/\e.2.1=x.2.1/\RelV e.2.2 x.2.2
def dtP(a:Addr)(es:List En)(o:Obj)(h:Heap):Prop:=h.get? a=some o/\(a==sysModules)=false/\es.length<=sizeLine/\∃ xs,KE es xs/\∃ ens ep,o.ExactDict/\o.data=.dict ens ep/\ens.toList=xs.map Zy/\(xs.map (·.1)).Nodup
def DtO(a:Addr)(es:List En)(o:Obj):HO:=.ext (dtP a es o)
theorem IW{p:Program}{w:World}{H:Hp}{h:Heap}{a:Addr}{es:List En}{o:Obj}(x:dtP a es o h):dZ p w H h a (DtO a es o):=⟨x,⟨o,x.1⟩,fun _ _ q k=>⟨k _ q.1,q.2⟩⟩
def Keyed(K:Z3)(H:Hp)(es:List En):Prop:=∀ e∈es,SqT K H e.2.1 (e.1.map V.int)
theorem Keyed.same{K:Z3}{H H':Hp}{es:List En}(sm:∀ {a xs},SqT K H a xs->SqT K H' a xs)(h:Keyed K H es):Keyed K H' es:=fun e he=>sm (h e he)
theorem kW{p:Program}{w:World}:∀ {ks:List Int} {us:List Value},Vals (ks.map V.int) us->PySem.ItemsAre (intKind p w) ks us
 | [],_,r=>by rw[U4z] at r;cases r;exact .nil
 | k::ks,_,r=>by
  rw[I4z] at r
  cases r with
  | cons h t =>
   obtain⟨u,rfl⟩:=h;exact .cons (by show Value.isInt k (.int k u)=true;simp[Value.isInt]) (kW t)
def jH(es:List En)(k:List Int):Option V:=(es.find? fun e=>decide (e.1=k)).map (·.2.2)
def wR(es:List En)(k:List Int)(b:Addr)(v:V):List En:=if(jH es k).isSome then es.map (fun e=>if e.1=k then(e.1,e.2.1,v) else e) else es++[(k,b,v)]
theorem KE.look{es:List En}{xs:List EnV}(r:KE es xs)(k:List Int):Jo (jH es k) ((atKey xs k).map (·.2)):=by
 induction r with
 | nil=>exact True.intro
 | @cons p q ps qs h t ih =>
  obtain⟨h1,_,h2⟩:=h;unfold jH atKey at ih ⊢;rw[List.find?_cons,List.find?_cons]
  by_cases e:p.1=k
  ·have e':q.1=k:=h1▸e
   simp only[e,e',decide_true];exact h2
  ·have e':¬ q.1=k:=fun z=>e (h1.trans z)
   simp only[e,e',W4z];exact ih
theorem KE.put{es:List En}{xs:List EnV}(r:KE es xs)(k:List Int)(b:Addr){v:V}{u:Value}(rv:RelV v u):KE (wR es k b v) (storedH xs k b u):=by
 have e:(jH es k).isSome=(atKey xs k).isSome:=by rw[(r.look k).isSome_eq,Option.isSome_map]
 unfold wR storedH;rw[e];split
 ·rename_i q
  clear e q
  induction r with
  | nil=>exact .nil
  | @cons p q ps qs h t ih =>
   rw[I4z,I4z];refine .cons ?_ ih;obtain⟨h1,h2,h3⟩:=h;unfold putAt
   by_cases e:p.1=k
   ·rw[R5z e,R5z (h1▸e)];exact⟨h1,h2,rv⟩
   ·rw[S5z e,S5z fun z=>e (h1.trans z)];exact⟨h1,h2,h3⟩
 ·exact Paired.snoc r ⟨rfl,rfl,rv⟩
theorem Aq(es:List En)(k:List Int)(b:Addr)(v:V):(wR es k b v).length<=es.length+1:=by
 unfold wR;split
 ·rw[G3z];omega
 ·simp
theorem Ar{es:List En}{k:List Int}{b:Addr}{v:V}{e:En}(h:e∈wR es k b v):(∃ e'∈es,e.1=e'.1/\e.2.1=e'.2.1)\/(e.1=k/\e.2.1=b):=by
 unfold wR at h;split at h
 ·obtain⟨e',he,rfl⟩:=List.mem_map.mp h
  refine .inl ⟨e',he,?_⟩
  split<;>exact⟨rfl,rfl⟩
 ·rcases List.mem_append.mp h with h | h
  ·exact .inl ⟨e,h,rfl,rfl⟩
  ·rw[List.mem_singleton.mp h];exact .inr ⟨rfl,rfl⟩
section
variable {X:Cx} {z0:List (Addr×Obj)} {σ:St} {H:Hp} {s:Shared} {a b:Addr} {es:List En} {o:Obj} {k:List Int} {A:Around} {E:Value->Shared->Prop}
theorem key_is(I:Inv X z0 σ H s)(h:SqT X.K H b (k.map V.int)):(tupleKind (intKind X.prog X.w)).is s.heap k b:=by
 obtain⟨its,r,⟨o,e,c,n,d⟩,_⟩:=I.tuple h;exact⟨o,its.toArray,n,e,c,d,by simpa using kW r⟩
theorem qT(I:Inv X z0 σ H s)(e:H a=some (DtO a es o))(ky:Keyed X.K H es):s.heap.get? a=some o/\(a==sysModules)=false/\es.length<=sizeLine/\∃ xs,KE es xs/\s.heap.DictOfH (tupleKind (intKind X.prog X.w)) a xs:=by
 obtain⟨h1,h2,h3,xs,h4,ens,ep,h5,h6,h7,h8⟩:=(I.hok a _ e).1;refine⟨h1,h2,h3,xs,h4,o,ens,ep,h1,h5,h6,h7,fun x hx=>?_,h8⟩
 have all:∀ {l:List En} {m:List EnV},KE l m->Keyed X.K H l->∀ x∈m,(tupleKind (intKind X.prog X.w)).is s.heap x.1 x.2.1:=by
  intro l m q
  induction q with
  | nil=>intro _ x hx;exact nomatch hx
  | @cons p q ps qs hq t ih =>
   intro ky x hx;rcases List.mem_cons.mp hx with e | hx
   ·subst e
    have:=key_is I (ky p K1z);rw[hq.1,hq.2.1] at this;exact this
   ·exact ih (fun e he=>ky e (W0z _ he)) x hx
 exact all h4 ky x hx
theorem Jc{z:V}{r:Value}{Q:Value->Shared->Prop}(hu:A.units+1<cLine)(I:Inv X z0 σ H s)(e:H a=some (DtO a es o))(ky:Keyed X.K H es)(kb:SqT X.K H b (k.map V.int))(rd:RelV z r)(h:∀ w' s',Inv X z0 σ H s'->RelV ((jH es k).getD z) w'->Q w' s') :
  wpAny (model X.prog X.w) A (call (.builtin "dict.get") [.ref a,.ref b,r]) Q E s:=by
 obtain⟨_,hd,hz,xs,rel,dd⟩:=qT I e ky;exact call_meetsIn PySem.F.slot_dict_get dd.typeIs PySem.F.entry_dict_get (PySem.F.args_dict_get_3 _ _ _) (meetsH_dict_get_default (tupleKind (intKind X.prog X.w)) a b hd r) ⟨tupleKind_room_in1 hu,k,xs,key_is I kb,dd,h _ _ (I.tok _) ((rel.look k).getD rd)⟩
def Pz(K:Z3):V->V->V->Hp->(Hp->Prop)->Prop:=fun x i v H Q=>∃ a es o b k,x=.ref a/\i=.ref b/\H a=some (DtO a es o)/\Keyed K H es/\SqT K H b (k.map V.int)/\es.length<sizeLine/\∀ o',Q (upd H a (DtO a (wR es k b v) o'))
theorem Kg(hu:X.A.units+1<cLine):W0 X (Pz X.K):=by
 intro z0 s σ H x i v ov iv u Q I ro ri rv h;obtain⟨a,es,o,b,k,rfl,rfl,e,ky,kb,hl,q⟩:=h;cases ro;cases ri;obtain⟨_,hd,hz,xs,rel,dd⟩:=qT I e ky
 have hz':xs.length<=sizeLine:=by rw[<- Paired.length rel];exact hz
 refine wpAny_setItem_heap (hsz:=hz') (tupleKind_room_in1 hu) (key_is I kb) dd fun h' dd' hs=>?_;obtain⟨o',ens,ep,hq,h2,h3,h4,_,h5⟩:=dd';refine⟨_,?_,q o'⟩;exact zF I (by rw[e];exact True.intro) hs ⟨o',hq⟩ (IW ⟨hq,hd,by have:=Aq es k b v;omega,_,rel.put k b rv,ens,ep,h2,h3,h4,h5⟩)
end
def Z1(K:Z3)(tk tv:TE):TE:=fun σ H Q=>∀ p o,H p=none->vY [(tk,tv)] σ (upd H p (DtO p [] o)) fun ps H2=>H2 p=some (DtO p [] o)/\∃ b ks y,ps=[(.ref b,y)]/\SqT K H2 b (ks.map V.int)/\∀ o',Q (.ref p) (upd H2 p (DtO p [(ks,b,y)] o'))
def Z2:TE:=fun _ H Q=>∀ p o,H p=none->Q (.ref p) (upd H p (DtO p [] o))
theorem o9{p:Program}{w:World}{H:Hp}(h:Heap)(hb:sysModules<h.objs.size):dZ p w H (h.push { cls:=.type "dict",data:=.dict #[] }) h.objs.size (DtO h.objs.size [] { cls:=.type "dict",data:=.dict #[] }) :=
 IW ⟨Heap.get?_push_size _ rfl,G1z.mpr (P5z (P4z hb)),D5z _,[],.nil,#[],0,⟨rfl,rfl,rfl⟩,rfl,rfl,List.nodup_nil⟩
section
variable {X:Cx} {pos:Pos}
theorem K8:PE X (.Dict [] [] pos) Z2:=fun z0 s σ H Q I h =>
 wpAny_Dict_empty ⟨.ref s.heap.objs.size,_,I.laid (a:=s.heap.objs.size) (t':=s.toks) (fun _ _ q=>Heap.get?_push_of_some _ q) (A5z _) (o9 s.heap I.big),rfl,h _ _ (I.hok.fresh (A5z _))⟩
theorem K7{k v:Expr}{tk tv:TE}(hu:X.A.units+1<cLine)(hk:PE X k tk)(hv:PE X v tv):PE X (.Dict [some k] [v] pos) (Z1 X.K tk tv):=by
 intro z0 s σ H Q I q;have hn:=I.hok.fresh (A5z s.heap.objs.size);have I1:=I.laid (a:=s.heap.objs.size) (h':=s.heap.push { cls:=.type "dict",data:=.dict #[] }) (t':=s.toks) (fun _ _ q=>Heap.get?_push_of_some _ q) (A5z _) (o9 (p:=X.prog) (w:=X.w) (H:=upd H s.heap.objs.size (DtO s.heap.objs.size [] { cls:=.type "dict",data:=.dict #[] })) s.heap I.big)
 refine wpAny_Dict_any rfl rfl nofun (show 1<=15 by decide) (thn (Ax (pos:=pos) hk hv Gv z0 _ σ _ _ I1 (q _ _ hn)) fun ws s2 ⟨ps,H2,I2,rel,e,b,ks,y,eps,kb,q2⟩=>?_)
 subst eps
 cases rel with
 | @cons x1 x2 r1 r2 hr rr =>
  cases rr;obtain⟨u1,u2⟩:=x2;cases (show u1=Value.ref b from hr.1)
  obtain⟨_,hd,hz,xs,rel,dd⟩:=qT I2 e fun _ h=>nomatch h
  cases rel;show wpAny _ _ (storeAll _ [(Value.ref b,u2)]) _ _ _;unfold storeAll;rw[J3z];refine F5z (F5z (wpAny_dictSet_heap (hsz:=D5z _) (knd:=tupleKind (intKind X.prog X.w)) (by show X.A.units<cLine;omega) (key_is I2 kb) dd fun h' dd' hs=>G5z ?_));show wpAny _ _ (forIn [] PUnit.unit _) _ _ _;rw[Z3z];obtain⟨o',ens,ep,hq,h2,h3,h4,_,h5⟩:=dd';refine G5z ⟨.ref s.heap.objs.size,_,?_,rfl,q2 o'⟩;exact zF I2 (by rw[e];exact True.intro) hs ⟨o',hq⟩ (IW ⟨hq,hd,by rw[B5z];simp,_,KE.put (es:=[]) .nil ks b hr.2,ens,ep,h2,h3,h4,h5⟩)
def Z0(K:Z3)(td ty tx:TE):TE:=fun σ H Q=>td σ H fun x H1=>∃ a es o,x=.ref a/\H1 a=some (DtO a es o)/\Keyed K H1 es/\ty σ H1 fun y H2=>tx σ H2 fun z H3=>H3 a=some (DtO a es o)/\Keyed K H3 es/\∃ b k,y=.ref b/\SqT K H3 b (k.map V.int)/\Q ((jH es k).getD z) H3
theorem zc{X:Cx}{z0:List (Addr×Obj)}{σ:St}{H:Hp}{s:Shared}{a:Addr}{es:List En}{o:Obj}(I:Inv X z0 σ H s)(e:H a=some (DtO a es o)):s.TypeIs (.ref a) "dict"/\∀ b,Value.ref a=.ref b->∃ ob,s.heap.get? b=some ob/\ob.dict=none:=by
 obtain⟨h1,_,_,xs,_,ens,ep,h5,_⟩:=(I.hok a _ e).1;exact⟨⟨o,h1,h5.1⟩,fun b q=>by cases q;exact⟨o,h1,h5.2.1⟩⟩
theorem K6{o e f:Expr}{td ty tx:TE}{apos cpos:Pos}(hu:X.A.units+1<cLine)(ho:PE X o td)(he:PE X e ty)(hf:PE X f tx)(m:M2 X o "get" apos e f cpos):PE X (.Call (.Attribute o "get" apos) [e,f] [] cpos) (Z0 X.K td ty tx):=by
 intro z0 s σ H Q I h;refine wpAny_Call_method m.base m.few m.line PySem.F.plainAttrs_dict PySem.F.slot_dict_get PySem.F.type_dict_get (thn (ho z0 s σ H _ I h) fun u s1 ⟨x,H1,I1,rx,a,es,ob,ex,e1,ky,q1⟩=>?_);subst ex;obtain rfl:u=Value.ref a:=rx;obtain⟨t1,t2⟩:=zc I1 e1;refine⟨t1,t2,?_⟩;rw[m.trees];refine O0z rfl (Y0z (N1z (thn (he z0 s1 σ H1 _ I1 q1) fun iv s2 ⟨y,H2,I2,ry,q2⟩=>N1z (thn (hf z0 s2 σ H2 _ I2 q2) fun fv s3 ⟨z,H3,I3,rz,e3,ky3,b,k,ey,kb,q3⟩=>Calls.spliced_nil ?_))));subst ey;cases (show iv=Value.ref b from ry);exact Jc hu I3 e3 ky3 kb rz fun w' s4 I4 rw'=>⟨_,H3,I4,rw',q3⟩
def ItT(K:Z3)(d:Addr)(es:List En)(o:Obj):It :=
 ⟨fun i H=>H d=some (DtO d es o)/\i<es.length,fun i H x H'=>∃ p e,H p=none/\x=.ref p/\es[i]?=some e/\H'=upd H p (.tup [.ref e.2.1,e.2.2]),fun i H=>H d=some (DtO d es o)/\i=es.length⟩
theorem Wd{es:List En}{xs:List EnV}(r:KE es xs){i:Nat}{e:En}(h:es[i]?=some e):∃ x,xs[i]?=some x/\e.1=x.1/\e.2.1=x.2.1/\RelV e.2.2 x.2.2:=by
 induction r generalizing i with
 | nil=>cases h
 | @cons p q ps qs hq t ih =>
  cases i with
  | zero=>cases h;exact⟨q,rfl,hq⟩
  | succ i=>exact ih (i:=i) (by simpa using h)
theorem uD{P:Program}{w:World}{K:Z3}{ts:List Expr}{kt:Nat}{pt:Pos}{d it:Addr}{es:List En}{o:Obj}{ens:Array DictEntry}{ep:Nat}(hd:o.data=.dict ens ep)(hz:ens.size=es.length)(hne:d≠it) :
  Turn P w K (.Tuple ts kt pt) (ItT K d es o) [it] it (fun i h=>∃ k0 v0,IsItemIter h it d i ens.size ep k0 v0) where
 mem:=by simp
 obj:=fun i h q b hb=>by
  obtain⟨k0,v0,q⟩:=q
  have e:b=it:=by simpa using hb
  subst e;exact⟨_,q,fun v z=>by have z':Data.fields _=Data.cell v:=z;cases z'⟩
 keep:=fun i h h' q k=>by
  obtain⟨k0,v0,q⟩:=q;exact⟨k0,v0,k it (by simp) _ q⟩
 item:=by
  intro X hP hw hK hc i z0 s σ H E I hf q hg;subst hP hw hK;obtain⟨k0,v0,q⟩:=q;obtain⟨e,hi⟩:=hg;obtain⟨h1,_,_,xs,rel,ens',ep',h5,h6,h7,h8⟩:=(I.hok d _ e).1;rw[hd] at h6;cases h6;obtain⟨x,gx,g1,g2,g3⟩:=Wd rel (List.getElem?_eq_getElem hi)
  have hi':i<ens.size:=by omega
  have ge:ens[i]=Zy x:=by
   have:=congrArg (fun l=>l[i]?) h7;simp only[List.getElem?_map,gx,L3z,Array.getElem?_toList,Array.getElem?_eq_getElem hi'] at this;exact B3z this
  have lt:it<s.heap.objs.size:=O4z q;refine Ja q h1 hd hi' fun h' eo new sz kp=>?_
  have ek:ens[i].key=.ref (es[i]).2.1:=by rw[ge,g2];rfl
  have ev:RelV (es[i]).2.2 ens[i].val:=by rw[ge];exact g3
  have szl:2<=sizeLine:=by decide
  have I1:Inv X z0 σ (upd H s.heap.objs.size (.tup [.ref (es[i]).2.1,(es[i]).2.2])) { s with heap:=h' }:=I.turnedNew (t':=s.toks) (ch:=[it]) hf (fun b ob hb z=>kp b ob (fun w=>hb (by simp[w])) z) ⟨szl,[ens[i].key,ens[i].val],.cons ek (.cons ev .nil),⟨_,new,rfl,_,rfl⟩⟩;refine⟨_,rfl,wpAny_letOwnedTupleGo_items (s:={ s with heap:=h' }) eo fun h2 e2 sb=>?_⟩;obtain⟨f0,f1,f2,f3,f4,f5⟩:=hf it (by simp);have I2:Inv X z0 σ (upd H s.heap.objs.size (.tup [.ref (es[i]).2.1,(es[i]).2.2])) { s with heap:=h2 }:=I1.turned (t':=s.toks) (fun c ob hc' z=>(sb.2 c hc').trans z) (by rw[aO (P4z lt)];exact f0) f1 f3 f4 f5
  exact⟨.ref s.heap.objs.size,_,I2,rfl,⟨_,_,I.hok.fresh (A5z _),rfl,List.getElem?_eq_getElem hi,rfl⟩,⟨_,_,e2⟩,fun b hb=>by
   have eb:b=it:=by simpa using hb
   subst eb
   rw[aO (P4z lt)];exact f0⟩
 done:=by
  intro X hP hw hK hc i z0 s σ H E I hf q hg;subst hP hw hK;obtain⟨k0,v0,q⟩:=q;obtain⟨e,hi⟩:=hg;obtain⟨h1,_⟩:=(I.hok d _ e).1;rw[hi,<- hz] at q;obtain⟨f0,f1,f2,f3,f4,f5⟩:=hf it (by simp);exact Np (I.ok.hd hc) q h1 hd fun h' eb=>⟨rfl,I.turned (t':=s.toks) (fun b ob hb z=>eb b ob hb z) f0 f1 f3 f4 f5⟩
 self:=fun A i s Q E q h=>by
  obtain⟨k0,v0,q⟩:=q;exact PySem.W.kcp_self q h
def Mv(K:Z3)(td:TE):TI:=fun σ H R=>td σ H fun x H1=>∃ a es o,x=.ref a/\H1 a=some (DtO a es o)/\R (ItT K a es o) H1
theorem Bb{o:Expr}{td:TE}{apos cpos pt:Pos}{ts:List Expr}{kt:Nat}(ho:PE X o td)(hbase:attributeBase o "items" X.env (eval o X.env)=eval o X.env)(hline:(apos.endLine==cpos.line)=true) :
  PI X (.Tuple ts kt pt) (.Call (.Attribute o "items" apos) [] [] cpos) (Mv X.K td):=by
 intro z0 s σ H R I h;refine wpAny_Call_method0_late hbase hline (thn (ho z0 s σ H _ I h) fun v s1 ⟨x,H1,I1,r1,a,es,ob,ex,e1,q1⟩=>?_);subst ex;cases (show v=Value.ref a from r1);obtain⟨t1,t2⟩:=zc I1 e1;obtain⟨h1,h2,h3,xs,rel,ens,ep,h5,h6,h7,h8⟩:=(I1.hok a _ e1).1
 have hz:ens.size=es.length:=by rw[<- D1z,h7,G3z,<- Paired.length rel]
 refine⟨"dict","dict.items",PySem.F.plainAttrs_dict,PySem.F.slot_dict_items,PySem.F.type_dict_items,t1,t2,O0z rfl (PySem.evalArgs_none ?_)⟩;refine call_meetsIn PySem.F.slot_dict_items t1 PySem.F.entry_dict_items (PySem.F.args_dict_items_1 _) (IV h2) ⟨t1,?_⟩;have lt:a<s1.heap.objs.size:=O4z h1;refine Jb (s:={ s1 with heap:=s1.heap.push { cls:=.type "dict_items",data:=.fields #[.ref a] } }) ⟨_,Heap.get?_push_size _ rfl,rfl,rfl⟩ (Heap.get?_push_of_some _ h1) h6 ?_;refine⟨(s1.heap.push { cls:=.type "dict_items",data:=.fields #[.ref a] }).objs.size,_,_,_,H1,rfl,I1.kept (t':=s1.toks) fun b o e=>Heap.get?_push_of_some _ (Heap.get?_push_of_some _ e),uD h6 hz ?_,⟨_,_,Heap.get?_push_size _ rfl⟩,fun c hc=>?_,q1⟩
 ·rw[A4z];exact P4z (Y1z lt)
 ·have hc':c=(s1.heap.push { cls:=.type "dict_items",data:=.fields #[.ref a] }).objs.size:=by simpa using hc
  have le:s1.heap.objs.size<=c:=by rw[hc',A4z];exact Nat.le_succ _
  exact I1.fpOk le (I1.hok.fresh le)
end
section
variable {P:Program} {w:World} {H H':Hp} {h h':Heap} {a:Addr} {o:HO}
theorem dZ.there(x:dZ P w H h a o):∃ ob,h.get? a=some ob:=by
 cases o with
 | lst xs=>obtain⟨_,_,_,_,e⟩:=x;exact⟨_,e⟩
 | tup xs=>obtain⟨_,_,_,ob,e,_⟩:=x;exact⟨_,e⟩
 | dK kvs=>obtain⟨_,_,_,_,o,_,_,e,_⟩:=x;exact⟨_,e⟩
 | dT kvs=>obtain⟨_,_,_,_,o,_,_,e,_⟩:=x;exact⟨_,e⟩
 | set S n=>obtain⟨o,_,_,_,e,_⟩:=x;exact⟨_,e⟩
 | ins C dx fs=>obtain⟨_,_,_,e,_⟩:=x;exact⟨_,e⟩
 | own y=>exact x
 | xd fs=>obtain⟨_,⟨_,_,_,e,_⟩,_⟩:=x;exact⟨_,e⟩
 | rng lo hi=>obtain⟨_,_,_,e⟩:=x;exact⟨_,e⟩
 | frz ob u=>obtain⟨e,_⟩:=x;exact⟨_,e⟩
 | tbl ps=>exact⟨_,(show h.get? a=some _ from x)⟩
 | met f y=>exact⟨_,(show h.get? a=some _ from x)⟩
 | ext φ=>exact x.2.1
theorem HOk.none_of(x:HOk P w H h)(e:h.get? a=none):H a=none:=by
 cases q:H a with
 | none=>rfl
 | some u =>
  obtain⟨ob,r⟩:=(x a u q).there;rw[e] at r;cases r
theorem HOk.part{B:Heap}(x:HOk P w H h)(k:∀ b u ob,H b=some u->h.get? b=some ob->B.get? b=some ob):HOk P w H B:=fun b u e=>by
 refine(x b u e).stay (fun c v hc q=>?_) (fun _ q=>q) fun _ _ q=>q;rcases hc with rfl | hc
 ·exact k _ _ _ e q
 ·exact k _ _ _ hc q
end
section
variable {fs fs' ex:List Addr} {H H':Hp} {h h1 h2 B:Heap}
theorem Un.fly(U:Un fs [] H H' h h1)(kB:∀ b o,h.get? b=some o->H b=none->b∉fs->B.get? b=some o)(tB:∀ b o,h.get? b=some o->b∉fs->∃ o',B.get? b=some o')(st:B.StaysIn h2)
  (nf:∀ b∈fs,∀ o,h1.get? b=some o->∀ vs,o.data≠.fields vs) (up:h1.UpToSlots h2):Un fs [] H H' h h2 where
 keep:=fun b o q n hb _=>st b o (kB b o q n hb)
 slot:=fun b o q n hb hx=>by
  obtain⟨sl,e⟩:=U.slot b o q n hb hx;obtain⟨sl',e'⟩:=up b _ e (nf b hb _ e);exact⟨sl',e'⟩
 free:=U.free
 there:=fun b o q hx=>by
  by_cases hb:b∈fs
  ·obtain⟨o',e⟩:=U.there b o q hx
   obtain⟨sl,e'⟩:=up b _ e (nf b hb _ e);exact⟨_,e'⟩
  ·obtain⟨o',e⟩:=tB b o q hb
   exact⟨o',st b o' e⟩
 tups:=U.tups
 frzs:=U.frzs
 tbls:=U.tbls
theorem Un.restrict(U:Un fs' ex H H' h h1)(hs:∀ b o,b∈fs'->h.get? b=some o->b∈fs):Un fs ex H H' h h1 where
 keep:=fun b o q n hb hx=>U.keep b o q n (fun z=>hb (hs b o z q)) hx
 slot:=fun b o q n _ hx=>U.any q n hx
 free:=U.free
 there:=U.there
 tups:=U.tups
 frzs:=U.frzs
 tbls:=U.tbls
end
structure Fly (P:Program) (w:World) (outer:List Env) (H:Hp) (s:Shared) (H':Hp) (ea:Addr) (cls:Value) (s':Shared):Prop where
 os:s'.os=s.os
 bare:AllBare s'.gens
 un:Un (frs outer) [] H H' s.heap s'.heap
 fly:∃ B a0,Heap.FlyingW B outer ea cls a0 s'.heap/\HOk P w H' B/\(∀ b o,s.heap.get? b=some o->H b=none->b∉frs outer->B.get? b=some o)/\(∀ b o,s.heap.get? b=some o->b∉frs outer->∃ o',B.get? b=some o')
 fresh:s.heap.get? ea=none
def CX1(P:Program)(w:World):CXT:=fun outer H s E e s'=>∃ ea cls H',e=.ref ea/\Fly P w outer H s H' ea cls s'/\H' ea=none/\E cls none H'
theorem Qi{P:Program}{w:World}{X:Cx}:Passes (CX1 P w) X E0:=fun _ _ _ _ _ _ _ h=>by obtain⟨_,_,_,_,_,_,z⟩:=h;exact z.elim
theorem Bk{B h:Heap}{l:List Env}(f:h.FunFrames B l):∀ b∈frs l,∀ o,h.get? b=some o->∀ vs,o.data≠.fields vs:=fun b hb o e=>by
 obtain⟨_,o',e',hd⟩:=f.mem hb;rw[e] at e';cases e';exact hd
section
variable {P:Program} {w:World} {K:Z3} {mg:Str->Option Value} {base:Heap} {N:List Str} {qual:Str} {scope:Scope} {f:Addr} {cd:Value} {A:Around} {outer:List Env} {s:Shared} {H:Hp} {E:XK}
theorem tE{env:Env}{L:Addr}(hf:env.frame=some L):frs (env::outer)=L::frs outer:=by
 unfold frs;rw[C1z,hf]
theorem xG:Passes (CX1 P w) (iI (CX1 P w) P w K mg base N qual scope f cd A outer s H E) E:=by
 intro z0 σ H1 s1 e s' I h;obtain⟨ea,cls,H',rfl,Fl,hn,hE⟩:=h;obtain⟨B,a0,fl,hokB,kB,tB⟩:=Fl.fly;have hfr:frs (iI (CX1 P w) P w K mg base N qual scope f cd A outer s H E).stack=s.heap.objs.size::frs outer:=tE rfl;have nL:∀ b o,s.heap.get? b=some o->b≠s.heap.objs.size:=fun b o q=>P4z (O4z q)
 have nin:∀ b o,s.heap.get? b=some o->b∉frs outer->b∉frs (iI (CX1 P w) P w K mg base N qual scope f cd A outer s H E).stack:=fun b o q hb z=>by
  rw[hfr] at z;rcases List.mem_cons.mp z with z | z
  ·exact nL b o q z
  ·exact hb z
 have noex:∀ b:Addr,b∉(iI (CX1 P w) P w K mg base N qual scope f cd A outer s H E).ex:=fun b z=>absurd (show b∈([]:List Addr) from z) (by simp);show wpAny _ _ (leaving _ (.ref ea)) _ _ _;refine wpAny_leaves_onW I.ok.frames rfl fl fun h2 fl2 up=>?_;refine⟨ea,cls,H',rfl,⟨Fl.os.trans I.os,Fl.bare,?_,⟨B,a0,fl2,hokB,fun b o q n hb=>?_,fun b o q hb=>?_⟩,?_⟩,hn,hE⟩
 ·have U1:=Un.fly Fl.un kB tB fl2.1 (Bk fl.2.2.1) up
  have U0:Un (frs (iI (CX1 P w) P w K mg base N qual scope f cd A outer s H E).stack) [] H H1 s.heap s1.heap:=I.base.mono (fun b hb=>by rw[hfr];exact W0z _ hb) (fun b hb=>hb)
  exact(U0.trans U1).restrict fun b o hb q=>by
   rw[hfr] at hb;rcases List.mem_cons.mp hb with z | z
   ·exact absurd z (nL b o q)
   ·exact z
 ·exact kB b o (I.base.keep b o q n hb (noex b)) (I.base.free b o q n (noex b)) (nin b o q hb)
 ·obtain⟨o1,q1⟩:=I.base.there b o q (noex b)
  exact tB b o1 q1 (nin b o q hb)
 ·cases q:s.heap.get? ea with
  | none=>rfl
  | some o =>
   obtain⟨o1,q1⟩:=I.base.there ea o q (noex ea);rw[Fl.fresh] at q1;cases q1
theorem uM{z0:List (Addr×Obj)}{σ:St}{H1:Hp}{s1:Shared}{C e:Addr}{h':Heap}{args:List Value}(I:Inv (iI (CX1 P w) P w K mg base N qual scope f cd A outer s H E) z0 σ H1 s1)(hx:Heap.MadeExcOf s1.heap h' e (.ref C) args)(hE:E (.ref C) none H1) :
  (iI (CX1 P w) P w K mg base N qual scope f cd A outer s H E).xe (.ref e) { s1 with heap:=h' }:=by
 have hfr:frs (iI (CX1 P w) P w K mg base N qual scope f cd A outer s H E).stack=s.heap.objs.size::frs outer:=tE rfl;have nL:∀ b o,s.heap.get? b=some o->b≠s.heap.objs.size:=fun b o q=>P4z (O4z q)
 have nin:∀ b o,s.heap.get? b=some o->b∉frs outer->b∉frs (iI (CX1 P w) P w K mg base N qual scope f cd A outer s H E).stack:=fun b o q hb z=>by
  rw[hfr] at z;rcases List.mem_cons.mp z with z | z
  ·exact nL b o q z
  ·exact hb z
 have noex:∀ b:Addr,b∉(iI (CX1 P w) P w K mg base N qual scope f cd A outer s H E).ex:=fun b z=>absurd (show b∈([]:List Addr) from z) (by simp);have hin:∀ env∈(iI (CX1 P w) P w K mg base N qual scope f cd A outer s H E).stack,∀ b,env.frame=some b->b∈frs (iI (CX1 P w) P w K mg base N qual scope f cd A outer s H E).stack:=fun env he b hb=>List.mem_filterMap.mpr ⟨env,he,hb⟩;show wpAny _ _ (leaving _ (.ref e)) _ _ _;have kB:∀ b o,s1.heap.get? b=some o->b∉frs (iI (CX1 P w) P w K mg base N qual scope f cd A outer s H E).stack->(PySem.W.hideAll s1.heap (frs (iI (CX1 P w) P w K mg base N qual scope f cd A outer s H E).stack)).get? b=some o:=fun b o q hb=>PySem.W.hideAll_get _ q hb;refine wpAny_leaves_madeW I.ok.frames rfl (fun b o q=>PySem.W.of_hideAll _ q) (PySem.W.funFrames_hide I.stack hin) hx fun h2 t x1 x2 x3 x4=>?_;have up:s1.heap.UpToSlots h2:=(Heap.UpToSlots.of_keeps hx.keeps).trans x4
 have hok:HOk P w H1 (PySem.W.hideAll s1.heap (frs (iI (CX1 P w) P w K mg base N qual scope f cd A outer s H E).stack)):=HOk.part I.hok fun b u ob hu q=>kB b ob q fun z=>by
  rw[I.stkFree b z] at hu;cases hu
 have hn:H1 e=none:=HOk.none_of I.hok hx.new;refine⟨e,.ref C,H1,rfl,⟨I.os,I.bare,?_,⟨_,_,x1,hok,fun b o q n hb=>?_,fun b o q hb=>?_⟩,?_⟩,hn,hE⟩
 ·have U1:Un (frs (iI (CX1 P w) P w K mg base N qual scope f cd A outer s H E).stack) [] H1 H1 s1.heap h2:=Un.fly Un.refl (fun b o q _ hb=>kB b o q hb) (fun b o q hb=>⟨o,kB b o q hb⟩) x1.1 (Bk I.stack) up
  have U0:Un (frs (iI (CX1 P w) P w K mg base N qual scope f cd A outer s H E).stack) [] H H1 s.heap s1.heap:=I.base.mono (fun b hb=>by rw[hfr];exact W0z _ hb) (fun b hb=>hb)
  exact(U0.trans U1).restrict fun b o hb q=>by
   rw[hfr] at hb;rcases List.mem_cons.mp hb with z | z
   ·exact absurd z (nL b o q)
   ·exact z
 ·exact kB b o (I.base.keep b o q n hb (noex b)) (nin b o q hb)
 ·obtain⟨o1,q1⟩:=I.base.there b o q (noex b)
  exact⟨o1,kB b o1 q1 (nin b o q hb)⟩
 ·cases q:s.heap.get? e with
  | none=>rfl
  | some o =>
   obtain⟨o1,q1⟩:=I.base.there e o q (noex e);have:=hx.new;rw[this] at q1;cases q1
end
def nsOk(K:Z3)(N:Addr):Bool:=match K.lookup N with
 | some ⟨_,_,.dict es _,_⟩=>es.toList.all (fun e=>match e.key with | .str _ _=>true | _=>false)&&(PySem.W.nsIn K N "__init__"==some none)
 | _=>false
def xIn(K:Z3)(C M:Addr):Bool:=match K.lookup C,K.lookup M with
 | some ⟨.type "type",_,.cls cd,sl⟩,some ⟨_,_,.cls cdM,_⟩ =>
  (match sl.toList with | [_,_,_,_,some (.builtin n),_]=>n=="ValueError.__new__" | _=>false)&&cd.mro==[.ref C,.ref M,.type "ValueError",.type "Exception",.type "BaseException",.type "object"] && !cd.hasDel&&nsOk K cd.ns&&nsOk K cdM.ns
 | _,_=>false
theorem xM{K:Z3}{N:Addr}(e:nsOk K N=true):∃ mN:Str->Option Value,mN "__init__"=none/\∀ h:Heap,K.In h->h.Ns N mN:=by
 unfold nsOk at e;split at e
 ·rename_i c d es n sl ho
  rw[K2z] at e;refine⟨nsFind es,?_,fun h X=>⟨_,es,n,X _ _ ho,rfl,fun en hen=>?_,fun _=>rfl⟩⟩
  ·have e2:PySem.W.nsIn K N "__init__"=some none:=by simpa using e.2
   unfold PySem.W.nsIn at e2;rw[ho] at e2;simp only at e2;unfold nsFind findBy;rw[<- Array.find?_toList];split at e2
   ·cases e2
   ·rename_i q
    rw[q];rfl
  ·have:=W2z.mp e.1 en (by simpa using hen)
   split at this
   ·rename_i x t hk;exact⟨x,t,hk⟩
   ·cases this
 ·cases e
theorem JL{K:Z3}{C M:Addr}(e:xIn K C M=true):∃ nm q N bs hdct sn sub ab col dd k0 k1 k2 k3 k5 mN,mN "__init__"=none/\∀ h:Heap,K.In h ->
  h.get? C=some (excClassObj nm q C N bs [.ref M,.type "ValueError",.type "Exception",.type "BaseException",.type "object"] hdct sn sub ab col dd k0 k1 k2 k3 k5 "ValueError.__new__")/\h.Ns N mN /\
   OwnTail h [.type "ValueError",.type "Exception",.type "BaseException",.type "object"] [.ref M,.type "ValueError",.type "Exception",.type "BaseException",.type "object"]:=by
 unfold xIn at e;split at e
 ·rename_i dd cd sl cM dM cdM slM hC hM
  simp only[K2z,C2z] at e;obtain⟨⟨⟨⟨e1,e2⟩,e3⟩,e4⟩,e5⟩:=e;split at e1
  ·rename_i k0 k1 k2 k3 n k5 hs
   have en:n="ValueError.__new__":=by simpa using e1
   subst en
   have hsl:sl = #[k0,k1,k2,k3,some (.builtin "ValueError.__new__"),k5]:=by
    obtain⟨l⟩:=sl;simp only at hs;rw[hs]
   have em:cd.mro=[.ref C,.ref M,.type "ValueError",.type "Exception",.type "BaseException",.type "object"]:=by simpa using e2
   obtain⟨nm,bs,mro,ns,qn,hd,sn,sub,ab,col,del⟩:=cd;simp only at em e3 e4;subst em e3 hsl;obtain⟨mN,n2,n1⟩:=xM e4;obtain⟨mM,m2,m1⟩:=xM e5;exact⟨_,_,_,_,_,_,_,_,_,_,_,_,_,_,_,mN,n2,fun h X=>⟨X _ _ hC,n1 h X,.own (X _ _ hM) (m1 h X) m2 .base⟩⟩
  ·cases e1
 ·cases e
section
variable {X:Cx}
theorem Al{x:Str}{C M:Addr}{np cpos pos:Pos}{txt:Str}{j:Nat}{p1:Pos}{Q:Flow->Shared->Prop}{z0:List (Addr×Obj)}{σ:St}{H:Hp}{s:Shared}(I:Inv X z0 σ H s)(hc:X.A.handled=none)(hg:Gl X x)(hm:X.mg x=some (.ref C))(hd:(x==("__debug__":Str))=false)(hx:xIn X.K C M=true)
  (k:∀ (s2:Shared) (h':Heap) (e:Addr) (args:List Value),Inv X z0 σ H s2->Heap.MadeExcOf s2.heap h' e (.ref C) args->X.xe (.ref e) { s2 with heap:=h' }) :
  wpAny (model X.prog X.w) X.A (exec (.Raise (some (.Call (.Name x np) [.Constant (.str txt) j p1] [] cpos)) none pos) X.env) Q X.xe s:=by
 obtain⟨nm,q,N,bs,hdct,sn,sub,ab,col,dd,k0,k1,k2,k3,k5,mN,hni,fx⟩:=JL hx
 refine wpAny_Raise_call_subU (C:=C) (nm:=nm) (q:=q) (N:=N) (bs:=bs) (bm:=[.ref M,.type "ValueError",.type "Exception",.type "BaseException",.type "object"]) (hdct:=hdct) (sn:=sn) (sub:=sub) (ab:=ab) (col:=col) (dd:=dd) (k0:=k0) (k1:=k1) (k2:=k2) (k3:=k3) (k5:=k5)
  F.excBase_ValueError (by decide) F.excBase_ValueError (mN:=mN) ((fx _ I.kIn).2.2.hasType F.excBase_ValueError.hasBase) hc rfl hni (jJ I hg hm ⟨rfl,?_⟩ hd)
 have ha:PA X [.Constant (.str txt) j p1] (J5 (tC (.str txt)) W7):=bI Dr cY;show wpAny _ _ (evalArgs (.ref C) true (backTo cpos ((false,eval (.Constant (.str txt) j p1) X.env)::starEach [] X.env)) []) _ _ _;refine Y0z (E5z (ha cpos z0 s σ H (fun vs H1=>vs.length<=1/\H1=H) I ⟨A5z _,rfl⟩) (fun us s2 hq=>?_) fun _ _ y=>y);obtain⟨vs,H1,I1,r,q1,rfl⟩:=hq;obtain⟨f1,f2,f3⟩:=fx _ I1.kIn
 have h1:(1:Nat)<=sizeLine:=by decide
 have h2:=r.length;exact⟨rfl,(show us.length<=sizeLine by omega),f1,f2,f3,fun h' e hm'=>k s2 h' e us I1 hm'⟩
end
abbrev Cx.inSuite(X:Cx)(e:Value)(xe:Value->Shared->Prop):Cx:={ X with A:=X.A.mark (some e),calm:=false,xe:=xe }
section
variable {X:Cx} {z0:List (Addr×Obj)} {σ:St} {H H':Hp} {s s':Shared} {e:Value} {xe:Value->Shared->Prop}
theorem Inv.inSuite(I:Inv X z0 σ H s)(e:Value)(xe:Value->Shared->Prop):Inv (X.inSuite e xe) z0 σ H s :=
 ⟨⟨I.ok.mod,I.ok.kind,I.ok.glob,I.ok.blt,I.ok.above,I.ok.inj,I.ok.has,I.ok.cab,fun z=>(nomatch z),I.ok.frames,I.ok.stk,I.ok.exf,I.ok.bs,I.ok.bsz,I.ok.noex,I.ok.exfs,I.ok.funs,I.ok.frf⟩,I.os,I.bare,I.base,I.loc,I.cell,I.free,I.freeC,I.pin,I.hok,I.len⟩
theorem Inv.outSuite(ok:X.Ok)(I:Inv (X.inSuite e xe) z0 σ H s):Inv X z0 σ H s:=⟨ok,I.os,I.bare,I.base,I.loc,I.cell,I.free,I.freeC,I.pin,I.hok,I.len⟩
theorem Inv.unbound{i:Nat}{x:Str}{v:Option Value}{m:Str->Option Value}{h':Heap}{t':Nat}(I:Inv X z0 σ H s)(hN:X.N.Nodup)(hi:X.N[i]?=some x)(hm:s.heap.Ns X.env.locals m)(hn:h'.Ns X.env.locals (fun y=>if y=x then v else m y))(hs:Heap.SameBut X.env.locals s.heap h') :
  Inv X z0 (σ.set i none) H { s with heap:=h',toks:=t' }:=by
 have cne:=I.cne
 have hiσ:i<σ.length:=by rw[I.len];exact(List.getElem?_eq_some_iff.mp hi).1
 obtain⟨m0,hn0,hl⟩:=id I.loc
 have hmm:∀ y,m0 y=m y:=fun y=>by
  obtain⟨o1,es1,ep1,g1,g2,_,g3⟩:=hn0;obtain⟨o2,es2,ep2,f1,f2,_,f3⟩:=hm;rw[g1] at f1;cases f1;rw[g2] at f2;cases f2;rw[<- g3,<- f3]
 obtain⟨oL,_,_,hoL,_⟩:=id hn0
 have tracked:HOk X.prog X.w H h':=fun b ob e=>by
  refine(I.hok b ob e).stay (fun c w' hc q=>(hs.2 c ?_).trans q) (fun _ q=>q) fun _ _ q=>q;rintro rfl;rcases hc with rfl | hc
  ·rw[I.free] at e;cases e
  ·rw[I.free] at hc;cases hc
 refine⟨I.ok,I.os,I.bare,⟨fun b o e n hb hx=>?_,fun b o e n hb hx=>?_,I.base.free,fun b o e hx=>?_,I.base.tups,I.base.frzs,I.base.tbls⟩,⟨_,hn,fun j y v' e1 e2 e3=>?_⟩,fun y c e=>?_,I.free,I.freeC,fun p hp=>?_,tracked,by simpa using I.len⟩
 ·exact(hs.2 b (P4z (J1z (O4z e) I.ok.above))).trans (I.base.keep b o e n hb hx)
 ·obtain⟨sl,e1⟩:=I.base.slot b o e n hb hx
  exact⟨sl,(hs.2 b (P4z (J1z (O4z e) I.ok.above))).trans e1⟩
 ·obtain⟨o',e1⟩:=I.base.there b o e hx
  exact⟨o',(hs.2 b (P4z (J1z (O4z e) I.ok.above))).trans e1⟩
 ·by_cases hj:j=i
  ·subst hj
   rw[List.getElem?_set_self hiσ] at e2;cases e2
  ·rw[List.getElem?_set_ne (P5z hj)] at e2
   obtain⟨u',r',q⟩:=hl j y v' e1 e2 e3;refine⟨u',r',?_⟩;rcases q with⟨k,e⟩ | ⟨k,c,e,z⟩
   ·refine .inl ⟨k,?_⟩
    have:y≠x:=fun e=>hj (mJ hN e1 (e▸hi));simp only[this,O5z];rw[<- hmm];exact e
   ·exact .inr ⟨k,c,e,z.sameBut hs (cne y c e)⟩
 ·obtain⟨w',z⟩:=I.cell y c e
  exact⟨w',z.sameBut hs (cne y c e)⟩
 ·obtain⟨e,n,ne,nf,d⟩:=I.pin p hp
  exact⟨(hs.2 p.1 ne).trans e,n,ne,nf,d⟩
end
def isX(a:Addr)(cls:Value)(h:Heap):Prop:=∃ o,h.get? a=some o/\o.cls=cls/\∃ vs,o.data=.fields vs
theorem Mr{P:Program}{w:World}{H:Hp}{h:Heap}{a:Addr}{cls:Value}(x:isX a cls h):dZ P w H h a (.ext (isX a cls)) :=
 ⟨x,let ⟨o,e,_⟩:=x;⟨o,e⟩,fun _ _ ⟨o,e,r⟩ k=>⟨o,k o e,r⟩⟩
section
variable {X:Cx} {z0:List (Addr×Obj)} {σ:St} {H H':Hp} {s s':Shared} {ea:Addr} {cls:Value}
theorem Fly.lands{h2:Heap}{B:Heap}{t':Nat}(I:Inv X z0 σ H s)(Fl:Fly X.prog X.w X.stack H s H' ea cls s')(hokB:HOk X.prog X.w H' B)(U:Un (frs X.stack) [] H H' s.heap h2)(st:B.StaysIn h2):Inv X z0 σ H' { s' with heap:=h2,toks:=t' } :=
 I.call' (s':={ s' with heap:=h2,toks:=t' }) Fl.os U (hokB.kept st) Fl.bare (fun b z=>absurd z (by simp))
end
def lA(K:Z3)(C:Addr):Bool :=
 PySem.W.findIn K (.ref C) "__getattribute__"==some (some (.builtin "BaseException.__getattribute__"))&&PySem.W.findIn K (.ref C) "__getattr__"==some none&&PySem.W.findIn K (.ref C) "__class__"==some (some (.builtin "object.__class__")) &&
  PySem.W.mroIn K C (.type "object")==some true&&PySem.W.mroIn K C (.type "BaseException")==some true&&(PySem.W.clsIn K C).isSome
section
open PySem.Builtin PySem.Builtin.ObjectAttr PySem.Builtin.Getset_descriptor
variable {prog:Program} {w:World} {A:Around} {E:Value->Shared->Prop} {K:Z3} {h:Heap} {g:Array GenState} {d:Drawn} {t:Nat} {os:OsState} {a C:Addr} {o:Obj}
theorem xty{M:Model}(hx:h.get? a=some o)(hc:o.cls=.ref C):PySem.W.Looks M h (typeOf (.ref a)) (.ref C):=hc▸(PySem.W.Looks.ld hx).andThen .now
theorem uo{R:Result->Shared->Prop}(X:K.In h)(hx:h.get? a=some o)(hc:o.cls=.ref C)(hm:PySem.W.mroIn K C (.type "object")=some true)(hq:R (.ok (.ret (.ref C))) ⟨h,g,d,t,os⟩) :
  codeAny (model prog w) A (.call (.builtin "getset_descriptor.__get__") ⟨[.builtin "object.__class__",.ref a,.ref C],[]⟩) R ⟨h,g,d,t,os⟩:=by
 have hT5:(⟨h,g,d,t,os⟩:Shared).TypeIs (.builtin "object.__class__") "getset_descriptor":=U0z;have L0:=xty (M:=model prog w) hx hc;have L1:=PySem.W.looks_mroIn (M:=model prog w) X hm;refine codeAny_call_builtin PySem.W.KF.slot_gs.plain PySem.W.KF.entry_gs (PySem.W.KF.slot_gs.check _ _ _ _ _ _ _ _ PySem.W.KF.type_class (PySem.W.KF.args_gs _ _ _) ?_);unfold Builtin.«getset_descriptor.__get__» descrGet;rw[PySem.W.dga_obj];refine F5z (G5z ?_);unfold descrGetter descrCheckInstance descrNameAndClass isInstance;simp only[PySem.W.KF.owner_class]
 repeat lk
 refine⟨Code.quiet_builtin _ (by decide +kernel),codeAny_builtin PySem.W.KF.entry_class ?_⟩;unfold Builtin.«object.__class__» shownTypeOf
 repeat lk
 exact hq
theorem nH{tk:Tok}{Q:Fin->Shared->Prop}(X:K.In h)(hx:h.get? a=some o)(hc:o.cls=.ref C)(hm:PySem.W.mroIn K C (.type "object")=some true)(hf:PySem.W.findIn K (.ref C) "__class__"=some (some (.builtin "object.__class__")))(hq:Q (.done (.ret (.ref C))) ⟨h,g,d,t,os⟩) :
  wpAny (model prog w) A (Builtin.«object.__getattribute__» ⟨[.ref a,.str "__class__" tk],[]⟩) Q E ⟨h,g,d,t,os⟩:=by
 have hT5:(⟨h,g,d,t,os⟩:Shared).TypeIs (.builtin "object.__class__") "getset_descriptor":=U0z;have f5:=U0z;have f6:=F.slot_gs_get.lookup;have f7:=F.slot_gs_set.lookup;have LF:=Z0z (M:=model prog w) X hf
 repeat (any_goals (first | assumption | (with_reducible refine wpAny_loadPart_at hx ?_;rw[hc]) | with_reducible refine LF.at ?_ | wp_step))
 refine uo X hx hc hm ?_
 repeat (any_goals (first | assumption | wp_step))
theorem nJ{M:Model}{nameV:Value}{Q:Unit->Shared->Prop}(X:K.In h)(hx:h.get? a=some o)(hc:o.cls=.ref C)(hm:PySem.W.mroIn K C (.type "BaseException")=some true)(hq:Q () ⟨h,g,d,t,os⟩):wpAny M A (checkBuiltinCall "BaseException.__getattribute__" ⟨[.ref a,nameV],[]⟩) Q E ⟨h,g,d,t,os⟩:=by
 have hk:builtinKind "BaseException.__getattribute__"=some .slot:=by decide +kernel
 have hsplit:splitId "BaseException.__getattribute__"=some ("BaseException","__getattribute__"):=by decide +kernel
 have ha:=F.args_bexc_ga (.ref a) nameV;have LM:=PySem.W.looks_mroIn (M:=M) X hm;simp only[checkBuiltinCall,hk,hsplit];refine F5z ?_
 ·unfold isInstance
  repeat (first | (with_reducible refine wpAny_loadPart_at hx ?_;rw[hc]) | with_reducible refine LM.at ?_ | wp_step)
  exact hq
theorem vL{tk:Tok}{fill expr:Bool}{Q:Value->Shared->Prop}(X:K.In h)(hx:h.get? a=some o)(hc:o.cls=.ref C)(hA:lA K C=true)(hq:Q (.ref C) ⟨h,g,d,t,os⟩) :
  wpAny (model prog w) A (getAttrBy (.ref a) (.str "__class__" tk) fill expr) Q E ⟨h,g,d,t,os⟩:=by
 unfold lA at hA;simp only[K2z,J5z] at hA;obtain⟨⟨⟨⟨⟨g1,g2⟩,g3⟩,g4⟩,g5⟩,g6⟩:=hA;have f3:=F.excAttr_ValueError.ga.bind (.ref a)
 have hx0:(expr&&onTheHeap (Value.builtin "BaseException.__getattribute__"))=false:=by cases expr<;>rfl
 have hx2:(Value.builtin "BaseException.__getattribute__"==Value.builtin "object.__getattribute__")=false:=by decide +kernel
 have hx1:(onTheHeap (Value.ref C)&&Value.builtin "BaseException.__getattribute__"==Value.builtin "object.__getattribute__")=false:=by rw[hx2];rfl
 have L1:=Z0z (M:=model prog w) X g1;have L2':=Z0z (M:=model prog w) X g2
 repeat (any_goals (first | assumption | (with_reducible refine wpAny_loadPart_at hx ?_;rw[hc]) | with_reducible refine L1.at ?_ | with_reducible refine L2'.at ?_ | wp_step))
 refine codeAny_call_builtin F.excAttr_ValueError.ga.plain F.entry_bexc_ga (nJ X hx hc g5 (nH X hx hc g4 g3 ?_))
 repeat (any_goals (first | assumption | wp_step))
theorem JG{Q:Option Value->Shared->Prop}(X:K.In h)(hx:h.get? a=some o)(hc:o.cls=.ref C)(hA:lA K C=true)(hq:Q (some (.ref C)) ⟨h,g,d,t+1,os⟩) :
  wpAny (model prog w) A (getAttr? (.ref a) "__class__") Q E ⟨h,g,d,t,os⟩:=by
 unfold getAttr? getAttrBy?
 repeat (any_goals (first | assumption | with_reducible apply vL X hx hc hA | wp_step))
end
theorem Bv{K:Z3}{a C:Addr}(hA:lA K C=true):PySem.W.KitX K (.ref a) (.ref C) (isX a (.ref C)) where
 ty:=fun _ _ _ ⟨o,e,c,_⟩=>xty e c
 it:=fun _ _ X _=>by
  unfold lA at hA;rw[K2z] at hA;obtain⟨cdD,hcD⟩:=Option.isSome_iff_exists.mp hA.2;unfold PySem.W.clsIn at hcD;split at hcD
  ·rename_i c' d' cd' sl' ho
   intro A' Q' E' s' k q;unfold isType loadHead;exact F5z (wpAny_loadPart (k _ _ (X _ _ ho)) (G5z q))
  ·cases hcD
 ne:=fun h tp dd its n sl X htp=>by
  unfold lA at hA;rw[K2z] at hA;obtain⟨cdD,hcD⟩:=Option.isSome_iff_exists.mp hA.2;refine Bool.eq_false_iff.mpr fun q=>?_;have e:C=tp:=Value.ref.inj (J5z.mp q);subst e;unfold PySem.W.clsIn at hcD;split at hcD
  ·rename_i c' d' cd' sl' ho
   have z:=(X _ _ ho).symm.trans htp;cases z
  ·cases hcD
 ca:=fun {prog w A E Q s} X p k=>by
  obtain⟨h,g,d,t,os⟩:=s;obtain⟨o,e,c,_⟩:=p;exact JG X e c hA k
section
variable {X:Cx} {z0:List (Addr×Obj)} {σ:St} {H H':Hp} {s s':Shared} {ea C:Addr}
theorem caught{c n kn:Str}{Mc:Addr}{np p1 p2 p3 hp:Pos}{i j:Nat}{Q:Flow->Shared->Prop}(I:Inv X z0 σ H s)(Fl:Fly X.prog X.w X.stack H s H' ea (.ref C) s')(hn:H' ea=none)(hst:X.stack=X.env::X.outer/\X.env.frame=some X.env.locals)
  (hg:Gl X c) (hm:X.mg c=some (.ref Mc)) (hcd:(c==("__debug__":Str))=false) (hx:PySem.W.exmOne X.K (.ref C) (.ref Mc)=some true) (nd:X.N.Nodup) (hi:X.N[i]?=some n) (hj:X.N[j]?=some kn) (hij:i≠j)
  (ln:X.env.scope.names.lookup n=some .local) (lk:X.env.scope.names.lookup kn=some .local) (d1:(n==("__debug__":Str))=false) (d2:(n==("__classdict__":Str))=false)
  (k:∀ s2,Inv X z0 ((σ.set j (some (.ref ea))).set i none) (upd H' ea (.ext (isX ea (.ref C)))) s2->Q .next s2) :
  wpAny (model X.prog X.w) X.A (noteFrame (.ref ea) X.env) (fun _ s₂=>wpAny (model X.prog X.w) X.A (setFlight (.ref ea) none) (fun _ s₃ =>
   wpAny (model X.prog X.w) X.A (handleBy (.ref ea) X.env [.ExceptHandler (some (.Name c np)) (some n) [.Assign [.Name kn p1] (.Name n p2) p3] hp]) Q X.xe s₃) X.xe s₂) X.xe s':=by
 obtain⟨B,a0,fl,hokB,kB,tB⟩:=Fl.fly
 have hfr:X.A.frames=some (X.env::X.outer):=by rw[<- hst.1];exact I.ok.frames
 have fl':Heap.FlyingW B (X.env::X.outer) ea (.ref C) a0 s'.heap:=by rw[<- hst.1];exact fl
 refine wpAny_looks_onW hfr hst.2 fl' fun h4 held4 up4=>?_;refine wpAny_landsW held4 fun h5 fl5 up5=>?_;have U5:Un (frs X.stack) [] H H' s.heap h5:=Un.fly Fl.un kB tB fl5.1 (Bk fl.2.2.1) (up4.trans up5);have I5:Inv X z0 σ H' { s' with heap:=h5 }:=Fly.lands I Fl hokB U5 fl5.1;refine wpAny_handleBy_cons (codeAny_handlers_test ?_) (by intro q;cases q);refine jJ (I5.inSuite (.ref ea) X.xe) hg hm ?_ hcd
 have LT:PySem.W.Looks (model X.prog X.w) h5 (typeOf (.ref ea)) (.ref C):=by
  obtain⟨ob,hob,hoc⟩:=fl5.there;exact xty hob hoc
 refine(PySem.W.exm_one I5.kIn LT hx).here ?_;refine codeAny_handlers_suite_as ?_;refine lands_againW fl5 fun h6 fl6 up6=>?_;have U6:Un (frs X.stack) [] H H' s.heap h6:=Un.fly Fl.un kB tB fl6.1 (Bk fl.2.2.1) ((up4.trans up5).trans up6)
 have hX6:isX ea (.ref C) h6:=by
  obtain⟨oe,ws,e1,e2,e3,_⟩:=fl6.first
  exact⟨oe,e1,e2,ws,e3⟩
 have hok6:HOk X.prog X.w (upd H' ea (.ext (isX ea (.ref C)))) h6:=fun b u e=>by
  by_cases hb:b=ea
  ·subst hb;rw[aX] at e;cases e;exact Mr hX6
  ·rw[aO hb] at e
   exact((hokB.kept fl6.1) b u e).stay (fun _ _ _ q=>q) (fun b' q=>by rw[aO (aK q hn)];exact q) fun b' xs q=>by rw[aO (aK q hn)];exact q
 have U6':Un (frs X.stack) [] H (upd H' ea (.ext (isX ea (.ref C)))) s.heap h6:=by
  refine⟨U6.keep,U6.slot,fun b o q n hx=>?_,U6.there,fun b xs q=>?_,fun b o u q=>?_,fun b ps q=>?_⟩
  ·rw[aO (fun z=>by rw[z,Fl.fresh] at q;cases q)]
   exact U6.free b o q n hx
  ·have:=U6.tups b xs q
   rw[aO (aK this hn)];exact this
  ·have:=U6.frzs b o u q
   rw[aO (aK this hn)];exact this
  ·obtain⟨more,e⟩:=U6.tbls b ps q
   exact⟨more,by rw[aO (aK e hn)];exact e⟩
 have I6:Inv X z0 σ (upd H' ea (.ext (isX ea (.ref C)))) { s' with heap:=h6 }:=I.call' (s':={ s' with heap:=h6 }) Fl.os U6' hok6 Fl.bare (fun b z=>absurd z (by simp));refine gA (X:=X.inSuite (.ref ea) X.xe) (I6.inSuite (.ref ea) X.xe) nd hi (.inl ln) (v:=.ref ea) rfl (fun s7 I7=>?_) (.inr ln)
 have hiσ:i<σ.length:=by rw[I.len];exact(List.getElem?_eq_some_iff.mp hi).1
 have hps:PSs (X.inSuite (.ref ea) fun _ _=>False) [.Assign [.Name kn p1] (.Name n p2) p3] (W6 (N6 (N5 i) (BW j)) Fy):=lY (jC (X:=X.inSuite (.ref ea) fun _ _=>False) nd hj (.inl lk) (jF (X:=X.inSuite (.ref ea) fun _ _=>False) hi (.inl ln) d1 d2) rfl (.inr lk)) wU;have I7':Inv (X.inSuite (.ref ea) fun _ _=>False) z0 (σ.set i (some (.ref ea))) (upd H' ea (.ext (isX ea (.ref C)))) s7:=(I7.outSuite I.ok).inSuite _ _;refine E5z (hps z0 s7 _ _ { nx:=fun σ' H''=>σ'=(σ.set i (some (.ref ea))).set j (some (.ref ea))/\H''=upd H' ea (.ext (isX ea (.ref C))),rt:=fun _ _=>False } I7' ⟨.ref ea,by rw[List.getElem?_set_self hiσ],rfl,rfl⟩) (fun f s8 h8=>?_) fun _ _ z=>z.elim
 cases f with
 | next =>
  obtain⟨σ8,H8,I8,rfl,rfl⟩:=h8;have I8':Inv X z0 ((σ.set i (some (.ref ea))).set j (some (.ref ea))) (upd H' ea (.ext (isX ea (.ref C)))) s8:=I8.outSuite I.ok;obtain⟨m,hm8,_⟩:=id I8'.loc;refine wpAny_nameGoes_keeps ln hm8 (by rw[I.ok.kind];rfl) fun h9 v hn9 hs9=>?_;have I9:=I8'.unbound (t':=s8.toks+1) nd hi hm8 hn9 hs9
  have eσ:(((σ.set i (some (V.ref ea))).set j (some (.ref ea))).set i none)=((σ.set j (some (.ref ea))).set i none):=by
   rw[List.set_comm _ _ hij,List.set_set]
  rw[eσ] at I9;exact k _ I9
 | brk=>obtain⟨_,_,_,z⟩:=h8;exact z.elim
 | cont=>obtain⟨_,_,_,z⟩:=h8;exact z.elim
 | ret u=>obtain⟨_,_,_,_,_,z⟩:=h8;exact z.elim
end
end L2
namespace L2
open PySem PySem.Spec PyProof.Rows DE PySem.SeqAt
theorem Same.tup{K:Z3}{H H':Hp}{a:Addr}{xs:List V}(e:Same H H')(h:SqT K H a xs):SqT K H' a xs:=by
 rcases h with(h | ⟨o,h⟩) | h
 ·exact .inl (.inl (e _ _ h))
 ·exact .inl (.inr ⟨o,e _ _ h⟩)
 ·exact .inr h
mutual
def Rep(K:Z3)(H:Hp):D->V->Prop
 | .non,v=>v=.non
 | .bl b,v=>v=.bl b
 | .int i,v=>v=.int i
 | .str x,v=>v=.str x
 | .tup ds,v=>∃ a vs,v=.ref a/\SqT K H a vs/\aR K H ds vs
 | .lst ds,v=>∃ a vs,v=.ref a/\SqL K H a vs/\aR K H ds vs
 | .exc c,v=>∃ a C,v=.ref a/\PySem.W.nsIn K mainGlobals c=some (some (.ref C))/\H a=some (.ext (isX a (.ref C)))
 | .dic _ _,_=>False
 | .dt ks ds,v=>∃ (a:Addr) (es:List En) (o:Obj),v=.ref a/\H a=some (DtO a es o)/\es.map (·.1)=ks/\Keyed K H es/\aR K H ds (es.map (·.2.2))
def aR(K:Z3)(H:Hp):List D->List V->Prop
 | [],vs=>vs=[]
 | d::ds,vs=>∃ v r,vs=v::r/\Rep K H d v/\aR K H ds r
end
mutual
theorem Rep.same{K:Z3}{H H':Hp}(e:Same H H'):∀ (d:D) (v:V),Rep K H d v->Rep K H' d v
 | .non,v,h=>by simpa[Rep] using h
 | .bl b,v,h=>by simpa[Rep] using h
 | .int i,v,h=>by simpa[Rep] using h
 | .str x,v,h=>by simpa[Rep] using h
 | .tup ds,v,h=>by
  simp only[Rep] at h ⊢;obtain⟨a,vs,h1,h2,h3⟩:=h;exact⟨a,vs,h1,e.tup h2,aR.same e ds vs h3⟩
 | .lst ds,v,h=>by
  simp only[Rep] at h ⊢;obtain⟨a,vs,h1,h2,h3⟩:=h;exact⟨a,vs,h1,e.seq h2,aR.same e ds vs h3⟩
 | .exc c,v,h=>by
  simp only[Rep] at h ⊢;obtain⟨a,C,h1,h2,h3⟩:=h;exact⟨a,C,h1,h2,e _ _ h3⟩
 | .dic ks ds,v,h=>by simp[Rep] at h
 | .dt ks ds,v,h=>by
  simp only[Rep] at h ⊢;obtain⟨a,es,o,h1,h2,h3,h4,h5⟩:=h;exact⟨a,es,o,h1,e _ _ h2,h3,h4.same fun h=>e.tup h,aR.same e ds _ h5⟩
theorem aR.same{K:Z3}{H H':Hp}(e:Same H H'):∀ (ds:List D) (vs:List V),aR K H ds vs->aR K H' ds vs
 | [],vs,h=>by simpa[aR] using h
 | d::ds,vs,h=>by
  simp only[aR] at h ⊢;obtain⟨v,r,h1,h2,h3⟩:=h;exact⟨v,r,h1,Rep.same e d v h2,aR.same e ds r h3⟩
end
theorem aR.length{K:Z3}{H:Hp}:∀ {ds:List D} {vs:List V},aR K H ds vs->ds.length=vs.length
 | [],vs,h=>by simp only[aR] at h;subst h;rfl
 | d::ds,vs,h=>by
  simp only[aR] at h;obtain⟨v,r,rfl,_,h3⟩:=h;simp[h3.length]
theorem aR.nil{K:Z3}{H:Hp}:aR K H [] []:=by simp[aR]
theorem aR.cons{K:Z3}{H:Hp}{d:D}{ds:List D}{v:V}{vs:List V}(h:Rep K H d v)(r:aR K H ds vs):aR K H (d::ds) (v::vs):=by
 simp only[aR];exact⟨v,vs,rfl,h,r⟩
theorem aR.append{K:Z3}{H:Hp}:∀ {ds es:List D} {vs us:List V},aR K H ds vs->aR K H es us->aR K H (ds++es) (vs++us)
 | [],es,vs,us,h,h'=>by simp only[aR] at h;subst h;exact h'
 | d::ds,es,vs,us,h,h'=>by
  simp only[aR] at h;obtain⟨v,r,rfl,h2,h3⟩:=h;exact .cons h2 (h3.append h')
theorem aR.get{K:Z3}{H:Hp}:∀ {ds:List D} {vs:List V} {i:Nat} {d:D},aR K H ds vs->ds[i]?=some d->∃ v,vs[i]?=some v/\Rep K H d v
 | [],vs,i,d,_,e=>by simp at e
 | d'::ds,vs,0,d,h,e=>by
  simp only[aR] at h;obtain⟨v,r,rfl,h2,h3⟩:=h;simp at e;subst e;exact⟨v,rfl,h2⟩
 | d'::ds,vs,i+1,d,h,e=>by
  simp only[aR] at h;obtain⟨v,r,rfl,h2,h3⟩:=h;obtain⟨u,e1,e2⟩:=h3.get (i:=i) (d:=d) (by simpa using e);exact⟨u,by simpa using e1,e2⟩
theorem aR.take{K:Z3}{H:Hp}:∀ (n:Nat) {ds:List D} {vs:List V},aR K H ds vs->aR K H (ds.take n) (vs.take n)
 | 0,_,_,_=>by simpa using aR.nil
 | n+1,[],vs,h=>by simp only[aR] at h;subst h;simpa using aR.nil
 | n+1,d::ds,vs,h=>by
  simp only[aR] at h;obtain⟨v,r,rfl,h2,h3⟩:=h;simpa using aR.cons h2 (h3.take n)
theorem aR.drop{K:Z3}{H:Hp}:∀ (n:Nat) {ds:List D} {vs:List V},aR K H ds vs->aR K H (ds.drop n) (vs.drop n)
 | 0,_,_,h=>by simpa using h
 | n+1,[],vs,h=>by simp only[aR] at h;subst h;simpa using aR.nil
 | n+1,d::ds,vs,h=>by
  simp only[aR] at h;obtain⟨v,r,rfl,h2,h3⟩:=h;simpa using h3.drop n
theorem aR.reverse{K:Z3}{H:Hp}:∀ {ds:List D} {vs:List V},aR K H ds vs->aR K H ds.reverse vs.reverse
 | [],vs,h=>by simp only[aR] at h;subst h;simpa using aR.nil
 | d::ds,vs,h=>by
  simp only[aR] at h;obtain⟨v,r,rfl,h2,h3⟩:=h;simpa using h3.reverse.append (.cons h2 .nil)
structure Ext (Hs H Hs' H':Hp):Prop where
 vis:Same Hs Hs'
 all:Same H H'
 sub:Same Hs' H'
 hid:∀ b o,H b=some o->Hs b=none->Hs' b=none
theorem Ext.refl{Hs H:Hp}(h:Same Hs H):Ext Hs H Hs H:=⟨.refl _,.refl _,h,fun _ _ _ h=>h⟩
theorem Ext.trans{Hs H Hs1 H1 Hs2 H2:Hp}(a:Ext Hs H Hs1 H1)(b:Ext Hs1 H1 Hs2 H2):Ext Hs H Hs2 H2 :=
 ⟨a.vis.trans b.vis,a.all.trans b.all,b.sub,fun c o h1 h2=>b.hid c o (a.all c o h1) (a.hid c o h1 h2)⟩
theorem Ext.new{Hs H:Hp}(h:Same Hs H){p:Addr}(o:HO)(hp:H p=none):Ext Hs H (upd Hs p o) (upd H p o) where
 vis:=fun b u e=>by rw[aO (aK (h b u e) hp)];exact e
 all:=fun b u e=>by rw[aO (aK e hp)];exact e
 sub:=fun b u e=>by
  by_cases hb:b=p
  ·subst hb;rw[aX] at e ⊢;exact e
  ·rw[aO hb] at e ⊢;exact h b u e
 hid:=fun b u e n=>by rw[aO (aK e hp)];exact n
theorem isT{X:Cx}{z0:List (Addr×Obj)}{σ:St}{H:Hp}{s:Shared}{a:Addr}{vs:List V}(I:Inv X z0 σ H s)(h:SqT X.K H a vs):∃ its:List Value,Vals vs its/\s.heap.IsTuple a its.toArray:=by
 obtain⟨its,r,p,_⟩:=I.tuple h;exact⟨its,r,p⟩
theorem isL{X:Cx}{z0:List (Addr×Obj)}{σ:St}{H:Hp}{s:Shared}{a:Addr}{vs:List V}(I:Inv X z0 σ H s)(h:SqL X.K H a vs):∃ its:List Value,Vals vs its/\s.heap.IsList a its.toArray:=by
 obtain⟨its,r,p,_⟩:=I.list h;exact⟨its,r,p.isList⟩
mutual
theorem mZ:∀ d:D,dep d<1000->deq d d=true
 | .non,_=>rfl
 | .bl b,_=>by simp[deq]
 | .int i,_=>by simp[deq]
 | .str x,_=>by simp[deq]
 | .tup xs,h=>by simp only[deq];exact jO xs (by simp only[dep] at h;omega)
 | .lst xs,h=>by simp only[deq];exact jO xs (by simp only[dep] at h;omega)
 | .exc c,h=>absurd h (by simp[dep])
 | .dic _ _,h=>absurd h (by simp[dep])
 | .dt _ _,h=>absurd h (by simp[dep])
theorem jO:∀ ds:List D,deps ds<1000->jP ds ds=true
 | [],_=>rfl
 | d::ds,h=>by
  simp only[deps] at h;simp only[jP,mZ d (by omega),jO ds (by omega),J4z]
end
theorem tO:∀ {xs ys:List D} {e:Nat->Bool},(∀ (j:Nat) (x y:D),xs[j]?=some x->ys[j]?=some y->e j=deq x y)->((List.range (min xs.length ys.length)).all e&&xs.length==ys.length)=jP xs ys
 | [],[],_,_=>rfl
 | [],y::ys,_,_=>by simp[jP]
 | x::xs,[],_,_=>by simp[jP]
 | x::xs,y::ys,e,h=>by
  have ih:=tO (xs:=xs) (ys:=ys) (e:=fun j=>e (j+1)) fun j a b e1 e2=>h (j+1) a b (by simpa using e1) (by simpa using e2);have h0:=h 0 x y rfl rfl;simp only[jP,<- ih,<- h0,P2z];rw[show min (xs.length+1) (ys.length+1)=min xs.length ys.length+1 by omega,List.range_succ_eq_map,K4z,List.all_map];rw[Bool.and_assoc];congr 1;congr 1;simp
section
variable {X:Cx} {z0:List (Addr×Obj)} {σ:St} {H:Hp} {s:Shared}
mutual
theorem Rep.inj(I:Inv X z0 σ H s):∀ (d d':D) (v:V),dep d<1000->dep d'<1000->Rep X.K H d v->Rep X.K H d' v->d=d'
 | .non,d',v,z,z',h,h'=>by simp only[Rep] at h;subst h;cases d'<;>simp[Rep] at h' ⊢
 | .bl b,d',v,z,z',h,h'=>by simp only[Rep] at h;subst h;cases d'<;>simp[Rep] at h' ⊢;exact h'
 | .int b,d',v,z,z',h,h'=>by simp only[Rep] at h;subst h;cases d'<;>simp[Rep] at h' ⊢;exact h'
 | .str b,d',v,z,z',h,h'=>by simp only[Rep] at h;subst h;cases d'<;>simp[Rep] at h' ⊢;exact h'
 | .tup ds,d',v,z,z',h,h'=>by
  simp only[Rep] at h;obtain⟨a,vs,rfl,h2,h3⟩:=h
  cases d' with
  | tup es =>
   simp only[Rep] at h';obtain⟨a',vs',e,h2',h3'⟩:=h';cases e;have:=I.tuple_inj h2 h2';subst this;rw[aR.inj I ds es vs (by simp only[dep] at z;omega) (by simp only[dep] at z';omega) h3 h3']
  | lst es =>
   simp only[Rep] at h';obtain⟨a',vs',e,h2',h3'⟩:=h';cases e;obtain⟨i1,_,p1⟩:=isT I h2;obtain⟨i2,_,p2⟩:=isL I h2';exact absurd rfl (ne_of_list_tuple p2 p1)
  | non=>simp[Rep] at h'
  | bl _=>simp[Rep] at h'
  | int _=>simp[Rep] at h'
  | str _=>simp[Rep] at h'
  | exc _=>exact absurd z' (by simp[dep])
  | dic _ _=>exact absurd z' (by simp[dep])
  | dt _ _=>exact absurd z' (by simp[dep])
 | .lst ds,d',v,z,z',h,h'=>by
  simp only[Rep] at h;obtain⟨a,vs,rfl,h2,h3⟩:=h
  cases d' with
  | lst es =>
   simp only[Rep] at h';obtain⟨a',vs',e,h2',h3'⟩:=h';cases e;have:=I.list_inj h2 h2';subst this;rw[aR.inj I ds es vs (by simp only[dep] at z;omega) (by simp only[dep] at z';omega) h3 h3']
  | tup es =>
   simp only[Rep] at h';obtain⟨a',vs',e,h2',h3'⟩:=h';cases e;obtain⟨i1,_,p1⟩:=isL I h2;obtain⟨i2,_,p2⟩:=isT I h2';exact absurd rfl (ne_of_list_tuple p1 p2)
  | non=>simp[Rep] at h'
  | bl _=>simp[Rep] at h'
  | int _=>simp[Rep] at h'
  | str _=>simp[Rep] at h'
  | exc _=>exact absurd z' (by simp[dep])
  | dic _ _=>exact absurd z' (by simp[dep])
  | dt _ _=>exact absurd z' (by simp[dep])
 | .exc c,d',v,z,z',h,h'=>absurd z (by simp[dep])
 | .dic _ _,d',v,z,z',h,h'=>absurd z (by simp[dep])
 | .dt _ _,d',v,z,z',h,h'=>absurd z (by simp[dep])
theorem aR.inj(I:Inv X z0 σ H s):∀ (ds es:List D) (vs:List V),deps ds<1000->deps es<1000->aR X.K H ds vs->aR X.K H es vs->ds=es
 | [],es,vs,z,z',h,h'=>by
  simp only[aR] at h;subst h
  cases es with
  | nil=>rfl
  | cons e es=>simp[aR] at h'
 | d::ds,es,vs,z,z',h,h'=>by
  simp only[aR] at h;obtain⟨v,r,rfl,h2,h3⟩:=h
  cases es with
  | nil=>simp[aR] at h'
  | cons e es =>
   simp only[aR] at h';obtain⟨v',r',e',h2',h3'⟩:=h';cases e';simp only[deps] at z z';rw[Rep.inj I d e v (by omega) (by omega) h2 h2',aR.inj I ds es r (by omega) (by omega) h3 h3']
end
def eJ(ds es:List D)(j:Nat):Bool:=match ds[j]?,es[j]? with
 | some x,some y=>deq x y
 | _,_=>true
theorem yZ(ds es:List D):((List.range (min ds.length es.length)).all (eJ ds es)&&ds.length==es.length)=jP ds es :=
 tO fun j x y e1 e2=>by unfold eJ;rw[e1,e2]
theorem yX(ds es:List D)(h:ds.length=es.length):(List.range ds.length).all (eJ ds es)=jP ds es:=by
 rw[<- yZ ds es,<- h];simp
theorem mY:∀ {xs ys:List D},xs.length≠ys.length->jP xs ys=false
 | [],[],h=>absurd rfl h
 | [],_::_,_=>rfl
 | _::_,[],_=>rfl
 | x::xs,y::ys,h=>by
  simp only[jP,mY (xs:=xs) (ys:=ys) (by intro e;exact h (by simp[e])),C4z]
theorem gn{A:Around}:A.in1.units=A.units+1:=rfl
inductive Vw (s:Shared):D->Value->Prop
 | n:Vw s .non .none
 | b (c:Bool):Vw s (.bl c) (.bool c)
 | i (c:Int) (t:Tok):Vw s (.int c) (.int c t)
 | s (c:Str) (t:Tok):Vw s (.str c) (.str c t)
 | t {ds:List D} {a:Addr} {its:Array Value} (p:s.heap.IsTuple a its):Vw s (.tup ds) (.ref a)
 | l {ds:List D} {a:Addr} {its:Array Value} (p:s.heap.IsList a its):Vw s (.lst ds) (.ref a)
theorem view(I:Inv X z0 σ H s){d:D}{v:V}{u:Value}(h:Rep X.K H d v)(r:RelV v u)(z:dep d<1000):Vw s d u:=by
 cases d<;>simp only[Rep] at h<;>first
  | (simp[dep] at z;done)
  | (subst h;first | (cases (show u=_ from r);constructor;done) | (obtain⟨t,rfl⟩:=r;constructor;done))
  | (obtain⟨a,vs,rfl,h2,h3⟩:=h;cases (show u=Value.ref a from r);first | exact .t (isT I h2).choose_spec.2 | exact .l (isL I h2).choose_spec.2)
def V6:D->D->Bool
 | .tup _,.tup _=>false
 | .lst _,.lst _=>false
 | _,_=>true
theorem gW{A:Around}{d d':D}{u u':Value}(a:Vw s d u)(b:Vw s d' u')(hu:A.units<cLine)(k:V6 d d'=true):EqAt A s u u' (deq d d'):=by
 cases a with
 | n =>
  cases b with
  | n=>exact EqAt.same _
  | b e=>exact EqAt.none_bool e
  | i e f=>exact EqAt.none_int e f
  | s e f=>exact EqAt.none_str e f
  | t q=>exact EqAt.none_tuple q hu
  | l q=>exact EqAt.none_list q hu
 | b c =>
  cases b with
  | n=>exact EqAt.bool_none c
  | b e=>exact EqAt.bool_bool c e
  | i e f=>exact EqAt.bool_int c e f
  | s e f=>exact EqAt.bool_str c e f
  | t q=>exact EqAt.bool_tuple c q hu
  | l q=>exact EqAt.bool_list c q hu
 | i c t =>
  cases b with
  | n=>exact EqAt.int_none c t
  | b e=>exact EqAt.int_bool c t e
  | i e f=>exact EqAt.int_int c t e f
  | s e f=>exact EqAt.int_str c t e f
  | t q=>exact EqAt.int_tuple c t q hu
  | l q=>exact EqAt.int_list c t q hu
 | s c t =>
  cases b with
  | n=>exact EqAt.str_none c t
  | b e=>exact EqAt.str_bool c t e
  | i e f=>exact EqAt.str_int c t e f
  | s e f=>exact EqAt.str_str c t e f
  | t q=>exact EqAt.str_tuple c t q hu
  | l q=>exact EqAt.str_list c t q hu
 | t p =>
  cases b with
  | n=>exact EqAt.tuple_none p hu
  | b e=>exact EqAt.tuple_bool e p hu
  | i e f=>exact EqAt.tuple_int e f p hu
  | s e f=>exact EqAt.tuple_str e f p hu
  | t q=>cases k
  | l q=>exact EqAt.tuple_list p q hu
 | l p =>
  cases b with
  | n=>exact EqAt.list_none p hu
  | b e=>exact EqAt.list_bool e p hu
  | i e f=>exact EqAt.list_int e f p hu
  | s e f=>exact EqAt.list_str e f p hu
  | t q=>exact EqAt.list_tuple p q hu
  | l q=>cases k
theorem Ks{A:Around}{d d':D}{u u':Value}(a:Vw s d u)(b:Vw s d' u')(hu:A.units<cLine)(k:V6 d d'=true):RcAt A s u u' (deq d d')/\RcNeAt A s u u' (!deq d d'):=by
 cases a with
 | n =>
  cases b with
  | n=>exact⟨RcAt.none_none,RcNeAt.none_none⟩
  | b e=>exact⟨RcAt.none_bool e,RcNeAt.none_bool e⟩
  | i e f=>exact⟨RcAt.none_int e f,RcNeAt.none_int e f⟩
  | s e f=>exact⟨RcAt.none_str e f,RcNeAt.none_str e f⟩
  | t q=>exact⟨RcAt.none_tuple q hu,RcNeAt.none_tuple q hu⟩
  | l q=>exact⟨RcAt.none_list q hu,RcNeAt.none_list q hu⟩
 | b c =>
  cases b with
  | n=>exact⟨RcAt.bool_none c,RcNeAt.bool_none c⟩
  | b e=>exact⟨RcAt.bool_bool c e,RcNeAt.bool_bool c e⟩
  | i e f=>exact⟨RcAt.bool_int c e f,RcNeAt.bool_int c e f⟩
  | s e f=>exact⟨RcAt.bool_str c e f,RcNeAt.bool_str c e f⟩
  | t q=>exact⟨RcAt.bool_tuple c q hu,RcNeAt.bool_tuple c q hu⟩
  | l q=>exact⟨RcAt.bool_list c q hu,RcNeAt.bool_list c q hu⟩
 | i c t =>
  cases b with
  | n=>exact⟨RcAt.int_none c t,RcNeAt.int_none c t⟩
  | b e=>exact⟨RcAt.int_bool c t e,RcNeAt.int_bool c t e⟩
  | i e f=>exact⟨RcAt.int_int c t e f,RcNeAt.int_int c t e f⟩
  | s e f=>exact⟨RcAt.int_str c t e f,RcNeAt.int_str c t e f⟩
  | t q=>exact⟨RcAt.int_tuple c t q hu,RcNeAt.int_tuple c t q hu⟩
  | l q=>exact⟨RcAt.int_list c t q hu,RcNeAt.int_list c t q hu⟩
 | s c t =>
  cases b with
  | n=>exact⟨RcAt.str_none c t,RcNeAt.str_none c t⟩
  | b e=>exact⟨RcAt.str_bool c t e,RcNeAt.str_bool c t e⟩
  | i e f=>exact⟨RcAt.str_int c t e f,RcNeAt.str_int c t e f⟩
  | s e f=>exact⟨RcAt.str_str c t e f,RcNeAt.str_str c t e f⟩
  | t q=>exact⟨RcAt.str_tuple c t q hu,RcNeAt.str_tuple c t q hu⟩
  | l q=>exact⟨RcAt.str_list c t q hu,RcNeAt.str_list c t q hu⟩
 | t p =>
  cases b with
  | n=>exact⟨RcAt.tuple_none p hu,RcNeAt.tuple_none p hu⟩
  | b e=>exact⟨RcAt.tuple_bool e p hu,RcNeAt.tuple_bool e p hu⟩
  | i e f=>exact⟨RcAt.tuple_int e f p hu,RcNeAt.tuple_int e f p hu⟩
  | s e f=>exact⟨RcAt.tuple_str e f p hu,RcNeAt.tuple_str e f p hu⟩
  | t q=>cases k
  | l q=>exact⟨RcAt.tuple_list p q hu,RcNeAt.tuple_list p q hu⟩
 | l p =>
  cases b with
  | n=>exact⟨RcAt.list_none p hu,RcNeAt.list_none p hu⟩
  | b e=>exact⟨RcAt.list_bool e p hu,RcNeAt.list_bool e p hu⟩
  | i e f=>exact⟨RcAt.list_int e f p hu,RcNeAt.list_int e f p hu⟩
  | s e f=>exact⟨RcAt.list_str e f p hu,RcNeAt.list_str e f p hu⟩
  | t q=>exact⟨RcAt.list_tuple p q hu,RcNeAt.list_tuple p q hu⟩
  | l q=>cases k
mutual
theorem qR(I:Inv X z0 σ H s):∀ (d d':D) (v v':V) (u u':Value) (A:Around),Rep X.K H d v->Rep X.K H d' v'->RelV v u->RelV v' u'->A.units+dep d<cLine->dep d<1000->dep d'<1000->EqAt A s u u' (deq d d')
 | .tup ds,d',v,v',u,u',A,h,h',r,r',hu,z,z'=>by
  have hu0:A.units<cLine:=S1z (O2z _ _) hu
  cases d' with
  | tup es =>
   have hh:=h;have hh':=h';simp only[Rep] at h h';obtain⟨a,vs,rfl,h2,h3⟩:=h;cases (show u=Value.ref a from r);obtain⟨its,rv,p⟩:=isT I h2
   have hu1:A.in1.units+deps ds<cLine:=by have:dep (.tup ds)=deps ds+1:=rfl;rw[gn];omega
   obtain⟨b,us,rfl,h2',h3'⟩:=h';cases (show u'=Value.ref b from r');obtain⟨its',rv',p'⟩:=isT I h2'
   by_cases hab:a=b
   ·subst hab
    have:=Rep.inj I _ _ _ z z' hh hh';rw[<- this,mZ _ z];exact EqAt.same _
   ·have q:=RcAt.tuples p p' hu0 (e:=eJ ds es) fun j g1 g2=>gU I ds es vs us its its' A.in1 h3 h3' rv rv' hu1 (by simp only[dep] at z;omega) (by simp only[dep] at z';omega) j _ _ (by simp at g1 ⊢) (by simp at g2 ⊢)
    have l1:=h3.length;have l2:=rv.length;have l3:=h3'.length;have l4:=rv'.length
    rw[V1z,V1z,<- l2,<- l1,<- l4,<- l3,yZ] at q;exact .of_refs hab q
  | _=>exact gW (view I h r z) (view I h' r' z') hu0 rfl
 | .lst ds,d',v,v',u,u',A,h,h',r,r',hu,z,z'=>by
  have hu0:A.units<cLine:=S1z (O2z _ _) hu
  cases d' with
  | lst es =>
   have hh:=h;have hh':=h';simp only[Rep] at h h';obtain⟨a,vs,rfl,h2,h3⟩:=h;cases (show u=Value.ref a from r);obtain⟨its,rv,p⟩:=isL I h2
   have hu1:A.in1.units+deps ds<cLine:=by have:dep (.lst ds)=deps ds+1:=rfl;rw[gn];omega
   obtain⟨b,us,rfl,h2',h3'⟩:=h';cases (show u'=Value.ref b from r');obtain⟨its',rv',p'⟩:=isL I h2'
   have l1:=h3.length;have l2:=rv.length;have l3:=h3'.length;have l4:=rv'.length
   by_cases hab:a=b
   ·subst hab
    have:=Rep.inj I _ _ _ z z' hh hh';rw[<- this,mZ _ z];exact EqAt.same _
   ·by_cases hl:ds.length=es.length
    ·have q:=RcAt.lists p p' (by simp;omega) hu0 (e:=eJ ds es) fun j g1 g2=>gU I ds es vs us its its' A.in1 h3 h3' rv rv' hu1 (by simp only[dep] at z;omega) (by simp only[dep] at z';omega) j _ _ (by simp at g1 ⊢) (by simp at g2 ⊢)
     rw[V1z,<- l2,<- l1,yX _ _ hl] at q;exact .of_refs hab q
    ·have q:=RcAt.lists_lengths p p' (by simp;omega) hu0
     rw[show deq (.lst ds) (.lst es)=jP ds es from rfl,mY hl];exact .of_refs hab q
  | _=>exact gW (view I h r z) (view I h' r' z') hu0 rfl
 | .non,_,_,_,_,_,_,h,h',r,r',hu,z,z'=>gW (view I h r z) (view I h' r' z') (S1z (O2z _ _) hu) rfl
 | .bl _,_,_,_,_,_,_,h,h',r,r',hu,z,z'=>gW (view I h r z) (view I h' r' z') (S1z (O2z _ _) hu) rfl
 | .int _,_,_,_,_,_,_,h,h',r,r',hu,z,z'=>gW (view I h r z) (view I h' r' z') (S1z (O2z _ _) hu) rfl
 | .str _,_,_,_,_,_,_,h,h',r,r',hu,z,z'=>gW (view I h r z) (view I h' r' z') (S1z (O2z _ _) hu) rfl
 | .exc _,_,_,_,_,_,_,h,h',r,r',hu,z,z'=>gW (view I h r z) (view I h' r' z') (S1z (O2z _ _) hu) rfl
 | .dic _ _,_,_,_,_,_,_,h,h',r,r',hu,z,z'=>gW (view I h r z) (view I h' r' z') (S1z (O2z _ _) hu) rfl
 | .dt _ _,_,_,_,_,_,_,h,h',r,r',hu,z,z'=>gW (view I h r z) (view I h' r' z') (S1z (O2z _ _) hu) rfl
theorem gU(I:Inv X z0 σ H s):∀ (ds es:List D) (vs us:List V) (its its':List Value) (A:Around),aR X.K H ds vs->aR X.K H es us->Vals vs its->Vals us its'->A.units+deps ds<cLine->deps ds<1000->deps es<1000 ->
  ∀ (j:Nat) (u u':Value),its[j]?=some u->its'[j]?=some u'->EqAt A s u u' (eJ ds es j)
 | [],es,vs,us,its,its',A,h,h',r,r',hu,z,z',j,u,u',e1,e2=>by
  simp only[aR] at h;subst h;cases r;simp at e1
 | d::ds,es,vs,us,its,its',A,h,h',r,r',hu,z,z',j,u,u',e1,e2=>by
  simp only[aR] at h;obtain⟨v,vr,rfl,h2,h3⟩:=h
  cases r with
  | cons r rr =>
   cases es with
   | nil=>simp only[aR] at h';subst h';cases r';simp at e2
   | cons e es =>
    simp only[aR] at h';obtain⟨v',vr',rfl,h2',h3'⟩:=h'
    cases r' with
    | cons r' rr' =>
     have hd:dep d<=deps (d::ds):=Nat.le_max_left _ _;have hds:deps ds<=deps (d::ds):=Nat.le_max_right _ _
     cases j with
     | zero =>
      simp at e1 e2;subst e1 e2
      exact qR I d e v v' _ _ A h2 h2' r r' (by omega) (by simp only[deps] at z;omega) (by simp only[deps] at z';omega)
     | succ j =>
      have q:=gU I ds es vr vr' _ _ A h3 h3' rr rr' (by omega) (by simp only[deps] at z;omega) (by simp only[deps] at z';omega) j u u' (by simpa using e1) (by simpa using e2)
      simpa[eJ] using q
end
theorem tU(I:Inv X z0 σ H s){d d':D}{v v':V}{u u':Value}(A:Around)(h:Rep X.K H d v)(h':Rep X.K H d' v')(r:RelV v u)(r':RelV v' u')(hu:A.units+dep d<cLine)(z:dep d<1000)(z':dep d'<1000):RcAt A s u u' (deq d d')/\RcNeAt A s u u' (!deq d d'):=by
 have hu0:A.units<cLine:=S1z (O2z _ _) hu
 cases k:V6 d d' with
 | true=>exact Ks (view I h r z) (view I h' r' z') hu0 k
 | false =>
  cases d<;>cases d'<;>first | (cases k;done) | skip
  all_goals
   rename_i ds es;simp only[Rep] at h h';obtain⟨a,vs,rfl,h2,h3⟩:=h;cases (show u=Value.ref a from r);obtain⟨b,us,rfl,h2',h3'⟩:=h';cases (show u'=Value.ref b from r')
   have hu1:A.in1.units+deps ds<cLine:=by simp only[dep] at hu;rw[gn];omega
   have l1:=h3.length;have l3:=h3'.length
  ·obtain⟨its,rv,p⟩:=isT I h2;obtain⟨its',rv',p'⟩:=isT I h2'
   have l2:=rv.length;have l4:=rv'.length
   have he:∀ j (g1:j<its.toArray.size) (g2:j<its'.toArray.size),EqAt A.in1 s its.toArray[j] its'.toArray[j] (eJ ds es j):=fun j g1 g2=>gU I ds es vs us its its' A.in1 h3 h3' rv rv' hu1 (by simp only[dep] at z;omega) (by simp only[dep] at z';omega) j _ _ (by simp at g1 ⊢) (by simp at g2 ⊢)
   have q:=RcAt.tuples p p' hu0 he;have q':=RcNeAt.tuples p p' hu0 he;rw[V1z,V1z,<- l2,<- l1,<- l4,<- l3,yZ] at q q';exact⟨q,q'⟩
  ·obtain⟨its,rv,p⟩:=isL I h2;obtain⟨its',rv',p'⟩:=isL I h2'
   have l2:=rv.length;have l4:=rv'.length
   by_cases hl:ds.length=es.length
   ·have he:∀ j (g1:j<its.toArray.size) (g2:j<its'.toArray.size),EqAt A.in1 s its.toArray[j] its'.toArray[j] (eJ ds es j):=fun j g1 g2=>gU I ds es vs us its its' A.in1 h3 h3' rv rv' hu1 (by simp only[dep] at z;omega) (by simp only[dep] at z';omega) j _ _ (by simp at g1 ⊢) (by simp at g2 ⊢)
    have q:=RcAt.lists p p' (by simp;omega) hu0 he
    have q':=RcNeAt.lists p p' (by simp;omega) hu0 he
    rw[V1z,<- l2,<- l1,yX _ _ hl] at q q';exact⟨q,q'⟩
   ·rw[show deq (.lst ds) (.lst es)=jP ds es from rfl,mY hl]
    exact⟨RcAt.lists_lengths p p' (by simp;omega) hu0,RcNeAt.lists_lengths p p' (by simp;omega) hu0⟩
end
def pU(X:Cx)(e:Expr):TE:=fun σ H Q=>∀ z0 s,Inv X z0 σ H s->wpAny (model X.prog X.w) X.A (eval e X.env) (EP X z0 σ Q) X.xe s
def vW(X:Cx)(e:Expr):TT:=fun σ H Q=>∀ z0 s,Inv X z0 σ H s->wpAny (model X.prog X.w) X.A (isTrue e X.env (eval e X.env)) (TP X z0 σ Q) X.xe s
def vX(X:Cx)(es:List Expr):TA:=fun σ H Q=>∀ pos z0 s,Inv X z0 σ H s->wpAny (model X.prog X.w) X.A (spliced (backTo pos (starEach es X.env))) (AP X z0 σ Q) X.xe s
def qp(X:Cx)(tg iter:Expr):TI:=fun σ H R=>∀ z0 s,Inv X z0 σ H s->wpAny (model X.prog X.w) X.A (eval iter X.env) (fun v s1=>wpAny (model X.prog X.w) X.A (pyIter v) (PIE X z0 σ tg R) X.xe s1) X.xe s
section
variable {X:Cx} {e:Expr}
theorem au:PE X e (pU X e):=fun z0 s σ H Q I h=>h z0 s I
theorem dO:PT X e (vW X e):=fun z0 s σ H Q I h=>h z0 s I
theorem iM{es:List Expr}:PA X es (vX X es):=fun pos z0 s σ H Q I h=>h pos z0 s I
theorem jE{tg iter:Expr}:PI X tg iter (qp X tg iter):=fun z0 s σ H R I h=>h z0 s I
theorem PE.sem{t:TE}{σ:St}{H:Hp}{Q:VK}(h:PE X e t)(q:t σ H Q):pU X e σ H Q:=fun z0 s I=>h z0 s σ H Q I q
theorem PT.sem{t:TT}{σ:St}{H:Hp}{Q:Bool->Hp->Prop}(h:PT X e t)(q:t σ H Q):vW X e σ H Q:=fun z0 s I=>h z0 s σ H Q I q
theorem PA.sem{es:List Expr}{t:TA}{σ:St}{H:Hp}{Q:List V->Hp->Prop}(h:PA X es t)(q:t σ H Q):vX X es σ H Q:=fun pos z0 s I=>h pos z0 s σ H Q I q
theorem PI.sem{tg iter:Expr}{t:TI}{σ:St}{H:Hp}{R:It->Hp->Prop}(h:PI X tg iter t)(q:t σ H R):qp X tg iter σ H R:=fun z0 s I=>h z0 s σ H R I q
end
def cH(K:Z3)(Hs:Hp)(ρ:Rho)(σ:St):Prop:=∀ (i:Nat) (x:Str) (d:D),ρ[i]?=some (x,.sh d)->∃ v,σ[i]?=some (some v)/\Rep K Hs d v
theorem cH.same{K:Z3}{Hs Hs':Hp}{ρ:Rho}{σ:St}(h:cH K Hs ρ σ)(e:Same Hs Hs'):cH K Hs' ρ σ:=fun i x d q=>by
 obtain⟨v,e1,e2⟩:=h i x d q;exact⟨v,e1,Rep.same e d v e2⟩
def Nz(K:Z3)(J:It)(Hs0:Hp)(ds:List D):Prop:=∀ Hs H,Same Hs0 Hs->Same Hs H->J.stop ds.length H/\∀ (i:Nat) (d:D),ds[i]?=some d->J.go i H/\∀ x H',J.yld i H x H'->∃ Hs',Ext Hs H Hs' H'/\Rep K Hs' d x
def Ev(X:Cx)(ρ:Rho)(e:Expr)(d:D):Prop:=∀ σ H Hs Q,Same Hs H->cH X.K Hs ρ σ->(∀ v H' Hs',Ext Hs H Hs' H'->Rep X.K Hs' d v->Q v H')->pU X e σ H Q
def EvT(X:Cx)(ρ:Rho)(e:Expr)(b:Bool):Prop:=∀ σ H Hs Q,Same Hs H->cH X.K Hs ρ σ->(∀ H' Hs',Ext Hs H Hs' H'->Q b H')->vW X e σ H Q
def EvA(X:Cx)(ρ:Rho)(es:List Expr)(ds:List D):Prop:=∀ σ H Hs Q,Same Hs H->cH X.K Hs ρ σ->(∀ vs H' Hs',Ext Hs H Hs' H'->aR X.K Hs' ds vs->Q vs H')->vX X es σ H Q
def EvI(X:Cx)(ρ:Rho)(tg iter:Expr)(ds:List D):Prop:=∀ σ H Hs R,Same Hs H->cH X.K Hs ρ σ->(∀ J H' Hs',Ext Hs H Hs' H'->Nz X.K J Hs' ds->R J H')->qp X tg iter σ H R
def spX(K:Z3)(call:Str->List D->Option D)(callx:Str->List D->Option Str)(f:Str)(ps:List Str):Sp:=fun vs H Q E=>vs.length=ps.length/\∃ Hs ds,Same Hs H/\aR K Hs ds vs /\
 ((∃ d,call f ds=some d/\∀ v H' Hs',Ext Hs H Hs' H'->Rep K Hs' d v->Q v H')\/(∃ c,callx f ds=some c/\∀ C H' Hs',PySem.W.nsIn K mainGlobals c=some (some (.ref C))->Ext Hs H Hs' H'->E (.ref C) none H'))
def CK(K:Z3)(exs:List Str)(top:Str):Bool:=match PySem.W.nsIn K mainGlobals top with
  | some (some (.ref M))=>exs.all fun c=>match PySem.W.nsIn K mainGlobals c with
    | some (some (.ref C)) => xIn K C M && lA K C && PySem.W.exmOne K (.ref C) (.ref M) == some true && PySem.W.kitOne K (.ref C) (.ref M) == some true && PySem.W.kitOne K (.ref C) (.type "ValueError") == some true &&
      exs.all fun c'=>match PySem.W.nsIn K mainGlobals c' with
        | some (some (.ref C'))=>PySem.W.kitOne K (.ref C) (.ref C')==some (c==c')
        | _=>false
    | _=>false
  | _=>exs.isEmpty
structure XText (K:Z3) (mg:Str->Option Value) (exs:List Str) (top:Str):Prop where
 glob:∀ x v,PySem.W.nsIn K mainGlobals x=some (some v)->mg x=some v
 cls:∀ c,exs.contains c=true->∃ C M,PySem.W.nsIn K mainGlobals c=some (some (.ref C))/\PySem.W.nsIn K mainGlobals top=some (some (.ref M))/\xIn K C M=true/\lA K C=true/\PySem.W.exmOne K (.ref C) (.ref M)=some true/\PySem.W.kitOne K (.ref C) (.ref M)=some true/\PySem.W.kitOne K (.ref C) (.type "ValueError")=some true
 sub:∀ c c',exs.contains c=true->exs.contains c'=true->∃ C C',PySem.W.nsIn K mainGlobals c=some (some (.ref C))/\PySem.W.nsIn K mainGlobals c'=some (some (.ref C'))/\PySem.W.kitOne K (.ref C) (.ref C')=some (c==c')
theorem XText.of{K:Z3}{mg:Str->Option Value}{exs:List Str}{top:Str}(hg:∀ x v,PySem.W.nsIn K mainGlobals x=some (some v)->mg x=some v)(h:CK K exs top=true):XText K mg exs top:=by
 unfold CK at h;split at h
 ·rename_i M hM
  have all:=fun c (hc:exs.contains c=true)=>W2z.mp h c (by simpa using hc);refine⟨hg,fun c hc=>?_,fun c c' hc hc'=>?_⟩
  ·have q:=all c hc
   split at q
   ·rename_i C hC
    simp only[K2z,J5z] at q;exact⟨C,M,hC,hM,q.1.1.1.1.1,q.1.1.1.1.2,q.1.1.1.2,q.1.1.2,q.1.2⟩
   ·cases q
  ·have q:=all c hc
   split at q
   ·rename_i C hC
    simp only[K2z] at q;have q2:=W2z.mp q.2 c' (by simpa using hc');split at q2
    ·rename_i C' hC'
     exact⟨C,C',hC,hC',by simpa using q2⟩
    ·cases q2
   ·cases q
 ·have e:exs=[]:=by simpa using h
  subst e;exact⟨hg,fun c hc=>absurd hc (by simp),fun c c' hc=>absurd hc (by simp)⟩
structure Good (cx:Cxt) (k:Nat) (X:Cx) (sc:Scope):Prop where
 calm:X.calm=true
 room:Room k X.A
 sce:X.env.scope=sc
 kind:sc.kind=.function
 nd:X.N.Nodup
 cst:∀ x d,cx.cst.lookup x=some d->∃ v u,(∀ H,Rep X.K H d v)/\X.mg x=some u/\RelV v u
 blt:∀ x b,cx.blt.lookup x=some b->X.mg x=none/\x=Str.ofString b
 exs:XText X.K X.mg cx.exs cx.top
 fns:∀ f,cx.fns.contains f=true->(f==("__debug__":Str))=false/\∃ a fd ps,(∀ ds d,cx.call f ds=some d->ds.length=ps.length)/\(∀ ds c,cx.callx f ds=some c->ds.length=ps.length)/\X.mg f=some (.ref a)/\PySem.W.keepIn X.K (.ref a)=true/\Binds X.K fd ps []/\FnOk X.prog X.w X.K X.mg X.base (CX1 X.prog X.w) k a fd ps (spX X.K cx.call cx.callx f ps)
 kw:KnW X.K X.w
section
variable {X:Cx} {ρ:Rho} {cx:Cxt} {k:Nat} {sc:Scope}
theorem cP:∀ {ρ:Rho} {x:Str} {s:Sl},ρ.lookup x=some s->∃ i:Nat,ρ[i]?=some (x,s)/\(ρ.map (·.1)).idxOf? x=some i
 | (y,t)::r,x,s,h=>by
  rw[L2z] at h
  cases hb:x==y with
  | true =>
   rw[hb] at h;cases h
   have:x=y:=by simpa using hb
   subst this;exact⟨0,rfl,by simp[List.idxOf?,List.findIdx?_cons]⟩
  | false =>
   rw[hb] at h;obtain⟨i,h1,h2⟩:=cP h;refine⟨i+1,by simpa using h1,?_⟩
   have hy:(y==x)=false:=by
    rw[G1z] at hb ⊢;exact fun e=>hb e.symm
   simp only[I4z,List.idxOf?,List.findIdx?_cons,hy,Q1z,O5z];simp only[List.idxOf?] at h2;rw[h2];rfl
theorem Ij{x:Str}{d:D}{pos:Pos}(hN:X.N=ρ.map (·.1))(hv:Vis X.env.scope x)(hp:aH x=true)(h:ρ.lookup x=some (.sh d)):Ev X ρ (.Name x pos) d:=by
 intro σ H Hs Q hs hr hq;obtain⟨i,h1,_⟩:=cP h;obtain⟨v,e1,e2⟩:=hr i x d h1;unfold aH at hp;rw[K2z,K5z,K5z] at hp;refine PE.sem (jF (i:=i) (by rw[hN,List.getElem?_map,h1];rfl) hv (by simpa using hp.1) (by simpa using hp.2)) ⟨v,e1,hq v H Hs (.refl hs) e2⟩
theorem Nj{x:Str}{d:D}{v:V}{u:Value}{pos:Pos}(hg:Gl X x)(hd:∀ H,Rep X.K H d v)(hm:X.mg x=some u)(r:RelV v u)(hp:aH x=true):Ev X ρ (.Name x pos) d:=by
 intro σ H Hs Q hs hr hq;unfold aH at hp;rw[K2z,K5z,K5z] at hp;exact PE.sem (qC hg hm r (by simpa using hp.1)) (hq _ H Hs (.refl hs) (hd Hs))
theorem Ci{c:Const}{d:D}{j:Nat}{pos:Pos}(h:(match c with | .none=>some D.non | .bool b=>some (.bl b) | .int i=>some (.int i) | .str x=>some (.str x) | _=>none)=some d):Ev X ρ (.Constant c j pos) d:=by
 intro σ H Hs Q hs hr hq
 cases c<;>simp at h<;>subst h
 ·exact PE.sem K4 (hq _ H Hs (.refl hs) (by simp[Rep]))
 ·exact PE.sem Qh (hq _ H Hs (.refl hs) (by simp[Rep]))
 ·exact PE.sem K5 (hq _ H Hs (.refl hs) (by simp[Rep]))
 ·exact PE.sem Dr (hq _ H Hs (.refl hs) (by simp[Rep]))
theorem eE{a b:Expr}{x y d:D}{r:R2}{e:Expr}(ha:Ev X ρ a x)(hb:Ev X ρ b y)(hp:PE X e (tOp r (pU X a) (pU X b)))
  (hr:∀ u v H Hs Q,Same Hs H->Rep X.K Hs x u->Rep X.K Hs y v->(∀ w H' Hs',Ext Hs H Hs' H'->Rep X.K Hs' d w->Q w H')->r u v H Q):Ev X ρ e d:=by
 intro σ H Hs Q hs hst hq;refine hp.sem (ha σ H Hs _ hs hst fun u H1 Hs1 E1 r1=>hb σ H1 Hs1 _ E1.sub (hst.same E1.vis) fun v H2 Hs2 E2 r2=>?_);exact hr u v H2 Hs2 Q E2.sub (Rep.same E2.vis x u r1) r2 fun w H' Hs' E3 r3=>hq w H' Hs' (E1.trans (E2.trans E3)) r3
theorem rN{i:Int}(h:small i=true):-(2^64)<i/\i<2^64:=by
 unfold small at h;rw[K2z,D2z,D2z] at h;exact h
theorem fQ{n:Nat}(h:szl n=true):n<=sizeLine:=by
 unfold szl at h;rw[D2z] at h;exact Q4z h (by rw[B5z];decide)
theorem v7{n:Nat}(h:szl n=true):n<sizeLine:=by
 unfold szl at h;rw[D2z] at h;exact S1z h (by rw[B5z];decide)
theorem aV{K:Z3}{H:Hp}{i:Int}{v:V}(h:Rep K H (.int i) v):v=.int i:=by simpa[Rep] using h
theorem dN{K:Z3}{H:Hp}{i:Bool}{v:V}(h:Rep K H (.bl i) v):v=.bl i:=by simpa[Rep] using h
theorem bL{K:Z3}{H:Hp}{ds:List D}{v:V}(h:Rep K H (.tup ds) v):∃ a vs,v=.ref a/\SqT K H a vs/\aR K H ds vs:=by simpa[Rep] using h
theorem bF{K:Z3}{H:Hp}{ds:List D}{v:V}(h:Rep K H (.lst ds) v):∃ a vs,v=.ref a/\SqL K H a vs/\aR K H ds vs:=by simpa[Rep] using h
theorem mK{Hs H:Hp}{ds:List D}{vs:List V}{p:Addr}{Q:VK}(hs:Same Hs H)(hr:aR X.K Hs ds vs)(hp:H p=none)(hq:∀ w H' Hs',Ext Hs H Hs' H'->Rep X.K Hs' (.tup ds) w->Q w H'):Q (.ref p) (upd H p (.tup vs)) :=
 hq _ _ _ (Ext.new hs (.tup vs) hp) (by simp only[Rep];exact⟨p,vs,rfl,.of aX,aR.same (Ext.new hs (.tup vs) hp).vis ds vs hr⟩)
theorem jG{Hs H:Hp}{ds:List D}{vs:List V}{p:Addr}{Q:VK}(hs:Same Hs H)(hr:aR X.K Hs ds vs)(hp:H p=none)(hq:∀ w H' Hs',Ext Hs H Hs' H'->Rep X.K Hs' (.lst ds) w->Q w H'):Q (.ref p) (upd H p (.lst vs)) :=
 hq _ _ _ (Ext.new hs (.lst vs) hp) (by simp only[Rep];exact⟨p,vs,rfl,.of aX,aR.same (Ext.new hs (.lst vs) hp).vis ds vs hr⟩)
def Qc(K:Z3):R2:=fun x y H Q=>∃ a b xs ys,x=.ref a/\y=.ref b/\SqT K H a xs/\SqT K H b ys/\xs.length+ys.length<=sizeLine /\
 (xs=[]->Q (.ref b) H)/\(xs≠[]->ys=[]->Q (.ref a) H)/\(xs≠[]->ys≠[]->∀ p,H p=none->Q (.ref p) (upd H p (.tup (xs++ys))))
theorem G8:OpR X (binaryOp .Add) (Qc X.K):=by
 intro z0 s σ H x y v u Q I rx ry h;obtain⟨a,b,xs,ys,rfl,rfl,ha,hb,hz,q0,q1,q2⟩:=h
 by_cases hx:xs=[]
 ·subst hx
  cases (show v=Value.ref a from rx);cases (show u=Value.ref b from ry);obtain⟨its,r1,p1,_⟩:=I.tuple ha;obtain⟨its2,r2,p2,_⟩:=I.tuple hb;have e0:its=[]:=r1.nil_iff.mpr rfl;subst e0;obtain⟨⟨c,dd,data,sl⟩,ho,hc,n,hd⟩:=id p1;obtain⟨⟨c2,dd2,data2,sl2⟩,ho2,hc2,n2,hd2⟩:=id p2;simp only at hc hd hc2 hd2;subst hc hd hc2 hd2;exact concat_meets ⟨_,ho,rfl⟩ ⟨_,ho2,rfl⟩ noFill_tuple_add seq_tuple_add N0z J0z (H0z _ _) (tuple_addW0 a b _ its2.toArray n n2 dd dd2 sl sl2 rfl) ⟨ho,ho2,.ref b,H,I,rfl,q0 rfl⟩
 ·exact G7 z0 s σ H (.ref a) (.ref b) v u Q I rx ry ⟨a,b,xs,ys,rfl,rfl,ha,hb,hx,hz,q1 hx,q2 hx⟩
theorem aR.rep{K:Z3}{H:Hp}{ds:List D}{vs:List V}(h:aR K H ds vs):∀ n:Nat,aR K H (List.replicate n ds).flatten (List.replicate n vs).flatten
 | 0=>by simp[aR]
 | n+1=>by
  simp only[F1z,W1z];exact h.append (h.rep n)
def NK(i j:Int):Prop:=W2 i j\/(i.natAbs.log2<10000/\j.natAbs.log2<10000)
theorem DG{i:Int}(h:mid i=true):i.natAbs.log2<10000:=by unfold mid at h;simpa using h
theorem ud{i:Int}(h:i.natAbs.log2<10000):Builtin.Int.intBits i<=2^20:=by
 unfold Builtin.Int.intBits
 split<;>omega
theorem G4:OpR X (binaryOp .Mult) (rI NK fun i j=>.int (i*j)):=opI fun _ _ _ _ _ _ _ hc q=>mul_int q (hc.elim (fun z=>z.ok) fun z=>.of_bits (ud z.1) (ud z.2))
def W3(i j:Int):Prop:=j≠0/\j.natAbs.log2<9000
theorem Bh:OpR X (binaryOp .FloorDiv) (rI W3 fun i j=>.int (i.fdiv j)):=opI fun _ _ _ _ _ _ _ hc q=>floordiv_int hc.1 q (.inl (PyProof.noPylong_of_log2 hc.2))
theorem Ck{a b:Expr}{op:Operator}{x y d:D}{pos:Pos}(ha:Ev X ρ a x)(hb:Ev X ρ b y)(h:binop op x y=some d):Ev X ρ (.BinOp a op b pos) d:=by
 unfold binop at h;split at h
 ·cases h
  exact eE ha hb (iZ Le au au) fun u v H Hs Q hs r1 r2 hq=>⟨_,_,aV r1,aV r2,hq _ H Hs (.refl hs) (by simp[Rep])⟩
 ·split at h
  ·rename_i hz
   cases h;refine eE ha hb (iZ G8 au au) fun u v H Hs Q hs r1 r2 hq=>?_;obtain⟨p,us,rfl,h1,h2⟩:=bL r1;obtain⟨q,ws,rfl,h3,h4⟩:=bL r2;have l1:=h2.length;have l2:=h4.length
   have nil:∀ (l:List D),l.length=0->l=[]:=fun l hl=>by cases l<;>simp at hl ⊢
   refine⟨p,q,us,ws,rfl,rfl,hs.tup h1,hs.tup h3,by have:=fQ hz;omega,fun e=>?_,fun _ e=>?_,fun _ _ l hl=>mK hs (h2.append h4) hl hq⟩
   ·subst e
    have e2:=nil _ l1;subst e2;exact hq _ H Hs (.refl hs) r2
   ·subst e
    have e2:=nil _ l2;subst e2;refine hq _ H Hs (.refl hs) ?_;rw[E3z];exact r1
  ·cases h
 ·split at h
  ·rename_i hz
   cases h;refine eE ha hb (iZ xJ au au) fun u v H Hs Q hs r1 r2 hq=>?_;obtain⟨p,us,rfl,h1,h2⟩:=bF r1;obtain⟨q,ws,rfl,h3,h4⟩:=bF r2;have l1:=h2.length;have l2:=h4.length;exact⟨p,q,us,ws,rfl,rfl,hs.seq h1,hs.seq h3,by have:=fQ hz;omega,fun l hl=>jG hs (h2.append h4) hl hq⟩
  ·cases h
 ·cases h
  exact eE ha hb (iZ La au au) fun u v H Hs Q hs r1 r2 hq=>⟨_,_,aV r1,aV r2,hq _ H Hs (.refl hs) (by simp[Rep])⟩
 ·split at h
  ·rename_i hz
   cases h;rw[O3z,O3z,K2z] at hz;have hz':NK _ _:=hz.elim (fun z=>z.elim (fun z=>.inl (.inl (rN z))) (fun z=>.inl (.inr (rN z)))) (fun z=>.inr ⟨DG z.1,DG z.2⟩);exact eE ha hb (iZ G4 au au) fun u v H Hs Q hs r1 r2 hq=>⟨_,_,aV r1,aV r2,hz',hq _ H Hs (.refl hs) (by simp[Rep])⟩
  ·cases h
 ·split at h
  ·rename_i hz
   cases h;rw[K2z,K2z,D2z,D2z] at hz;refine eE ha hb (iZ xH au au) fun u v H Hs Q hs r1 r2 hq=>?_;obtain⟨p,us,rfl,h1,h2⟩:=bF r1;have l1:=h2.length;exact⟨p,_,us,rfl,aV r2,hs.seq h1,by omega,by omega,by have:=fQ hz.2;rw[<- l1];exact this,fun l hl=>jG hs (h2.rep _) hl hq⟩
  ·cases h
 ·simp at h
 ·split at h
  ·rename_i hz
   cases h;rw[K2z,D2z,D2z] at hz;exact eE ha hb (iZ G6 au au) fun u v H Hs Q hs r1 r2 hq=>⟨_,_,aV r1,aV r2,hz,hq _ H Hs (.refl hs) (by simp[Rep])⟩
  ·split at h
   ·rename_i hz
    cases h;rw[K2z,D2z,D2z] at hz;exact eE ha hb (iZ Bh au au) fun u v H Hs Q hs r1 r2 hq=>⟨_,_,aV r1,aV r2,hz,hq _ H Hs (.refl hs) (by simp[Rep])⟩
   ·cases h
 ·split at h
  ·rename_i hz
   cases h;rw[D2z] at hz;exact eE ha hb (iZ Lb au au) fun u v H Hs Q hs r1 r2 hq=>⟨_,_,aV r1,aV r2,hz,hq _ H Hs (.refl hs) (by simp[Rep])⟩
  ·split at h
   ·rename_i hz
    cases h;rw[D2z] at hz;exact eE ha hb (iZ G5 au au) fun u v H Hs Q hs r1 r2 hq=>⟨_,_,aV r1,aV r2,hz,hq _ H Hs (.refl hs) (by simp[Rep])⟩
   ·cases h
 ·cases h
end
section
variable {X:Cx} {ρ:Rho} {cx:Cxt} {k:Nat} {sc:Scope}
theorem aq{e:Expr}{es:List Expr}{env:Env}(h:aL e=true):starEach (e::es) env=(false,eval e env)::starEach es env:=by
 cases e<;>first | rfl | (simp[aL] at h)
theorem lZ{e:Expr}(h:aL e=true):zW e:=by
 intro o i
 cases e<;>first | rfl | (simp[aL] at h)
theorem dF{e:Expr}{env:Env}(h:aL e=true)(x:Value):foldedSetIterable e env x=pure x:=by
 cases e<;>first | rfl | (simp[aL] at h)
theorem iD{e:Expr}{op:CmpOp}(h:aL e=true):behindInMarks op e=false:=by
 cases e<;>first | rfl | (simp[aL] at h)
theorem gB{env:Env}{pos:Pos}:∀ {es:List Expr},(∀ e∈es,aL e=true)->(backTo pos (starEach es env)).any (·.1)=false
 | [],_=>rfl
 | e::es,h=>by
  rw[aq (h e K1z)];have ih:=gB (env:=env) (pos:=pos) fun e' he=>h e' (W0z _ he);show((false:Bool)||(backTo pos (starEach es env)).any (·.1))=false;rw[ih];rfl
theorem bw:∀ {n:Nat} {ρ:Rho} {e:Expr} {d:D},ev cx n sc ρ e=some d->aL e=true
 | 0,_,_,_,h=>by simp[ev] at h
 | n+1,ρ,e,d,h=>by
  cases e<;>first | rfl | (exact nomatch (show(Option.none:Option D)=some d from h))
def Fw(X:Cx)(e:Expr):TT:=fun σ H Q=>∀ whole z0 s,Inv X z0 σ H s->wpAny (model X.prog X.w) X.A (isTrue e X.env whole) (TP X z0 σ Q) X.xe s
def EvW(X:Cx)(ρ:Rho)(e:Expr)(b:Bool):Prop:=∀ σ H Hs Q,Same Hs H->cH X.K Hs ρ σ->(∀ H' Hs',Ext Hs H Hs' H'->Q b H')->Fw X e σ H Q
theorem rW{e:Expr}:PW X e (Fw X e):=fun whole z0 s σ H Q I h=>h whole z0 s I
theorem PW.sem{e:Expr}{t:TT}{σ:St}{H:Hp}{Q:Bool->Hp->Prop}(h:PW X e t)(q:t σ H Q):Fw X e σ H Q:=fun whole z0 s I=>h whole z0 s σ H Q I q
theorem EvW.t{e:Expr}{b:Bool}(h:EvW X ρ e b):EvT X ρ e b:=fun σ H Hs Q hs hr hq z0 s I=>h σ H Hs Q hs hr hq _ z0 s I
theorem Iu{e:Expr}{b:Bool}(h:Ev X ρ e (.bl b))(he:∀ whole,isTrue e X.env whole=(do let v <- whole;standAt e.pos;holding [v] (truthy v))):EvT X ρ e b:=fun σ H Hs Q hs hr hq =>
 (Dl au he).sem (h σ H Hs _ hs hr fun v H' Hs' E1 r1=>⟨b,dN r1,hq H' Hs' E1⟩)
theorem Nb{a:Expr}{b:Bool}{pos:Pos}(h:Ev X ρ a (.bl b)):Ev X ρ (.UnaryOp .Not a pos) (.bl (!b)):=fun σ H Hs Q hs hr hq =>
 (K3 au).sem (h σ H Hs _ hs hr fun v H' Hs' E1 r1=>⟨b,dN r1,hq _ H' Hs' E1 (by simp[Rep])⟩)
theorem Iv{a:Expr}{b:Bool}{pos:Pos}(h:EvT X ρ a b):EvT X ρ (.UnaryOp .Not a pos) (!b):=fun σ H Hs Q hs hr hq =>
 (Dm dO).sem (h σ H Hs _ hs hr fun H' Hs' E1=>hq H' Hs' E1)
theorem Nf{a:Expr}{i:Int}{pos:Pos}(h:Ev X ρ a (.int i)):Ev X ρ (.UnaryOp .USub a pos) (.int (-i)):=fun σ H Hs Q hs hr hq =>
 (Qg JZ au).sem (h σ H Hs _ hs hr fun v H' Hs' E1 r1=>⟨i,aV r1,hq _ H' Hs' E1 (by simp[Rep])⟩)
theorem o8{op:BoolOp}{f:Expr->Option D}{pos:Pos}:∀ {es:List Expr} {d:D},(∀ e∈es,∀ d,f e=some d->Ev X ρ e d/\∀ b,d=.bl b->EvT X ρ e b)->cg op f es=some d ->
  Ev X ρ (.BoolOp op es pos) d/\∀ b,d=.bl b->EvW X ρ (.BoolOp op es pos) b
 | [],d,_,h=>by simp[cg] at h
 | [e],d,hf,h=>by
  obtain⟨h1,h2⟩:=hf e (by simp) d (by simpa[cg] using h);refine⟨fun σ H Hs Q hs hr hq=>(K1 au).sem (h1 σ H Hs Q hs hr hq),fun b hb σ H Hs Q hs hr hq=>?_⟩
  cases op with
  | And=>exact(Gm dO).sem (h2 b hb σ H Hs Q hs hr hq)
  | Or=>exact(Ky dO).sem (h2 b hb σ H Hs Q hs hr hq)
 | e::e'::r,d,hf,h=>by
  simp only[cg] at h
  cases he:f e with
  | none=>rw[he] at h;simp at h
  | some x =>
   rw[he] at h
   cases x with
   | bl c =>
    obtain⟨h1,h2⟩:=hf e (by simp) _ he;have h2':=h2 c rfl;simp only[asB,Q2z,Option.bind_eq_bind,bind,Option.bind] at h;have ih:=fun d' (q:cg op f (e'::r)=some d')=>o8 (pos:=pos) (es:=e'::r) (fun a ha=>hf a (W0z _ ha)) q
    cases op with
    | And =>
     cases c with
     | true =>
      simp only[Q5z] at h;obtain⟨i1,i2⟩:=ih d h;refine⟨fun σ H Hs Q hs hr hq=>(Dt au au).sem (h1 σ H Hs _ hs hr fun v H' Hs' E1 r1=>⟨true,dN r1,vH (i1 σ H' Hs' Q E1.sub (hr.same E1.vis) fun w H2 Hs2 E2 r2=>hq w H2 Hs2 (E1.trans E2) r2)⟩),fun b hb σ H Hs Q hs hr hq=>?_⟩;exact(Dj dO rW).sem (h2' σ H Hs _ hs hr fun H' Hs' E1=>vH (i2 b hb σ H' Hs' Q E1.sub (hr.same E1.vis) fun H2 Hs2 E2=>hq H2 Hs2 (E1.trans E2)))
     | false =>
      simp only[Q1z,O5z,E2z] at h;subst h;refine⟨fun σ H Hs Q hs hr hq=>(Dt au au).sem (h1 σ H Hs _ hs hr fun v H' Hs' E1 r1=>⟨false,dN r1,yt (hq _ H' Hs' E1 (by simp[Rep]))⟩),fun b hb σ H Hs Q hs hr hq=>?_⟩;cases hb;exact(Dj dO rW).sem (h2' σ H Hs _ hs hr fun H' Hs' E1=>yt (hq H' Hs' E1))
    | Or =>
     cases c with
     | true =>
      simp only[Q5z,E2z] at h;subst h;refine⟨fun σ H Hs Q hs hr hq=>(KZ au au).sem (h1 σ H Hs _ hs hr fun v H' Hs' E1 r1=>⟨true,dN r1,vH (hq _ H' Hs' E1 (by simp[Rep]))⟩),fun b hb σ H Hs Q hs hr hq=>?_⟩;cases hb;exact(Kz dO rW).sem (h2' σ H Hs _ hs hr fun H' Hs' E1=>vH (hq H' Hs' E1))
     | false =>
      simp only[Q1z,O5z] at h;obtain⟨i1,i2⟩:=ih d h;refine⟨fun σ H Hs Q hs hr hq=>(KZ au au).sem (h1 σ H Hs _ hs hr fun v H' Hs' E1 r1=>⟨false,dN r1,yt (i1 σ H' Hs' Q E1.sub (hr.same E1.vis) fun w H2 Hs2 E2 r2=>hq w H2 Hs2 (E1.trans E2) r2)⟩),fun b hb σ H Hs Q hs hr hq=>?_⟩;exact(Kz dO rW).sem (h2' σ H Hs _ hs hr fun H' Hs' E1=>yt (i2 b hb σ H' Hs' Q E1.sub (hr.same E1.vis) fun H2 Hs2 E2=>hq H2 Hs2 (E1.trans E2)))
   | _=>simp[asB] at h
def PX(X:Cx)(op:CmpOp):R2:=fun u v H Q=>∃ Hs x y d,Same Hs H/\Rep X.K Hs x u/\Rep X.K Hs y v/\cmpop op x y=some d/\∃ b,d=.bl b/\Q (.bl b) H
theorem lX{K:Z3}{H:Hp}{v:V}(h:Rep K H .non v):v=.non:=by simpa[Rep] using h
theorem sW{K:Z3}{H:Hp}{x:D}{v:V}(h:Rep K H x v):HF x=decide (v=V.non):=by
  cases x with
  | non=>rw[lX h];rfl
  | bl b=>rw[dN h];rfl
  | int b=>rw[aV h];rfl
  | str b => have e : v = .str b := by simpa [Rep] using h
             rw[e];rfl
  | tup b=>obtain⟨a,vs,e,_⟩:=bL h;rw[e];rfl
  | lst b=>obtain⟨a,vs,e,_⟩:=bF h;rw[e];rfl
  | exc c=>simp only[Rep] at h;obtain⟨a,C,e,_⟩:=h;rw[e];rfl
  | dic k x=>simp[Rep] at h
  | dt k x=>simp only[Rep] at h;obtain⟨a,es,o,e,_⟩:=h;rw[e];rfl
theorem jm{K:Z3}{H:Hp}:∀ {ds:List D} {ns:List Int} {vs:List V},iU ds=some ns->aR K H ds vs->vs=ns.map V.int
 | [],ns,vs,h,r=>by
  simp only[iU,E2z] at h;subst h
  simpa[aR] using r
 | .int i::ds,ns,vs,h,r=>by
  simp only[iU,Q0z] at h;obtain⟨ms,h1,rfl⟩:=h;simp only[aR] at r;obtain⟨v,r',rfl,h2,h3⟩:=r;rw[aV h2,jm h1 h3];rfl
 | .non::ds,ns,vs,h,r=>by simp[iU] at h
 | .bl _::ds,ns,vs,h,r=>by simp[iU] at h
 | .str _::ds,ns,vs,h,r=>by simp[iU] at h
 | .tup _::ds,ns,vs,h,r=>by simp[iU] at h
 | .lst _::ds,ns,vs,h,r=>by simp[iU] at h
 | .exc _::ds,ns,vs,h,r=>by simp[iU] at h
 | .dic _ _::ds,ns,vs,h,r=>by simp[iU] at h
 | .dt _ _::ds,ns,vs,h,r=>by simp[iU] at h
theorem any_ints(i:Int):∀ {ns:List Int} {us:List Value},Vals (ns.map V.int) us->us.any (fun y=>match y with | .int j _=>j==i | _=>false)=ns.any (· ==i)
 | [],us,r=>by rw[U4z] at r;cases r;rfl
 | n::ns,us,r=>by
  rw[I4z] at r
  cases r with
  | cons r1 r2 =>
   obtain⟨t,e⟩:=(show ∃ t,_=Value.int n t from r1);subst e;simp only[L4z,any_ints i r2]
theorem sJ:∀ {ns:List Int} {us:List Value},Vals (ns.map V.int) us->∀ y∈us,∃ j t,y=Value.int j t
 | [],us,r,y,hy=>by rw[U4z] at r;cases r;simp at hy
 | n::ns,us,r,y,hy=>by
  rw[I4z] at r
  cases r with
  | cons r1 r2 =>
   obtain⟨t,e⟩:=(show ∃ t,_=Value.int n t from r1);subst e;rcases List.mem_cons.mp hy with rfl | hy
   ·exact⟨n,t,rfl⟩
   ·exact sJ r2 y hy
theorem HW{z0:List (Addr×Obj)}{σ:St}{H:Hp}{s:Shared}{i:Int}{ys:List D}{ns:List Int}{u v:V}{w z:Value}(I:Inv X z0 σ H s)(A:Around)(hu:u=.int i)(hv:Rep X.K H (.tup ys) v)(hn:iU ys=some ns)(ru:RelV u w)(rv:RelV v z) :
  (∀ (Q:Value->Shared->Prop) (E:Value->Shared->Prop),Q (.bool (ns.any (· ==i))) s->wpAny (model X.prog X.w) A (compareOp .In w z) Q E s)/\(∀ (Q:Value->Shared->Prop) (E:Value->Shared->Prop),Q (.bool (!ns.any (· ==i))) s->wpAny (model X.prog X.w) A (compareOp .NotIn w z) Q E s):=by
 subst hu;obtain⟨t,e⟩:=(show ∃ t,w=Value.int i t from ru);subst e;obtain⟨a,vs,rfl,h1,h2⟩:=bL hv;cases (show z=Value.ref a from rv);have e:=jm hn h2;subst e;obtain⟨its,r,p⟩:=isT I h1
 have he:∀ y,y∈its.toArray->EqAt A.in1 s y (.int i t) (match y with | .int j _=>j==i | _=>false):=fun y hy=>by
  obtain⟨j,t',rfl⟩:=sJ r y (by simpa using hy);exact fun P w Q E q=>wpAny_eqBool_int q
 have ea:its.toArray.any (fun y=>match y with | .int j _=>j==i | _=>false)=ns.any (· ==i):=by
  rw[R2z];exact any_ints i r
 refine⟨fun Q E q=>in_tupleAt _ p he (by rw[ea];exact q),fun Q E q=>notIn_tupleAt _ p he (by rw[ea];exact q)⟩
theorem uf{K:Z3}{H:Hp}:∀ {ds:List D} {ns:List Str} {vs:List V},pY ds=some ns->aR K H ds vs->vs=ns.map V.str
 | [],ns,vs,h,r=>by
  simp only[pY,E2z] at h;subst h
  simpa[aR] using r
 | .str i::ds,ns,vs,h,r=>by
  simp only[pY] at h;obtain⟨ms,h1,rfl⟩:=Q0z.mp h;simp only[aR] at r;obtain⟨v,rr,rfl,h2,h3⟩:=r
  have e:v=.str i:=by simpa[Rep] using h2
  rw[uf h1 h3,e];rfl
 | .non::ds,ns,vs,h,r=>by simp[pY] at h
 | .bl _::ds,ns,vs,h,r=>by simp[pY] at h
 | .int _::ds,ns,vs,h,r=>by simp[pY] at h
 | .tup _::ds,ns,vs,h,r=>by simp[pY] at h
 | .lst _::ds,ns,vs,h,r=>by simp[pY] at h
 | .exc _::ds,ns,vs,h,r=>by simp[pY] at h
 | .dic _ _::ds,ns,vs,h,r=>by simp[pY] at h
 | .dt _ _::ds,ns,vs,h,r=>by simp[pY] at h
def eS(x:D):Value->Bool
 | .str t _=>deq (.str t) x
 | _=>false
theorem uh(x:D):∀ {ns:List Str} {us:List Value},Vals (ns.map V.str) us->us.any (eS x)=ns.any fun t=>deq (.str t) x
 | [],us,r=>by rw[U4z] at r;cases r;rfl
 | n::ns,us,r=>by
  rw[I4z] at r
  cases r with
  | cons r1 r2 =>
   obtain⟨t,e⟩:=(show ∃ t,_=Value.str n t from r1);subst e;simp only[L4z,uh x r2,eS]
theorem sI:∀ {ns:List Str} {us:List Value},Vals (ns.map V.str) us->∀ y∈us,∃ j t,y=Value.str j t
 | [],us,r,y,hy=>by rw[U4z] at r;cases r;simp at hy
 | n::ns,us,r,y,hy=>by
  rw[I4z] at r
  cases r with
  | cons r1 r2 =>
   obtain⟨t,e⟩:=(show ∃ t,_=Value.str n t from r1);subst e;rcases List.mem_cons.mp hy with rfl | hy
   ·exact⟨n,t,rfl⟩
   ·exact sI r2 y hy
theorem HN{z0:List (Addr×Obj)}{σ:St}{H:Hp}{s:Shared}{x:D}{ys:List D}{ns:List Str}{u v:V}{w z:Value}(I:Inv X z0 σ H s)(A:Around)(hA:A.units+2<cLine)(hx:Rep X.K H x u)(hd:dep x<=50)(hv:Rep X.K H (.tup ys) v)(hn:pY ys=some ns)(ru:RelV u w)(rv:RelV v z) :
  (∀ (Q:Value->Shared->Prop) (E:Value->Shared->Prop),Q (.bool (ns.any fun t=>deq (.str t) x)) s->wpAny (model X.prog X.w) A (compareOp .In w z) Q E s)/\(∀ (Q:Value->Shared->Prop) (E:Value->Shared->Prop),Q (.bool (!ns.any fun t=>deq (.str t) x)) s->wpAny (model X.prog X.w) A (compareOp .NotIn w z) Q E s):=by
 obtain⟨a,vs,rfl,h1,h2⟩:=bL hv;cases (show z=Value.ref a from rv);have e:=uf hn h2;subst e;obtain⟨its,r,p⟩:=isT I h1
 have he:∀ y,y∈its.toArray->EqAt A.in1 s y w (eS x y):=fun y hy=>by
  obtain⟨j,t',rfl⟩:=sI r y (by simpa using hy);exact qR I (.str j) x (.str j) u (.str j t') w A.in1 (by simp[Rep]) hx ⟨t',rfl⟩ ru (by rw[gn];simp only[dep];omega) (by simp[dep]) (by omega)
 have ea:its.toArray.any (eS x)=ns.any fun t=>deq (.str t) x:=by
  rw[R2z];exact uh x r
 refine⟨fun Q E q=>in_tupleAt _ p he (by rw[ea];exact q),fun Q E q=>notIn_tupleAt _ p he (by rw[ea];exact q)⟩
theorem Mt{x:D}{ys:List D}{b:Bool}(h:inT x ys=some b):(∃ i ns,x=.int i/\iU ys=some ns/\b=ns.any (· ==i))\/∃ ss,pY ys=some ss/\dep x<=50/\b=ss.any fun t=>deq (.str t) x:=by
 have hS:∀ {b},inS x ys=some b->∃ ss,pY ys=some ss/\dep x<=50/\b=ss.any fun t=>deq (.str t) x:=fun {b} h=>by
  unfold inS at h;obtain⟨ss,h1,h2⟩:=Option.bind_eq_some_iff.mp h;split at h2
  ·rename_i hd
   cases h2;exact⟨ss,h1,by simpa using hd,rfl⟩
  ·cases h2
 unfold inT at h;split at h
 ·rename_i i ns e1 e2
  cases x<;>simp[asI] at e1
  cases h;subst e1;exact .inl ⟨_,ns,rfl,e2,rfl⟩
 ·exact .inr (hS h)
theorem DW{z0:List (Addr×Obj)}{σ:St}{H:Hp}{s:Shared}{x:D}{ys:List D}{b:Bool}{u v:V}{w z:Value}(I:Inv X z0 σ H s)(A:Around)(hA:A.units+2<cLine)(hx:Rep X.K H x u)(hv:Rep X.K H (.tup ys) v)(h:inT x ys=some b)(ru:RelV u w)(rv:RelV v z) :
  (∀ (Q:Value->Shared->Prop) (E:Value->Shared->Prop),Q (.bool b) s->wpAny (model X.prog X.w) A (compareOp .In w z) Q E s)/\(∀ (Q:Value->Shared->Prop) (E:Value->Shared->Prop),Q (.bool (!b)) s->wpAny (model X.prog X.w) A (compareOp .NotIn w z) Q E s):=by
 rcases Mt h with⟨i,ns,rfl,e1,rfl⟩ | ⟨ss,e1,e2,rfl⟩
 ·exact HW I A (aV hx) hv e1 ru rv
 ·exact HN I A hA hx e2 hv e1 ru rv
theorem oh{K:Z3}{H:Hp}{u:Value}:∀ {ds:List D} {vs:List V} {us:List Value},aR K H ds vs->Vals vs us->u∈us->∃ d∈ds,∃ v,Rep K H d v/\RelV v u
 | [],vs,us,h,r,hu=>by
  simp only[aR] at h;subst h;cases r;simp at hu
 | d::ds,vs,us,h,r,hu=>by
  simp only[aR] at h;obtain⟨v,vr,rfl,h1,h2⟩:=h
  cases r with
  | cons r1 r2 =>
   rcases List.mem_cons.mp hu with rfl | hu
   ·exact⟨d,.head _,v,h1,r1⟩
   ·obtain⟨d',hd,v',e⟩:=oh h2 r2 hu
    exact⟨d',.tail _ hd,v',e⟩
theorem ug{K:Z3}{H:Hp}{f:D->Bool}{e:Value->Bool}:∀ {ds:List D} {vs:List V} {us:List Value},aR K H ds vs->Vals vs us->(∀ d∈ds,∀ v u,Rep K H d v->RelV v u->e u=f d)->us.any e=ds.any f
 | [],vs,us,h,r,hu=>by
  simp only[aR] at h;subst h;cases r;rfl
 | d::ds,vs,us,h,r,hu=>by
  simp only[aR] at h;obtain⟨v,vr,rfl,h1,h2⟩:=h
  cases r with
  | cons r1 r2=>simp only[L4z,hu d (.head _) v _ h1 r1,ug h2 r2 fun d' hd=>hu d' (.tail _ hd)]
theorem ji:∀ {ds:List D} {d:D},d∈ds->dep d<=deps ds
 | x::ds,d,h=>by
  simp only[deps];rcases List.mem_cons.mp h with rfl | h
  ·omega
  ·have:=ji h;omega
open Classical in
theorem Ms{z0:List (Addr×Obj)}{σ:St}{H:Hp}{s:Shared}{x:D}{ys:List D}{u v:V}{w z:Value}(I:Inv X z0 σ H s)(A:Around)(hA:A.units+60<cLine)(hx:Rep X.K H x u)(hv:Rep X.K H (.lst ys) v)(hd:dep x<=50)(hy:deps ys<=50)(ru:RelV u w)(rv:RelV v z) :
  ∀ (Q:Value->Shared->Prop) (E:Value->Shared->Prop),Q (.bool (ys.any fun y=>deq y x)) s->wpAny (model X.prog X.w) A (compareOp .In w z) Q E s:=by
 obtain⟨a,vs,rfl,h1,h2⟩:=bF hv;cases (show z=Value.ref a from rv);obtain⟨its,r,p,_⟩:=I.list h1
 let e:Value->Bool:=fun y=>decide (∃ d∈ys,∃ v,Rep X.K H d v/\RelV v y/\deq d x=true)
 have he:∀ d∈ys,∀ v u,Rep X.K H d v->RelV v u->e u=deq d x:=fun d hd v u h1 h2=>by
  cases hq:deq d x with
  | true=>exact Y3z ⟨d,hd,v,h1,h2,hq⟩
  | false =>
   refine A3z fun⟨d',hd',v',h1',h2',hq'⟩=>?_;cases RelV.inj h2 h2';cases Rep.inj I d d' v (by have:=ji hd;omega) (by have:=ji hd';omega) h1 h1';rw[hq] at hq';cases hq'
 have ea:its.toArray.any e=ys.any fun y=>deq y x:=by
  rw[R2z];exact ug h2 r he
 refine fun Q E q=>in_listAt e p.isList (fun y hy'=>?_) (by rw[ea];exact q)
 obtain⟨d,hd',v,h3,h4⟩:=oh h2 r (by simpa using hy');rw[he d hd' v y h3 h4];have:=ji hd';exact qR I d x v u y w A.in1 h3 hx h4 ru (by rw[gn];omega) (by omega) (by omega)
theorem kh(hr:Room k X.A)(op:CmpOp):OpR X (compareOp op) (PX X op):=by
 intro z0 s σ H u v w z Q I ru rv h;obtain⟨Hs,x,y,d,hs,rx,ry,hc,b,rfl,q⟩:=h;have rx':=Rep.same hs x u rx;have ry':=Rep.same hs y v ry;unfold cmpop at hc;split at hc
 ·split at hc
  ·rename_i hd
   rw[K2z,D2z,D2z] at hd;cases hc;exact(tU I X.A rx' ry' ru rv (by have:=hr.un;omega) (by omega) (by omega)).1 _ _ _ _ ⟨.bl _,H,I,rfl,q⟩
  ·cases hc
 ·split at hc
  ·rename_i hd
   rw[K2z,D2z,D2z] at hd;cases hc;exact(tU I X.A rx' ry' ru rv (by have:=hr.un;omega) (by omega) (by omega)).2 _ _ _ _ ⟨.bl _,H,I,rfl,q⟩
  ·cases hc
 ·cases hc;exact Qk z0 s σ H u v w z Q I ru rv ⟨_,_,aV rx,aV ry,q⟩
 ·cases hc;exact Ql z0 s σ H u v w z Q I ru rv ⟨_,_,aV rx,aV ry,q⟩
 ·cases hc;exact Qm z0 s σ H u v w z Q I ru rv ⟨_,_,aV rx,aV ry,q⟩
 ·cases hc;exact Qn z0 s σ H u v w z Q I ru rv ⟨_,_,aV rx,aV ry,q⟩
 ·cases hc;rw[sW rx] at q;exact Ld z0 s σ H u v w z Q I ru rv ⟨lX ry,q⟩
 ·cases hc;rw[sW rx] at q;exact G3 z0 s σ H u v w z Q I ru rv ⟨lX ry,q⟩
 ·obtain⟨ns,hn,he⟩:=Q0z.mp hc
  cases he;exact(DW I X.A (by have:=hr.un;omega) rx' ry' hn ru rv).1 _ _ ⟨.bl _,H,I,rfl,q⟩
 ·obtain⟨ns,hn,he⟩:=Q0z.mp hc
  cases he;exact(DW I X.A (by have:=hr.un;omega) rx' ry' hn ru rv).2 _ _ ⟨.bl _,H,I,rfl,q⟩
 ·split at hc
  ·rename_i hd
   rw[K2z,D2z,D2z] at hd;cases hc;exact Ms I X.A (by have:=hr.un;omega) rx' ry' hd.1 hd.2 ru rv _ _ ⟨.bl _,H,I,rfl,q⟩
  ·cases hc
 ·cases hc
theorem Ep{op:CmpOp}{x y d:D}(h:cmpop op x y=some d):∃ b,d=.bl b:=by
 unfold cmpop at h
 split at h<;>first | (cases h;exact⟨_,rfl⟩) | (obtain⟨_,_,rfl⟩:=Q0z.mp h;exact⟨_,rfl⟩) | (split at h<;>first | (cases h;exact⟨_,rfl⟩) | cases h) | cases h
theorem Ip{a b:Expr}{op:CmpOp}{x y d:D}{pos:Pos}(hr:Room k X.A)(ha:Ev X ρ a x)(hb:Ev X ρ b y)(hm:aL b=true)(h:cmpop op x y=some d):Ev X ρ (.Compare a [op] [b] pos) d/\∀ c,d=.bl c->EvT X ρ (.Compare a [op] [b] pos) c:=by
 obtain⟨c,rfl⟩:=Ep h;refine⟨eE ha hb (GP (kh hr op) au au (iD hm)) fun u v H Hs Q hs r1 r2 hq=>⟨Hs,x,y,_,hs,r1,r2,h,c,rfl,hq _ H Hs (.refl hs) (by simp[Rep])⟩,fun c' hc' σ H Hs Q hs hst hq=>?_⟩;cases hc';refine(Gp (kh hr op) au au (iD hm)).sem (ha σ H Hs _ hs hst fun u H1 Hs1 E1 r1=>hb σ H1 Hs1 _ E1.sub (hst.same E1.vis) fun v H2 Hs2 E2 r2=>?_);exact⟨Hs2,x,y,_,E2.sub,Rep.same E2.vis x u r1,r2,h,c,rfl,c,rfl,hq H2 Hs2 (E1.trans E2)⟩
theorem yc{op op':CmpOp}{b c:Expr}(h:aL c=true):lastMarks [op,op'] [b,c]=false:=iD h
theorem yP{a b e:Expr}{op op':CmpOp}{x y d:D}{c:Bool}{pos:Pos}(hr:Room k X.A)(ha:Ev X ρ a x)(hb:Ev X ρ b y)(hm:aL e=true)(h:cmpop op x y=some (.bl c))(hd:(c=true->∃ z,Ev X ρ e z/\cmpop op' y z=some d)/\(c=false->d=.bl false)) :
  Ev X ρ (.Compare a [op,op'] [b,e] pos) d/\∀ c,d=.bl c->EvT X ρ (.Compare a [op,op'] [b,e] pos) c:=by
 have core:∀ σ H Hs Q,Same Hs H->cH X.K Hs ρ σ->(∀ v H' Hs',Ext Hs H Hs' H'->Rep X.K Hs' d v->Q v H')->vZ (PX X op) (PX X op') (pU X a) (pU X b) (pU X e) σ H Q:=by
  intro σ H Hs Q hs hst hq;refine ha σ H Hs _ hs hst fun u H1 Hs1 E1 r1=>hb σ H1 Hs1 _ E1.sub (hst.same E1.vis) fun v H2 Hs2 E2 r2=>?_;refine⟨Hs2,x,y,_,E2.sub,Rep.same E2.vis x u r1,r2,h,c,rfl,c,rfl,?_⟩
  cases c with
  | false=>rw[hd.2 rfl] at hq;exact yt (hq _ H2 Hs2 (E1.trans E2) (by simp[Rep]))
  | true =>
   obtain⟨z,hz,hc⟩:=hd.1 rfl;obtain⟨c',rfl⟩:=Ep hc;refine vH (hz σ H2 Hs2 _ E2.sub ((hst.same E1.vis).same E2.vis) fun w H3 Hs3 E3 r3=>?_);exact⟨Hs3,y,z,_,E3.sub,Rep.same E3.vis y v r2,r3,hc,c',rfl,hq _ H3 Hs3 (E1.trans (E2.trans E3)) (by simp[Rep])⟩
 refine⟨fun σ H Hs Q hs hst hq=>(Bf (kh hr op) (kh hr op') au au au (yc hm)).sem (core σ H Hs Q hs hst hq),fun c' hc' σ H Hs Q hs hst hq=>?_⟩;subst hc';exact(Av (kh hr op) (kh hr op') au au au (yc hm)).sem (core σ H Hs _ hs hst fun v H' Hs' E1 r1=>⟨c',dN r1,hq H' Hs' E1⟩)
theorem Nh{c a b:Expr}{t:Bool}{d:D}{pos:Pos}(hc:EvT X ρ c t)(ha:t=true->Ev X ρ a d)(hb:t=false->Ev X ρ b d):Ev X ρ (.IfExp c a b pos) d:=fun σ H Hs Q hs hst hq =>
 (mz dO au au).sem (hc σ H Hs _ hs hst fun H1 Hs1 E1=>by
  cases t with
  | true=>exact vH (ha rfl σ H1 Hs1 Q E1.sub (hst.same E1.vis) fun v H' Hs' E2 r=>hq v H' Hs' (E1.trans E2) r)
  | false=>exact yt (hb rfl σ H1 Hs1 Q E1.sub (hst.same E1.vis) fun v H' Hs' E2 r=>hq v H' Hs' (E1.trans E2) r))
theorem Ei{c a b:Expr}{t r:Bool}{pos:Pos}(hc:EvT X ρ c t)(ha:t=true->EvT X ρ a r)(hb:t=false->EvT X ρ b r):EvT X ρ (.IfExp c a b pos) r:=by
 intro σ H Hs Q hs hst hq z0 s I;refine isTrue_IfExp (thn (hc σ H Hs (fun b' H'=>b'=t/\∃ Hs',Ext Hs H Hs' H') hs hst (fun H1 Hs1 E1=>⟨rfl,Hs1,E1⟩) z0 s I) fun b' s2 ⟨H2,I2,e2,Hs2,E2⟩=>?_);subst e2
 cases b' with
 | true=>exact vH (ha rfl σ H2 Hs2 Q E2.sub (hst.same E2.vis) (fun H' Hs' E3=>hq H' Hs' (E2.trans E3)) z0 s2 I2)
 | false=>exact yt (hb rfl σ H2 Hs2 Q E2.sub (hst.same E2.vis) (fun H' Hs' E3=>hq H' Hs' (E2.trans E3)) z0 s2 I2)
theorem fC{f:Expr->Option D}:∀ {es:List Expr} {ds:List D},(∀ e∈es,∀ d,f e=some d->Ev X ρ e d/\aL e=true)->j4 f es=some ds->EvA X ρ es ds/\(∀ e∈es,aL e=true)
 | [],ds,_,h=>by
  simp only[j4,E2z] at h;subst h;exact⟨fun σ H Hs Q hs hst hq=>cY.sem (hq [] H Hs (.refl hs) .nil),fun e he=>absurd he (by simp)⟩
 | e::es,ds,hf,h=>by
  simp only[j4,bind,Option.bind] at h
  cases he:f e with
  | none=>rw[he] at h;cases h
  | some d =>
   rw[he] at h;simp only at h
   cases hr:j4 f es with
   | none=>rw[hr] at h;cases h
   | some dr =>
    rw[hr] at h;simp only[E2z] at h;subst h;obtain⟨h1,hp⟩:=hf e (by simp) d he;obtain⟨h2,hps⟩:=fC (fun a ha=>hf a (W0z _ ha)) hr;refine⟨fun σ H Hs Q hs hst hq=>(bI au iM (aq hp)).sem (h1 σ H Hs _ hs hst fun v H1 Hs1 E1 r1=>h2 σ H1 Hs1 _ E1.sub (hst.same E1.vis) fun vs H2 Hs2 E2 r2=>?_),fun a ha=>?_⟩
    ·exact hq _ H2 Hs2 (E1.trans E2) (.cons (Rep.same E2.vis d v r1) r2)
    ·rcases List.mem_cons.mp ha with rfl | ha
     ·exact hp
     ·exact hps a ha
theorem Ca{es:List Expr}{ds:List D}{j:Nat}{pos:Pos}(h:EvA X ρ es ds)(hz:szl ds.length=true):Ev X ρ (.Tuple es j pos) (.tup ds):=fun σ H Hs Q hs hst hq =>
 (KY iM).sem (h σ H Hs _ hs hst fun vs H1 Hs1 E1 r1=>⟨by rw[<- r1.length];exact fQ hz,fun p hp=>mK E1.sub r1 hp fun w H' Hs' E2 r2=>hq w H' Hs' (E1.trans E2) r2⟩)
theorem Ik{es:List Expr}{ds:List D}{pos:Pos}(h:EvA X ρ es ds)(hz:szl ds.length=true):Ev X ρ (.List es pos) (.lst ds):=fun σ H Hs Q hs hst hq =>
 (Ds iM).sem (h σ H Hs _ hs hst fun vs H1 Hs1 E1 r1=>⟨by rw[<- r1.length];exact fQ hz,fun p hp=>jG E1.sub r1 hp fun w H' Hs' E2 r2=>hq w H' Hs' (E1.trans E2) r2⟩)
theorem yr(n:Nat)(i:Int):ixD n i=ixN n i:=rfl
theorem zR{K:Z3}{H:Hp}{ds:List D}{vs:List V}{i:Int}{d:D}(h:aR K H ds vs)(e:atD ds i=some d):∃ v,atI vs i=some v/\Rep K H d v:=by
 unfold atD at e;rw[yr,h.length] at e
 cases q:ixN vs.length i with
 | none=>rw[q] at e;cases e
 | some j =>
  rw[q] at e;obtain⟨v,h1,h2⟩:=h.get (i:=j) (d:=d) e;exact⟨v,by unfold atI;rw[q];exact h1,h2⟩
theorem obd{α β:Type}{x:Option α}{f:α->Option β}{b:β}(h:(x >>=f)=some b):∃ a,x=some a/\f a=some b:=Option.bind_eq_some_iff.mp h
theorem Di{K:Z3}{H:Hp}{ks:List (List Int)}{ds:List D}{v:V}(h:Rep K H (.dt ks ds) v):∃ (a:Addr) (es:List En) (o:Obj),v=.ref a/\H a=some (DtO a es o)/\es.map (·.1)=ks/\Keyed K H es/\aR K H ds (es.map (·.2.2)):=by simpa[Rep] using h
theorem sS{K:Z3}{H:Hp}{k:List Int}{z:D}{w:V}(rz:Rep K H z w):∀ {es:List En} {ds:List D},aR K H ds (es.map (·.2.2))->Rep K H ((xV ((es.map (·.1)).zip ds) k).getD z) ((jH es k).getD w)
 | [],ds,r=>rz
 | e::es,ds,r=>by
  cases ds with
  | nil=>simp[aR] at r
  | cons d ds =>
   simp only[I4z,aR] at r;obtain⟨v,rr,q,h2,h3⟩:=r;cases q;unfold xV jH;simp only[I4z,List.zip_cons_cons,List.find?_cons]
   by_cases q:e.1=k
   ·simp only[q,decide_true,L3z,S2z]
    exact h2
   ·simp only[q,W4z]
    exact sS rz h3
theorem mO{K:Z3}{H:Hp}{y:D}{v:V}{k:List Int}(h:uU y=some k)(r:Rep K H y v):∃ b,v=.ref b/\SqT K H b (k.map V.int):=by
 cases y<;>simp only[uU] at h
 all_goals first | cases h | skip
 obtain⟨b,vs,rfl,h1,h2⟩:=bL r;rw[jm h h2] at h1;exact⟨b,rfl,h1⟩
theorem yO{o e e2:Expr}{x y z d:D}{ap pos:Pos}(hu:X.A.units+1<cLine)(ho:Ev X ρ o x)(hb:attributeBase o "get" X.env (eval o X.env)=eval o X.env)(hl:(ap.endLine==pos.line)=true)(h1:Ev X ρ e y)(p1:aL e=true)(h2:Ev X ρ e2 z)(p2:aL e2=true)(h:Ib x y z=some d) :
  Ev X ρ (.Call (.Attribute o "get" ap) [e,e2] [] pos) d:=by
 cases x<;>simp only[Ib] at h
 all_goals first | cases h | skip
 rename_i ks ds;obtain⟨k',hk,rfl⟩:=Q0z.mp h;intro σ H Hs Q hs hst hq;have m:M2 X o "get" ap e e2 pos:=⟨hb,by simp only[starEach,aq p1,aq p2];rfl,hl,by simp only[starEach,aq p1,aq p2];rfl⟩;refine PE.sem (K6 hu au au au m) (ho σ H Hs _ hs hst fun v H1 Hs1 E1 r1=>?_);obtain⟨a,es,ob,rfl,g1,rfl,g3,g4⟩:=Di r1;refine⟨a,es,ob,rfl,E1.sub _ _ g1,g3.same fun q=>E1.sub.tup q,h1 σ H1 Hs1 _ E1.sub (hst.same E1.vis) fun u H2 Hs2 E2 r2=>h2 σ H2 Hs2 _ E2.sub ((hst.same E1.vis).same E2.vis) fun w H3 Hs3 E3 r3=>?_⟩;have E23:=E2.trans E3;obtain⟨b,rfl,kb⟩:=mO hk r2;exact⟨E3.sub _ _ (E23.vis _ _ g1),(g3.same fun q=>E23.vis.tup q).same fun q=>E3.sub.tup q,b,k',rfl,E3.sub.tup (E3.vis.tup kb),hq _ H3 Hs3 (E1.trans E23) (sS r3 (aR.same E23.vis _ _ g4))⟩
theorem Ni{f:Expr->Option D}{ks:List (Option Expr)}{vs:List Expr}{d:D}{pos:Pos}(hu:X.A.units+1<cLine)(hf:∀ e d,f e=some d->Ev X ρ e d)(h:dt1 f ks vs=some d):Ev X ρ (.Dict ks vs pos) d:=by
 unfold dt1 at h;split at h
 case h_2=>cases h
 rename_i ke ve;obtain⟨x,h1,h⟩:=obd h;obtain⟨d',h2,h⟩:=obd h;cases h;obtain⟨y,h3,h4⟩:=obd (show(f ke >>=uU)=some x from h1);intro σ H Hs Q hs hst hq;refine PE.sem (K7 hu au au) fun p o hp=>?_
 have Hn:Hs p=none:=by
  cases e:Hs p with
  | none=>rfl
  | some u=>rw[hs _ _ e] at hp;cases hp
 have hs1:Same Hs (upd H p (DtO p [] o)):=fun b u e=>by rw[aO (aK e Hn)];exact hs b u e
 refine hf _ _ h3 σ _ Hs _ hs1 hst fun u H1 Hs1 E1 r1=>hf _ _ h2 σ H1 Hs1 _ E1.sub (hst.same E1.vis) fun w H2 Hs2 E2 r2=>?_;have E:=E1.trans E2;obtain⟨b,rfl,kb⟩:=mO h4 r1;have hH':H2 p=some (DtO p [] o):=E.all _ _ aX;have Hn':Hs2 p=none:=E.hid _ _ aX Hn;refine⟨hH',b,x,w,rfl,E2.sub.tup (E2.vis.tup kb),fun o'=>?_⟩
 have E3:Ext Hs H (upd Hs2 p (DtO p [(x,b,w)] o')) (upd H2 p (DtO p [(x,b,w)] o')) :=
  ⟨fun c u q=>by rw[aO (aK q Hn)];exact E.vis c u q,fun c u q=>by rw[aO (aK q hp)];exact E.all c u (by rw[aO (aK q hp)];exact q),fun c u q=>by
   by_cases hc:c=p
   ·subst hc;rw[aX] at q ⊢;exact q
   ·rw[aO hc] at q ⊢;exact E.sub c u q,fun c u q n=>by rw[aO (aK q hp)];exact E.hid c u (by rw[aO (aK q hp)];exact q) n⟩
 have sm:Same Hs2 (upd Hs2 p (DtO p [(x,b,w)] o')):=fun c u q=>by rw[aO (aK q Hn')];exact q
 refine hq _ _ _ E3 ?_;simp only[Rep];exact⟨p,[(x,b,w)],o',rfl,aX,rfl,fun e he=>by rw[List.mem_singleton.mp he];exact sm.tup (E2.vis.tup kb),.cons (Rep.same sm _ _ r2) .nil⟩
theorem tL{a b:Expr}{x d:D}{i:Int}{xs:List D}{pos:Pos}(ha:Ev X ρ a x)(hb:Ev X ρ b (.int i))(hp:aL b=true)(hx:items x=some xs)(hd:atD xs i=some d):Ev X ρ (.Subscript a b pos) d:=by
 cases x with
 | tup ys =>
  simp only[items,E2z] at hx;subst hx;refine eE ha hb (GK Ml au au (lZ hp)) fun u v H Hs Q hs r1 r2 hq=>?_;obtain⟨p,vs,rfl,h1,h2⟩:=bL r1;obtain⟨w,h3,h4⟩:=zR h2 hd;exact⟨p,vs,i,w,rfl,aV r2,hs.tup h1,h3,hq w H Hs (.refl hs) h4⟩
 | lst ys =>
  simp only[items,E2z] at hx;subst hx;refine eE ha hb (GK yp au au (lZ hp)) fun u v H Hs Q hs r1 r2 hq=>?_;obtain⟨p,vs,rfl,h1,h2⟩:=bF r1;obtain⟨w,h3,h4⟩:=zR h2 hd;exact⟨p,vs,i,w,rfl,aV r2,hs.seq h1,h3,hq w H Hs (.refl hs) h4⟩
 | _=>simp[items] at hx
theorem iB(n d:Nat)(o:Option Int):lV n d o=HT.sIx n d o:=by cases o<;>rfl
theorem zG{K:Z3}{H:Hp}{ds:List D}{vs:List V}(lo hi:Option Int)(h:aR K H ds vs):aR K H (nD ds lo hi) (El vs lo hi):=by
 unfold nD El;rw[iB,iB,h.length];exact(h.drop _).take _
def EvO(X:Cx)(ρ:Rho)(e:Option Expr)(o:Option Int):Prop:=∃ t:TO,PO X e t/\∀ σ H Hs Q,Same Hs H->cH X.K Hs ρ σ->(∀ H' Hs',Ext Hs H Hs' H'->Q o H')->t σ H Q
theorem Cq:EvO X ρ none none:=⟨_,Gx,fun σ H Hs Q hs hst hq=>hq H Hs (.refl hs)⟩
theorem Cp{e:Expr}{i:Int}(h:Ev X ρ e (.int i)):EvO X ρ (some e) (some i):=⟨_,Gw au,fun σ H Hs Q hs hst hq=>h σ H Hs _ hs hst fun v H' Hs' E1 r1=>⟨i,aV r1,hq H' Hs' E1⟩⟩
theorem Ce{a:Expr}{lo hi:Option Expr}{l u:Option Int}{xs:List D}{p2 pos:Pos}(ha:Ev X ρ a (.tup xs))(hl:EvO X ρ lo l)(hu:EvO X ρ hi u)(hw:¬ (lV xs.length 0 l=0/\lV xs.length xs.length u=xs.length)) :
  Ev X ρ (.Subscript a (.Slice lo hi none p2) pos) (.tup (nD xs l u)):=by
 obtain⟨tl,pl,ql⟩:=hl;obtain⟨tu,pu,qu⟩:=hu;intro σ H Hs Q hs hst hq;refine(mq Kf au pl pu).sem (ha σ H Hs _ hs hst fun v H1 Hs1 E1 r1=>ql σ H1 Hs1 _ E1.sub (hst.same E1.vis) fun H2 Hs2 E2=>qu σ H2 Hs2 _ E2.sub ((hst.same E1.vis).same E2.vis) fun H3 Hs3 E3=>?_);obtain⟨p,vs,rfl,h1,h2⟩:=bL (Rep.same (E2.trans E3).vis _ _ r1);refine⟨p,vs,rfl,E3.sub.tup h1,?_,fun q hq'=>mK E3.sub (zG l u h2) hq' fun w H' Hs' E4 r4=>hq w H' Hs' (E1.trans (E2.trans (E3.trans E4))) r4⟩;rw[iB,iB,h2.length] at hw;exact hw
theorem yL{a:Expr}{lo hi:Option Expr}{l u:Option Int}{xs:List D}{p2 pos:Pos}(ha:Ev X ρ a (.tup xs))(hl:EvO X ρ lo l)(hu:EvO X ρ hi u)(hw:lV xs.length 0 l=0/\lV xs.length xs.length u=xs.length) :
  Ev X ρ (.Subscript a (.Slice lo hi none p2) pos) (.tup xs):=by
 obtain⟨tl,pl,ql⟩:=hl;obtain⟨tu,pu,qu⟩:=hu;intro σ H Hs Q hs hst hq;refine(mq FW au pl pu).sem (ha σ H Hs _ hs hst fun v H1 Hs1 E1 r1=>ql σ H1 Hs1 _ E1.sub (hst.same E1.vis) fun H2 Hs2 E2=>qu σ H2 Hs2 _ E2.sub ((hst.same E1.vis).same E2.vis) fun H3 Hs3 E3=>?_);have r3:=Rep.same (E2.trans E3).vis _ _ r1;obtain⟨p,vs,rfl,h1,h2⟩:=bL r3;refine⟨p,vs,rfl,E3.sub.tup h1,?_,hq _ H3 Hs3 (E1.trans (E2.trans E3)) r3⟩;rw[iB,iB,h2.length] at hw;exact hw
theorem yM{a:Expr}{lo hi:Option Expr}{l u:Option Int}{xs:List D}{p2 pos:Pos}(ha:Ev X ρ a (.lst xs))(hl:EvO X ρ lo l)(hu:EvO X ρ hi u) :
  Ev X ρ (.Subscript a (.Slice lo hi none p2) pos) (.lst (nD xs l u)):=by
 obtain⟨tl,pl,ql⟩:=hl;obtain⟨tu,pu,qu⟩:=hu;intro σ H Hs Q hs hst hq;refine(mq FZ au pl pu).sem (ha σ H Hs _ hs hst fun v H1 Hs1 E1 r1=>ql σ H1 Hs1 _ E1.sub (hst.same E1.vis) fun H2 Hs2 E2=>qu σ H2 Hs2 _ E2.sub ((hst.same E1.vis).same E2.vis) fun H3 Hs3 E3=>?_);obtain⟨p,vs,rfl,h1,h2⟩:=bF (Rep.same (E2.trans E3).vis _ _ r1);exact⟨p,vs,rfl,E3.sub.seq h1,fun q hq'=>jG E3.sub (zG l u h2) hq' fun w H' Hs' E4 r4=>hq w H' Hs' (E1.trans (E2.trans (E3.trans E4))) r4⟩
theorem Ir{f:Str}{es:List Expr}{ds:List D}{d:D}{p pos:Pos}(G:Good cx k X sc)(hg:Gl X f)(hf:cx.fns.contains f=true)(hne:es≠[])(h:EvA X ρ es ds)(hp:∀ e∈es,aL e=true)(hc:cx.call f ds=some d) :
  Ev X ρ (.Call (.Name f p) es [] pos) d:=by
 obtain⟨hdb,a,fd,ps,har,_,hm,hk,hb,F⟩:=G.fns f hf
 cases es with
 | nil=>exact absurd rfl hne
 | cons e es =>
  intro σ H Hs Q hs hst hq;refine(GQ F G.room hg hm hk hb .nil Qi iM hdb (aq (hp e (by simp))) (gB fun e' he=>hp e' (W0z _ he))).sem (h σ H Hs _ hs hst fun vs H1 Hs1 E1 r1=>?_);refine⟨?_,Hs1,ds,E1.sub,?_,.inl ⟨d,hc,fun v H' Hs' E2 r2=>hq v H' Hs' (E1.trans E2) r2⟩⟩
  ·rw[E3z,<- r1.length,har ds d hc]
  ·rw[E3z];exact r1
def N8(X:Cx)(f:Value):List V->Hp->VK->Prop:=fun vs H Q=>∀ z0 s σ us,Inv X z0 σ H s->Vals vs us->wpAny (model X.prog X.w) X.A (call f us) (EP X z0 σ Q) X.xe s
theorem tW{f:Value}:eG X f (N8 X f):=fun z0 s σ H xs us Q I r h=>h z0 s σ us I r
theorem eG.sem{f:Value}{r:List V->Hp->VK->Prop}{vs:List V}{H:Hp}{Q:VK}(h:eG X f r)(q:r vs H Q):N8 X f vs H Q:=fun z0 s σ us I rv=>h z0 s σ H vs us Q I rv q
def EvC(X:Cx)(f:Value)(ds:List D)(d:D):Prop:=∀ vs H Hs Q,Same Hs H->aR X.K Hs ds vs->(∀ v H' Hs',Ext Hs H Hs' H'->Rep X.K Hs' d v->Q v H')->N8 X f vs H Q
theorem qz{K:Z3}{H:Hp}{d:D}{vs:List V}(h:aR K H [d] vs):∃ v,vs=[v]/\Rep K H d v:=by
 simp only[aR] at h;obtain⟨v,r,rfl,h1,h2⟩:=h;subst h2;exact⟨v,rfl,h1⟩
theorem Py{K:Z3}{H:Hp}{d e:D}{vs:List V}(h:aR K H [d,e] vs):∃ v w,vs=[v,w]/\Rep K H d v/\Rep K H e w:=by
 simp only[aR] at h;obtain⟨v,r,rfl,h1,w,r2,rfl,h2,h3⟩:=h;subst h3;exact⟨v,w,rfl,h1,h2⟩
theorem jz{K:Z3}{H:Hp}{d:D}{l:List D}{v:V}(h:Rep K H d v)(e:items d=some l):∃ a vs,v=.ref a/\(SqL K H a vs\/SqT K H a vs)/\aR K H l vs:=by
 cases d with
 | tup xs=>simp only[items,E2z] at e;subst e;obtain⟨a,vs,e1,e2,e3⟩:=bL h;exact⟨a,vs,e1,.inr e2,e3⟩
 | lst xs=>simp only[items,E2z] at e;subst e;obtain⟨a,vs,e1,e2,e3⟩:=bF h;exact⟨a,vs,e1,.inl e2,e3⟩
 | _=>simp[items] at e
theorem jo{K:Z3}{H:Hp}:∀ {ds:List D} {bs:List Bool} {vs:List V},pP ds=some bs->aR K H ds vs->vs=bs.map V.bl
 | [],ns,vs,h,r=>by
  simp only[pP,E2z] at h;subst h
  simpa[aR] using r
 | .bl i::ds,ns,vs,h,r=>by
  simp only[pP,Q0z] at h;obtain⟨ms,h1,rfl⟩:=h;simp only[aR] at r;obtain⟨v,r',rfl,h2,h3⟩:=r;rw[dN h2,jo h1 h3];rfl
 | .non::ds,ns,vs,h,r=>by simp[pP] at h
 | .int _::ds,ns,vs,h,r=>by simp[pP] at h
 | .str _::ds,ns,vs,h,r=>by simp[pP] at h
 | .tup _::ds,ns,vs,h,r=>by simp[pP] at h
 | .lst _::ds,ns,vs,h,r=>by simp[pP] at h
 | .exc _::ds,ns,vs,h,r=>by simp[pP] at h
 | .dic _ _::ds,ns,vs,h,r=>by simp[pP] at h
 | .dt _ _::ds,ns,vs,h,r=>by simp[pP] at h
theorem jY:∀ {bs:List Bool} {us:List Value},Vals (bs.map V.bl) us->LSm.BoolsAre us bs
 | [],us,r=>by rw[U4z] at r;cases r;exact .nil
 | b::bs,us,r=>by
  rw[I4z] at r
  cases r with
  | cons r1 r2 =>
   cases (show _=Value.bool b from r1);exact .cons b (jY r2)
theorem zM(hc:X.calm=true):eG X (.builtin "all") (fun xs H Q=>∃ (p:Addr) (bs:List Bool),xs=[.ref p]/\SqL X.K H p (bs.map V.bl)/\Q (.bl (bs.all id)) H):=by
 intro z0 s σ H xs us Q I r h;obtain⟨p,bs,rfl,hq,q⟩:=h;obtain⟨u,rfl,rx⟩:=vals1 r;cases (show u=Value.ref p from rx);obtain⟨its,r',pl,hz⟩:=I.list hq;have hb:=jY r';have hl:=pl.isList
 have hlt:p<s.heap.objs.size:=by obtain⟨_,e,_⟩:=hl;exact O4z e
 refine call_all_walk (wpAny_pyIter_list hl ⟨s.heap.objs.size,[s.heap.objs.size,p],[s.heap.objs.size],its.toArray.size,_,_,fun i=>(bs[i]?).getD true,rfl,Walks.list (A:=X.A.in1) (I.ok.hd hc) _ p (P4z hlt) its.toArray,⟨⟨_,Heap.get?_push_size _ rfl,rfl,rfl⟩,hl.push _⟩,fun i v s' Q' E' hP hQ=>?_,fun h' tk hk=>?_⟩)
 ·obtain⟨b,e,rfl⟩:=hb.get i v (by simpa using hP)
  simp only[e,S2z] at hQ;exact T1z hQ
 ·have e:((List.range its.toArray.size).all fun i=>(bs[i]?).getD true)=bs.all id:=by rw[V1z,hb.length];exact LSm.range_all bs
  rw[e];exact⟨.bl _,H,I.kept (LSm.kept_iter hk),rfl,q⟩
theorem Ih{d0:D}{l:List D}(hl:items d0=some l):EvC X (.type "tuple") [d0] (.tup l):=by
 intro vs H Hs Q hs hr hq;obtain⟨v,rfl,r1⟩:=qz hr;refine eG.sem m8 ?_
 cases d0 with
 | tup xs =>
  simp only[items,E2z] at hl;subst hl
  obtain⟨a,us,rfl,h1,h2⟩:=bL r1;exact⟨a,us,rfl,.inr ⟨hs.tup h1,hq _ H Hs (.refl hs) r1⟩⟩
 | lst xs =>
  simp only[items,E2z] at hl;subst hl
  obtain⟨a,us,rfl,h1,h2⟩:=bF r1;exact⟨a,us,rfl,.inl ⟨hs.seq h1,fun p hp=>mK hs h2 hp hq⟩⟩
 | _=>simp[items] at hl
def ZD:String->Value
 | "tuple"=>.type "tuple"
 | "list"=>.type "list"
 | "int"=>.type "int"
 | b=>.builtin b
theorem Nk{b:String}{ds:List D}{d:D}(hc:X.calm=true)(hu:X.A.units+64<cLine)(h:DE.blt b ds=some d):EvC X (ZD b) ds d:=by
 intro vs H Hs Q hs hr hq;unfold DE.blt at h;split at h
 ·simp only[bind,Option.bind] at h
  split at h
  ·cases h
  ·rename_i l hl
   cases h;obtain⟨v,rfl,r1⟩:=qz hr;obtain⟨a,us,rfl,h1,h2⟩:=jz r1 hl;refine eG.sem pD ⟨a,us,rfl,h1.imp hs.seq hs.tup,?_⟩;rw[<- h2.length];exact hq _ H Hs (.refl hs) (by simp[Rep])
 ·simp only[bind,Option.bind] at h
  split at h
  ·cases h
  ·rename_i l hl
   cases h;obtain⟨v,rfl,r1⟩:=qz hr;obtain⟨a,us,rfl,h1,h2⟩:=bF r1;have e:=jo hl h2;subst e;exact eG.sem (zM hc) ⟨a,_,rfl,hs.seq h1,hq _ H Hs (.refl hs) (by simp[Rep])⟩
 ·simp only[bind,Option.bind] at h
  split at h
  ·cases h
  ·rename_i l hl
   cases h;exact Ih hl vs H Hs Q hs hr hq
 ·simp only[bind,Option.bind] at h
  split at h
  ·cases h
  ·rename_i l hl
   cases h;obtain⟨v,rfl,r1⟩:=qz hr;obtain⟨a,us,rfl,h1,h2⟩:=jz r1 hl;exact eG.sem iT ⟨a,us,rfl,h1.imp hs.seq hs.tup,fun p hp=>jG hs h2 hp hq⟩
 ·cases h
  obtain⟨v,rfl,r1⟩:=qz hr;exact eG.sem CJ ⟨_,by rw[aV r1],hq _ H Hs (.refl hs) (by simp[Rep])⟩
 ·cases h
  obtain⟨v,rfl,r1⟩:=qz hr;exact eG.sem pF (.inr ⟨_,by rw[dN r1],hq _ H Hs (.refl hs) (by simp[Rep,DE.b2i])⟩)
 ·cases h
  obtain⟨v,rfl,r1⟩:=qz hr;exact eG.sem pF (.inl ⟨_,by rw[aV r1],hq _ H Hs (.refl hs) (by simp[Rep])⟩)
 ·cases h
end
section
variable {X:Cx} {ρ:Rho} {cx:Cxt} {k:Nat} {sc:Scope}
theorem bZ{x:Str}{b:String}(G:Good cx k X sc)(h:bC cx sc x=some b):Gl X x/\X.mg x=none/\x=Str.ofString b:=by
 unfold bC mQ at h;split at h
 ·rename_i hg
  have e:sc.names.lookup x=some .globalImplicit:=by simpa using hg
  refine⟨?_,G.blt x b h⟩;show X.env.scope.names.lookup x=_;rw[G.sce,e]
 ·cases h
theorem zN{b:String}{ds:List D}{d:D}(h:DE.blt b ds=some d):b="len"\/b="all"\/b="sum"\/b="tuple"\/b="list"\/b="min"\/b="max"\/b="abs"\/b="int"\/b="any"\/b="sorted":=by
 unfold DE.blt at h
 split at h<;>first | (simp;done) | cases h
theorem Cm{x:Str}{b:String}{e:Expr}{es:List Expr}{ds:List D}{d:D}{p pos:Pos}(G:Good cx k X sc)(hx:bC cx sc x=some b)(h:EvA X ρ (e::es) ds)(hp:∀ a∈e::es,aL a=true)(hd:DE.blt b ds=some d) :
  Ev X ρ (.Call (.Name x p) (e::es) [] pos) d:=by
 obtain⟨hg,hm,rfl⟩:=bZ G hx;have c:=Nk (X:=X) G.calm G.room.units hd;have s1:=aq (env:=X.env) (es:=es) (hp e (by simp));have s2:=gB (env:=X.env) (pos:=pos) fun a ha=>hp a (W0z _ ha)
 have fin:∀ f:Value,ZD b=f->PE X (.Call (.Name (Str.ofString b) p) (e::es) [] pos) (tCB (N8 X f) (vX X (e::es)))->Ev X ρ (.Call (.Name (Str.ofString b) p) (e::es) [] pos) d:=by
  intro f hf hpe σ H Hs Q hs hst hq;rw[hf] at c;refine hpe.sem (h σ H Hs _ hs hst fun vs H1 Hs1 E1 r1=>?_);exact c vs H1 Hs1 Q E1.sub r1 fun v H' Hs' E2 r2=>hq v H' Hs' (E1.trans E2) r2
 rcases zN hd with rfl | rfl | rfl | rfl | rfl | rfl | rfl | rfl | rfl | rfl | rfl
 all_goals first
  | exact fin (.builtin _) rfl (mD tW hg hm (by decide +kernel) iM (by decide) (by decide) s1 s2)
  | exact fin (.type _) rfl (oG tW hg hm (by decide +kernel) iM (by decide) (by decide) s1 s2)
def rIsi(K:Z3)(T:String):List V->Hp->VK->Prop:=fun xs H Q=>∃ x d,xs=[x,.ty T]/\Rep K H d x/\isExc d=false/\Q (.bl (DR T d)) H
theorem rD{T:String}(h:fW T=true):T="int"\/T="bool"\/T="tuple"\/T="list"\/T="str":=by
 unfold fW at h
 split at h<;>first | (simp;done) | cases h
theorem ux{x:V}{vs:List V}{us:List Value}(r:Vals (x::vs) us):∃ u w,us=u::w/\RelV x u/\Vals vs w:=by
 cases r with
 | cons r rr=>exact⟨_,_,rfl,r,rr⟩
theorem CG{T:String}(hk:fW T=true):eG X (.builtin "isinstance") (rIsi X.K T):=by
 intro z0 s σ H xs us Q I r h;obtain⟨x,d,rfl,rd,hne,q⟩:=h;obtain⟨u,w1,rfl,rx,rr⟩:=ux r;obtain⟨c,w2,rfl,rc,rr2⟩:=ux rr;cases rr2;cases (show c=Value.type T from rc);have fin:∀ b,b=DR T d->∀ tk,EP X z0 σ Q (.bool b) { s with toks:=tk }:=fun b hb tk=>⟨.bl _,H,I.tok _,by rw[hb];rfl,q⟩;have ks:=rD hk
 cases d with
 | exc c=>exact absurd hne (by simp[isExc])
 | dic _ _=>exact absurd hne (by simp[isExc])
 | dt _ _=>exact absurd hne (by simp[isExc])
 | non =>
  cases lX rd;cases (show u=Value.none from rx)
  rcases ks with rfl | rfl | rfl | rfl | rfl<;>exact P3z (b:=false) PySem.W.kitx_none I.kIn True.intro rfl (fun z=>nomatch z) (fin _ rfl)
 | bl y =>
  cases dN rd;cases (show u=Value.bool y from rx)
  rcases ks with rfl | rfl | rfl | rfl | rfl<;>exact P3z PySem.W.kitx_bool I.kIn True.intro rfl (fun z=>nomatch z) (fin _ rfl)
 | int y =>
  cases aV rd;obtain⟨t,e⟩:=(show ∃ t,u=Value.int y t from rx);cases e
  rcases ks with rfl | rfl | rfl | rfl | rfl<;>exact P3z PySem.W.kitx_int I.kIn True.intro rfl (fun z=>nomatch z) (fin _ rfl)
 | str y =>
  have ev:x=.str y:=by simpa[Rep] using rd
  subst ev;obtain⟨t,e⟩:=(show ∃ t,u=Value.str y t from rx);cases e
  rcases ks with rfl | rfl | rfl | rfl | rfl<;>exact P3z PySem.W.kitx_str I.kIn True.intro rfl (fun z=>nomatch z) (fin _ rfl)
 | tup ds =>
  obtain⟨a,vs,rfl,h1,h2⟩:=bL rd;cases (show u=Value.ref a from rx);obtain⟨its,_,o,g1,g2,_⟩:=isT I h1
  rcases ks with rfl | rfl | rfl | rfl | rfl<;>exact P3z PySem.W.kitx_tuple I.kIn ⟨o,g1,g2⟩ rfl (fun z=>nomatch z) (fin _ rfl)
 | lst ds =>
  obtain⟨a,vs,rfl,h1,h2⟩:=bF rd;cases (show u=Value.ref a from rx);obtain⟨its,_,o,g1,g2,_⟩:=isL I h1
  rcases ks with rfl | rfl | rfl | rfl | rfl<;>exact P3z PySem.W.kitx_list I.kIn ⟨o,g1,g2⟩ rfl (fun z=>nomatch z) (fin _ rfl)
theorem Ng{x t:Str}{T:String}{a:Expr}{d:D}{p pt pos:Pos}(G:Good cx k X sc)(hx:bC cx sc x=some "isinstance")(ht:bC cx sc t=some T)(hk:fW T=true)(ha:Ev X ρ a d)(hp:aL a=true)(hne:isExc d=false) :
  Ev X ρ (.Call (.Name x p) [a,.Name t pt] [] pos) (.bl (DR T d)):=by
 obtain⟨hg,hm,rfl⟩:=bZ G hx;obtain⟨hg2,hm2,rfl⟩:=bZ G ht
 have htv:PE X (.Name (Str.ofString T) pt) (tC (.ty T)):=by
  rcases rD hk with rfl | rfl | rfl | rfl | rfl<;>exact xu hg2 hm2 (by decide +kernel) rfl
 intro σ H Hs Q hs hst hq;refine(mD (CG (X:=X) hk) hg hm (by decide +kernel) (bI au (bI htv cY (aq rfl)) (aq hp)) (by decide) (by decide) (aq hp) rfl).sem ?_;exact ha σ H Hs _ hs hst fun v H1 Hs1 E1 r1=>⟨v,d,rfl,Rep.same E1.sub d v r1,hne,hq _ H1 Hs1 E1 (by simp[Rep])⟩
def PK(K:Z3)(cv:V)(C:Addr)(b:Bool):List V->Hp->VK->Prop:=fun xs H Q=>∃ a,xs=[.ref a,cv]/\H a=some (.ext (isX a (.ref C)))/\Q (.bl b) H
theorem zL{cv:V}{c:Value}{C:Addr}{b:Bool}(hA:lA X.K C=true)(hc:∀ u,RelV cv u->u=c)(e:PySem.W.kitOne X.K (.ref C) c=some b):eG X (.builtin "isinstance") (PK X.K cv C b):=by
 intro z0 s σ H xs us Q I r h;obtain⟨a,rfl,ha,q⟩:=h;obtain⟨u,w1,rfl,rx,rr⟩:=ux r;obtain⟨u2,w2,rfl,rc,rr2⟩:=ux rr;cases rr2;cases (show u=Value.ref a from rx);cases hc u2 rc;exact P3z (Bv hA) I.kIn (I.hok _ _ ha).1 e (fun z=>nomatch z) fun tk=>⟨.bl _,H,I.tok _,rfl,q⟩
theorem qQ{x c:Str}{t a:Expr}{tv:TE}{cv:V}{cw:Value}{b:Bool}{p pos:Pos}(G:Good cx k X sc)(hx:bC cx sc x=some "isinstance")(hc:cx.exs.contains c=true)(ht:PE X t (tC cv))(hpt:aL t=true)(hcv:∀ u,RelV cv u->u=cw)
  (hk:∀ C,PySem.W.nsIn X.K mainGlobals c=some (some (.ref C))->PySem.W.kitOne X.K (.ref C) cw=some b) (ha:Ev X ρ a (.exc c)) (hp:aL a=true):Ev X ρ (.Call (.Name x p) [a,t] [] pos) (.bl b):=by
 obtain⟨hg,hm,rfl⟩:=bZ G hx;obtain⟨C,M,e1,_,_,e2,_⟩:=G.exs.cls c hc;intro σ H Hs Q hs hst hq;refine(mD (zL (X:=X) (cv:=cv) e2 hcv (hk C e1)) hg hm (by decide +kernel) (bI au (bI ht cY (aq hpt)) (aq hp)) (by decide) (by decide) (aq hp) (by rw[aq hpt];rfl)).sem ?_;refine ha σ H Hs _ hs hst fun v H1 Hs1 E1 r1=>?_;have r2:=Rep.same E1.sub _ v r1;simp only[Rep] at r2;obtain⟨a0,C0,rfl,f1,f2⟩:=r2;rw[e1] at f1;cases f1;exact⟨a0,rfl,f2,hq _ H1 Hs1 E1 (by simp[Rep])⟩
theorem Im{x t c:Str}{a:Expr}{p pt pos:Pos}(G:Good cx k X sc)(hx:bC cx sc x=some "isinstance")(ht:bC cx sc t=some "ValueError")(hc:cx.exs.contains c=true)(ha:Ev X ρ a (.exc c))(hp:aL a=true):Ev X ρ (.Call (.Name x p) [a,.Name t pt] [] pos) (.bl true):=by
 obtain⟨hg2,hm2,rfl⟩:=bZ G ht;refine qQ (tv:=tC (.ty "ValueError")) (cv:=.ty "ValueError") (cw:=.type "ValueError") G hx hc (xu hg2 hm2 (by decide +kernel) rfl) rfl (fun u r=>r) (fun C e=>?_) ha hp;obtain⟨C',M,e1,_,_,_,_,_,e2⟩:=G.exs.cls c hc;rw[e] at e1;cases e1;exact e2
theorem JK{t:Expr}{c':Str}(h:xOf cx sc t=some c'):∃ pt,t=.Name c' pt/\mQ cx sc c'=true/\(cx.exs.contains c'=true\/c'=cx.top)/\(c'==("__debug__":Str))=false:=by
 unfold xOf at h;split at h
 ·rename_i y pt
  split at h
  ·rename_i q
   cases h;rw[K2z,K2z,O3z] at q;have q2:=q.2;unfold aH at q2;rw[K2z,K5z] at q2;exact⟨pt,rfl,q.1.1,q.1.2.imp id (fun z=>by simpa using z),by simpa using q2.1⟩
  ·cases h
 ·cases h
theorem Il{x c c':Str}{t a:Expr}{p pos:Pos}(G:Good cx k X sc)(hx:bC cx sc x=some "isinstance")(ht:xOf cx sc t=some c')(hc:cx.exs.contains c=true)(ha:Ev X ρ a (.exc c))(hp:aL a=true):Ev X ρ (.Call (.Name x p) [a,t] [] pos) (.bl (Jp cx.top c c')):=by
 obtain⟨pt,rfl,hgl,hin,hd⟩:=JK ht
 have hg:Gl X c':=by
  have e:sc.names.lookup c'=some .globalImplicit:=by unfold mQ at hgl;simpa using hgl
  show X.env.scope.names.lookup c'=_;rw[G.sce,e]
 by_cases htop:c'=cx.top
 ·subst htop
  obtain⟨C,M,e1,e2,_,_,_,e3,_⟩:=G.exs.cls c hc
  have:Jp cx.top c cx.top=true:=by unfold Jp;simp
  rw[this];refine qQ (tv:=tC (.ref M)) (cv:=.ref M) (cw:=.ref M) G hx hc (qC hg (G.exs.glob _ _ e2) rfl hd) rfl (fun u r=>r) (fun C' e=>?_) ha hp;rw[e] at e1;cases e1;exact e3
 ·have hin':cx.exs.contains c'=true:=hin.resolve_right htop
  obtain⟨C,C',e1,e2,e3⟩:=G.exs.sub c c' hc hin'
  have:Jp cx.top c c'=(c==c'):=by
   unfold Jp
   have:(c'==cx.top)=false:=by simpa using htop
   rw[this,Bool.or_false]
  rw[this];refine qQ (tv:=tC (.ref C')) (cv:=.ref C') (cw:=.ref C') G hx hc (qC hg (G.exs.glob _ _ e2) rfl hd) rfl (fun u r=>r) (fun C'' e=>?_) ha hp;rw[e] at e1;cases e1;exact e3
end
section
variable {X:Cx} {ρ:Rho} {cx:Cxt} {k:Nat} {sc:Scope}
theorem rR{α:Type}{K:Z3}{H:Hp}{f:α->D}{g:α->V}(h:∀ x,Rep K H (f x) (g x)):∀ l:List α,aR K H (l.map f) (l.map g)
 | []=>.nil
 | x::r=>.cons (h x) (rR h r)
theorem j9{i:Int}(h:fM i=true):-(2^62)<=i/\i<2^62:=by
 unfold fM at h;rw[K2z,D2z,D2z] at h;exact h
variable {tg iter a b:Expr}
theorem Iz{d:D}{l:List D}(h:Ev X ρ iter d)(hl:items d=some l):EvI X ρ tg iter l:=by
 intro σ H Hs R hs hst hq
 cases d with
 | lst xs =>
  simp only[items,E2z] at hl;subst hl
  refine(Gy (tg:=tg) au).sem (h σ H Hs _ hs hst fun v H1 Hs1 E1 r1=>?_);obtain⟨p,vs,rfl,h1,h2⟩:=bF r1;refine⟨p,rfl,⟨vs,E1.sub.seq h1⟩,hq _ H1 Hs1 E1 fun Hs' H' e1 e2=>⟨⟨vs,e2.seq (e1.seq h1),by rw[h2.length];exact A5z _⟩,fun i d hd=>?_⟩⟩;obtain⟨v,g1,g2⟩:=h2.get hd;refine⟨⟨vs,v,e2.seq (e1.seq h1),g1⟩,fun x H2 y=>?_⟩;obtain⟨rfl,y⟩:=y;have:=y vs (e2.seq (e1.seq h1));rw[g1] at this;cases this;exact⟨Hs',.refl e2,Rep.same e1 d v g2⟩
 | tup xs =>
  simp only[items,E2z] at hl;subst hl
  refine(KQ (tg:=tg) au).sem (h σ H Hs _ hs hst fun v H1 Hs1 E1 r1=>?_);obtain⟨p,vs,rfl,h1,h2⟩:=bL r1;refine⟨p,rfl,⟨vs,E1.sub.tup h1⟩,hq _ H1 Hs1 E1 fun Hs' H' e1 e2=>⟨⟨vs,e2.tup (e1.tup h1),by rw[h2.length];exact A5z _⟩,fun i d hd=>?_⟩⟩;obtain⟨v,g1,g2⟩:=h2.get hd;refine⟨⟨vs,v,e2.tup (e1.tup h1),g1⟩,fun x H2 y=>?_⟩;obtain⟨rfl,y⟩:=y;have:=y vs (e2.tup (e1.tup h1));rw[g1] at this;cases this;exact⟨Hs',.refl e2,Rep.same e1 d v g2⟩
 | _=>simp[items] at hl
theorem jL{K:Z3}{Hs0:Hp}{lo hi:Int}{n:Nat}(hn:n=(hi-lo).toNat):Nz K (Itr lo n) Hs0 (d7 lo hi):=by
 have hl:(d7 lo hi).length=n:=by rw[hn];simp[d7]
 intro Hs H e1 e2;refine⟨by show n<=_;rw[hl];exact A5z _,fun i d hd=>?_⟩
 have hi:i<n:=by have:=(List.getElem?_eq_some_iff.mp hd).1;rw[hl] at this;exact this
 refine⟨hi,fun x H' y=>?_⟩;obtain⟨rfl,rfl⟩:=y;refine⟨Hs,.refl e2,?_⟩;unfold d7 at hd;rw[List.getElem?_map] at hd;obtain⟨j,e3,rfl⟩:=Q0z.mp hd;rw[List.getElem?_eq_some_iff] at e3;obtain⟨_,e3⟩:=e3;rw[List.getElem_range] at e3;subst e3;simp[Rep]
theorem u0{x:Str}{j:Int}{p pos:Pos}(G:Good cx k X sc)(hx:bC cx sc x=some "range")(ha:Ev X ρ a (.int j))(hp:aL a=true)(hj:fM j=true):EvI X ρ tg (.Call (.Name x p) [a] [] pos) (d7 0 j):=by
 obtain⟨hg,hm,rfl⟩:=bZ G hx;intro σ H Hs R hs hst hq;have q:=xq (tg:=tg) (p:=p) (pos:=pos) hg hm (bI (au (X:=X) (e:=a)) cY (aq hp)) (aq hp);refine PI.sem q (ha σ H Hs _ hs hst fun v H1 Hs1 E1 r1=>?_);exact⟨j,by rw[aV r1],(j9 hj).1,(j9 hj).2,hq _ H1 Hs1 E1 (jL (by simp))⟩
theorem uZ{x:Str}{i j:Int}{p pos:Pos}(G:Good cx k X sc)(hx:bC cx sc x=some "range")(ha:Ev X ρ a (.int i))(hp:aL a=true)(hb:Ev X ρ b (.int j))(hpb:aL b=true)(hi:fM i=true)(hj:fM j=true):EvI X ρ tg (.Call (.Name x p) [a,b] [] pos) (d7 i j):=by
 obtain⟨hg,hm,rfl⟩:=bZ G hx;intro σ H Hs R hs hst hq;have q:=xg (tg:=tg) (p:=p) (pos:=pos) hg hm (bI (au (X:=X) (e:=a)) (bI (au (X:=X) (e:=b)) cY (aq hpb)) (aq hp)) (by rw[aq hp,aq hpb];rfl) (aq hpb);refine PI.sem q (ha σ H Hs _ hs hst fun v H1 Hs1 E1 r1=>hb σ H1 Hs1 _ E1.sub (hst.same E1.vis) fun v' H2 Hs2 E2 r2=>?_);exact⟨i,j,by rw[aV r1,aV r2],⟨(j9 hi).1,(j9 hi).2,(j9 hj).1,(j9 hj).2⟩,hq _ H2 Hs2 (E1.trans E2) (jL rfl)⟩
theorem Iw{x:Str}{xs ys:List D}{p pos pt:Pos}{es:List Expr}{kt:Nat}(G:Good cx k X sc)(hx:bC cx sc x=some "zip")(ha:Ev X ρ a (.tup xs))(hp:aL a=true)(hb:Ev X ρ b (.tup ys))(hpb:aL b=true) :
  EvI X ρ (.Tuple es kt pt) (.Call (.Name x p) [a,b] [] pos) ((xs.zip ys).map fun q=>.tup [q.1,q.2]):=by
 obtain⟨hg,hm,rfl⟩:=bZ G hx;intro σ H Hs R hs hst hq;have q:=KN (es:=es) (kt:=kt) (pt:=pt) (p:=p) (pos:=pos) hg hm (bI (au (X:=X) (e:=a)) (bI (au (X:=X) (e:=b)) cY (aq hpb)) (aq hp)) (by rw[aq hp,aq hpb];rfl) (aq hpb);refine PI.sem q (ha σ H Hs _ hs hst fun v H1 Hs1 E1 r1=>hb σ H1 Hs1 _ E1.sub (hst.same E1.vis) fun v' H2 Hs2 E2 r2=>?_);obtain⟨c,vs,rfl,h1,h2⟩:=bL (Rep.same E2.vis _ _ r1);obtain⟨d,us,rfl,h3,h4⟩:=bL r2;have l1:=h2.length;have l2:=h4.length;refine⟨c,d,rfl,⟨vs,E2.sub.tup h1⟩,⟨us,E2.sub.tup h3⟩,hq _ H2 Hs2 (E1.trans E2) fun Hs' H' e1 e2=>⟨⟨vs,us,e2.tup (e1.tup h1),e2.tup (e1.tup h3),?_⟩,fun i z hz=>?_⟩⟩
 ·rw[G3z,Q3z]
  omega
 ·rw[List.getElem?_map] at hz
  obtain⟨⟨x1,y1⟩,e3,rfl⟩:=Q0z.mp hz;rw[List.getElem?_zip_eq_some] at e3;obtain⟨v1,g1,g2⟩:=h2.get e3.1;obtain⟨v2,g3,g4⟩:=h4.get e3.2;refine⟨⟨vs,us,v1,v2,e2.tup (e1.tup h1),e2.tup (e1.tup h3),g1,g3⟩,fun w H3 y=>?_⟩;obtain⟨p,hp',rfl,y⟩:=y;rw[y vs us v1 v2 (e2.tup (e1.tup h1)) (e2.tup (e1.tup h3)) g1 g3];refine⟨_,Ext.new e2 (.tup [v1,v2]) hp',?_⟩;have sm:=(Ext.new e2 (.tup [v1,v2]) hp').vis;simp only[Rep];exact⟨p,[v1,v2],rfl,.of aX,.cons (Rep.same sm _ _ (Rep.same e1 _ _ g2)) (.cons (Rep.same sm _ _ (Rep.same e1 _ _ g4)) .nil)⟩
theorem sX:∀ {ns:List Int} {us:List Value},Vals (ns.map V.int) us->PyProof.Rows.IntsAre us ns
 | [],us,r=>by rw[U4z] at r;cases r;exact .nil
 | n::ns,us,r=>by
  rw[I4z] at r
  cases r with
  | cons r1 r2 =>
   obtain⟨t,e⟩:=(show ∃ t,_=Value.int n t from r1);subst e;exact .cons n t (sX r2)
theorem zE{ns:List Int}:PyProof.Rows.firstMet (fun i=>ns.getD i 0) ns.length=ddp ns:=by
 unfold PyProof.Rows.firstMet ddp
 have e:(List.range ns.length).map (fun i=>ns.getD i 0)=ns:=by
  apply List.ext_getElem?;intro i;rw[List.getElem?_map]
  by_cases h:i<ns.length
  ·rw[List.getElem?_range h]
   simp[List.getD_eq_getElem?_getD,List.getElem?_eq_getElem h]
  ·rw[List.getElem?_eq_none (by simpa using h),List.getElem?_eq_none (by omega)]
   rfl
 rw[e];rfl
theorem yN{x y:Str}{a:Expr}{xs:List D}{ns:List Int}{p q q' pos:Pos}(G:Good cx k X sc)(hx:bC cx sc x=some "len")(hy:bC cx sc y=some "set")(ha:Ev X ρ a (.lst xs))(hp:aL a=true)(hn:iU xs=some ns)(hz:xs.length<=1000) :
  Ev X ρ (.Call (.Name x p) [.Call (.Name y q) [a] [] q'] [] pos) (.int (ddp ns).length):=by
 obtain⟨hg,hm,rfl⟩:=bZ G hx;obtain⟨hg2,hm2,rfl⟩:=bZ G hy;intro σ H Hs Q hs hst hq z0 s I;refine Call_ (fV I hg hm (show bootBuiltins "len"=some (.builtin "len") by decide +kernel) (PyProof.Rows.callWith_builtin1 ?_ rfl rfl));show wpAny _ _ (spliced [(false,eval (.Call (.Name _ q) [a] [] q') X.env)]) _ _ _;refine N1z ?_;refine Call_ (fV I hg2 hm2 (show bootBuiltins "set"=some (.type "set") by decide +kernel) (D0z ?_ (aq hp) rfl))
 refine thn ((bI au cY (aq hp)) q' z0 s σ H (fun vs H1=>∃ Hs1 b ws,vs=[.ref b]/\SqL X.K Hs1 b ws/\aR X.K Hs1 xs ws/\Ext Hs H Hs1 H1) I (ha σ H Hs _ hs hst fun v H1 Hs1 E1 r1=>by
  obtain⟨b,ws,rfl,h1,h2⟩:=bF r1
  exact⟨Hs1,b,ws,rfl,h1,h2,E1⟩)) fun us s1 ⟨vs,H1,I1,r1,Hs1,b,ws,e1,t1,r2,E1⟩=>?_
 subst e1;obtain⟨u,w1,rfl,rx,rr⟩:=ux r1;cases rr;cases (show u=Value.ref b from rx);obtain⟨its,rv,pt,hz'⟩:=I1.list (E1.sub.seq t1);have hl:=rv.length;have hl2:=r2.length;have e:=jm hn r2;subst e;have ia:=sX rv
 have ln:its.length=ns.length:=by rw[<- hl,G3z]
 have lx:xs.length=ns.length:=by rw[hl2,G3z]
 refine PySem.call_set_list (I1.ok.hd G.calm) pt.isList (ns:=ns) ia (by simp only[V1z];show its.length+1<4096;omega) fun h' tk hS kp=>Calls.spliced_nil ?_
 simp only[V1z,ln,zE] at hS;obtain⟨o,es,ep,t,ho,hex,hd,_,_,hb,hf,hsz⟩:=hS;have I2:Inv X z0 σ H1 { s1 with heap:=h',toks:=tk }:=I1.kept (t':=tk) fun c o e=>kp c o (O4z e) e
 have le:(ddp ns).length<=ns.length:=by rw[<- zE];exact PyProof.Rows.firstMet_length_le _ _
 refine call_len_set (s:={ s1 with heap:=h',toks:=tk }) ho hex hd hf (by rw[hsz];omega) ?_
 exact⟨.int (ddp ns).length,H1,I2.tok _,⟨tk+1,by rw[hsz]⟩,hq _ H1 Hs1 E1 (by simp[Rep])⟩
theorem yV{xs:List D}:(enD xs).length=xs.length:=by simp[enD]
theorem yW{xs:List D}{i:Nat}{d:D}(h:(enD xs)[i]?=some d):∃ x,xs[i]?=some x/\d=.tup [.int i,x]:=by
 unfold enD at h;rw[List.getElem?_map] at h;obtain⟨⟨x,j⟩,e1,e2⟩:=Q0z.mp h;rw[List.getElem?_zipIdx] at e1;obtain⟨y,e3,e4⟩:=Q0z.mp e1;simp at e4;obtain⟨rfl,rfl⟩:=e4;exact⟨y,e3,e2.symm⟩
theorem Cr{x:Str}{xs:List D}{p pos pt:Pos}{es:List Expr}{kt:Nat}(G:Good cx k X sc)(hx:bC cx sc x=some "enumerate")(ha:Ev X ρ a (.tup xs))(hp:aL a=true) :
  EvI X ρ (.Tuple es kt pt) (.Call (.Name x p) [a] [] pos) (enD xs):=by
 obtain⟨hg,hm,rfl⟩:=bZ G hx;intro σ H Hs R hs hst hq;have q:=Gz (es:=es) (kt:=kt) (pt:=pt) (p:=p) (pos:=pos) hg hm (bI (au (X:=X) (e:=a)) cY (aq hp)) (aq hp);refine PI.sem q (ha σ H Hs _ hs hst fun v H1 Hs1 E1 r1=>?_);obtain⟨c,vs,rfl,h1,h2⟩:=bL r1;refine⟨c,rfl,⟨vs,E1.sub.tup h1⟩,hq _ H1 Hs1 E1 fun Hs' H' e1 e2=>⟨⟨vs,e2.tup (e1.tup h1),by rw[yV,h2.length]⟩,fun i d hd=>?_⟩⟩;obtain⟨y,e3,rfl⟩:=yW hd;obtain⟨w,g1,g2⟩:=h2.get e3;refine⟨⟨vs,w,e2.tup (e1.tup h1),g1⟩,fun u H2 yl=>?_⟩;obtain⟨p,hp',rfl,yl⟩:=yl;rw[yl vs w (e2.tup (e1.tup h1)) g1];refine⟨_,Ext.new e2 (.tup [.int i,w]) hp',?_⟩;have sm:=(Ext.new e2 (.tup [.int i,w]) hp').vis;simp only[Rep];exact⟨p,[.int i,w],rfl,.of aX,.cons (by simp[Rep]) (.cons (Rep.same sm _ _ (Rep.same e1 _ _ g2)) .nil)⟩
theorem rQ{K:Z3}{H:Hp}:∀ ns:List Int,aR K H (ns.map D.int) (ns.map V.int)
 | []=>.nil
 | n::ns=>.cons (by simp[Rep]) (rQ ns)
theorem yR{y:Str}{py:Pos}{x:D}{l:List D}{ap pos pt:Pos}{ts:List Expr}{kt:Nat}(hb:attributeBase (.Name y py) "items" X.env (eval (.Name y py) X.env)=eval (.Name y py) X.env)(hl:(ap.endLine==pos.line)=true)(ha:Ev X ρ (.Name y py) x)(h:Jz x=some l) :
  EvI X ρ (.Tuple ts kt pt) (.Call (.Attribute (.Name y py) "items" ap) [] [] pos) l:=by
 cases x<;>simp only[Jz] at h
 all_goals cases h
 rename_i ks ds;intro σ H Hs R hs hst hq;refine PI.sem (Bb (ts:=ts) (kt:=kt) (pt:=pt) (au (X:=X) (e:=.Name y py)) hb hl) (ha σ H Hs _ hs hst fun v H1 Hs1 E1 r1=>?_);obtain⟨a,es,o,rfl,g1,rfl,g3,g4⟩:=Di r1;have lz:(es.map (·.1)).length=es.length:=G3z ..
 have ld:ds.length=es.length:=by rw[g4.length,G3z]
 refine⟨a,es,o,rfl,E1.sub _ _ g1,hq _ H1 Hs1 E1 fun Hs' H' e1 e2=>⟨⟨e2 _ _ (e1 _ _ g1),by rw[G3z,Q3z,lz,ld,Nat.min_self]⟩,fun i d hd=>?_⟩⟩;rw[List.getElem?_map] at hd;obtain⟨q,hq',rfl⟩:=Q0z.mp hd;obtain⟨q1,q2⟩:=List.getElem?_zip_eq_some.mp hq';rw[List.getElem?_map] at q1;obtain⟨e,q3,q4⟩:=Q0z.mp q1;obtain⟨w,w1,w2⟩:=g4.get q2;rw[List.getElem?_map,q3] at w1;cases w1;refine⟨⟨e2 _ _ (e1 _ _ g1),(List.getElem?_eq_some_iff.mp q3).1⟩,fun u H2 yl=>?_⟩;obtain⟨p,e',hp,rfl,q5,rfl⟩:=yl;rw[q3] at q5;cases q5;refine⟨_,Ext.new e2 (.tup [.ref e.2.1,e.2.2]) hp,?_⟩;have sm:=(Ext.new e2 (.tup [.ref e.2.1,e.2.2]) hp).vis;simp only[Rep];refine⟨p,[.ref e.2.1,e.2.2],rfl,.of aX,.cons ?_ (.cons (Rep.same sm _ _ (Rep.same e1 _ _ w2)) .nil)⟩;simp only[Rep];have kb:=sm.tup (e1.tup (g3 e (List.mem_of_getElem? q3)));rw[q4] at kb;exact⟨e.2.1,q.1.map V.int,rfl,kb,rQ q.1⟩
theorem yS{x:Str}{xs:List D}{p pos pt:Pos}{es:List Expr}{kt:Nat}(G:Good cx k X sc)(hx:bC cx sc x=some "enumerate")(ha:Ev X ρ a (.lst xs))(hp:aL a=true) :
  EvI X ρ (.Tuple es kt pt) (.Call (.Name x p) [a] [] pos) (enD xs):=by
 obtain⟨hg,hm,rfl⟩:=bZ G hx;intro σ H Hs R hs hst hq;have q:=Bc (es:=es) (kt:=kt) (pt:=pt) (p:=p) (pos:=pos) hg hm (bI (au (X:=X) (e:=a)) cY (aq hp)) (aq hp);refine PI.sem q (ha σ H Hs _ hs hst fun v H1 Hs1 E1 r1=>?_);obtain⟨c,vs,rfl,h1,h2⟩:=bF r1;refine⟨c,rfl,⟨vs,E1.sub.seq h1⟩,hq _ H1 Hs1 E1 fun Hs' H' e1 e2=>⟨⟨vs,e2.seq (e1.seq h1),by rw[yV,h2.length]⟩,fun i d hd=>?_⟩⟩;obtain⟨y,e3,rfl⟩:=yW hd;obtain⟨w,g1,g2⟩:=h2.get e3;refine⟨⟨vs,w,e2.seq (e1.seq h1),g1⟩,fun u H2 yl=>?_⟩;obtain⟨p,hp',rfl,yl⟩:=yl;rw[yl vs w (e2.seq (e1.seq h1)) g1];refine⟨_,Ext.new e2 (.tup [.int i,w]) hp',?_⟩;have sm:=(Ext.new e2 (.tup [.int i,w]) hp').vis;simp only[Rep];exact⟨p,[.int i,w],rfl,.of aX,.cons (by simp[Rep]) (.cons (Rep.same sm _ _ (Rep.same e1 _ _ g2)) .nil)⟩
end
theorem aW{α β:Type}{x:Option α}{f:α->Option β}{y:β}(h:(x >>=f)=some y):∃ a,x=some a/\f a=some y:=by
 cases x with
 | none=>cases h
 | some a=>exact⟨a,rfl,h⟩
def BR(X:Cx)(tg:Expr):TG:=fun v σ H Q=>∀ z0 s u,Inv X z0 σ H s->RelV v u->wpAny (model X.prog X.w) X.A (assign tg X.env u) (fun _ s'=>∃ σ' H',Inv X z0 σ' H' s'/\Q σ' H') X.xe s
def HY(X:Cx)(es:List Expr):TGs:=fun vs σ H Q=>∀ z0 s us,Inv X z0 σ H s->Vals vs us->wpAny (model X.prog X.w) X.A (assignInOrder ((assignEach es X.env).map (·.2)) us) (fun _ s'=>∃ σ' H',Inv X z0 σ' H' s'/\Q σ' H') X.xe s
section
variable {X:Cx} {tg:Expr} {es:List Expr}
theorem gK:PG X tg (BR X tg):=fun z0 s σ H v u Q I r h=>h z0 s u I r
theorem PG.sem{t:TG}{v:V}{σ:St}{H:Hp}{Q:St->Hp->Prop}(h:PG X tg t)(q:t v σ H Q):BR X tg v σ H Q:=fun z0 s u I r=>h z0 s σ H v u Q I r q
theorem mj:PGs X es (HY X es):=fun z0 s σ H v u Q I r h=>h z0 s u I r
theorem PGs.sem{t:TGs}{v:List V}{σ:St}{H:Hp}{Q:St->Hp->Prop}(h:PGs X es t)(q:t v σ H Q):HY X es v σ H Q:=fun z0 s u I r=>h z0 s σ H v u Q I r q
end
theorem aM:∀ (ρ:Rho) (x:Str) (v:Sl),(cC ρ x v).map (·.1)=ρ.map (·.1)
 | [],_,_=>rfl
 | (y,s)::r,x,v=>by
  unfold cC;split
  ·rfl
  ·simp[aM r x v]
theorem aD:∀ {ρ:Rho} {x:Str} {v:Sl} {i:Nat},(ρ.map (·.1)).Nodup->(ρ.map (·.1))[i]?=some x->∀ j:Nat,(cC ρ x v)[j]?=if j=i then some (x,v) else ρ[j]?
 | [],x,v,i,_,h,_=>by simp at h
 | (y,s)::r,x,v,0,hn,h,j=>by
  simp at h;subst h
  cases j with
  | zero=>simp[cC]
  | succ j=>simp[cC]
 | (y,s)::r,x,v,i+1,hn,h,j=>by
  rw[I4z,K3z] at hn
  have h':(r.map (·.1))[i]?=some x:=by simpa using h
  have hne:(x==y)=false:=by
   rw[G1z];intro e;subst e;exact hn.1 (List.mem_of_getElem? h')
  simp only[cC,hne,Q1z,O5z]
  cases j with
  | zero=>simp
  | succ j =>
   have:=aD (v:=v) hn.2 h' j;simp only[List.getElem?_cons_succ,this,Nat.add_right_cancel_iff]
theorem bN{l:List Str}{x:Str}(h:l.contains x=true):∃ i:Nat,l[i]?=some x:=by
 have:=List.mem_of_elem_eq_true h;exact List.mem_iff_getElem?.mp this
structure Owns (X:Cx) (scope:Scope):Prop where
 own:∀ x,ownIn scope x=true->Loc X.env.scope x/\(X.fn x=true\/X.env.scope.names.lookup x=some .local)
def lu(K:Z3)(Hs:Hp)(scope:Scope)(P:Rho->St->Prop):Prop:=∀ ρ σ (i:Nat) x d v,(ρ.map (·.1)).Nodup->(ρ.map (·.1))[i]?=some x->ownIn scope x=true->P ρ σ->Rep K Hs d v->P (cC ρ x (.sh d)) (σ.set i (some v))
section
variable {X:Cx} {scope:Scope} {Hs H:Hp} {P:Rho->St->Prop} {Q:St->Hp->Prop}
theorem pH{x:Str}{pos:Pos}{ρ ρ':Rho}{σ:St}{d:D}{v:V}(hO:Owns X scope)(hnd:X.N.Nodup)(hN:X.N=ρ.map (·.1))(KE:lu X.K Hs scope P)(hb:(if ownIn scope x&&(ρ.map (·.1)).contains x then some (cC ρ x (.sh d)) else none)=some ρ')(hp:P ρ σ)(rd:Rep X.K Hs d v)
  (hq:∀ σ',X.N=ρ'.map (·.1)->P ρ' σ'->Q σ' H):BR X (.Name x pos) v σ H Q:=by
 split at hb
 ·rename_i hc
  cases hb;rw[K2z] at hc;obtain⟨i,hi⟩:=bN hc.2;obtain⟨h1,h2⟩:=hO.own x hc.1;exact PG.sem (GJ (i:=i) hnd (by rw[hN];exact hi) h1 h2) (hq _ (by rw[aM];exact hN) (KE ρ σ i x d v (by rw[<- hN];exact hnd) hi hc.1 hp rd))
 ·cases hb
theorem fH{env:Env}:∀ {es:List Expr} {ds:List D} {ρ ρ':Rho},bindNames scope es ds ρ=some ρ'->(assignEach es env).length=es.length/\(assignEach es env).findIdx? (·.1)=none/\es.length=ds.length
 | [],[],_,_,_=>⟨rfl,rfl,rfl⟩
 | [],d::ds,ρ,ρ',h=>by simp[bindNames] at h
 | e::es,[],ρ,ρ',h=>by cases e<;>simp[bindNames] at h
 | e::es,d::ds,ρ,ρ',h=>by
  cases e<;>try (simp[bindNames] at h;done)
  rename_i x pos;simp only[bindNames] at h;split at h
  ·obtain⟨h1,h2,h3⟩:=fH (env:=env) h
   refine⟨by show(assignEach es env).length+1=_;rw[h1];rfl,?_,by simp[h3]⟩
   show((false,assign (.Name x pos) env)::assignEach es env).findIdx? (·.1)=none;rw[List.findIdx?_cons];simp only[Q1z,O5z,h2];rfl
  ·cases h
theorem fL(hO:Owns X scope)(hnd:X.N.Nodup)(KE:lu X.K Hs scope P):∀ {es:List Expr} {ds:List D} {vs:List V} {ρ ρ':Rho} {σ:St},X.N=ρ.map (·.1)->bindNames scope es ds ρ=some ρ'->P ρ σ->aR X.K Hs ds vs->(∀ σ',X.N=ρ'.map (·.1)->P ρ' σ'->Q σ' H)->HY X es vs σ H Q
 | [],[],vs,ρ,ρ',σ,hN,h,hp,rd,hq=>by
  simp only[bindNames,E2z] at h;subst h;simp only[aR] at rd;exact PGs.sem GD ⟨rd,hq _ hN hp⟩
 | [],d::ds,vs,ρ,ρ',σ,hN,h,hp,rd,hq=>by simp[bindNames] at h
 | e::es,[],vs,ρ,ρ',σ,hN,h,hp,rd,hq=>by cases e<;>simp[bindNames] at h
 | e::es,d::ds,vs,ρ,ρ',σ,hN,h,hp,rd,hq=>by
  cases e<;>try (simp[bindNames] at h;done)
  rename_i x pos;simp only[bindNames] at h;split at h
  ·rename_i hc
   simp only[aR] at rd;obtain⟨v,r,rfl,r1,r2⟩:=rd;refine PGs.sem (Bd gK mj) ⟨v,r,rfl,?_⟩;exact pH hO hnd hN KE (ρ':=cC ρ x (.sh d)) (by rw[R5z hc]) hp r1 fun σ' hN' hp'=>fL hO hnd KE hN' h hp' r2 hq
  ·cases h
theorem qY{tg:Expr}{ρ ρ':Rho}{σ:St}{d:D}{v:V}(hc:X.calm=true)(hO:Owns X scope)(hnd:X.N.Nodup)(hs:Same Hs H)(hN:X.N=ρ.map (·.1))(KE:lu X.K Hs scope P)(hb:fP scope tg d ρ=some ρ')(hp:P ρ σ)(rd:Rep X.K Hs d v)
  (hq:∀ σ',X.N=ρ'.map (·.1)->P ρ' σ'->Q σ' H):BR X tg v σ H Q:=by
 unfold fP at hb;split at hb
 ·exact pH hO hnd hN KE hb hp rd hq
 ·rename_i es k pos ds
  obtain⟨a,vs,rfl,h1,h2⟩:=bL rd;obtain⟨e1,e2,e3⟩:=fH (env:=X.env) hb;exact PG.sem (Dp hc mj e1 e2) ⟨a,vs,rfl,hs.tup h1,by rw[<- h2.length,e3],fL hO hnd KE hN hb hp h2 hq⟩
 ·cases hb
end
section
variable {X Xc:Cx} {scope sc:Scope} {cx:Cxt} {k:Nat} {ρ:Rho}
theorem oK:∀ {l:List Str},sE l=true->l.Nodup
 | [],_=>.nil
 | x::r,h=>by
  unfold sE at h;rw[K2z] at h;refine K3z.mpr ⟨fun hm=>?_,oK h.2⟩
  have:r.contains x=true:=by simpa using hm
  rw[this] at h;exact absurd h.1 (by decide)
theorem cT(G:Good cx k X sc)(h:gY sc scope=true):scope.kind=.function/\(scope.names.map (·.1)).Nodup/\∀ x,(x,NameKind.free)∈scope.names->X.env.kindOf x=some .cell\/X.env.kindOf x=some .free:=by
 unfold gY at h;rw[K2z,K2z] at h;refine⟨by simpa using h.1.1,oK h.1.2,fun x hx=>?_⟩;have:=W2z.mp h.2 _ hx;show X.env.scope.names.lookup x=_\/X.env.scope.names.lookup x=_;rw[G.sce];simpa using this
theorem Kr(G:Good cx k X sc):relabel scope X.env=jZ scope sc:=by
 unfold relabel jZ Env.kindOf;rw[G.sce]
theorem Good.comp(G:Good cx k X sc)(C:CompOf X scope Xc)(h:gY sc scope=true):Good cx k Xc (jZ scope sc) where
 calm:=C.calm
 room:=by rw[C.A];exact G.room
 sce:=by rw[C.sc,Kr G]
 kind:=(cT G h).1
 nd:=by rw[C.N];exact(cT G h).2.1
 cst:=by rw[C.mg,C.K];exact G.cst
 blt:=by rw[C.mg];exact G.blt
 exs:=by rw[C.mg,C.K];exact G.exs
 fns:=by rw[C.mg,C.prog,C.w,C.K,C.base];exact G.fns
 kw:=by rw[C.K,C.w];exact G.kw
theorem Owns.comp(G:Good cx k X sc)(C:CompOf X scope Xc):Owns Xc scope where
 own:=fun x hx=>by
  unfold ownIn at hx;rw[O3z] at hx
  have look:∀ kd,scope.names.lookup x=some kd->kd≠.free->Xc.env.scope.names.lookup x=some kd:=fun kd e hne=>by
   rw[C.sc];show(scope.names.map _).lookup x=_;rw[dW,e];simp[hne]
  rcases hx with hx | hx
  ·have e:scope.names.lookup x=some .local:=by simpa using hx
   have e2:=look _ e (by decide);exact⟨.inl e2,.inr e2⟩
  ·have e:scope.names.lookup x=some .cell:=by simpa using hx
   have e2:=look _ e (by decide);refine⟨.inr e2,.inl ?_⟩;rw[C.fn];show(scope.names.lookup x==some .cell)=true;rw[e];rfl
theorem dj:(bJ scope ρ).map (·.1)=scope.names.map (·.1):=by
 unfold bJ;rw[X4z];rfl
theorem jU{K:Z3}{Hs:Hp}{σ:St}{N:List Str}(hN:N=ρ.map (·.1))(h:cH K Hs ρ σ):cH K Hs (bJ scope ρ) (qH N scope.names σ):=by
 intro i x d e;unfold bJ at e;rw[List.getElem?_map] at e;obtain⟨p,e1,e2⟩:=Q0z.mp e
 cases hk:p.2==NameKind.free with
 | false=>rw[hk] at e2;simp at e2
 | true =>
  rw[hk] at e2;simp only[Q5z,Prod.mk.injEq] at e2;obtain⟨rfl,e2⟩:=e2
  have e3:ρ.lookup p.1=some (.sh d):=by
   cases q:ρ.lookup p.1 with
   | none=>rw[q] at e2;simp[Pr] at e2
   | some sl =>
    rw[q] at e2
    cases sl<;>simp[Pr] at e2
    rw[e2]
  obtain⟨j,g1,g2⟩:=cP e3;obtain⟨v,g3,g4⟩:=h j _ d g1;refine⟨v,?_,g4⟩;unfold qH;rw[List.getElem?_map,e1];simp only[L3z,hk,Q5z];unfold rO;rw[hN,g2];simp[g3]
def CSt(K:Z3)(Hs:Hp)(n:Nat)(ρ0:Rho):Rho->St->Prop:=fun ρ σ=>σ.length=n/\cH K Hs ρ σ/\cH K Hs ρ0 σ
theorem n8{K:Z3}{Hs:Hp}{ρ:Rho}{σ:St}{i:Nat}{x:Str}{d:D}{v:V}(hn:(ρ.map (·.1)).Nodup)(hi:(ρ.map (·.1))[i]?=some x)(hl:i<σ.length)(h:cH K Hs ρ σ)(r:Rep K Hs d v):cH K Hs (cC ρ x (.sh d)) (σ.set i (some v)):=by
 intro j y d' e;rw[aD hn hi j] at e;split at e
 ·rename_i hj
  subst hj;cases e;exact⟨v,by rw[List.getElem?_set_self hl],r⟩
 ·rename_i hj
  obtain⟨w,h1,h2⟩:=h j y d' e;exact⟨w,by rw[List.getElem?_set_ne (fun z=>hj z.symm)];exact h1,h2⟩
theorem kJ{K:Z3}{Hs:Hp}{n:Nat}(hnd:(scope.names.map (·.1)).Nodup)(hn:n=scope.names.length):lu K Hs scope (fun ρ1 σ=>ρ1.map (·.1)=scope.names.map (·.1)/\CSt K Hs n (bJ scope ρ) ρ1 σ):=by
 intro ρ1 σ i x d v h1 h2 h3 ⟨h4,h5,h6,h7⟩ r;refine⟨by rw[aM];exact h4,by rw[H3z];exact h5,?_,?_⟩
 ·have hi:i<σ.length:=by
   rw[h5,hn];have:=(List.getElem?_eq_some_iff.mp h2).1;rw[h4] at this;simpa using this
  exact n8 h1 h2 hi h6 r
 ·intro j y d' e
  obtain⟨w,g1,g2⟩:=h7 j y d' e;refine⟨w,?_,g2⟩
  have hj:i≠j:=by
   intro z;subst z;rw[h4] at h2;unfold bJ at e;rw[List.getElem?_map] at e;rw[List.getElem?_map] at h2;obtain⟨p,e1,e2⟩:=Q0z.mp e;rw[e1] at h2
   have ex:p.1=x:=by simpa using h2
   cases hk:p.2==NameKind.free with
   | false=>rw[hk] at e2;simp at e2
   | true =>
    have ek:p.2=.free:=by simpa using hk
    have hm:=List.mem_of_getElem? e1;have:=bT (c:=p.2) hnd (by rw[show p=(x,p.2) from by rw[<- ex]] at hm;exact hm);unfold ownIn at h3;rw[this,ek] at h3;exact absurd h3 (by decide)
  rw[List.getElem?_set_ne hj];exact g1
def qN(X:Cx)(ifs:List Expr):TT:=fun σ H Q=>∀ z0 s,Inv X z0 σ H s->wpAny (model X.prog X.w) X.A (forIn ifs true fun c r=>if r=true then do let ok <- isTrue c X.env (eval c X.env);pure (ForInStep.yield ok) else pure (ForInStep.yield r)) (TP X z0 σ Q) X.xe s
theorem fG{ifs:List Expr}:zZ X ifs (qN X ifs):=fun z0 s σ H Q I h=>h z0 s I
theorem zZ.sem{ifs:List Expr}{t:TT}{σ:St}{H:Hp}{Q:Bool->Hp->Prop}(h:zZ X ifs t)(q:t σ H Q):qN X ifs σ H Q:=fun z0 s I=>h z0 s σ H Q I q
theorem Eh{f:Expr->Option D}{ifs:List Expr}{b:Bool}(hf:∀ e d,f e=some d->Ev X ρ e d/\∀ b,d=.bl b->EvT X ρ e b)(h:mR f ifs=some b){σ:St}{H Hs:Hp}{Q:Bool->Hp->Prop}(hs:Same Hs H)(hst:cH X.K Hs ρ σ)(hq:∀ H' Hs',Ext Hs H Hs' H'->Q b H'):qN X ifs σ H Q:=by
 unfold mR at h;split at h
 ·cases h
  exact zZ.sem Az (hq H Hs (.refl hs))
 ·rename_i c
  cases hc:f c with
  | none=>rw[hc] at h;cases h
  | some d =>
   rw[hc] at h
   cases d<;>simp[asB] at h
   subst h;exact zZ.sem (Ay dO) ((hf c _ hc).2 _ rfl σ H Hs Q hs hst hq)
 ·cases h
theorem Ext.acc{Hs H Hs' H':Hp}{acc:Addr}{o:HO}(E:Ext Hs H Hs' H')(h:H acc=none)(h':Hs' acc=none):Ext Hs H Hs' (upd H' acc o) where
 vis:=E.vis
 all:=fun b u e=>by rw[aO (aK e h)];exact E.all b u e
 sub:=fun b u e=>by rw[aO (aK e h')];exact E.sub b u e
 hid:=E.hid
theorem jW{f:D->Option (Option D)}{d:D}{r out:List D}(h:bG f (d::r)=some out):(∃ v o',f d=some (some v)/\bG f r=some o'/\out=v::o')\/(f d=some none/\bG f r=some out):=by
 simp only[bG,bind,Option.bind] at h
 cases hf:f d with
 | none=>rw[hf] at h;cases h
 | some o =>
  rw[hf] at h
  cases o with
  | none=>exact .inr ⟨rfl,h⟩
  | some v =>
   simp only[Q0z] at h;obtain⟨o',h1,rfl⟩:=h;exact .inl ⟨v,o',rfl,h1,rfl⟩
def pC(cx:Cxt)(n:Nat)(sc scope:Scope)(ρ:Rho)(tg elt:Expr)(ifs:List Expr):D->Option (Option D):=fun d=>do
 let ρ1 <- fP scope tg d (bJ scope ρ)
 let b <- mR (ev cx n (jZ scope sc) ρ1) ifs
 if b then(ev cx n (jZ scope sc) ρ1 elt).map some else some none
theorem jR{tg iter elt:Expr}{ifs:List Expr}{l out:List D}{n:Nat}(G:Good cx k X sc)(hN:X.N=ρ.map (·.1))(hok:gY sc scope=true)(hI:EvI X ρ tg iter l)(hz:szl l.length=true)(hgo:bG (pC cx n sc scope ρ tg elt ifs) l=some out)
  (hE:∀ Xc,CompOf X scope Xc->∀ ρ1:Rho,Xc.N=ρ1.map (·.1)->∀ e d,ev cx n (jZ scope sc) ρ1 e=some d->Ev Xc ρ1 e d/\∀ b,d=.bl b->EvT Xc ρ1 e b)
  {σ:St} {H Hs:Hp} {Q:VK} (hs:Same Hs H) (hst:cH X.K Hs ρ σ) (hq:∀ acc vs Hs' H',Ext Hs H Hs' H'->H acc=none->Hs' acc=none->H' acc=some (.lst vs)->aR X.K Hs' out vs->Q (.ref acc) H') :
  qt X scope (qp X tg iter) (qH X.N scope.names) (fun Xc=>BR Xc tg) (fun Xc=>qN Xc ifs) (fun Xc=>pU Xc elt) σ H Q:=by
 obtain⟨ok1,ok2,ok3⟩:=cT G hok;refine hI σ H Hs _ hs hst fun J H1 Hs1 E1 hJ acc hacc Xc C=>?_;have GC:=G.comp C hok;have OC:=Owns.comp (scope:=scope) G C
 have hNc:∀ ρ1:Rho,ρ1.map (·.1)=scope.names.map (·.1)->Xc.N=ρ1.map (·.1):=fun ρ1 h=>by rw[C.N,h]
 have a1:Hs1 acc=none:=E1.sub.free hacc;have a0:H acc=none:=E1.all.free hacc
 let W:Nat->Nat->St->Hp->Prop:=fun i m σc H=>m=l.length-i/\i<=l.length/\∃ Hs3 ys pre rest,Ext Hs1 H1 Hs3 H/\Hs3 acc=none/\H acc=some (.lst ys)/\aR X.K Hs3 pre ys/\bG (pC cx n sc scope ρ tg elt ifs) (l.drop i)=some rest/\pre++rest=out/\pre.length<=i/\σc.length=scope.names.length/\cH X.K Hs3 (bJ scope ρ) σc
 refine⟨W,⟨l.length,rfl,D5z _,Hs1,[],[],out,Ext.acc (.refl E1.sub) hacc a1,a1,aX,.nil,by simpa using hgo,rfl,A5z _,by simp[qH],jU hN (hst.same E1.vis)⟩,?_⟩;rintro i m σc H3 ⟨rfl,hi,Hs3,ys,pre,rest,E3,b3,c3,r3,g3,p3,q3,l3,s3⟩;obtain⟨st3,go3⟩:=hJ Hs3 H3 E3.vis E3.sub
 by_cases hlt:i<l.length
 ·have hd:l[i]?=some l[i]:=List.getElem?_eq_getElem hlt
  obtain⟨gi,yi⟩:=go3 i l[i] hd;refine .inr ⟨gi,fun σ' H'=>W (i+1) (l.length-(i+1)) σ' H',fun σ' H' w=>⟨_,by omega,w⟩,fun x H4 y4=>?_⟩;obtain⟨Hs4,E4,rx⟩:=yi x H4 y4;have b4:Hs4 acc=none:=E4.hid acc _ c3 b3;have c4:H4 acc=some (.lst ys):=E4.all _ _ c3;rw[G0z hlt] at g3
  have key:∃ ρ1,fP scope tg l[i] (bJ scope ρ)=some ρ1/\∃ b,mR (ev cx n (jZ scope sc) ρ1) ifs=some b/\((b=true/\∃ v o',ev cx n (jZ scope sc) ρ1 elt=some v/\bG (pC cx n sc scope ρ tg elt ifs) (l.drop (i+1))=some o'/\rest=v::o')\/(b=false/\bG (pC cx n sc scope ρ tg elt ifs) (l.drop (i+1))=some rest)):=by
   have inv:∀ o,pC cx n sc scope ρ tg elt ifs l[i]=some o->∃ ρ1,fP scope tg l[i] (bJ scope ρ)=some ρ1/\∃ b,mR (ev cx n (jZ scope sc) ρ1) ifs=some b/\(if b then(ev cx n (jZ scope sc) ρ1 elt).map some else some none)=some o:=by
    intro o h;obtain⟨ρ1,h1,h⟩:=aW h;obtain⟨b,h2,h⟩:=aW h;exact⟨ρ1,h1,b,h2,h⟩
   rcases jW g3 with⟨v,o',f1,f2,f3⟩ | ⟨f1,f2⟩
   ·obtain⟨ρ1,h1,b,h2,h3⟩:=inv _ f1
    refine⟨ρ1,h1,b,h2,?_⟩
    cases b with
    | false=>simp at h3
    | true =>
     simp only[Q5z,Q0z] at h3;obtain⟨w,h3,h4⟩:=h3;have h5:w=v:=B3z h4;subst h5;exact .inl ⟨rfl,w,o',h3,f2,f3⟩
   ·obtain⟨ρ1,h1,b,h2,h3⟩:=inv _ f1
    refine⟨ρ1,h1,b,h2,?_⟩
    cases b with
    | true=>simp at h3
    | false=>exact .inr ⟨rfl,f2⟩
  obtain⟨ρ1,k1,b,k2,k3⟩:=key;have s4:cH X.K Hs4 (bJ scope ρ) σc:=s3.same E4.vis;have KE:=kJ (K:=Xc.K) (Hs:=Hs4) (ρ:=ρ) (n:=scope.names.length) ok2 rfl;refine qY (X:=Xc) (scope:=scope) (Hs:=Hs4) GC.calm OC GC.nd E4.sub (hNc _ dj) KE k1 ⟨dj,l3,by rw[C.K];exact s4,by rw[C.K];exact s4⟩ (by rw[C.K];exact rx) fun σ5 hN5 p5=>?_;obtain⟨_,l5,s5,s5'⟩:=p5;have hev:=hE Xc C ρ1 hN5;refine Eh hev k2 E4.sub s5 fun H6 Hs6 E6=>?_;have b6:Hs6 acc=none:=E6.hid acc _ c4 b4;have c6:H6 acc=some (.lst ys):=E6.all _ _ c4
  have s6:cH X.K Hs6 (bJ scope ρ) σ5:=by rw[<- C.K];exact s5'.same E6.vis
  rcases k3 with⟨rfl,v,o',k3,k4,k5⟩ | ⟨rfl,k3⟩
  ·refine vH ((hev elt v k3).1 σ5 H6 Hs6 _ E6.sub (s5.same E6.vis) fun w H7 Hs7 E7 r7=>?_)
   have b7:Hs7 acc=none:=E7.hid acc _ c6 b6;have c7:H7 acc=some (.lst ys):=E7.all _ _ c6;refine⟨ys,c7,?_,rfl,hlt,Hs7,ys++[w],pre++[v],o',Ext.acc (E3.trans (E4.trans (E6.trans E7))) hacc b7,b7,aX,?_,k4,?_,by simp;omega,l5,s6.same E7.vis⟩
   ·have:=r3.length
    have:=v7 hz;omega
   ·rw[<- C.K]
    refine aR.append ?_ (.cons r7 .nil);rw[C.K];exact aR.same (E4.trans (E6.trans E7)).vis pre ys r3
   ·rw[<- p3,k5];simp
  ·refine yt ?_
   exact⟨rfl,hlt,Hs6,ys,pre,rest,E3.trans (E4.trans E6),b6,c6,aR.same (E4.trans E6).vis pre ys r3,k3,p3,by omega,l5,s6⟩
 ·have hi':i=l.length:=by omega
  subst hi';refine .inl ⟨st3,?_⟩;rw[List.drop_length] at g3;simp only[bG,E2z] at g3;subst g3;rw[E3z] at p3;subst p3;exact hq acc ys Hs3 H3 (E1.trans E3) a0 b3 c3 r3
end
def bIs(b:Bool):Value->Bool
 | .bool y=>y==b
 | _=>false
theorem qg:∀ {bs:List Bool} {its:List Value},Vals (bs.map V.bl) its->its=bs.map Value.bool
 | [],its,r=>by cases r;rfl
 | b::bs,its,r=>by
  obtain⟨u,w,rfl,r1,r2⟩:=ux r;cases (show u=Value.bool b from r1);rw[qg r2];rfl
theorem Eo(b:Bool):∀ bs:List Bool,(bs.map Value.bool).countP (bIs b)=cntB b bs
 | []=>rfl
 | c::bs=>by
  rw[I4z,List.countP_cons,Eo b bs];unfold cntB;rw[U2z];show _+(if(c==b)=true then 1 else 0)=_
  cases c==b<;>simp
theorem Zn{b:Bool}:∀ (bs:List Bool) (m:Nat) (h:m<bs.length),m<bs.idxOf b->(bs[m]==b)=false
 | [],m,h,_=>absurd h (by simp)
 | c::bs,m,h,hl=>by
  rw[List.idxOf_cons] at hl
  cases hc:c==b with
  | true=>rw[hc] at hl;simp at hl
  | false =>
   cases m with
   | zero=>simpa using hc
   | succ m =>
    rw[hc] at hl;simp only[cond_false] at hl;simpa using Zn bs m (by simpa using h) (by omega)
section
variable {X:Cx} {ρ:Rho} {cx:Cxt} {k:Nat} {sc scope:Scope}
def Kv(K:Z3):V->List V->Hp->VK->Prop:=fun x vs H Q=>∃ (l:Addr) (bs:List Bool) (b:Bool),x=.ref l/\vs=[.bl b]/\SqL K H l (bs.map V.bl)/\Q (.int (cntB b bs:Nat)) H
theorem Bp:MtM X "list.count" (Kv X.K):=by
 intro z0 s σ H x vs v us Q I rx rv h;obtain⟨l,bs,b,rfl,rfl,hB,q⟩:=h;cases (show v=Value.ref l from rx);obtain⟨u,rfl,ru⟩:=rv.one;cases (show u=Value.bool b from ru);obtain⟨its2,r2,pl,hz2⟩:=I.list hB;have ei:=qg r2;subst ei;obtain⟨⟨c2,dd2,data2,sl2⟩,n2,e2,hc2,hd2,hs2⟩:=pl;simp only at hc2 hs2;obtain⟨h3,h4⟩:=(show dd2=none/\data2=.seq (bs.map Value.bool).toArray n2 from⟨hd2,hs2⟩);subst hc2 h4;refine I5z F.slot_list_count ⟨_,e2,rfl⟩ F.entry_list_count (F.args_list_count_2 _ _) (list_countAt l (bs.map Value.bool).toArray n2 dd2 sl2 (.bool b) (bIs b)) ⟨e2,fun y hy=>?_,?_⟩
 ·have hy':y∈bs.map Value.bool:=by simpa using hy
  obtain⟨c,_,rfl⟩:=List.mem_map.mp hy';exact EqAt.bool_bool c b
 ·rw[show(bs.map Value.bool).toArray.toList=bs.map Value.bool from rfl,Eo]
  exact⟨.int _,H,I.tok _,⟨_,rfl⟩,q⟩
def Ku(K:Z3):V->List V->Hp->VK->Prop:=fun x vs H Q=>∃ (l:Addr) (bs:List Bool) (b:Bool),x=.ref l/\vs=[.bl b]/\SqL K H l (bs.map V.bl)/\bs.contains b=true/\Q (.int (bs.idxOf b:Nat)) H
theorem Bo:MtM X "list.index" (Ku X.K):=by
 intro z0 s σ H x vs v us Q I rx rv h;obtain⟨l,bs,b,rfl,rfl,hB,hin,q⟩:=h;cases (show v=Value.ref l from rx);obtain⟨u,rfl,ru⟩:=rv.one;cases (show u=Value.bool b from ru);obtain⟨its2,r2,pl,hz2⟩:=I.list hB;have ei:=qg r2;subst ei;obtain⟨⟨c2,dd2,data2,sl2⟩,n2,e2,hc2,hd2,hs2⟩:=pl;simp only at hc2 hs2;obtain⟨h3,h4⟩:=(show dd2=none/\data2=.seq (bs.map Value.bool).toArray n2 from⟨hd2,hs2⟩);subst hc2 h4;have hj:bs.idxOf b<bs.length:=List.idxOf_lt_length_iff.mpr (by simpa using hin);have hn:=oN
 have hz3:bs.length<=sizeLine:=by simpa using hz2
 refine I5z F.slot_list_index ⟨_,e2,rfl⟩ F.entry_list_index (F.args_list_index_2 _ _) (list_indexAt l (bs.map Value.bool).toArray n2 dd2 sl2 (.bool b) (bIs b) (bs.idxOf b) (by simpa using hj) (by omega) ?_ ?_) ⟨e2,fun y hy=>?_,?_⟩
 ·simp only[List.getElem_toArray,V2z,bIs]
  simpa using List.getElem_idxOf hj
 ·intro m hm hlt
  simp only[List.getElem_toArray,V2z,bIs];exact Zn bs m (by simpa using hm) hlt
 ·have hy':y∈bs.map Value.bool:=by simpa using hy
  obtain⟨c,_,rfl⟩:=List.mem_map.mp hy';exact EqAt.bool_bool c b
 ·exact⟨.int _,H,I.tok _,⟨_,rfl⟩,q⟩
theorem Cg{o:Expr}{m:Str}{e:Expr}{x z d:D}{ap cp:Pos}(hB0:attributeBase o m X.env (eval o X.env)=eval o X.env)(ha:Ev X ρ o x)(he:Ev X ρ e z)(hp:aL e=true)(hline:(ap.endLine==cp.line)=true)(h:qI m x z=some d):Ev X ρ (.Call (.Attribute o m ap) [e] [] cp) d:=by
 unfold qI at h;split at h
 ·rename_i xs b
  obtain⟨bs,hb,h2⟩:=aW h;clear h;intro σ H Hs Q hs hst hq;split at h2
  ·rename_i hm
   have em:m="count":=by simpa using hm
   subst em;cases h2;refine(xr K0z PySem.F.slot_list_count PySem.F.type_list_count Bp au (bI au cY (aq hp)) hB0 (by rw[aq hp];rfl) hline (aq hp) rfl).sem ?_;refine ha σ H Hs _ hs hst fun v H1 Hs1 E1 r1=>?_;obtain⟨l,vs,rfl,g1,g2⟩:=bF r1;have ev:=jo hb g2;subst ev;refine⟨.inl ⟨rfl,_,E1.sub.seq g1⟩,?_⟩;refine he σ H1 Hs1 _ E1.sub (hst.same E1.vis) fun v2 H2 Hs2 E2 r2=>?_;rw[dN r2];exact⟨l,bs,b,rfl,rfl,E2.sub.seq (E2.vis.seq g1),hq _ H2 Hs2 (E1.trans E2) (by simp[Rep])⟩
  ·split at h2
   ·rename_i hm
    rw[K2z] at hm
    have em:m="index":=by simpa using hm.1
    subst em;cases h2;refine(xr K0z PySem.F.slot_list_index PySem.F.type_list_index Bo au (bI au cY (aq hp)) hB0 (by rw[aq hp];rfl) hline (aq hp) rfl).sem ?_;refine ha σ H Hs _ hs hst fun v H1 Hs1 E1 r1=>?_;obtain⟨l,vs,rfl,g1,g2⟩:=bF r1;have ev:=jo hb g2;subst ev;refine⟨.inl ⟨rfl,_,E1.sub.seq g1⟩,?_⟩;refine he σ H1 Hs1 _ E1.sub (hst.same E1.vis) fun v2 H2 Hs2 E2 r2=>?_;rw[dN r2];exact⟨l,bs,b,rfl,rfl,E2.sub.seq (E2.vis.seq g1),hm.2,hq _ H2 Hs2 (E1.trans E2) (by simp[Rep])⟩
   ·cases h2
 ·cases h
end
theorem Ext.shown{Hs H Hs' H':Hp}{acc:Addr}{o:HO}(E:Ext Hs H Hs' H')(h:H acc=none)(h1:Hs' acc=none)(h2:H' acc=some o):Ext Hs H (upd Hs' acc o) H' where
 vis:=fun b u e=>by rw[aO (aK (E.vis b u e) h1)];exact E.vis b u e
 all:=E.all
 sub:=fun b u e=>by
  by_cases hb:b=acc
  ·subst hb;rw[aX] at e;rw[h2];exact e
  ·rw[aO hb] at e;exact E.sub b u e
 hid:=fun b u e n=>by rw[aO (aK e h)];exact E.hid b u e n
section
variable {X:Cx} {ρ:Rho} {cx:Cxt} {k:Nat} {sc scope:Scope}
theorem Io{tg iter elt:Expr}{ifs:List Expr}{l out:List D}{n:Nat}{pos:Pos}(G:Good cx k X sc)(hN:X.N=ρ.map (·.1))(hok:gY sc scope=true)(hI:EvI X ρ tg iter l)(hp:aL iter=true)(hz:szl l.length=true)(hgo:bG (pC cx n sc scope ρ tg elt ifs) l=some out)
  (hE:∀ Xc,CompOf X scope Xc->∀ ρ1:Rho,Xc.N=ρ1.map (·.1)->∀ e d,ev cx n (jZ scope sc) ρ1 e=some d->Ev Xc ρ1 e d/\∀ b,d=.bl b->EvT Xc ρ1 e b) :
  Ev X ρ (.ListComp elt [⟨tg,iter,ifs,0⟩] scope pos) (.lst out):=by
 obtain⟨ok1,ok2,ok3⟩:=cT G hok;intro σ H Hs Q hs hst hq;refine PE.sem (mC G.calm ok1 ok2 ok3 jE (fun Xc C=>⟨gK,fG,au⟩) (dF hp)) (jR G hN hok hI hz hgo hE hs hst fun acc vs Hs' H' E1 h1 h2 h3 r=>?_);have E2:=E1.shown h1 h2 h3;refine hq _ H' _ E2 ?_;simp only[Rep];refine⟨acc,vs,rfl,.of aX,aR.same (fun b u e=>?_) out vs r⟩;rw[aO (aK e h2)];exact e
def WkP (cx : Cxt) (sc : Scope) (e : Expr) : Wk -> Prop
    | .r1 a=>∃ x p pos,e=.Call (.Name x p) [a] [] pos/\bC cx sc x=some "range"
    | .r2 a b=>∃ x p pos,e=.Call (.Name x p) [a,b] [] pos/\bC cx sc x=some "range"
    | .r3 a b c=>∃ x p pos,e=.Call (.Name x p) [a,b,c] [] pos/\bC cx sc x=some "range"
    | .zp a b=>∃ x p pos,e=.Call (.Name x p) [a,b] [] pos/\bC cx sc x=some "zip"
    | .rv a=>∃ x p pos,e=.Call (.Name x p) [a] [] pos/\bC cx sc x=some "reversed"
    | .en a=>∃ x p pos,e=.Call (.Name x p) [a] [] pos/\bC cx sc x=some "enumerate"
    | .it a=>∃ y py ap pos,a=.Name y py/\e=.Call (.Attribute (.Name y py) "items" ap) [] [] pos/\(ap.endLine==pos.line)=true
    | .sq=>True
theorem zP(g:Expr)(a:Expr)(as:List Expr)(ks:List Keyword)(p:Pos){m:Str}{env:Env}{w:Sem Value}:attributeBase (.Call g (a::as) ks p) m env w=w:=by
 cases g<;>rfl
theorem JT{e:Expr}:WkP cx sc e (pR cx sc e):=by
 unfold pR;split
 ·rename_i x p args pos
  split
  ·rename_i h
   split
   ·exact⟨x,p,pos,rfl,h⟩
   ·exact⟨x,p,pos,rfl,h⟩
   ·exact⟨x,p,pos,rfl,h⟩
   ·trivial
  ·rename_i h
   split
   ·exact⟨x,p,pos,rfl,h⟩
   ·trivial
  ·rename_i h
   split
   ·exact⟨x,p,pos,rfl,h⟩
   ·trivial
  ·rename_i h
   split
   ·exact⟨x,p,pos,rfl,h⟩
   ·trivial
  ·trivial
 ·split
  ·rename_i h
   rw[K2z] at h;have e:=eq_of_beq h.2;subst e;exact⟨_,_,_,_,rfl,rfl,h.1⟩
  ·trivial
 ·trivial
theorem iu{x:Option D}{i:Int}(h:x.bind asI=some i):x=some (.int i):=by
 obtain⟨d,h1,h2⟩:=aW (show(x >>=asI)=some i from h)
 cases d<;>simp[asI] at h2
 subst h2;exact h1
theorem eN{x:Option D}{i:Bool}(h:x.bind asB=some i):x=some (.bl i):=by
 obtain⟨d,h1,h2⟩:=aW (show(x >>=asB)=some i from h)
 cases d<;>simp[asB] at h2
 subst h2;exact h1
theorem xU{x:Option D}{i:List D}(h:x.bind Jx=some i):x=some (.lst i):=by
 obtain⟨d,h1,h2⟩:=aW (show(x >>=Jx)=some i from h)
 cases d<;>simp[Jx] at h2
 subst h2;exact h1
theorem yQ{f:Expr->Option D}{tg e:Expr}{l:List D}(G:Good cx k X sc)(hf:∀ e d,f e=some d->Ev X ρ e d/\aL e=true)(h:evI cx (d8 tg) f sc e=some l):EvI X ρ tg e l/\aL e=true:=by
 unfold evI at h;have w:=JT (cx:=cx) (sc:=sc) (e:=e);split at h
 ·rename_i a hw
  rw[hw] at w;obtain⟨x,p,pos,rfl,hx⟩:=w;obtain⟨j,h1,h⟩:=aW h;split at h
  ·rename_i hj
   cases h;obtain⟨ha,hp⟩:=hf _ _ (iu h1);exact⟨u0 G hx ha hp hj,rfl⟩
  ·cases h
 ·rename_i a b hw
  rw[hw] at w;obtain⟨x,p,pos,rfl,hx⟩:=w;obtain⟨i,h1,h⟩:=aW h;obtain⟨j,h2,h⟩:=aW h;split at h
  ·rename_i hj
   cases h;rw[K2z] at hj;obtain⟨ha,hp⟩:=hf _ _ (iu h1);obtain⟨hb,hpb⟩:=hf _ _ (iu h2);exact⟨uZ G hx ha hp hb hpb hj.1 hj.2,rfl⟩
  ·cases h
 ·rename_i a b c hw
  rw[hw] at w;obtain⟨x,p,pos,rfl,hx⟩:=w;simp at h
 ·rename_i a b hw
  rw[hw] at w;obtain⟨x,p,pos,rfl,hx⟩:=w;obtain⟨d1,h1,h⟩:=aW h;obtain⟨d2,h2,h⟩:=aW (show(f b >>=fun y=>if d8 tg=true then NP d1 y else none)=some l from h);have h':(if d8 tg=true then NP d1 d2 else none)=some l:=h;clear h;split at h'
  ·rename_i ht
   obtain⟨ha,hp⟩:=hf _ _ h1;obtain⟨hb,hpb⟩:=hf _ _ h2
   cases tg<;>simp[d8] at ht
   unfold NP at h';split at h'
   ·cases h';exact⟨Iw G hx ha hp hb hpb,rfl⟩
   ·simp at h'
   ·simp at h'
   ·simp at h'
   ·cases h'
  ·cases h'
 ·rename_i a hw
  rw[hw] at w;obtain⟨x,p,pos,rfl,hx⟩:=w;simp at h
 ·rename_i a hw
  rw[hw] at w;obtain⟨x,p,pos,rfl,hx⟩:=w;obtain⟨d1,h1,h⟩:=aW h;split at h
  ·rename_i ht
   obtain⟨us,hu,rfl⟩:=Q0z.mp h;obtain⟨ha,hp⟩:=hf _ _ h1
   cases tg<;>simp[d8] at ht
   cases d1<;>simp[items] at hu
   ·subst hu;exact⟨Cr G hx ha hp,rfl⟩
   ·subst hu;exact⟨yS G hx ha hp,rfl⟩
  ·cases h
 ·rename_i a hw
  rw[hw] at w;obtain⟨y,py,ap,pos,rfl,rfl,hl⟩:=w;obtain⟨d1,h1,h⟩:=aW h;have h':(if d8 tg=true then Jz d1 else none)=some l:=h;clear h;split at h'
  ·rename_i ht
   obtain⟨ha,hp⟩:=hf _ _ h1
   cases tg<;>simp[d8] at ht
   exact⟨yR rfl hl ha h',rfl⟩
  ·cases h'
 ·obtain⟨d,h1,h2⟩:=aW (show(f e >>=items)=some l from h)
  obtain⟨ha,hp⟩:=hf _ _ h1;exact⟨Iz ha h2,hp⟩
theorem Fv{t:Expr}{T:String}(h:tyOf cx sc t=some T):∃ x p,t=.Name x p/\bC cx sc x=some T:=by
 unfold tyOf at h;split at h
 ·exact⟨_,_,rfl,h⟩
 ·cases h
def WcP (cx : Cxt) (sc : Scope) (b : String) (args : List Expr) : Wc -> Prop
    | .lr1 a=>∃ x p pos,args=[.Call (.Name x p) [a] [] pos]/\bC cx sc x=some "range"/\b="list"
    | .lr2 a a'=>∃ x p pos,args=[.Call (.Name x p) [a,a'] [] pos]/\bC cx sc x=some "range"/\b="list"
    | .tv a=>∃ x p pos,args=[.Call (.Name x p) [a] [] pos]/\bC cx sc x=some "reversed"/\b="tuple"
    | .tr1 a=>∃ x p pos,args=[.Call (.Name x p) [a] [] pos]/\bC cx sc x=some "range"/\b="tuple"
    | .ls a=>∃ x p pos,args=[.Call (.Name x p) [a] [] pos]/\bC cx sc x=some "set"/\b="len"
    | .al=>True
theorem Ox{b:String}{args:List Expr}:WcP cx sc b args (Aa cx sc b args):=by
 unfold Aa;split
 ·rename_i e
  have w:=JT (cx:=cx) (sc:=sc) (e:=e);split
  ·rename_i hw
   rw[hw] at w;obtain⟨x,p,pos,rfl,hx⟩:=w;exact⟨x,p,pos,rfl,hx,rfl⟩
  ·rename_i hw
   rw[hw] at w;obtain⟨x,p,pos,rfl,hx⟩:=w;exact⟨x,p,pos,rfl,hx,rfl⟩
  ·rename_i hw
   rw[hw] at w;obtain⟨x,p,pos,rfl,hx⟩:=w;exact⟨x,p,pos,rfl,hx,rfl⟩
  ·rename_i hw
   rw[hw] at w;obtain⟨x,p,pos,rfl,hx⟩:=w;exact⟨x,p,pos,rfl,hx,rfl⟩
  ·split
   ·rename_i a ha
    unfold Xa at ha;split at ha
    ·rename_i y q a' q' _
     split at ha
     ·rename_i hb
      cases ha;exact⟨y,q,q',rfl,by simpa using hb,rfl⟩
     ·cases ha
    ·cases ha
   ·trivial
  ·trivial
 ·trivial
end
theorem cW(cx:Cxt):∀ (n:Nat) {k:Nat} {X:Cx} {sc:Scope} {ρ:Rho} {e:Expr} {d:D},Good cx k X sc->X.N=ρ.map (·.1)->ev cx n sc ρ e=some d->Ev X ρ e d/\∀ b,d=.bl b->EvT X ρ e b
 | 0,k,X,sc,ρ,e,d,_,_,h=>by exact nomatch (show(Option.none:Option D)=some d from h)
 | n+1,k,X,sc,ρ,e,d,G,hN,h=>by
  have ih:∀ e d,ev cx n sc ρ e=some d->Ev X ρ e d/\∀ b,d=.bl b->EvT X ρ e b:=fun e d h=>cW cx n G hN h;have ihp:∀ e d,ev cx n sc ρ e=some d->Ev X ρ e d/\aL e=true:=fun e d h=>⟨(ih e d h).1,bw h⟩;have val:∀ {e d},(∀ whole,isTrue e X.env whole=(do let v <- whole;standAt e.pos;holding [v] (truthy v)))->Ev X ρ e d->Ev X ρ e d/\∀ b,d=.bl b->EvT X ρ e b:=fun he h1=>⟨h1,fun b hb=>by subst hb;exact Iu h1 he⟩
  cases e with
  | Name x pos =>
   simp only[ev] at h;split at h
   ·rename_i hp
    refine val (fun _=>rfl) ?_
    have fin:∀ kd,sc.names.lookup x=some kd->(kd=.local\/kd=.cell\/kd=.free)->(match ρ.lookup x with | some (.sh d)=>some d | _=>none)=some d->Ev X ρ (.Name x pos) d:=by
     intro kd hk hkd hm;split at hm
     ·rename_i d' hl
      cases hm;refine Ij hN ?_ hp hl;unfold Vis;rw[G.sce,hk];rcases hkd with rfl | rfl | rfl
      ·exact .inl rfl
      ·exact .inr (.inl rfl)
      ·exact .inr (.inr rfl)
     ·cases hm
    split at h
    ·rename_i hk;exact fin _ hk (.inl rfl) h
    ·rename_i hk;exact fin _ hk (.inr (.inl rfl)) h
    ·rename_i hk;exact fin _ hk (.inr (.inr rfl)) h
    ·rename_i hk
     obtain⟨v,u,h0,h1,h2⟩:=G.cst x d h;exact Nj (show X.env.scope.names.lookup x=_ by rw[G.sce];exact hk) h0 h1 h2 hp
    ·cases h
   ·cases h
  | Constant c j pos =>
   simp only[ev] at h;exact val (fun _=>rfl) (Ci h)
  | BinOp a op b pos =>
   simp only[ev] at h;obtain⟨x,h1,h⟩:=aW h;obtain⟨y,h2,h⟩:=aW h;exact val (fun _=>rfl) (Ck (ih _ _ h1).1 (ih _ _ h2).1 h)
  | UnaryOp op a pos =>
   simp only[ev] at h;obtain⟨x,h1,h⟩:=aW h
   cases op<;>simp only[Q0z] at h<;>try (cases h;done)
   ·obtain⟨b,h2,rfl⟩:=h
    cases x<;>simp[asB] at h2
    subst h2;refine⟨Nb (ih _ _ h1).1,fun c hc=>?_⟩;cases hc;exact Iv ((ih _ _ h1).2 _ rfl)
   ·obtain⟨i,h2,rfl⟩:=h
    cases x<;>simp[asI] at h2
    subst h2;exact val (fun _=>rfl) (Nf (ih _ _ h1).1)
  | BoolOp op es pos =>
   simp only[ev] at h;obtain⟨h1,h2⟩:=o8 (pos:=pos) (fun e _ d hd=>ih e d hd) h;exact⟨h1,fun b hb=>(h2 b hb).t⟩
  | Compare a ops bs pos =>
   simp only[ev] at h;split at h
   ·obtain⟨x,h1,h⟩:=aW h
    obtain⟨y,h2,h⟩:=aW h;exact Ip G.room (ih _ _ h1).1 (ih _ _ h2).1 (bw h2) h
   ·split at h
    ·cases h
    rename_i e3 hpl
    have hpl':aL e3=true:=by simpa using hpl
    obtain⟨x,h1,h⟩:=aW h;obtain⟨y,h2,h⟩:=aW h;obtain⟨c,h3,h⟩:=aW h;have h3':=eN h3
    cases c with
    | false =>
     simp only[Q1z,O5z,E2z] at h;subst h;exact yP G.room (ih _ _ h1).1 (ih _ _ h2).1 hpl' h3' ⟨fun q=>(nomatch q),fun _=>rfl⟩
    | true =>
     simp only[Q5z] at h;obtain⟨z,h4,h⟩:=aW h;exact yP G.room (ih _ _ h1).1 (ih _ _ h2).1 (bw h4) h3' ⟨fun _=>⟨z,(ih _ _ h4).1,h⟩,fun q=>nomatch q⟩
   ·cases h
  | IfExp c a b pos =>
   simp only[ev] at h;obtain⟨t,h1,h⟩:=aW h;have h1':=(ih _ _ (eN h1)).2 _ rfl
   cases t with
   | true =>
    simp only[Q5z] at h;refine⟨Nh h1' (fun _=>(ih _ _ h).1) (fun q=>nomatch q),fun r hr=>Ei h1' (fun _=>(ih _ _ h).2 r hr) (fun q=>nomatch q)⟩
   | false =>
    simp only[Q1z,O5z] at h;refine⟨Nh h1' (fun q=>nomatch q) (fun _=>(ih _ _ h).1),fun r hr=>Ei h1' (fun q=>nomatch q) (fun _=>(ih _ _ h).2 r hr)⟩
  | Tuple es j pos =>
   simp only[ev] at h;obtain⟨ds,h1,h⟩:=aW h;split at h
   ·rename_i hz
    cases h;exact val (fun _=>rfl) (Ca (fC (fun e _ d hd=>ihp e d hd) h1).1 hz)
   ·cases h
  | List es pos =>
   simp only[ev] at h;obtain⟨ds,h1,h⟩:=aW h;split at h
   ·rename_i hz
    cases h;exact val (fun _=>rfl) (Ik (fC (fun e _ d hd=>ihp e d hd) h1).1 hz)
   ·cases h
  | Subscript a b pos =>
   simp only[ev] at h;obtain⟨x,h1,h⟩:=aW h;split at h
   ·split at h
    ·obtain⟨l,h2,h⟩:=aW h
     obtain⟨u,h3,h⟩:=aW h
     have hl:∀ {o:Option Expr} {l:Option Int},(match o with | none=>some none | some e=>(ev cx n sc ρ e).bind fun d=>(asI d).map some)=some l->EvO X ρ o l:=by
      intro o l h2
      cases o with
      | none=>cases h2;exact Cq
      | some e =>
       simp only at h2;obtain⟨d',g1,g2⟩:=Option.bind_eq_some_iff.mp h2;obtain⟨i,g3,rfl⟩:=Q0z.mp g2
       cases d'<;>simp[asI] at g3
       subst g3;exact Cp (ih _ _ g1).1
     split at h
     ·rename_i xs
      split at h
      ·rename_i hw
       cases h;rw[K2z] at hw;exact val (fun _=>rfl) (yL (ih _ _ h1).1 (hl h2) (hl h3) ⟨by simpa using hw.1,by simpa using hw.2⟩)
      ·rename_i hw
       cases h;refine val (fun _=>rfl) (Ce (ih _ _ h1).1 (hl h2) (hl h3) fun q=>hw ?_);rw[q.1,q.2];simp
     ·cases h
      exact val (fun _=>rfl) (yM (ih _ _ h1).1 (hl h2) (hl h3))
     ·cases h
    ·simp[Xe] at h
   ·obtain⟨y,h2,h⟩:=aW h
    have hp2:=bw h2;have hr:=G.room;unfold N7 at h;split at h
    ·exact val (fun _=>rfl) (tL (ih _ _ h1).1 (ih _ _ h2).1 hp2 rfl h)
    ·exact val (fun _=>rfl) (tL (ih _ _ h1).1 (ih _ _ h2).1 hp2 rfl h)
    ·cases h
  | Dict ks vs pos =>
   simp only[ev] at h
   have hu:X.A.units+1<cLine:=by have:=G.room.units;omega
   exact val (fun _=>rfl) (Ni hu (fun e d hd=>(ih e d hd).1) h)
  | Call f args kws pos =>
   refine val (fun _=>rfl) ?_;simp only[ev] at h;split at h
   ·rename_i x p
    split at h
    ·rename_i hg
     have hb:∀ {b},cx.blt.lookup x=some b->bC cx sc x=some b:=fun q=>by unfold bC;rw[R5z hg];exact q
     split at h
     ·rename_i hx
      split at h
      ·obtain⟨d',h1,h⟩:=aW h
       split at h
       ·rename_i c' hxo
        split at h
        ·rename_i c
         split at h
         ·rename_i hin
          cases h;exact Il G (hb hx) hxo hin (ih _ _ h1).1 (bw h1)
         ·cases h
        ·cases h
       ·obtain⟨T,h2,h5⟩:=aW h
        clear h;obtain⟨t,pt,rfl,ht⟩:=Fv h2;split at h5
        ·rename_i c
         split at h5
         ·rename_i hc
          rw[K2z] at hc
          have eT:T="ValueError":=by simpa using hc.2
          subst eT;cases h5;exact Im G (hb hx) ht hc.1 (ih _ _ h1).1 (bw h1)
         ·cases h5
        ·cases h5
        ·cases h5
        ·rename_i hne hne2 hne3
         split at h5
         ·rename_i hk
          cases h5;refine Ng G (hb hx) ht hk (ih _ _ h1).1 (bw h1) ?_
          cases d'<;>first | rfl | exact absurd rfl (hne _) | exact absurd rfl (hne2 _ _) | exact absurd rfl (hne3 _ _)
         ·cases h5
      ·cases h
     ·rename_i b _ hx
      have wc:=Ox (cx:=cx) (sc:=sc) (b:=b) (args:=args);split at h
      ·rename_i a hw
       rw[hw] at wc;obtain⟨y,q,q',rfl,hy,rfl⟩:=wc;simp at h
      ·rename_i a a' hw
       rw[hw] at wc;obtain⟨y,q,q',rfl,hy,rfl⟩:=wc;simp at h
      ·rename_i a hw
       rw[hw] at wc;obtain⟨y,q,q',rfl,hy,rfl⟩:=wc;simp at h
      ·rename_i a hw
       rw[hw] at wc;obtain⟨y,q,q',rfl,hy,rfl⟩:=wc;simp at h
      ·rename_i a hw
       rw[hw] at wc;obtain⟨y,q,q',rfl,hy,rfl⟩:=wc;obtain⟨xs,h1,h⟩:=aW h;obtain⟨ns,h2,h⟩:=aW h;split at h
       ·rename_i hz
        cases h;have h1':=xU h1;exact yN G (hb hx) hy (ih _ _ h1').1 (bw h1') h2 (by simpa using hz)
       ·cases h
      ·split at h
       ·cases h
       ·rename_i hne
        obtain⟨ds,h1,h2⟩:=aW h;obtain⟨ha,hp⟩:=fC (fun e _ d hd=>ihp e d hd) h1
        cases args with
        | nil=>exact absurd rfl hne
        | cons e es=>exact Cm G (hb hx) ha hp h2
     ·split at h
      ·rename_i hf
       rw[K2z] at hf;obtain⟨ds,h1,h⟩:=aW h;obtain⟨ha,hp⟩:=fC (fun e _ d hd=>ihp e d hd) h1
       have hgl:Gl X x:=by
        have e:sc.names.lookup x=some .globalImplicit:=by unfold mQ at hg;simpa using hg
        show X.env.scope.names.lookup x=_;rw[G.sce,e]
       refine Ir G hgl hf.1 (fun q=>?_) ha hp h;rw[q] at hf;exact absurd hf.2 (by decide)
      ·cases h
    ·cases h
   ·split at h
    ·split at h
     ·cases h
     ·cases h
    ·cases h
   ·split at h
    ·split at h
     ·rename_i hl
      obtain⟨x,h1,h⟩:=aW h;obtain⟨z,h2,h⟩:=aW h;exact Cg rfl (ih _ _ h1).1 (ih _ _ h2).1 (bw h2) hl h
     ·cases h
    ·split at h
     ·rename_i hl
      obtain⟨x,h1,h⟩:=aW h;obtain⟨y,h2,h⟩:=aW h;obtain⟨z,h3,h⟩:=aW h;simp only[K2z] at hl;obtain⟨⟨⟨l1,l2⟩,l3⟩,l4⟩:=hl;have l2':=eq_of_beq l2;subst l2';exact yO (by have:=G.room.units;omega) (ih _ _ h1).1 rfl l1 (ih _ _ h2).1 l3 (ih _ _ h3).1 l4 h
     ·cases h
    ·cases h
   ·split at h
    ·split at h
     ·rename_i hl
      obtain⟨x,h1,h⟩:=aW h;obtain⟨y,h2,h⟩:=aW h;obtain⟨z,h3,h⟩:=aW h;simp only[K2z] at hl;obtain⟨⟨⟨l1,l2⟩,l3⟩,l4⟩:=hl;have l2':=eq_of_beq l2;subst l2';exact yO (by have:=G.room.units;omega) (ih _ _ h1).1 (zP _ _ _ _ _) l1 (ih _ _ h2).1 l3 (ih _ _ h3).1 l4 h
     ·cases h
    ·cases h
   ·simp at h
   ·cases h
  | ListComp elt gens scope pos =>
   refine val (fun _=>rfl) ?_;simp only[ev] at h;split at h
   ·rename_i tg iter ifs a
    split at h
    ·rename_i hok
     rw[K2z] at hok
     have ea:a=0:=by simpa using hok.1
     subst ea;obtain⟨l,h1,h⟩:=aW h;split at h
     ·rename_i hz
      obtain⟨out,h2,h⟩:=aW h;cases h;obtain⟨hI,hp⟩:=yQ (tg:=tg) G ihp h1;exact Io G hN hok.2 hI hp hz h2 fun Xc C ρ1 hN1 e d he=>cW cx n (G.comp C hok.2) hN1 he
     ·cases h
    ·cases h
   ·cases h
  | _=>exact nomatch (show(Option.none:Option D)=some d from h)
section
variable {prog:Program} {w:World} {A:Around} {E:Value->Shared->Prop}
theorem kY{it t:Addr}{xs:List Value}(apart:t≠it):∀ (more i:Nat) (s:Shared) (Q:List Value->Shared->Prop),s.heap.IsListIter it t i->s.heap.IsList t xs.toArray->i+more<=xs.length ->
  (∀ h',h'.IsListIter it t (i+more)->Heap.SameBut it s.heap h'->Q ((xs.drop i).take more) { s with heap:=h' })->wpAny (model prog w) A (draw (.ref it) more) Q E s
 | 0,i,s,Q,it0,_,_,q=>by
  show wpAny _ _ (pure []) _ _ _;exact G5z (by simpa using q s.heap it0 (Heap.SameBut.refl ..))
 | more+1,i,s,Q,it0,hl,hle,q=>by
  have lt:i<xs.length:=by omega
  show wpAny _ _ (pyNext (.ref it) >>=_) _ _ _;refine F5z (wpAny_pyNext_list_item it0 hl (x:=xs[i]) (by simp[lt]) fun h1 st1 sb1=>?_)
  have hl1:h1.IsList t xs.toArray:=by
   obtain⟨o,e,r⟩:=hl;exact⟨o,(sb1.2 t apart).trans e,r⟩
  refine F5z (G4z (kY apart more (i+1) _ _ st1 hl1 (by omega) fun h2 st2 sb2=>G5z ?_));have z:=q h2 (by rw[show i+(more+1)=i+1+more by omega];exact st2) (sb1.trans sb2);rw[G0z lt,List.take_succ_cons] at z;exact z
theorem lD{s:Shared}{t:Addr}{xs:List Value}{Q:List Value->Shared->Prop}(hh:A.handled=none)(hl:s.heap.IsList t xs.toArray)(q:∀ h',(∀ b o,s.heap.get? b=some o->h'.get? b=some o)->Q xs { s with heap:=h' }) :
  wpAny (model prog w) A (unpackItems (.ref t) xs.length none) Q E s:=by
 have apart:t≠s.heap.objs.size:=by obtain⟨o,e,_⟩:=hl;exact P4z (O4z e)
 have keep:∀ {h':Heap},(∀ b o,b≠s.heap.objs.size->s.heap.get? b=some o->h'.get? b=some o)->∀ b o,s.heap.get? b=some o->h'.get? b=some o:=fun k b o e=>k b o (P4z (O4z e)) e
 have pushed:∀ (n:Obj),(s.heap.push n).IsList t xs.toArray:=fun n=>by
  obtain⟨o,e,r⟩:=hl;exact⟨o,Heap.get?_push_of_some _ e,r⟩
 simp only[unpackItems,notIterableAtAll];refine F5z (F5z (wpAny_specialOf hl.typeIs PySem.slot_list_iter.lookup (G5z ?_)));simp only[Q1z,O5z,Option.isNone_some,Bool.not_true,X3z];refine F5z (G4z (wpAny_pyIter_list hl ?_));refine F5z (G4z (kY apart xs.length 0 _ _ ⟨_,Heap.get?_push_size _ rfl,rfl,rfl⟩ (pushed _) (by omega) fun h1 st1 sb1=>?_))
 have all:List.take xs.length (List.drop 0 xs)=xs:=by simp
 rw[all,S5z (by simp)]
 have hl1:h1.IsList t xs.toArray:=by
  obtain⟨o,e,r⟩:=pushed { cls:=.type "list_iterator",data:=.fields #[.ref t,.int 0 0] };exact⟨o,(sb1.2 t apart).trans e,r⟩
 refine F5z (G4z (wpAny_pyNext_list_end hh st1 hl1 (by simp) fun h2 eb=>?_));simp only[Option.isSome_none,Q1z,O5z];exact G5z (q h2 (keep fun b o hb e=>eb b o hb ((sb1.2 b hb).trans (Heap.get?_push_of_some _ e))))
end
section
variable {X:Cx} {es:List Expr} {k:Nat} {t:TGs} {n:Nat} {pos:Pos}
def gLst(K:Z3)(n:Nat)(t:TGs):TG:=fun v σ H Q=>∃ a xs,v=.ref a/\SqL K H a xs/\xs.length=n/\t xs σ H Q
theorem KR(hc:X.calm=true)(h:PGs X es t)(hn:(assignEach es X.env).length=n)(hst:(assignEach es X.env).findIdx? (·.1)=none):PG X (.Tuple es k pos) (gLst X.K n t):=by
 intro z0 s σ H v u Q I r hw;obtain⟨a,xs,rfl,hq,hl,hw⟩:=hw;cases (show u=Value.ref a from r);obtain⟨its,rv,pl,hz⟩:=I.list hq
 have e:(assignEach es X.env).length=its.length:=by rw[hn,<- hl,rv.length]
 rw[assign_Tuple];refine F5z (H4z ?_);unfold unpack;rw[hst,e];refine F5z (G4z (lD (I.ok.hd hc) pl.isList fun h' kp=>?_));exact h z0 _ σ H xs _ Q (I.kept (t':=s.toks) kp) rv hw
end
def OO(K:Z3)(H0 Hs H:Hp)(a:Addr)(bs:List Addr)(dss:List (List D)):Prop :=
  H a = some (.lst (bs.map V.ref)) /\ Hs a = none /\ H0 a = none /\ bs.Nodup /\ a ∉ bs /\ bs.length = dss.length /\
    ∀ (j:Nat) b,bs[j]?=some b->Hs b=none/\H0 b=none/\∃ ds us,dss[j]?=some ds/\H b=some (.lst us)/\aR K Hs ds us
def OD(K:Z3)(H0 Hs H:Hp)(a:Addr)(l:List (List Int×D)):Prop :=
 ∃ es o,H a=some (DtO a es o)/\Hs a=none/\H0 a=none/\es.map (·.1)=l.map (·.1)/\Keyed K Hs es/\aR K Hs (l.map (·.2)) (es.map (·.2.2))
structure Hd (K:Z3) (Hs0 H0 Hs H:Hp) (ρ:Rho) (σ:St):Prop where
 ext:Ext Hs0 H0 Hs H
 len:σ.length=ρ.length
 sh:cH K Hs ρ σ
 ow:∀ (i:Nat) (x:Str) (ds:List D),ρ[i]?=some (x,.ow ds)->∃ a vs,σ[i]?=some (some (.ref a))/\H a=some (.lst vs)/\aR K Hs ds vs/\Hs a=none/\H0 a=none
 dis:∀ (i j:Nat) (x y:Str) (ds es:List D) (a:Addr),i≠j->ρ[i]?=some (x,.ow ds)->ρ[j]?=some (y,.ow es)->σ[i]?=some (some (.ref a))->σ[j]?=some (some (.ref a))->False
 oo:∀ (i:Nat) (x:Str) (dss:List (List D)),ρ[i]?=some (x,.oo dss)->(∃ a bs,σ[i]?=some (some (.ref a))/\OO K H0 Hs H a bs dss)/\∀ (j:Nat) y s,j≠i->ρ[j]?=some (y,s)->qW s=true
 od:∀ (i:Nat) (x:Str) (l:List (List Int×D)),ρ[i]?=some (x,.od l)->(∃ a,σ[i]?=some (some (.ref a))/\OD K H0 Hs H a l)/\∀ (j:Nat) y s,j≠i->ρ[j]?=some (y,s)->qW s=true
section
variable {K:Z3} {Hs0 H0 Hs H Hs' H':Hp} {ρ:Rho} {σ:St}
theorem OO.step{a:Addr}{bs:List Addr}{dss:List (List D)}(h:OO K H0 Hs H a bs dss)(E:Ext Hs H Hs' H'):OO K H0 Hs' H' a bs dss:=by
 obtain⟨h1,h2,h3,h4,h5,h6,h7⟩:=h;refine⟨E.all _ _ h1,E.hid a _ h1 h2,h3,h4,h5,h6,fun j b e=>?_⟩;obtain⟨k1,k2,ds,us,k3,k4,k5⟩:=h7 j b e;exact⟨E.hid b _ k4 k1,k2,ds,us,k3,E.all _ _ k4,aR.same E.vis ds us k5⟩
theorem OD.step{a:Addr}{l:List (List Int×D)}(h:OD K H0 Hs H a l)(E:Ext Hs H Hs' H'):OD K H0 Hs' H' a l:=by
 obtain⟨es,o,h1,h2,h3,h4,h5,h6⟩:=h;exact⟨es,o,E.all _ _ h1,E.hid a _ h1 h2,h3,h4,h5.same fun q=>E.vis.tup q,aR.same E.vis _ _ h6⟩
theorem Hd.step(h:Hd K Hs0 H0 Hs H ρ σ)(E:Ext Hs H Hs' H'):Hd K Hs0 H0 Hs' H' ρ σ where
 ext:=h.ext.trans E
 len:=h.len
 sh:=h.sh.same E.vis
 ow:=fun i x ds e=>by
  obtain⟨a,vs,h1,h2,h3,h4,h5⟩:=h.ow i x ds e;exact⟨a,vs,h1,E.all _ _ h2,aR.same E.vis ds vs h3,E.hid a _ h2 h4,h5⟩
 dis:=h.dis
 oo:=fun i x dss e=>by
  obtain⟨⟨a,bs,h1,h2⟩,h3⟩:=h.oo i x dss e;exact⟨⟨a,bs,h1,h2.step E⟩,h3⟩
 od:=fun i x l e=>by
  obtain⟨⟨a,h1,h2⟩,h3⟩:=h.od i x l e;exact⟨⟨a,h1,h2.step E⟩,h3⟩
theorem fu{n:Nat}{e:Expr}{i:Nat}{x:Str}{s:Sl}(h:(frz n e ρ)[i]?=some (x,s)):(ρ[i]?=some (x,s)/\(qW s=false->dh n x e=false))\/(∃ ds,s=.sh (.lst ds)/\ρ[i]?=some (x,.ow ds)/\dh n x e=true)\/(∃ dss,s=.sh (.lst (dss.map .lst))/\ρ[i]?=some (x,.oo dss)/\dh n x e=true)\/∃ l,s=.sh (fK l)/\ρ[i]?=some (x,.od l)/\dh n x e=true:=by
 unfold frz at h;rw[List.getElem?_map] at h;obtain⟨⟨y,t⟩,h1,h2⟩:=Q0z.mp h
 cases t with
 | no=>simp at h2;obtain⟨rfl,rfl⟩:=h2;exact .inl ⟨h1,fun z=>nomatch z⟩
 | sh d=>simp at h2;obtain⟨rfl,rfl⟩:=h2;exact .inl ⟨h1,fun z=>nomatch z⟩
 | ow ds =>
  simp only at h2
  cases hm:dh n y e with
  | true =>
   rw[hm,R5z rfl] at h2;cases h2;exact .inr (.inl ⟨ds,rfl,h1,hm⟩)
  | false =>
   rw[hm] at h2;simp at h2;obtain⟨rfl,rfl⟩:=h2;exact .inl ⟨h1,fun _=>hm⟩
 | oo dss =>
  simp only at h2
  cases hm:dh n y e with
  | true =>
   rw[hm,R5z rfl] at h2;cases h2;exact .inr (.inr (.inl ⟨dss,rfl,h1,hm⟩))
  | false =>
   rw[hm] at h2;simp at h2;obtain⟨rfl,rfl⟩:=h2;exact .inl ⟨h1,fun _=>hm⟩
 | od l =>
  simp only at h2
  cases hm:dh n y e with
  | true =>
   rw[hm,R5z rfl] at h2;cases h2;exact .inr (.inr (.inr ⟨l,rfl,h1,hm⟩))
  | false =>
   rw[hm] at h2;simp at h2;obtain⟨rfl,rfl⟩:=h2;exact .inl ⟨h1,fun _=>hm⟩
theorem aY(n:Nat)(e:Expr):(frz n e ρ).map (·.1)=ρ.map (·.1):=by
 unfold frz;rw[X4z];apply I1z;intro p _;obtain⟨x,s⟩:=p
 cases s<;>simp<;>(split<;>rfl)
theorem aR.get_of{K:Z3}{H:Hp}:∀ {ds:List D} {vs:List V},ds.length=vs.length->(∀ (j:Nat) d v,ds[j]?=some d->vs[j]?=some v->Rep K H d v)->aR K H ds vs
 | [],[],_,_=>.nil
 | [],_::_,h,_=>by simp at h
 | _::_,[],h,_=>by simp at h
 | d::ds,v::vs,h,q=>.cons (q 0 d v rfl rfl) (aR.get_of (by simpa using h) fun j d' v' e1 e2=>q (j+1) d' v' (by simpa using e1) (by simpa using e2))
theorem OO.mem{a b:Addr}{bs:List Addr}{dss:List (List D)}(h:OO K H0 Hs H a bs dss)(hb:b∈bs):Hs b=none/\H0 b=none:=by
 obtain⟨j,e⟩:=List.mem_iff_getElem?.mp hb;obtain⟨k1,k2,_⟩:=h.2.2.2.2.2.2 j b e;exact⟨k1,k2⟩
def Lx:HO->Prop
 | .lst _=>True
 | .ext _=>True
 | _=>False
open Classical in
theorem Hd.frozen2(n:Nat)(e:Expr)(h:Hd K Hs0 H0 Hs H ρ σ):∃ Hs1,Same Hs Hs1/\(∀ b o,Hs1 b=some o->Hs b=some o\/Lx o)/\Hd K Hs0 H0 Hs1 H (frz n e ρ) σ:=by
 let Fo:Addr->Prop:=fun b=>∃ (i:Nat) (x:Str) (ds:List D),ρ[i]?=some (x,Sl.ow ds)/\dh n x e=true/\σ[i]?=some (some (V.ref b))
 let Fb:Addr->Prop:=fun b=>(∃ (i:Nat) (x:Str) (dss:List (List D)) (a:Addr) (bs:List Addr),ρ[i]?=some (x,Sl.oo dss)/\dh n x e=true/\σ[i]?=some (some (V.ref a))/\OO K H0 Hs H a bs dss/\(b=a\/b∈bs))\/∃ (i:Nat) (x:Str) (l:List (List Int×D)),ρ[i]?=some (x,Sl.od l)/\dh n x e=true/\σ[i]?=some (some (V.ref b))
 let Hs1:Hp:=fun b=>if Fo b\/Fb b then H b else Hs b
 have vis:Same Hs Hs1:=fun b o q=>by
  show(if Fo b\/Fb b then H b else Hs b)=some o;split
  ·exact h.ext.sub b o q
  ·exact q
 have sub:Same Hs1 H:=fun b o q=>by
  have q':(if Fo b\/Fb b then H b else Hs b)=some o:=q;split at q'
  ·exact q'
  ·exact h.ext.sub b o q'
 have fz0:∀ b,Fo b\/Fb b->H0 b=none/\Hs b=none:=fun b hb=>by
  rcases hb with⟨i,x,ds,g1,_,g3⟩ | ⟨i,x,dss,a,bs,g1,_,g3,g4,g5⟩ | ⟨i,x,l,g1,_,g3⟩
  ·obtain⟨a,vs,k1,k2,k3,k4,k5⟩:=h.ow i x ds g1
   rw[k1] at g3;cases g3;exact⟨k5,k4⟩
  ·rcases g5 with rfl | g5
   ·exact⟨g4.2.2.1,g4.2.1⟩
   ·exact⟨(g4.mem g5).2,(g4.mem g5).1⟩
  ·obtain⟨⟨a,k1,es,o,k2,k4,k5,_⟩,_⟩:=h.od i x l g1
   rw[k1] at g3;cases g3;exact⟨k5,k4⟩
 have shp:∀ b o,Hs1 b=some o->Hs b=some o\/Lx o:=fun b o q=>by
  have q':(if Fo b\/Fb b then H b else Hs b)=some o:=q;split at q'
  ·rename_i f
   rcases f with⟨i,x,ds,g1,_,g3⟩ | ⟨i,x,dss,a,bs,g1,_,g3,g4,g5⟩ | ⟨i,x,l,g1,_,g3⟩
   ·obtain⟨a,vs,k1,k2,k3,k4,k5⟩:=h.ow i x ds g1
    rw[k1] at g3;cases g3;rw[k2] at q';cases q';exact .inr trivial
   ·rcases g5 with rfl | g5
    ·rw[g4.1] at q'
     cases q';exact .inr trivial
    ·obtain⟨j,ej⟩:=List.mem_iff_getElem?.mp g5
     obtain⟨_,_,_,us,_,m4,_⟩:=g4.2.2.2.2.2.2 j b ej;rw[m4] at q';cases q';exact .inr trivial
   ·obtain⟨⟨a,k1,es,ob,k2,_⟩,_⟩:=h.od i x l g1
    rw[k1] at g3;cases g3;rw[k2] at q';cases q';exact .inr trivial
  ·exact .inl q'
 refine⟨Hs1,vis,shp,⟨h.ext.vis.trans vis,h.ext.all,sub,fun b o q z=>?_⟩,by rw[h.len];simp[frz],fun i x d q=>?_,fun i x ds q=>?_,fun i j x y ds es a hij q1 q2=>?_,fun i x dss q=>?_,fun i x l q=>?_⟩
 ·show(if Fo b\/Fb b then H b else Hs b)=none
  rw[S5z fun f=>by rw[(fz0 b f).1] at q;cases q]
  exact h.ext.hid b o q z
 ·rcases fu q with⟨q,_⟩ | ⟨ds,e1,q2,hm⟩ | ⟨dss,e1,q2,hm⟩ | ⟨l,e1,q2,hm⟩
  ·obtain⟨v,k1,k2⟩:=h.sh i x d q
   exact⟨v,k1,Rep.same vis d v k2⟩
  ·cases e1
   obtain⟨a,vs,k1,k2,k3,k4,k5⟩:=h.ow i x ds q2;refine⟨_,k1,?_⟩;simp only[Rep];refine⟨a,vs,rfl,.of ?_,aR.same vis ds vs k3⟩;show(if Fo a\/Fb a then H a else Hs a)=_;rw[R5z (.inl ⟨i,x,ds,q2,hm,k1⟩)];exact k2
  ·cases e1
   obtain⟨⟨a,bs,k1,k2⟩,_⟩:=h.oo i x dss q2;refine⟨_,k1,?_⟩;simp only[Rep];refine⟨a,bs.map V.ref,rfl,.of ?_,?_⟩
   ·show(if Fo a\/Fb a then H a else Hs a)=_
    rw[R5z (.inr (.inl ⟨i,x,dss,a,bs,q2,hm,k1,k2,.inl rfl⟩))];exact k2.1
   ·refine aR.get_of (by rw[G3z,G3z,k2.2.2.2.2.2.1]) fun j d v g1 g2=>?_
    rw[List.getElem?_map] at g1 g2;obtain⟨es,g3,rfl⟩:=Q0z.mp g1;obtain⟨b,g4,rfl⟩:=Q0z.mp g2;obtain⟨_,_,ds,us,m3,m4,m5⟩:=k2.2.2.2.2.2.2 j b g4;rw[g3] at m3;cases m3;simp only[Rep];refine⟨b,us,rfl,.of ?_,aR.same vis es us m5⟩;show(if Fo b\/Fb b then H b else Hs b)=_;rw[R5z (.inr (.inl ⟨i,x,dss,a,bs,q2,hm,k1,k2,.inr (List.mem_of_getElem? g4)⟩))];exact m4
  ·cases e1
   obtain⟨⟨a,k1,es,o,k2,k3,k4,k5,k6,k7⟩,_⟩:=h.od i x l q2;refine⟨_,k1,?_⟩;simp only[fK,Rep];refine⟨a,es,o,rfl,?_,k5,k6.same fun q=>vis.tup q,aR.same vis _ _ k7⟩;show(if Fo a\/Fb a then H a else Hs a)=_;rw[R5z (.inr (.inr ⟨i,x,l,q2,hm,k1⟩))];exact k2
 ·rcases fu q with⟨q,hm⟩ | ⟨ds',e1,q,hm⟩ | ⟨ds',e1,q,hm⟩ | ⟨ds',e1,q,hm⟩
  ·obtain⟨a,vs,k1,k2,k3,k4,k5⟩:=h.ow i x ds q
   refine⟨a,vs,k1,k2,aR.same vis ds vs k3,?_,k5⟩;show(if Fo a\/Fb a then H a else Hs a)=none;rw[S5z]
   ·exact k4
   ·rintro(⟨j,y,es,g1,g2,g3⟩ | ⟨j,y,dss,_,_,g1,_⟩ | ⟨j,y,l,g1,_⟩)
    ·by_cases hij:i=j
     ·subst hij
      rw[q] at g1;cases g1;rw[hm rfl] at g2;cases g2
     ·exact h.dis i j x y ds es a hij q g1 k1 g3
    ·by_cases hij:i=j
     ·subst hij
      rw[q] at g1;cases g1
     ·exact nomatch (h.oo j y dss g1).2 i x _ hij q
    ·by_cases hij:i=j
     ·subst hij
      rw[q] at g1;cases g1
     ·exact nomatch (h.od j y l g1).2 i x _ hij q
  ·cases e1
  ·cases e1
  ·cases e1
 ·rcases fu q1 with⟨q1,_⟩ | ⟨ds',e1,_⟩ | ⟨ds',e1,_⟩ | ⟨ds',e1,_⟩
  ·rcases fu q2 with⟨q2,_⟩ | ⟨ds',e1,_⟩ | ⟨ds',e1,_⟩ | ⟨ds',e1,_⟩
   ·exact h.dis i j x y ds es a hij q1 q2
   ·cases e1
   ·cases e1
   ·cases e1
  ·cases e1
  ·cases e1
  ·cases e1
 ·rcases fu q with⟨q,hm⟩ | ⟨ds',e1,_⟩ | ⟨ds',e1,_⟩ | ⟨ds',e1,_⟩
  ·obtain⟨⟨a,bs,k1,k2⟩,k3⟩:=h.oo i x dss q
   have nf:∀ b,¬ (Fo b\/Fb b):=by
    rintro b (⟨j,y,es,g1,_⟩ | ⟨j,y,dss',_,_,g1,g2,_⟩ | ⟨j,y,l,g1,_⟩)
    ·by_cases hij:j=i
     ·subst hij
      rw[q] at g1;cases g1
     ·exact nomatch k3 j y _ hij g1
    ·by_cases hij:j=i
     ·subst hij
      rw[q] at g1;cases g1;rw[hm rfl] at g2;cases g2
     ·exact nomatch k3 j y _ hij g1
    ·by_cases hij:j=i
     ·subst hij
      rw[q] at g1;cases g1
     ·exact nomatch k3 j y _ hij g1
   have sm:∀ b,Hs1 b=Hs b:=fun b=>by
    show(if Fo b\/Fb b then H b else Hs b)=_;rw[S5z (nf b)]
   refine⟨⟨a,bs,k1,k2.1,by rw[sm];exact k2.2.1,k2.2.2.1,k2.2.2.2.1,k2.2.2.2.2.1,k2.2.2.2.2.2.1,fun j b g=>?_⟩,fun j y s hj g=>?_⟩
   ·obtain⟨m1,m2,ds,us,m3,m4,m5⟩:=k2.2.2.2.2.2.2 j b g
    exact⟨by rw[sm];exact m1,m2,ds,us,m3,m4,aR.same vis ds us m5⟩
   ·rcases fu g with⟨g,_⟩ | ⟨_,e1,_⟩ | ⟨_,e1,_⟩ | ⟨_,e1,_⟩
    ·exact k3 j y s hj g
    ·rw[e1];rfl
    ·rw[e1];rfl
    ·rw[e1];rfl
  ·cases e1
  ·cases e1
  ·cases e1
 ·rcases fu q with⟨q,hm⟩ | ⟨ds',e1,_⟩ | ⟨ds',e1,_⟩ | ⟨ds',e1,_⟩
  ·obtain⟨⟨a,k1,es,o,k2,m1,m2,m3,m4,m5⟩,k3⟩:=h.od i x l q
   have nf:¬ (Fo a\/Fb a):=by
    rintro(⟨j,y,es,g1,_⟩ | ⟨j,y,dss',_,_,g1,g2,_⟩ | ⟨j,y,l',g1,g2,_⟩)
    ·by_cases hij:j=i
     ·subst hij
      rw[q] at g1;cases g1
     ·exact nomatch k3 j y _ hij g1
    ·by_cases hij:j=i
     ·subst hij
      rw[q] at g1;cases g1
     ·exact nomatch k3 j y _ hij g1
    ·by_cases hij:j=i
     ·subst hij
      rw[q] at g1;cases g1;rw[hm rfl] at g2;cases g2
     ·exact nomatch k3 j y _ hij g1
   refine⟨⟨a,k1,es,o,k2,?_,m2,m3,m4.same fun q=>vis.tup q,aR.same vis _ _ m5⟩,fun j y s hj g=>?_⟩
   ·show(if Fo a\/Fb a then H a else Hs a)=none
    rw[S5z nf];exact m1
   ·rcases fu g with⟨g,_⟩ | ⟨_,e1,_⟩ | ⟨_,e1,_⟩ | ⟨_,e1,_⟩
    ·exact k3 j y s hj g
    ·rw[e1];rfl
    ·rw[e1];rfl
    ·rw[e1];rfl
  ·cases e1
  ·cases e1
  ·cases e1
theorem Hd.frozen(n:Nat)(e:Expr)(h:Hd K Hs0 H0 Hs H ρ σ):∃ Hs1,Same Hs Hs1/\Hd K Hs0 H0 Hs1 H (frz n e ρ) σ :=
 let ⟨Hs1,a,_,b⟩:=h.frozen2 n e
 ⟨Hs1,a,b⟩
def flH(Hs H Hs':Hp):Hp:=fun b=>match Hs b with
 | some o=>some o
 | none=>match H b with
  | some _=>none
  | none=>match Hs' b with
   | some (.tup vs)=>some (.tup vs)
   | some (.frz o (.tup vs))=>some (.frz o (.tup vs))
   | _=>none
mutual
theorem tH{Hs H Hs1 Hs' H':Hp}(vis:Same Hs Hs1)(shp:∀ b o,Hs1 b=some o->Hs b=some o\/Lx o)(E:Ext Hs1 H Hs' H'):∀ (d:D) (v:V),fB d=true->Rep K Hs' d v->Rep K (flH Hs H Hs') d v
 | .non,v,_,r=>by simpa[Rep] using r
 | .bl b,v,_,r=>by simpa[Rep] using r
 | .int i,v,_,r=>by simpa[Rep] using r
 | .str x,v,_,r=>by simpa[Rep] using r
 | .lst _,v,h,_=>by simp[fB] at h
 | .exc _,v,h,_=>by simp[fB] at h
 | .dic _ _,v,h,_=>by simp[fB] at h
 | .dt _ _,v,h,_=>by simp[fB] at h
 | .tup ds,v,h,r=>by
  simp only[fB] at h;simp only[Rep] at r ⊢;obtain⟨p,ws,rfl,h1,h2⟩:=r;refine⟨p,ws,rfl,?_,jN vis shp E ds ws h h2⟩
  have fin:∀ u:HO,Hs' p=some u->¬ Lx u->Hs p=some u\/(Hs p=none/\H p=none):=fun u hu hnl=>by
   cases hp:Hs p with
   | some u' =>
    have:=E.vis _ _ (vis _ _ hp);rw[hu] at this;exact .inl this.symm
   | none =>
    have h1n:Hs1 p=none:=by
     cases q:Hs1 p with
     | none=>rfl
     | some o =>
      rcases shp p o q with z | z
      ·rw[hp] at z;cases z
      ·have:=E.vis _ _ q
       rw[hu] at this;cases this;exact absurd z hnl
    refine .inr ⟨rfl,?_⟩
    cases q:H p with
    | none=>rfl
    | some o=>have:=E.hid p o q h1n;rw[hu] at this;cases this
  rcases h1 with(h1 | ⟨o,h1⟩) | h1
  ·refine .inl (.inl ?_)
   rcases fin _ h1 (fun z=>z) with z | ⟨z1,z2⟩
   ·simp only[flH,z]
   ·simp only[flH,z1,z2,h1]
  ·refine .inl (.inr ⟨o,?_⟩)
   rcases fin _ h1 (fun z=>z) with z | ⟨z1,z2⟩
   ·simp only[flH,z]
   ·simp only[flH,z1,z2,h1]
  ·exact .inr h1
theorem jN{Hs H Hs1 Hs' H':Hp}(vis:Same Hs Hs1)(shp:∀ b o,Hs1 b=some o->Hs b=some o\/Lx o)(E:Ext Hs1 H Hs' H'):∀ (ds:List D) (vs:List V),gR ds=true->aR K Hs' ds vs->aR K (flH Hs H Hs') ds vs
 | [],vs,_,r=>by simpa[aR] using r
 | d::ds,vs,h,r=>by
  simp only[gR,K2z] at h;simp only[aR] at r ⊢;obtain⟨w,r',rfl,h1,h2⟩:=r;exact⟨w,r',rfl,tH vis shp E d w h.1 h1,jN vis shp E ds r' h.2 h2⟩
end
theorem oZ{Hs1 Hs' H':Hp}{d:D}{v:V}(hs:Same Hs H)(vis:Same Hs Hs1)(shp:∀ b o,Hs1 b=some o->Hs b=some o\/Lx o)(E:Ext Hs1 H Hs' H')(hd:fB d=true)(r:Rep K Hs' d v):∃ Hs3,Ext Hs H Hs3 H'/\Rep K Hs3 d v:=by
 refine⟨flH Hs H Hs',⟨fun b o q=>by simp only[flH,q],E.all,fun b o q=>?_,fun b o q z=>by simp only[flH,z,q]⟩,tH vis shp E d v hd r⟩;unfold flH at q;split at q
 ·rename_i o' e;cases q;exact E.all _ _ (hs _ _ e)
 ·split at q
  ·cases q
  ·split at q
   ·rename_i e;cases q;exact E.sub _ _ e
   ·rename_i e;cases q;exact E.sub _ _ e
   ·cases q
theorem uX{Hs1 Hs' H':Hp}{d:List D}{v:List V}(hs:Same Hs H)(vis:Same Hs Hs1)(shp:∀ b o,Hs1 b=some o->Hs b=some o\/Lx o)(E:Ext Hs1 H Hs' H')(hd:gR d=true)(r:aR K Hs' d v):∃ Hs3,Ext Hs H Hs3 H'/\aR K Hs3 d v:=by
 refine⟨flH Hs H Hs',⟨fun b o q=>by simp only[flH,q],E.all,fun b o q=>?_,fun b o q z=>by simp only[flH,z,q]⟩,jN vis shp E d v hd r⟩;unfold flH at q;split at q
 ·rename_i o' e;cases q;exact E.all _ _ (hs _ _ e)
 ·split at q
  ·cases q
  ·split at q
   ·rename_i e;cases q;exact E.sub _ _ e
   ·rename_i e;cases q;exact E.sub _ _ e
   ·cases q
theorem Hd.set{x:Str}{i:Nat}{d:D}{v:V}(h:Hd K Hs0 H0 Hs H ρ σ)(hn:(ρ.map (·.1)).Nodup)(hi:(ρ.map (·.1))[i]?=some x)(r:Rep K Hs d v):Hd K Hs0 H0 Hs H (cC ρ x (.sh d)) (σ.set i (some v)):=by
 have hl:i<σ.length:=by have:=(List.getElem?_eq_some_iff.mp hi).1;rw[h.len];simpa using this
 refine⟨h.ext,by rw[H3z,h.len];have:=congrArg List.length (aM ρ x (.sh d));simpa using this.symm,n8 hn hi hl h.sh r,fun j y ds e=>?_,fun j j' y y' ds es a hjj e1 e2 e3 e4=>?_,fun j y dss e=>?_,fun j y lq e=>?_⟩
 ·rw[aD hn hi j] at e
  split at e
  ·cases e
  ·rename_i hj
   obtain⟨a,vs,k1,k⟩:=h.ow j y ds e;exact⟨a,vs,by rw[List.getElem?_set_ne (fun z=>hj z.symm)];exact k1,k⟩
 ·rw[aD hn hi] at e1 e2
  split at e1
  ·cases e1
  ·rename_i hj
   split at e2
   ·cases e2
   ·rename_i hj'
    rw[List.getElem?_set_ne (fun z=>hj z.symm)] at e3;rw[List.getElem?_set_ne (fun z=>hj' z.symm)] at e4;exact h.dis j j' y y' ds es a hjj e1 e2 e3 e4
 ·rw[aD hn hi j] at e
  split at e
  ·cases e
  ·rename_i hj
   obtain⟨⟨a,bs,k1,k2⟩,k3⟩:=h.oo j y dss e;refine⟨⟨a,bs,by rw[List.getElem?_set_ne (fun z=>hj z.symm)];exact k1,k2⟩,fun l z s hl' g=>?_⟩;rw[aD hn hi l] at g;split at g
   ·cases g;rfl
   ·exact k3 l z s hl' g
 ·rw[aD hn hi j] at e
  split at e
  ·cases e
  ·rename_i hj
   obtain⟨⟨a,k1,k2⟩,k3⟩:=h.od j y lq e;refine⟨⟨a,by rw[List.getElem?_set_ne (fun z=>hj z.symm)];exact k1,k2⟩,fun l z s hl' g=>?_⟩;rw[aD hn hi l] at g;split at g
   ·cases g;rfl
   ·exact k3 l z s hl' g
theorem Hd.own{x:Str}{i:Nat}{ds:List D}{vs:List V}{acc:Addr}(h:Hd K Hs0 H0 Hs H ρ σ)(hn:(ρ.map (·.1)).Nodup)(hi:(ρ.map (·.1))[i]?=some x)(h1:H acc=some (.lst vs))(r:aR K Hs ds vs)(h2:Hs acc=none)(h3:H0 acc=none)
  (no:∀ (j:Nat) y s,j≠i->ρ[j]?=some (y,s)->JB s=true->False) (ap:∀ (j:Nat) y es,j≠i->ρ[j]?=some (y,.ow es)->σ[j]?=some (some (.ref acc))->False):Hd K Hs0 H0 Hs H (cC ρ x (.ow ds)) (σ.set i (some (.ref acc))):=by
 have hl:i<σ.length:=by have:=(List.getElem?_eq_some_iff.mp hi).1;rw[h.len];simpa using this
 refine⟨h.ext,by rw[H3z,h.len];have:=congrArg List.length (aM ρ x (.ow ds));simpa using this.symm,fun j y d e=>?_,fun j y es e=>?_,fun j j' y y' ds' es a hjj e1 e2 e3 e4=>?_,fun j y dss e=>?_,fun j y lq e=>?_⟩
 ·rw[aD hn hi j] at e
  split at e
  ·cases e
  ·rename_i hj
   obtain⟨v,k1,k2⟩:=h.sh j y d e;exact⟨v,by rw[List.getElem?_set_ne (fun z=>hj z.symm)];exact k1,k2⟩
 ·rw[aD hn hi j] at e
  split at e
  ·rename_i hj
   subst hj;cases e;exact⟨acc,vs,by rw[List.getElem?_set_self hl],h1,r,h2,h3⟩
  ·rename_i hj
   obtain⟨a,vs',k1,k⟩:=h.ow j y es e;exact⟨a,vs',by rw[List.getElem?_set_ne (fun z=>hj z.symm)];exact k1,k⟩
 ·rw[aD hn hi] at e1 e2
  split at e1
  ·rename_i hj
   split at e2
   ·rename_i hj'
    exact hjj (hj.trans hj'.symm)
   ·rename_i hj'
    subst hj;rw[List.getElem?_set_self hl] at e3;cases e3;rw[List.getElem?_set_ne (fun z=>hj' z.symm)] at e4;exact ap j' y' es hj' e2 e4
  ·rename_i hj
   split at e2
   ·rename_i hj'
    subst hj';rw[List.getElem?_set_self hl] at e4;cases e4;rw[List.getElem?_set_ne (fun z=>hj z.symm)] at e3;exact ap j y ds' hj e1 e3
   ·rename_i hj'
    rw[List.getElem?_set_ne (fun z=>hj z.symm)] at e3;rw[List.getElem?_set_ne (fun z=>hj' z.symm)] at e4;exact h.dis j j' y y' ds' es a hjj e1 e2 e3 e4
 ·rw[aD hn hi j] at e
  split at e
  ·cases e
  ·rename_i hj
   exact(no j y _ hj e rfl).elim
 ·rw[aD hn hi j] at e
  split at e
  ·cases e
  ·rename_i hj
   exact(no j y _ hj e rfl).elim
theorem Hd.app{x:Str}{i:Nat}{ds es:List D}{vs:List V}{a:Addr}(h:Hd K Hs0 H0 Hs H ρ σ)(hn:(ρ.map (·.1)).Nodup)(hi:ρ[i]?=some (x,.ow ds))(hσ:σ[i]?=some (some (.ref a)))(r:aR K Hs es vs):Hd K Hs0 H0 Hs (upd H a (.lst vs)) (cC ρ x (.ow es)) σ:=by
 obtain⟨a',vs',k1,k2,k3,k4,k5⟩:=h.ow i x ds hi;rw[hσ] at k1;cases k1
 have hi':(ρ.map (·.1))[i]?=some x:=by rw[List.getElem?_map,hi];rfl
 refine⟨Ext.acc h.ext k5 k4,by rw[h.len];have:=congrArg List.length (aM ρ x (.ow es));simpa using this.symm,fun j y d e=>?_,fun j y es' e=>?_,fun j j' y y' ds' es' b hjj e1 e2 e3 e4=>?_,fun j y dss e=>?_,fun j y lq e=>?_⟩
 ·rw[aD hn hi' j] at e
  split at e
  ·cases e
  ·exact h.sh j y d e
 ·rw[aD hn hi' j] at e
  split at e
  ·rename_i hj
   subst hj;cases e;exact⟨a,vs,hσ,aX,r,k4,k5⟩
  ·rename_i hj
   obtain⟨b,us,g1,g2,g⟩:=h.ow j y es' e;refine⟨b,us,g1,?_,g⟩;rw[aO]
   ·exact g2
   ·rintro rfl
    exact h.dis j i y x es' ds b hj e hi g1 hσ
 ·rw[aD hn hi'] at e1 e2
  split at e1
  ·rename_i hj
   split at e2
   ·rename_i hj'
    exact hjj (hj.trans hj'.symm)
   ·subst hj
    exact h.dis j j' x y' ds es' b hjj hi e2 e3 e4
  ·split at e2
   ·rename_i hj'
    subst hj';exact h.dis j j' y x ds' ds b hjj e1 hi e3 e4
   ·exact h.dis j j' y y' ds' es' b hjj e1 e2 e3 e4
 ·rw[aD hn hi' j] at e
  split at e
  ·cases e
  ·rename_i hj
   exact nomatch (h.oo j y dss e).2 i x _ (fun w=>hj w.symm) hi
 ·rw[aD hn hi' j] at e
  split at e
  ·cases e
  ·rename_i hj
   exact nomatch (h.od j y lq e).2 i x _ (fun w=>hj w.symm) hi
theorem rY{x:Str}{i:Nat}(hn:(ρ.map (·.1)).Nodup)(hi:(ρ.map (·.1))[i]?=some x)(h:mG ρ x=true):∀ (j:Nat) y s,j≠i->ρ[j]?=some (y,s)->qW s=true:=fun j y s hj e=>by
 have:=W2z.mp h _ (List.mem_of_getElem? e);rw[O3z] at this;rcases this with q | q
 ·exfalso
  have ey:y=x:=by simpa using q
  have e':(ρ.map (·.1))[j]?=some x:=by rw[List.getElem?_map,e,<- ey];rfl
  exact hj ((List.getElem?_inj (List.getElem?_eq_some_iff.mp e').1 hn).mp (e'.trans hi.symm))
 ·exact q
theorem Hq{x:Str}{i:Nat}(hn:(ρ.map (·.1)).Nodup)(hi:(ρ.map (·.1))[i]?=some x)(h:qF ρ x=true):∀ (j:Nat) y s,j≠i->ρ[j]?=some (y,s)->JB s=true->False:=fun j y s hj e ho=>by
 have:=W2z.mp h _ (List.mem_of_getElem? e);rw[O3z] at this;rcases this with q | q
 ·have ey:y=x:=by simpa using q
  have e':(ρ.map (·.1))[j]?=some x:=by rw[List.getElem?_map,e,<- ey];rfl
  exact hj ((List.getElem?_inj (List.getElem?_eq_some_iff.mp e').1 hn).mp (e'.trans hi.symm))
 ·rw[ho] at q;exact nomatch q
theorem Hd.own2{x:Str}{i:Nat}{dss:List (List D)}{a:Addr}{bs:List Addr}(h:Hd K Hs0 H0 Hs H ρ σ)(hn:(ρ.map (·.1)).Nodup)(hi:(ρ.map (·.1))[i]?=some x)(o:OO K H0 Hs H a bs dss)(no:∀ (j:Nat) y s,j≠i->ρ[j]?=some (y,s)->qW s=true):Hd K Hs0 H0 Hs H (cC ρ x (.oo dss)) (σ.set i (some (.ref a))):=by
 have hl:i<σ.length:=by have:=(List.getElem?_eq_some_iff.mp hi).1;rw[h.len];simpa using this
 refine⟨h.ext,by rw[H3z,h.len];have:=congrArg List.length (aM ρ x (.oo dss));simpa using this.symm,fun j y d e=>?_,fun j y es e=>?_,fun j j' y y' ds' es a hjj e1 e2 e3 e4=>?_,fun j y dss' e=>?_,fun j y lq e=>?_⟩
 ·rw[aD hn hi j] at e
  split at e
  ·cases e
  ·rename_i hj
   obtain⟨v,k1,k2⟩:=h.sh j y d e;exact⟨v,by rw[List.getElem?_set_ne (fun z=>hj z.symm)];exact k1,k2⟩
 ·rw[aD hn hi j] at e
  split at e
  ·cases e
  ·rename_i hj
   exact nomatch no j y _ hj e
 ·rw[aD hn hi] at e1
  split at e1
  ·cases e1
  ·rename_i hj
   exact nomatch no j y _ hj e1
 ·rw[aD hn hi j] at e
  split at e
  ·rename_i hj
   subst hj;cases e;refine⟨⟨a,bs,by rw[List.getElem?_set_self hl],o⟩,fun l z s hl' g=>?_⟩;rw[aD hn hi l,S5z hl'] at g;exact no l z s hl' g
  ·rename_i hj
   exact nomatch no j y _ hj e
 ·rw[aD hn hi j] at e
  split at e
  ·cases e
  ·rename_i hj
   exact nomatch no j y _ hj e
theorem Hd.app2{x:Str}{i:Nat}{dss dss':List (List D)}{a c:Addr}{bs':List Addr}{vs:List V}(h:Hd K Hs0 H0 Hs H ρ σ)(hn:(ρ.map (·.1)).Nodup)(hi:ρ[i]?=some (x,.oo dss))(hσ:σ[i]?=some (some (.ref a)))(c1:Hs c=none)(c2:H0 c=none)(o:OO K H0 Hs (upd H c (.lst vs)) a bs' dss'):Hd K Hs0 H0 Hs (upd H c (.lst vs)) (cC ρ x (.oo dss')) σ:=by
 have hi':(ρ.map (·.1))[i]?=some x:=by rw[List.getElem?_map,hi];rfl
 obtain⟨_,no⟩:=h.oo i x dss hi;refine⟨Ext.acc h.ext c2 c1,by rw[h.len];have:=congrArg List.length (aM ρ x (.oo dss'));simpa using this.symm,fun j y d e=>?_,fun j y es e=>?_,fun j j' y y' ds' es a hjj e1 e2 e3 e4=>?_,fun j y dss'' e=>?_,fun j y lq e=>?_⟩
 ·rw[aD hn hi' j] at e
  split at e
  ·cases e
  ·exact h.sh j y d e
 ·rw[aD hn hi' j] at e
  split at e
  ·cases e
  ·rename_i hj
   exact nomatch no j y _ hj e
 ·rw[aD hn hi'] at e1
  split at e1
  ·cases e1
  ·rename_i hj
   exact nomatch no j y _ hj e1
 ·rw[aD hn hi' j] at e
  split at e
  ·rename_i hj
   subst hj;cases e;refine⟨⟨a,bs',hσ,o⟩,fun l z s hl' g=>?_⟩;rw[aD hn hi' l,S5z hl'] at g;exact no l z s hl' g
  ·rename_i hj
   exact nomatch no j y _ hj e
 ·rw[aD hn hi' j] at e
  split at e
  ·cases e
  ·rename_i hj
   exact nomatch no j y _ hj e
theorem Hd.ownD{x:Str}{i:Nat}{l:List (List Int×D)}{a:Addr}(h:Hd K Hs0 H0 Hs H ρ σ)(hn:(ρ.map (·.1)).Nodup)(hi:(ρ.map (·.1))[i]?=some x)(o:OD K H0 Hs H a l)(no:∀ (j:Nat) y s,j≠i->ρ[j]?=some (y,s)->qW s=true):Hd K Hs0 H0 Hs H (cC ρ x (.od l)) (σ.set i (some (.ref a))):=by
 have hl:i<σ.length:=by have:=(List.getElem?_eq_some_iff.mp hi).1;rw[h.len];simpa using this
 refine⟨h.ext,by rw[H3z,h.len];have:=congrArg List.length (aM ρ x (.od l));simpa using this.symm,fun j y d e=>?_,fun j y es e=>?_,fun j j' y y' ds' es a hjj e1 e2 e3 e4=>?_,fun j y dss' e=>?_,fun j y lq e=>?_⟩
 ·rw[aD hn hi j] at e
  split at e
  ·cases e
  ·rename_i hj
   obtain⟨v,k1,k2⟩:=h.sh j y d e;exact⟨v,by rw[List.getElem?_set_ne (fun z=>hj z.symm)];exact k1,k2⟩
 ·rw[aD hn hi j] at e
  split at e
  ·cases e
  ·rename_i hj
   exact nomatch no j y _ hj e
 ·rw[aD hn hi] at e1
  split at e1
  ·cases e1
  ·rename_i hj
   exact nomatch no j y _ hj e1
 ·rw[aD hn hi j] at e
  split at e
  ·cases e
  ·rename_i hj
   exact nomatch no j y _ hj e
 ·rw[aD hn hi j] at e
  split at e
  ·rename_i hj
   subst hj;cases e;refine⟨⟨a,by rw[List.getElem?_set_self hl],o⟩,fun m z s hl' g=>?_⟩;rw[aD hn hi m,S5z hl'] at g;exact no m z s hl' g
  ·rename_i hj
   exact nomatch no j y _ hj e
theorem Hd.appD{x:Str}{i:Nat}{l l':List (List Int×D)}{a:Addr}{u:HO}(h:Hd K Hs0 H0 Hs H ρ σ)(hn:(ρ.map (·.1)).Nodup)(hi:ρ[i]?=some (x,.od l))(hσ:σ[i]?=some (some (.ref a)))(c1:Hs a=none)(c2:H0 a=none)(o:OD K H0 Hs (upd H a u) a l'):Hd K Hs0 H0 Hs (upd H a u) (cC ρ x (.od l')) σ:=by
 have hi':(ρ.map (·.1))[i]?=some x:=by rw[List.getElem?_map,hi];rfl
 obtain⟨_,no⟩:=h.od i x l hi;refine⟨⟨h.ext.vis,fun b w q=>by rw[aO (aK q c2)];exact h.ext.all b w q,fun b w q=>by rw[aO (aK q c1)];exact h.ext.sub b w q,h.ext.hid⟩,by rw[h.len];have:=congrArg List.length (aM ρ x (.od l'));simpa using this.symm,fun j y d e=>?_,fun j y es e=>?_,fun j j' y y' ds' es a hjj e1 e2 e3 e4=>?_,fun j y dss'' e=>?_,fun j y lq e=>?_⟩
 ·rw[aD hn hi' j] at e
  split at e
  ·cases e
  ·exact h.sh j y d e
 ·rw[aD hn hi' j] at e
  split at e
  ·cases e
  ·rename_i hj
   exact nomatch no j y _ hj e
 ·rw[aD hn hi'] at e1
  split at e1
  ·cases e1
  ·rename_i hj
   exact nomatch no j y _ hj e1
 ·rw[aD hn hi' j] at e
  split at e
  ·cases e
  ·rename_i hj
   exact nomatch no j y _ hj e
 ·rw[aD hn hi' j] at e
  split at e
  ·rename_i hj
   subst hj;cases e;refine⟨⟨a,hσ,o⟩,fun m z s hl' g=>?_⟩;rw[aD hn hi' m,S5z hl'] at g;exact no m z s hl' g
  ·rename_i hj
   exact nomatch no j y _ hj e
theorem sV{scope:Scope}:lu K Hs scope (fun ρ σ=>Hd K Hs0 H0 Hs H ρ σ):=fun ρ σ i x d v hn hi _ h r=>h.set hn hi r
end
end L2
namespace L2
open PySem PySem.Spec PyProof.Rows PySem.SeqAt
open DE hiding st
def je(X:Cx)(s:Stmt):TS:=fun D σ H=>∀ z0 s0,Inv X z0 σ H s0->wpAny (model X.prog X.w) X.A (exec s X.env) (SP X z0 D) X.xe s0
def iz(X:Cx)(s:List Stmt):TS:=fun D σ H=>∀ z0 s0,Inv X z0 σ H s0->wpAny (model X.prog X.w) X.A (execs s X.env) (SP X z0 D) X.xe s0
section
variable {X:Cx} {s:Stmt} {ss:List Stmt} {t:TS} {D:Ends} {σ:St} {H:Hp}
theorem Dn:PS X s (je X s):=fun z0 s σ H D I h=>h z0 s I
theorem PS.sem(h:PS X s t)(q:t D σ H):je X s D σ H:=fun z0 s I=>h z0 s σ H D I q
theorem dD:PSs X ss (iz X ss):=fun z0 s σ H D I h=>h z0 s I
theorem PSs.sem(h:PSs X ss t)(q:t D σ H):iz X ss D σ H:=fun z0 s I=>h z0 s σ H D I q
end
def Runs(X:Cx)(Hs0 H0:Hp)(ρ:Rho)(fl:Fl)(t:TS):Prop:=∀ σ H Hs D,Hd X.K Hs0 H0 Hs H ρ σ->X.N=ρ.map (·.1)->(∀ ρ' σ' Hs' H',fl=.nxt ρ'->Same Hs Hs'->X.N=ρ'.map (·.1)->Hd X.K Hs0 H0 Hs' H' ρ' σ'->D.nx σ' H') ->
 (∀ d v Hs' H',fl=.ret d->Ext Hs0 H0 Hs' H'->Rep X.K Hs' d v->D.rt v H')->t D σ H
structure GoodS (cx:Cxt) (k:Nat) (X:Cx) (sc:Scope):Prop where
 good:Good cx k X sc
 own:Owns X sc
 pass:PassesOwn (model X.prog X.w) X.A X.env X.xe
 stk:X.stack=X.env::X.outer/\X.env.frame=some X.env.locals
section
variable {X:Cx} {ρ:Rho} {cx:Cxt} {k F:Nat} {sc scope:Scope} {Hs0 H0:Hp} {e:Expr} {d:D}
theorem Cd(G:GoodS cx k X sc)(hN:X.N=ρ.map (·.1))(he:ev cx F sc (frz F e ρ) e=some d){σ:St}{H Hs:Hp}{Q:VK}(h:Hd X.K Hs0 H0 Hs H ρ σ)(q:∀ v Hs' H',Same Hs Hs'->Hd X.K Hs0 H0 Hs' H' (frz F e ρ) σ->Rep X.K Hs' d v->Q v H'):pU X e σ H Q:=by
 obtain⟨Hs1,sm1,h1⟩:=h.frozen F e;exact(cW cx F G.good (by rw[aY];exact hN) he).1 σ H Hs1 Q h1.ext.sub h1.sh fun v H' Hs' E r=>q v Hs' H' (sm1.trans E.vis) (h1.step E) r
theorem M9(G:GoodS cx k X sc)(hN:X.N=ρ.map (·.1)){b:Bool}(he:ev cx F sc (frz F e ρ) e=some (.bl b)){σ:St}{H Hs:Hp}{Q:Bool->Hp->Prop}(h:Hd X.K Hs0 H0 Hs H ρ σ)(q:∀ Hs' H',Same Hs Hs'->Hd X.K Hs0 H0 Hs' H' (frz F e ρ) σ->Q b H'):vW X e σ H Q:=by
 obtain⟨Hs1,sm1,h1⟩:=h.frozen F e;exact(cW cx F G.good (by rw[aY];exact hN) he).2 b rfl σ H Hs1 Q h1.ext.sub h1.sh fun H' Hs' E=>q Hs' H' (sm1.trans E.vis) (h1.step E)
theorem Ii(G:GoodS cx k X sc)(hN:X.N=ρ.map (·.1)){b:Bool}(he:ev cx F sc (frz F e ρ) e=some (.bl b)){σ:St}{H Hs:Hp}{Q:Bool->Hp->Prop}(h:Hd X.K Hs0 H0 Hs H ρ σ)(q:∀ Hs' H',Same Hs Hs'->Hd X.K Hs0 H0 Hs' H' ρ σ->Q b H'):vW X e σ H Q:=by
 obtain⟨Hs1,sm1,shp,h1⟩:=h.frozen2 F e;refine(cW cx F G.good (by rw[aY];exact hN) he).2 b rfl σ H Hs1 Q h1.ext.sub h1.sh fun H' Hs' E=>?_;obtain⟨Hs3,E3,_⟩:=oZ (K:=X.K) (d:=.bl b) (v:=.bl b) h.ext.sub sm1 shp E rfl (by simp[Rep]);exact q Hs3 H' E3.vis (h.step E3)
theorem gq{t:Option Expr}{l:Nat}{env:Env}(he:ev cx F sc ρ e=some d)(hc:∀ a b c p,e≠.ListComp a b c p):swapsWith e t l env=pure false:=by
 cases F with
 | zero=>simp[ev] at he
 | succ F =>
  cases e<;>first | rfl | (exact nomatch (show(Option.none:Option D)=some d from he)) | (exact absurd rfl (hc _ _ _ _))
theorem Ah(h:aZ e=false):lQ e d=.sh d:=by
 unfold lQ;split
 ·rw[h];rfl
 ·rfl
def Oj(X:Cx)(ρ:Rho)(e:Expr)(ds:List D):Prop:=∀ σ H Hs Q,Same Hs H->cH X.K Hs ρ σ->(∀ acc vs Hs' H',Ext Hs H Hs' H'->H acc=none->Hs' acc=none->H' acc=some (.lst vs)->aR X.K Hs' ds vs->Q (.ref acc) H')->pU X e σ H Q
theorem Bg{es:List Expr}{ds:List D}{pos:Pos}(h:EvA X ρ es ds)(hz:szl ds.length=true):Oj X ρ (.List es pos) ds:=fun σ H Hs Q hs hst hq =>
 (Ds iM).sem (h σ H Hs _ hs hst fun vs H1 Hs1 E1 r1=>⟨by rw[<- r1.length];exact fQ hz,fun p hp =>
  hq p vs Hs1 _ (Ext.acc E1 (E1.all.free hp) (E1.sub.free hp)) (E1.all.free hp) (E1.sub.free hp) aX r1⟩)
theorem jT{elt:Expr}{gens:List Comprehension}{pos:Pos}{n:Nat}(G:Good cx k X sc)(hN:X.N=ρ.map (·.1))(he:ev cx (n+1) sc ρ (.ListComp elt gens scope pos)=some d) :
    ∃ tg iter ifs l out, gens = [⟨tg, iter, ifs, 0⟩] /\ gY sc scope = true /\ EvI X ρ tg iter l /\ aL iter = true /\ szl l.length = true /\ bG (pC cx n sc scope ρ tg elt ifs) l = some out /\ d = .lst out /\
      (∀ Xc,CompOf X scope Xc->∀ ρ1:Rho,Xc.N=ρ1.map (·.1)->∀ e d,ev cx n (jZ scope sc) ρ1 e=some d->Ev Xc ρ1 e d/\∀ b,d=.bl b->EvT Xc ρ1 e b):=by
  simp only[ev] at he
  split at he
  · rename_i tg iter ifs a
    split at he
    · rename_i hok
      rw[K2z] at hok
      have ea:a=0:=by simpa using hok.1
      subst ea
      obtain⟨l,h1,he⟩:=aW he
      split at he
      · rename_i hz
        obtain⟨out,h2,he⟩:=aW he
        cases he
        obtain⟨hI,hp⟩:=yQ (tg:=tg) G (fun e d h=>⟨(cW cx n G hN h).1,bw h⟩) h1
        exact⟨tg,iter,ifs,l,out,rfl,hok.2,hI,hp,hz,h2,rfl,fun Xc C ρ1 hN1 e d he=>cW cx n (G.comp C hok.2) hN1 he⟩
      · cases he
    · cases he
  · cases he
theorem GR{a b:Expr}{ds:List D}{j:Int}{pos:Pos}(ha:Ev X ρ a (.lst ds))(hb:Ev X ρ b (.int j))(h1:j<=1000)(h2:-1000<=j)(hz:szl (ds.length*j.toNat)=true):Oj X ρ (.BinOp a .Mult b pos) (List.replicate j.toNat ds).flatten:=fun σ H Hs Q hs hst hq=>by
 refine(iZ xH au au).sem (ha σ H Hs _ hs hst fun u H1 Hs1 E1 r1=>hb σ H1 Hs1 _ E1.sub (hst.same E1.vis) fun v H2 Hs2 E2 r2=>?_);obtain⟨p,us,rfl,g1,g2⟩:=bF (Rep.same E2.vis _ _ r1);have l1:=g2.length;have E:=E1.trans E2;exact⟨p,_,us,rfl,aV r2,E2.sub.seq g1,by omega,by omega,by have:=fQ hz;rw[<- l1];exact this,fun q hq'=>hq q _ Hs2 _ (Ext.acc E (E.all.free hq') (E.sub.free hq')) (E.all.free hq') (E.sub.free hq') aX (g2.rep _)⟩
theorem wz{x:Str}{ds:List D}{px pos:Pos}(G:GoodS cx k X sc)(hN:X.N=ρ.map (·.1))(hx:ownIn sc x=true)(hc:(ρ.map (·.1)).contains x=true)(hno:qF (frz F e ρ) x=true)
  (hrun:∀ (i:Nat),X.N[i]?=some x->∀ σ H Hs D,Same Hs H->cH X.K Hs (frz F e ρ) σ->(∀ acc vs Hs' H',Ext Hs H Hs' H'->H acc=none->Hs' acc=none->H' acc=some (.lst vs)->aR X.K Hs' ds vs->D.nx (σ.set i (some (.ref acc))) H')->je X (.Assign [.Name x px] e pos) D σ H) :
  Runs X Hs0 H0 ρ (.nxt (cC (frz F e ρ) x (.ow ds))) (je X (.Assign [.Name x px] e pos)):=by
 intro σ H Hs D h _ hn hr;obtain⟨i,hi⟩:=bN hc;obtain⟨Hs1,sm1,h1⟩:=h.frozen F e
 have hnd:((frz F e ρ).map (·.1)).Nodup:=by rw[aY,<- hN];exact G.good.nd
 refine hrun i (by rw[hN];exact hi) σ H Hs1 D h1.ext.sub h1.sh fun acc vs Hs' H' E a1 a2 a3 r=>?_
 refine hn _ _ Hs' H' rfl (sm1.trans E.vis) (by rw[aM,aY];exact hN) ((h1.step E).own hnd (by rw[aY];exact hi) a3 r a2 (h1.ext.all.free a1) (Hq hnd (by rw[aY];exact hi) hno) fun j y es hj q1 q2=>?_)
 obtain⟨b,us,k1,k2,_⟩:=h1.ow j y es q1;rw[k1] at q2;cases q2;rw[a1] at k2;cases k2
theorem FQ{x:Str}{px pos:Pos}(G:GoodS cx k X sc)(hN:X.N=ρ.map (·.1))(hx:ownIn sc x=true)(hc:(ρ.map (·.1)).contains x=true)(hno:aZ e=true->qF (frz F e ρ) x=true)(he:ev cx F sc (frz F e ρ) e=some d) :
  Runs X Hs0 H0 ρ (.nxt (cC (frz F e ρ) x (lQ e d))) (je X (.Assign [.Name x px] e pos)):=by
 obtain⟨ox,of⟩:=G.own.own x hx
 have hN':X.N=(frz F e ρ).map (·.1):=by rw[aY];exact hN
 by_cases hfr:aZ e=true
 ·cases F with
  | zero=>simp[ev] at he
  | succ F =>
   cases e with
   | List es p2 =>
    simp only[ev] at he;obtain⟨ds,h1,he⟩:=aW he;split at he
    ·rename_i hz
     cases he;have hA:=(fC (fun e _ d hd=>⟨(cW cx F G.good hN' hd).1,bw hd⟩) h1).1;refine wz G hN hx hc (hno rfl) fun i hi σ H Hs D hs hst hq=>?_;refine PS.sem (jC G.good.nd hi ox au rfl of) (Bg hA hz σ H Hs _ hs hst fun acc vs Hs' H' E a1 a2 a3 r=>hq acc vs Hs' H' E a1 a2 a3 r)
    ·cases he
   | ListComp elt gens scope p2 =>
    obtain⟨tg,iter,ifs,l,out,rfl,hok,hI,hp,hz,hgo,rfl,hE⟩:=jT G.good hN' he;obtain⟨ok1,ok2,ok3⟩:=cT G.good hok;refine wz G hN hx hc (hno rfl) fun i hi σ H Hs D hs hst hq=>?_
    have rd:qt X scope (qp X tg iter) (qH X.N scope.names) (fun Xc=>BR Xc tg) (fun Xc=>qN Xc ifs) (fun Xc=>pU Xc elt) σ H (fun v H1=>D.nx (σ.set i (some v)) H1) :=
     jR G.good hN' hok hI hz hgo hE hs hst fun acc vs Hs' H' E a1 a2 a3 r=>hq acc vs Hs' H' E a1 a2 a3 r
    cases hsw:(X.env.blockKind==.function&&X.env.kindOf x==some .local&&px.line==p2.line && !(scope.names.any fun(n,k)=>n==x&&(k==.local||k==.cell))) with
    | true =>
     have e1:swapsWith (.ListComp elt [⟨tg,iter,ifs,0⟩] scope p2) (some (.Name x px)) pos.line X.env=pure true:=by rw[<- hsw];rfl
     rw[K2z,K2z,K2z] at hsw
     have hl:X.env.scope.names.lookup x=some .local:=by simpa[Env.kindOf] using hsw.1.1.2
     exact PS.sem (wW G.good.nd hi hl G.good.calm ok1 ok2 ok3 jE (fun Xc C=>⟨gK,fG,au⟩) (dF hp) e1) rd
    | false =>
     have e1:swapsWith (.ListComp elt [⟨tg,iter,ifs,0⟩] scope p2) (some (.Name x px)) pos.line X.env=pure false:=by rw[<- hsw];rfl
     exact PS.sem (jC G.good.nd hi ox (mC G.good.calm ok1 ok2 ok3 jE (fun Xc C=>⟨gK,fG,au⟩) (dF hp)) e1 of) rd
   | BinOp a op b p2 =>
    have hno':=hno hfr;simp only[aZ,K2z] at hfr;obtain⟨q1,q2⟩:=hfr
    cases op<;>simp[Zr] at q2
    cases a with
    | List es p3 =>
     simp only[ev] at he;obtain⟨dx,h1,he⟩:=aW he;obtain⟨dy,h2,he⟩:=aW he
     have hl:∃ ds0,dx=.lst ds0:=by
      cases F with
      | zero=>simp[ev] at h1
      | succ F =>
       simp only[ev] at h1;obtain⟨ds0,_,h1⟩:=aW h1;split at h1
       ·cases h1;exact⟨_,rfl⟩
       ·cases h1
     obtain⟨ds0,rfl⟩:=hl
     cases dy with
     | int j =>
      simp only[binop] at he;split at he
      ·rename_i hz
       cases he;rw[K2z,K2z,D2z,D2z] at hz;have e1:=(cW cx F G.good hN' h1).1;have e2:=(cW cx F G.good hN' h2).1;refine wz G hN hx hc hno' fun i hi σ H Hs D hs hst hq=>?_;refine PS.sem (jC G.good.nd hi ox au rfl of) (GR e1 e2 hz.1.1 hz.1.2 hz.2 σ H Hs _ hs hst fun acc vs Hs' H' E a1 a2 a3 r=>hq acc vs Hs' H' E a1 a2 a3 r)
      ·cases he
     | _=>simp[binop] at he
    | _=>exact absurd (show false=true from q1) L1z
   | _=>simp[aZ] at hfr
 ·have hfr':aZ e=false:=by simpa using hfr
  rw[Ah hfr'];intro σ H Hs D h _ hn hr;obtain⟨i,hi⟩:=bN hc
  have hsw:=gq (t:=some (.Name x px)) (l:=pos.line) (env:=X.env) he fun a b c p q=>by rw[q] at hfr';cases hfr'
  refine PS.sem (jC (i:=i) G.good.nd (by rw[hN];exact hi) ox au hsw of) (Cd G hN he h fun v Hs' H' sm h' r=>?_)
  exact hn _ _ Hs' H' rfl sm (by rw[aM];exact hN') (h'.set (by rw[<- hN'];exact G.good.nd) (by rw[aY];exact hi) r)
theorem vf{es:List Expr}{l:List D}{ρ':Rho}{σ:St}{v:V}{Hs H:Hp}{P:Rho->St->Prop}{Q:St->Hp->Prop}{kt:Nat}{pos:Pos}(G:GoodS cx k X sc)(hs:Same Hs H)(hN:X.N=ρ.map (·.1))(KE:lu X.K Hs sc P)(hl:items d=some l)(hb:bindNames sc es l ρ=some ρ')(hp:P ρ σ)(rd:Rep X.K Hs d v)
  (hq:∀ σ',X.N=ρ'.map (·.1)->P ρ' σ'->Q σ' H):BR X (.Tuple es kt pos) v σ H Q:=by
 obtain⟨e1,e2,e3⟩:=fH (env:=X.env) hb
 cases d with
 | tup xs =>
  simp only[items,E2z] at hl;subst hl
  obtain⟨a,vs,rfl,h1,h2⟩:=bL rd;exact PG.sem (Dp G.good.calm mj e1 e2) ⟨a,vs,rfl,hs.tup h1,by rw[<- h2.length,e3],fL G.own G.good.nd KE hN hb hp h2 hq⟩
 | lst xs =>
  simp only[items,E2z] at hl;subst hl
  obtain⟨a,vs,rfl,h1,h2⟩:=bF rd;exact PG.sem (KR G.good.calm mj e1 e2) ⟨a,vs,rfl,hs.seq h1,by rw[<- h2.length,e3],fL G.own G.good.nd KE hN hb hp h2 hq⟩
 | _=>simp[items] at hl
theorem sH{n:Nat}(h:nc0 e=true):foldedForSure n e=false/\constantsAlone n e=false:=by
 cases e<;>simp[nc0] at h<;>(constructor<;>simp[foldedForSure,constantsAlone,h])
theorem Ln{n:Nat}(h:nc1 e=true):constantsAlone (n+1) e=false:=by
 unfold nc1 at h;split at h
 ·simp[constantsAlone,(sH (n:=n) h).2]
 ·exact(sH h).2
theorem Bm(h:nc e=true):foldedForSure 8 e=false/\constantsAlone 8 e=false:=by
 unfold nc at h;split at h
 ·rw[O3z] at h
  refine⟨by simp[foldedForSure],?_⟩
  rcases h with h | h<;>simp[constantsAlone,(sH (n:=7) h).2]
 ·rw[O3z] at h
  refine⟨by simp[foldedForSure],?_⟩
  rcases h with h | h<;>simp[constantsAlone,(Ln (n:=6) h)]
 ·exact sH h
theorem ni(G:Good cx k X sc):X.env.blockKind=.function:=by
 unfold Env.blockKind;rw[G.sce,G.kind];rfl
theorem J6{es:List Expr}{kt:Nat}{pt:Pos}(G:Good cx k X sc)(h:swp sc es e=some false):swappedStores [.Tuple es kt pt] e X.env=pure none:=by
 cases e with
 | Tuple vs k2 p2 =>
  simp only[swp] at h;split at h
  ·rename_i x px y py a b
   split at h
   ·split at h
    ·cases h
    ·split at h
     ·rename_i hcs
      rw[K2z] at hcs
      have f1:foldedForSure 8 a=true:=by cases a<;>first | rfl | (simp[Bx] at hcs)
      have f2:foldedForSure 8 b=true:=by cases b<;>first | rfl | (simp[Bx] at hcs)
      have al1:[a,b].all (foldedForSure 8)=true:=by simp[f1,f2]
      unfold swappedStores;simp only[al1,Q5z]
      repeat' split
      all_goals rfl
     ·cases h
   ·rename_i hl
    have hl':¬ ((X.env.kindOf x==some .local)=true/\(X.env.kindOf y==some .local)=true):=by
     intro q;apply hl;rw[K2z];unfold Env.kindOf at q;rw[G.sce] at q;exact q
    unfold swappedStores
    cases h1:X.env.kindOf x==some .local<;>cases h2:X.env.kindOf y==some .local
    all_goals simp only[h1,h2] at hl'
    all_goals simp[h1,h2,ni G]
    ·intro _ _ hlen
     exfalso
     have n1:¬ X.env.kindOf x=some .local:=by simpa using h1
     have n2:¬ X.env.kindOf y=some .local:=by simpa using h2
     simp[C1z,n1,n2] at hlen
    ·intro _ _ hlen
     exfalso
     have n1:¬ X.env.kindOf x=some .local:=by simpa using h1
     simp only[C1z,List.filterMap_nil,n1,false_and,O5z] at hlen
     split at hlen<;>simp at hlen
    ·intro _ _ hlen
     exfalso
     have n1:¬ X.env.kindOf y=some .local:=by simpa using h2
     simp only[C1z,List.filterMap_nil,n1,false_and,O5z] at hlen
     split at hlen<;>simp at hlen
    ·exact absurd ⟨trivial,trivial⟩ hl'
  ·rename_i x px y py z pz a b c
   split at h
   ·rename_i hl
    simp only[K2z] at hl;obtain⟨⟨l1,l2⟩,l3⟩:=hl
    have kd:∀ {v:Str},(sc.names.lookup v==some NameKind.cell)=true->¬ X.env.kindOf v=some .local:=fun {v} hv q=>by
     unfold Env.kindOf at q;rw[G.sce,eq_of_beq hv] at q;cases q
    have n1:=kd l1;have n2:=kd l2;have n3:=kd l3;unfold swappedStores
    have b1:(X.env.kindOf x==some NameKind.local)=false:=by simpa using n1
    have b2:(X.env.kindOf y==some NameKind.local)=false:=by simpa using n2
    have b3:(X.env.kindOf z==some NameKind.local)=false:=by simpa using n3
    simp[ni G,C1z,b1,b2,b3,n1,n2,n3]
   ·cases h
  ·cases h
 | _=>rfl
theorem Fz{es:List Expr}{kt:Nat}{pt:Pos}(G:Good cx k X sc)(h:swp sc es e=some true):∃ x px y py a b k2 p2,es=[.Name x px,.Name y py]/\e=.Tuple [a,b] k2 p2/\X.env.scope.names.lookup x=some .local/\X.env.scope.names.lookup y=some .local/\x≠y/\aL a=true/\aL b=true /\
    swappedStores [.Tuple es kt pt] e X.env=pure (some [x,y]):=by
  cases e with
  | Tuple vs k2 p2 =>
    simp only[swp] at h
    split at h
    · rename_i x px y py a b
      split at h
      · rename_i hl
        split at h
        · rename_i hq
          rw[K2z] at hl
          rw[K2z,K2z,K2z,K2z,O3z] at hq
          obtain⟨⟨⟨⟨q1,q2⟩,q3⟩,q4⟩,q5⟩:=hq
          have l1:X.env.kindOf x=some .local:=by unfold Env.kindOf;rw[G.sce];simpa using hl.1
          have l2:X.env.kindOf y=some .local:=by unfold Env.kindOf;rw[G.sce];simpa using hl.2
          have hxy:x≠y:=by simpa using q2
          have hpl : py.line = px.line := by have : px.line = py.line := by simpa using q1
                                             exact this.symm
          have f1:(foldedForSure 8 a&&foldedForSure 8 b)=false:=by
            rcases q3 with q | q
            · rw[(Bm q).1];rfl
            · rw[(Bm q).1,C4z]
          have f2:(constantsAlone 8 a&&constantsAlone 8 b)=false:=by
            rcases q3 with q | q
            · rw[(Bm q).2];rfl
            · rw[(Bm q).2,C4z]
          refine⟨x,px,y,py,a,b,k2,p2,rfl,rfl,l1,l2,hxy,q4,q5,?_⟩
          unfold swappedStores
          have ed:([x,y]:List Str).eraseDups.length=2:=by
            have:(y==x)=false:=by simpa using hxy.symm
            simp[List.eraseDups_cons,this]
          have al1:[a,b].all (foldedForSure 8)=false:=by simpa using f1
          have al2:[a,b].all (constantsAlone 8)=false:=by simpa using f2
          simp only[al1,al2,ni G]
          generalize hst:[a,b].any _=sb
          have hsb:sb=false:=by
            rw[<- hst,L4z,L4z,List.any_nil,Bool.or_false,Bool.or_eq_false_iff]
            clear hst f1 f2 al1 al2 q3
            refine⟨?_,?_⟩
            · cases a<;>first | rfl | (simp[aL] at q4)
            · cases b<;>first | rfl | (simp[aL] at q5)
          generalize hf:List.filterMap _ [Expr.Name x px,Expr.Name y py]=nm
          have hnm:nm=[x,y]:=by
            rw[<- hf]
            simp[C1z,l1,l2,hpl,Expr.pos]
          rw[hsb,hnm]
          simp only[ed]
          rfl
        · split at h<;>cases h
      · cases h
    · split at h<;>cases h
    · cases h
  | _=>simp[swp] at h
end
def XOk(X:Cx)(σ:St)(E:XK):Prop:=∀ z0 H s e s',Inv X z0 σ H s->CX1 X.prog X.w X.stack H s E e s'->X.xe e s'
def zV(X:Cx)(σ:St)(E:XK):Prop:=∀ z0 H s (C e:Addr) h' args,Inv X z0 σ H s->Heap.MadeExcOf s.heap h' e (.ref C) args->E (.ref C) none H->X.xe (.ref e) { s with heap:=h' }
def EX(X:Cx)(c:Str)(Hs H:Hp)(E:XK):Prop:=∀ C H' Hs',PySem.W.nsIn X.K mainGlobals c=some (some (.ref C))->Ext Hs H Hs' H'->E (.ref C) none H'
theorem EX.step{X:Cx}{c:Str}{Hs H Hs1 H1:Hp}{E:XK}(h:EX X c Hs H E)(e:Ext Hs H Hs1 H1):EX X c Hs1 H1 E:=fun C H' Hs' hn e'=>h C H' Hs' hn (e.trans e')
def EvX(X:Cx)(ρ:Rho)(e:Expr)(c:Str):Prop:=∀ σ H Hs E,Same Hs H->cH X.K Hs ρ σ->EX X c Hs H E->XOk X σ E->∀ Q,pU X e σ H Q
def EvXA(X:Cx)(ρ:Rho)(es:List Expr)(c:Str):Prop:=∀ σ H Hs E,Same Hs H->cH X.K Hs ρ σ->EX X c Hs H E->XOk X σ E->∀ Q,vX X es σ H Q
section
variable {X:Cx} {ρ:Rho} {cx:Cxt} {k:Nat} {sc scope:Scope}
theorem Gi{f:Addr}{fd:FuncData}{ps:List Str}{sp:Sp}{E:XK}{z0:List (Addr×Obj)}{σ:St}{H:Hp}{s:Shared}{Q:VK}{us:List Value}{vs:List V}(F:FnOk X.prog X.w X.K X.mg X.base (CX1 X.prog X.w) k f fd ps sp)(hr:Room k X.A)(hb:Binds X.K fd ps [])(hx:XOk X σ E)
  (I:Inv X z0 σ H s) (r:Vals vs us) (h:sp vs H Q E):wpAny (model X.prog X.w) X.A (call (.ref f) us) (EP X z0 σ Q) X.xe s:=by
 have hl:(us++([]:List Value)).length=ps.length:=by rw[E3z,<- r.length];exact F.len _ _ _ _ h
 have hb':=hb s us I.kIn hl;rw[E3z] at hb';refine wpAny_call (S4z (F.run X.A X.stack s H ⟨us,[]⟩ us vs Q E hr I.env0 hb' r h) fun r s' hq=>?_)
 cases r with
 | error e=>exact hx z0 H s e s' I hq
 | ok fl =>
  cases fl with
  | ret u=>exact I.after hq
  | next=>exact False.elim hq
  | brk=>exact False.elim hq
  | cont=>exact False.elim hq
theorem Cj{f:Str}{es:List Expr}{c:Str}{p pos:Pos}(G:Good cx k X sc)(hg:Gl X f)(hf:cx.fns.contains f=true)(hne:es≠[])(hp:∀ e∈es,aL e=true)(h:EvXA X ρ es c\/∃ ds,EvA X ρ es ds/\cx.callx f ds=some c) :
  EvX X ρ (.Call (.Name f p) es [] pos) c:=by
 obtain⟨hdb,a,fd,ps,_,har,hm,hk,hb,F⟩:=G.fns f hf
 cases es with
 | nil=>exact absurd rfl hne
 | cons e es =>
  intro σ H Hs E hs hst hE hx Q z0 s I;refine O1z (jJ I hg hm ?_ hdb);refine PySem.W.callWith_K (h₀:=X.base) I.ok.mod.kin hk ?_ (aq (hp e (by simp))) (gB fun e' he=>hp e' (W0z _ he));rcases h with h | ⟨ds,hA,hc⟩
  ·exact thn (h σ H Hs E hs hst hE hx (fun _ _=>False) pos z0 s I) fun us s1 ⟨vs,H1,I1,r,q⟩=>q.elim
  ·refine thn (hA σ H Hs (fun vs H1=>∃ Hs1,Ext Hs H Hs1 H1/\aR X.K Hs1 ds vs) hs hst (fun vs H1 Hs1 E1 r1=>⟨Hs1,E1,r1⟩) pos z0 s I) fun us s1 ⟨vs,H1,I1,r,Hs1,E1,r1⟩=>⟨I1.kIn,?_⟩
   exact Gi F G.room hb hx I1 r ⟨by rw[<- r1.length,har ds c hc],Hs1,ds,E1.sub,r1,.inr ⟨c,hc,hE.step E1⟩⟩
theorem tK(cx:Cxt):∀ (n:Nat) {k:Nat} {X:Cx} {sc:Scope} {ρ:Rho} {e:Expr} {c:Str},Good cx k X sc->X.N=ρ.map (·.1)->evx cx n sc ρ e=some c->EvX X ρ e c
 | 0,k,X,sc,ρ,e,c,_,_,h=>by exact nomatch (show(Option.none:Option Str)=some c from h)
 | n+1,k,X,sc,ρ,e,c,G,hN,h=>by
  have ih:∀ e d,ev cx n sc ρ e=some d->Ev X ρ e d/\∀ b,d=.bl b->EvT X ρ e b:=fun e d h=>cW cx n G hN h;simp only[evx] at h;split at h
  ·rename_i x p args pos
   split at h
   ·rename_i hc
    simp only[K2z] at hc;obtain⟨⟨⟨hgl,hne⟩,hpl⟩,hfn⟩:=hc
    have hg:Gl X x:=by
     have e:sc.names.lookup x=some .globalImplicit:=by unfold mQ at hgl;simpa using hgl
     show X.env.scope.names.lookup x=_;rw[G.sce,e]
    have hp:∀ e∈args,aL e=true:=fun e he=>W2z.mp hpl e he;refine Cj G hg hfn (fun q=>by rw[q] at hne;exact absurd hne (by decide)) hp ?_;split at h
    ·rename_i ds hds
     exact .inr ⟨ds,(fC (fun e _ d hd=>⟨(ih e d hd).1,bw hd⟩) hds).1,h⟩
    ·cases h
   ·cases h
  ·rename_i cc a b pos
   split at h
   ·rename_i hc
    have hc':=(ih _ _ (eN hc)).2 _ rfl;have ha:=tK cx n G hN h;intro σ H Hs E hs hst hE hx Q;exact(mz dO au au).sem (hc' σ H Hs _ hs hst fun H1 Hs1 E1=>vH (ha σ H1 Hs1 E E1.sub (hst.same E1.vis) (hE.step E1) hx Q))
   ·rename_i hc
    have hc':=(ih _ _ (eN hc)).2 _ rfl;have ha:=tK cx n G hN h;intro σ H Hs E hs hst hE hx Q;exact(mz dO au au).sem (hc' σ H Hs _ hs hst fun H1 Hs1 E1=>yt (ha σ H1 Hs1 E E1.sub (hst.same E1.vis) (hE.step E1) hx Q))
   ·cases h
  ·cases h
end
section
variable {X:Cx} {ρ:Rho} {cx:Cxt} {k F:Nat} {sc scope:Scope} {Hs0 H0:Hp} {e:Expr} {d:D}
theorem Hz{y:Expr}(h:Od cx sc y=true):Aa cx sc "list" [y]=.al/\aL y=true:=by
 unfold Od at h;split at h
 ·exact⟨rfl,rfl⟩
 ·rename_i f p1 as p2
  rw[K2z] at h
  have hb:bC cx sc f=none:=by
   unfold bC;rw[R5z h.1]
   cases q:cx.blt.lookup f with
   | none=>rfl
   | some z=>rw[q] at h;exact absurd h.2 (by simp)
  refine⟨?_,rfl⟩;simp only[Aa,pR,hb];rfl
 ·cases h
theorem xW{n:Nat}{lnm:Str}{y:Expr}{p1 p3:Pos}{v:D}(h:ev cx n sc ρ (.Call (.Name lnm p1) [y] [] p3)=some v)(hb:bC cx sc lnm=some "list")(hw:Aa cx sc "list" [y]=.al):∃ m d es,ev cx m sc ρ y=some d/\items d=some es/\v=.lst es:=by
 cases n with
 | zero=>exact nomatch (show(Option.none:Option D)=some v from h)
 | succ n =>
  unfold bC at hb;split at hb
  ·rename_i hg
   have h':(match Aa cx sc "list" [y] with
    | .lr1 a=>if true then none else none
    | .lr2 a a'=>if true then none else none
    | .tr1 a=>if true then none else none
    | .tv a=>if true then none else none
    | .ls a=>do let xs <- (ev cx n sc ρ a).bind Jx;let ns <- iU xs;if decide (xs.length<=1000) then some (.int (ddp ns).length) else none
    | .al=>do let ds <- j4 (ev cx n sc ρ) [y];DE.blt "list" ds)=some v:=by
    rw[<- h];simp only[ev,hg,Q5z,hb];rfl
   rw[hw] at h';obtain⟨ds,h1,h2⟩:=aW h';simp only[j4] at h1;obtain⟨d',g1,g2⟩:=aW h1;obtain⟨_,g3,g4⟩:=aW g2;cases g3;cases g4;obtain⟨es,g5,g6⟩:=aW (show(items d' >>=fun l=>some (D.lst l))=some v from h2);cases g6;exact⟨n,d',es,g1,g5,rfl⟩
  ·cases hb
theorem K9{n:Nat}{es:List D}(G:Good cx k X sc)(hN:X.N=ρ.map (·.1))(ho:Qj cx sc e=true)(he:ev cx n sc ρ e=some (.lst es)):Oj X ρ e es:=by
 unfold Qj at ho;split at ho
 ·rename_i lnm p1 y p3
  simp only[K2z] at ho;obtain⟨q2,q3⟩:=ho
  have hb:bC cx sc lnm=some "list":=by simpa using q2
  obtain⟨hw,hpl⟩:=Hz q3;obtain⟨m,d',es',g1,g2,g3⟩:=xW he hb hw;cases g3;obtain⟨hg,hm,rfl⟩:=bZ G hb;intro σ H Hs Q hs hst hq;refine(oG (iT (X:=X)) hg hm (by decide +kernel) (bI au cY (aq hpl)) (by decide) (by decide) (aq hpl) rfl).sem ?_;refine(cW cx m G hN g1).1 σ H Hs _ hs hst fun v H7 Hs7 E7 r7=>?_;obtain⟨q,us,rfl,k1,k2⟩:=jz r7 g2;exact⟨q,us,rfl,k1.imp E7.sub.seq E7.sub.tup,fun b hb7=>hq b us Hs7 _ (Ext.acc E7 (E7.all.free hb7) (E7.sub.free hb7)) (E7.all.free hb7) (E7.sub.free hb7) aX k2⟩
 ·cases n with
  | zero=>exact nomatch (show(Option.none:Option D)=some _ from he)
  | succ n =>
   obtain⟨tg,iter,ifs,l,out,rfl,hok,hI,hp,hz,hgo,e1,hE⟩:=jT G hN he;cases e1;obtain⟨ok1,ok2,ok3⟩:=cT G hok;intro σ H Hs Q hs hst hq;exact(mC G.calm ok1 ok2 ok3 jE (fun Xc C=>⟨gK,fG,au⟩) (dF hp)).sem (jR G hN hok hI hz hgo hE hs hst hq)
 ·rename_i a op b p0
  cases n with
  | zero=>exact nomatch (show(Option.none:Option D)=some _ from he)
  | succ n =>
   simp only[K2z] at ho
   cases op<;>first | (simp[Zt] at ho;done) | skip
   obtain⟨x,h1,he⟩:=aW (show(ev cx n sc ρ a >>=fun x=>ev cx n sc ρ b >>=fun y=>binop .Add x y)=some (D.lst es) from he);obtain⟨y,h2,he⟩:=aW he
   have key:∀ x y:D,binop .Add x y=some (D.lst es)->∃ xs ys,x=.lst xs/\y=.lst ys/\szl (xs.length+ys.length)=true/\xs++ys=es:=fun x y h=>by
    cases x<;>cases y<;>simp[binop] at h
    exact⟨_,_,rfl,rfl,h.1,h.2⟩
   obtain⟨xs,ys,rfl,rfl,hz,rfl⟩:=key x y he;intro σ H Hs Q hs hst hq;refine(iZ xJ au au).sem ((cW cx n G hN h1).1 σ H Hs _ hs hst fun u H1 Hs1 E1 r1=>(cW cx n G hN h2).1 σ H1 Hs1 _ E1.sub (hst.same E1.vis) fun v H2 Hs2 E2 r2=>?_);obtain⟨p,us,rfl,g1,g2⟩:=bF (Rep.same E2.vis _ u r1);obtain⟨q,ws,rfl,g3,g4⟩:=bF r2;have E:=E1.trans E2;have l1:=g2.length;have l2:=g4.length;exact⟨p,q,us,ws,rfl,rfl,E2.sub.seq g1,E2.sub.seq g3,by have:=fQ hz;omega,fun l hl=>hq l (us++ws) Hs2 _ (Ext.acc E (E.all.free hl) (E.sub.free hl)) (E.all.free hl) (E.sub.free hl) aX (g2.append g4)⟩
 ·cases ho
theorem Jg{tg iter elt:Expr}{l:List D}{dss:List (List D)}(G:Good cx k X sc)(hN:X.N=ρ.map (·.1))(hok:gY sc scope=true)(hI:EvI X ρ tg iter l)(hz:szl l.length=true)(hlen:dss.length=l.length)
  (hs1:∀ Xc,CompOf X scope Xc->∀ (i:Nat) d,l[i]?=some d->∃ ρ1 es,fP scope tg d (bJ scope ρ)=some ρ1/\dss[i]?=some es/\(Xc.N=ρ1.map (·.1)->Oj Xc ρ1 elt es))
  {σ:St} {H Hs:Hp} {Q:VK} (hs:Same Hs H) (hst:cH X.K Hs ρ σ) (hq:∀ a bs Hs' H',Ext Hs H Hs' H'->OO X.K H Hs' H' a bs dss->Q (.ref a) H') :
  qt X scope (qp X tg iter) (qH X.N scope.names) (fun Xc=>BR Xc tg) (fun Xc=>qN Xc []) (fun Xc=>pU Xc elt) σ H Q:=by
 obtain⟨ok1,ok2,ok3⟩:=cT G hok;refine hI σ H Hs _ hs hst fun J H1 Hs1 E1 hJ acc hacc Xc C=>?_;have GC:=G.comp C hok;have OC:=Owns.comp (scope:=scope) G C
 have hNc:∀ ρ1:Rho,ρ1.map (·.1)=scope.names.map (·.1)->Xc.N=ρ1.map (·.1):=fun ρ1 h=>by rw[C.N,h]
 have a1:Hs1 acc=none:=E1.sub.free hacc;have a0:H acc=none:=E1.all.free hacc
 let W:Nat->Nat->St->Hp->Prop:=fun i m σc H3=>m=l.length-i/\i<=l.length/\∃ Hs3 bs,Ext Hs1 H1 Hs3 H3/\OO X.K H Hs3 H3 acc bs (dss.take i)/\σc.length=scope.names.length/\cH X.K Hs3 (bJ scope ρ) σc
 refine⟨W,⟨l.length,rfl,D5z _,Hs1,[],Ext.acc (.refl E1.sub) hacc a1,⟨aX,a1,a0,.nil,by simp,by simp,fun j b e=>by simp at e⟩,by simp[qH],jU hN (hst.same E1.vis)⟩,?_⟩;rintro i m σc H3 ⟨rfl,hi,Hs3,bs,E3,o3,l3,s3⟩;obtain⟨st3,go3⟩:=hJ Hs3 H3 E3.vis E3.sub
 by_cases hlt:i<l.length
 ·have hd:l[i]?=some l[i]:=List.getElem?_eq_getElem hlt
  obtain⟨gi,yi⟩:=go3 i l[i] hd;refine .inr ⟨gi,fun σ' H'=>W (i+1) (l.length-(i+1)) σ' H',fun σ' H' w=>⟨_,by omega,w⟩,fun x H4 y4=>?_⟩;obtain⟨Hs4,E4,rx⟩:=yi x H4 y4;obtain⟨ρ1,es,k1,k4,kO⟩:=hs1 Xc C i l[i] hd;have s4:cH X.K Hs4 (bJ scope ρ) σc:=s3.same E4.vis;have KE:=kJ (K:=Xc.K) (Hs:=Hs4) (ρ:=ρ) (n:=scope.names.length) ok2 rfl;refine qY (X:=Xc) (scope:=scope) (Hs:=Hs4) GC.calm OC GC.nd E4.sub (hNc _ dj) KE k1 ⟨dj,l3,by rw[C.K];exact s4,by rw[C.K];exact s4⟩ (by rw[C.K];exact rx) fun σ5 hN5 p5=>?_;obtain⟨_,l5,s5,s5'⟩:=p5;refine Eh (f:=fun _=>none) (ifs:=[]) (b:=true) (fun _ _ h=>nomatch h) rfl E4.sub s5 fun H6 Hs6 E6=>vH ?_;have E46:=E4.trans E6;have o6:=o3.step E46;have E16:Ext Hs1 H1 Hs6 H6:=E3.trans E46;refine kO hN5 σ5 H6 Hs6 _ E6.sub (s5.same E6.vis) fun b us Hs7 H7 E7 hb6 hbs hb7 g2=>?_;have o7:=o6.step E7;have E17:Ext Hs1 H1 Hs7 H7:=E16.trans E7
  have ne:acc≠b:=fun w=>by have:=o6.1;rw[w,hb6] at this;cases this
  refine⟨bs.map V.ref,o7.1,?_,rfl,hlt,Hs7,bs++[b],?_,?_,l5,?_⟩
  ·have:=v7 hz
   have:=o7.2.2.2.2.2.1;rw[G3z,this,H2z];omega
  ·exact Ext.acc E17 hacc o7.2.1
  ·have b0:H b=none:=E1.all.free (E16.all.free hb6)
   have ln:=o7.2.2.2.2.2.1
   have old:∀ (j:Nat) b',bs[j]?=some b'->b'≠b/\b'≠acc:=fun j b' e=>by
    obtain⟨_,_,_,_,_,m4,_⟩:=o6.2.2.2.2.2.2 j b' e;refine⟨fun w=>?_,fun w=>o6.2.2.2.2.1 (by rw[<- w];exact List.mem_of_getElem? e)⟩;rw[w,hb6] at m4;cases m4
   refine⟨by rw[aX,R3z];rfl,o7.2.1,o7.2.2.1,?_,?_,?_,fun j b' e=>?_⟩
   ·rw[List.nodup_append]
    refine⟨o7.2.2.2.1,by simp,fun x' hx' y' hy'=>?_⟩;obtain⟨j,e⟩:=List.mem_iff_getElem?.mp hx';rw[List.mem_singleton.mp hy'];exact(old j x' e).1
   ·rw[List.mem_append,not_or]
    exact⟨o7.2.2.2.2.1,by simpa using ne⟩
   ·rw[P1z,ln,H2z,H2z,T0z]
    omega
   ·by_cases hj:j<bs.length
    ·rw[List.getElem?_append_left hj] at e
     obtain⟨m1,m2,ds,ws,m3,m4,m5⟩:=o7.2.2.2.2.2.2 j b' e;obtain⟨n1,n2⟩:=old j b' e;refine⟨m1,m2,ds,ws,?_,by rw[aO n2];exact m4,m5⟩;rw[ln,H2z] at hj;rw[List.getElem?_take] at m3 ⊢;rw[R5z (by omega)] at m3 ⊢;exact m3
    ·rw[List.getElem?_append_right (by omega)] at e
     have ej:j-bs.length=0:=by
      rcases Nat.eq_zero_or_pos (j-bs.length) with z | z
      ·exact z
      ·rw[List.getElem?_eq_none (by simp;omega)] at e;cases e
     rw[ej] at e
     have eb:b=b':=by simpa using e
     subst eb
     have jl:j=i:=by
      rw[ln,H2z] at hj ej;omega
     subst jl;refine⟨hbs,b0,es,us,?_,by rw[aO (P5z ne)];exact hb7,by rw[<- C.K];exact g2⟩;rw[List.getElem?_take,R5z (by omega)];exact k4
  ·rw[<- C.K]
   exact s5'.same (E6.trans E7).vis
 ·have hi':i=l.length:=by omega
  subst hi';refine .inl ⟨st3,hq acc bs Hs3 H3 (E1.trans E3) ?_⟩;rw[<- hlen,List.take_length] at o3;exact o3
theorem OO.low{K:Z3}{H0 H1 Hs H:Hp}{a:Addr}{bs:List Addr}{dss:List (List D)}(h:OO K H1 Hs H a bs dss)(q:∀ b,H1 b=none->H0 b=none):OO K H0 Hs H a bs dss:=by
 obtain⟨h1,h2,h3,h4,h5,h6,h7⟩:=h;refine⟨h1,h2,q _ h3,h4,h5,h6,fun j b e=>?_⟩;obtain⟨k1,k2,k3⟩:=h7 j b e;exact⟨k1,q _ k2,k3⟩
theorem sO:∀ {ds:List D} {dss:List (List D)},Jw ds=some dss->dss.length=ds.length/\∀ (i:Nat) d,ds[i]?=some d->∃ es,d=.lst es/\dss[i]?=some es
 | [],dss,h=>by cases h;exact⟨rfl,fun i d e=>by simp at e⟩
 | d::ds,dss,h=>by
  cases d with
  | lst es =>
   simp only[Jw,Q0z] at h;obtain⟨r,h1,rfl⟩:=h;obtain⟨g1,g2⟩:=sO h1;refine⟨by simp[g1],fun i d e=>?_⟩
   cases i with
   | zero=>simp at e;subst e;exact⟨es,rfl,rfl⟩
   | succ i=>exact g2 i d (by simpa using e)
  | _=>simp[Jw] at h
theorem kZ{f:D->Option (Option D)}:∀ {l out:List D},(∀ d∈l,f d≠some none)->bG f l=some out->out.length=l.length/\∀ (i:Nat) d,l[i]?=some d->∃ v,f d=some (some v)/\out[i]?=some v
 | [],out,_,h=>by cases h;exact⟨rfl,fun i d e=>by simp at e⟩
 | d::l,out,hn,h=>by
  rcases jW h with⟨v,o',f1,f2,rfl⟩ | ⟨f1,_⟩
  ·obtain⟨g1,g2⟩:=kZ (fun d hd=>hn d (W0z _ hd)) f2
   refine⟨by simp[g1],fun i d e=>?_⟩
   cases i with
   | zero=>simp at e;subst e;exact⟨v,f1,rfl⟩
   | succ i=>exact g2 i d (by simpa using e)
  ·exact absurd f1 (hn d K1z)
theorem Pb{x:Str}{px pos:Pos}{dss:List (List D)}(G:GoodS cx k X sc)(hN:X.N=ρ.map (·.1))(hx:ownIn sc x=true)(hc:(ρ.map (·.1)).contains x=true)(hoo:ooE cx sc e=true)(hon:mG (frz F e ρ) x=true)(he:ev cx F sc (frz F e ρ) e=some d)(hd:Ly d=some dss) :
  Runs X Hs0 H0 ρ (.nxt (cC (frz F e ρ) x (.oo dss))) (je X (.Assign [.Name x px] e pos)):=by
 obtain⟨ox,of⟩:=G.own.own x hx
 have hN':X.N=(frz F e ρ).map (·.1):=by rw[aY];exact hN
 unfold ooE at hoo;split at hoo
 ·rename_i elt y' pt iter a0 scope p4
  cases F with
  | zero=>exact nomatch (show(Option.none:Option D)=some d from he)
  | succ F =>
   obtain⟨tg,iter',ifs,l,out,hg,hok,hI,hp,hz,hgo,rfl,hE⟩:=jT G.good hN' he;cases hg;obtain⟨ok1,ok2,ok3⟩:=cT G.good hok;intro σ H Hs D h _ hn hr;obtain⟨i,hi⟩:=bN hc;obtain⟨Hs1,sm1,h1⟩:=h.frozen (F+1) (.ListComp elt [⟨.Name y' pt,iter,[],0⟩] scope p4);generalize hρ:frz (F+1) (.ListComp elt [⟨.Name y' pt,iter,[],0⟩] scope p4) ρ=ρ' at *
   have nm:ρ'.map (·.1)=ρ.map (·.1):=by rw[<- hρ,aY]
   have hf:∀ d o,pC cx F sc scope ρ' (.Name y' pt) elt [] d=some o->∃ ρ1 v,fP scope (.Name y' pt) d (bJ scope ρ')=some ρ1/\ev cx F (jZ scope sc) ρ1 elt=some v/\o=some v:=fun d o h=>by
    obtain⟨ρ1,h1,h⟩:=aW h;obtain⟨b,h2,h⟩:=aW h;cases h2;simp only[Q5z,Q0z] at h;obtain⟨v,h3,h4⟩:=h;exact⟨ρ1,v,h1,h3,h4.symm⟩
   obtain⟨n1,n2⟩:=kZ (fun d _ h=>by obtain⟨_,_,_,_,h⟩:=hf d _ h;cases h) hgo
   obtain⟨m1,m2⟩:=sO (show Jw out=some dss from hd)
   have hnd:(ρ'.map (·.1)).Nodup:=by rw[nm,<- hN];exact G.good.nd
   have hi':X.N[i]?=some x:=by rw[hN];exact hi
   have rd:qt X scope (qp X (.Name y' pt) iter) (qH X.N scope.names) (fun Xc=>BR Xc (.Name y' pt)) (fun Xc=>qN Xc []) (fun Xc=>pU Xc elt) σ H (fun v H1=>D.nx (σ.set i (some v)) H1):=by
    refine Jg (dss:=dss) G.good hN' hok hI hz (by rw[m1,n1]) (fun Xc C j dd hj=>?_) h1.ext.sub h1.sh fun a bs Hs' H' E o=>?_
    ·obtain⟨v,f1,f2⟩:=n2 j dd hj
     obtain⟨ρ1,v',b1,b2,b3⟩:=hf dd _ f1;cases b3;obtain⟨es',g3,g4⟩:=m2 j v f2;subst g3;exact⟨ρ1,es',b1,g4,fun hN1=>K9 (G.good.comp C hok) hN1 hoo b2⟩
    ·exact hn _ _ Hs' H' rfl (sm1.trans E.vis) (by rw[aM,nm];exact hN) ((h1.step E).own2 hnd (by rw[nm];exact hi) (o.low fun b q=>h1.ext.all.free q) (rY hnd (by rw[nm];exact hi) hon))
   cases hsw:(X.env.blockKind==.function&&X.env.kindOf x==some .local&&px.line==p4.line && !(scope.names.any fun(n,k)=>n==x&&(k==.local||k==.cell))) with
   | true =>
    have e1:swapsWith (.ListComp elt [⟨.Name y' pt,iter,[],0⟩] scope p4) (some (.Name x px)) pos.line X.env=pure true:=by rw[<- hsw];rfl
    rw[K2z,K2z,K2z] at hsw
    have hl:X.env.scope.names.lookup x=some .local:=by simpa[Env.kindOf] using hsw.1.1.2
    exact PS.sem (wW G.good.nd hi' hl G.good.calm ok1 ok2 ok3 jE (fun Xc C=>⟨gK,fG,au⟩) (dF hp) e1) rd
   | false =>
    have e1:swapsWith (.ListComp elt [⟨.Name y' pt,iter,[],0⟩] scope p4) (some (.Name x px)) pos.line X.env=pure false:=by rw[<- hsw];rfl
    exact PS.sem (jC G.good.nd hi' ox (mC G.good.calm ok1 ok2 ok3 jE (fun Xc C=>⟨gK,fG,au⟩) (dF hp)) e1 of) rd
 ·cases hoo
theorem ou{o i:Expr}{pos:Pos}{env:Env}(h:aL i=true):∀ v,assign (.Subscript o i pos) env v=(do
   let ov <- holding [v] (eval o env)
   let iv <- holding [v,ov] (eval i env)
   standAt pos
   holding [v,ov,iv] (setItem ov iv v)
   release [v,ov,iv] []):=by
 intro v
 cases i<;>first | rfl | (exact absurd h (by simp[aL]))
theorem aR.set{K:Z3}{H:Hp}{d:D}{v:V}(hv:Rep K H d v):∀ {ds:List D} {vs:List V} (n:Nat),aR K H ds vs->aR K H (ds.set n d) (vs.set n v)
 | [],vs,n,h=>by
  have:vs=[]:=by simpa[aR] using h
  subst this;simpa[aR] using h
 | e::ds,vs,n,h=>by
  simp only[aR] at h;obtain⟨w,r,rfl,h1,h2⟩:=h
  cases n with
  | zero=>exact .cons hv h2
  | succ n=>exact .cons h1 (aR.set hv n h2)
theorem wD{tg:Expr}{l:Nat}{env:Env}(he:ev cx F sc ρ e=some d)(hc:aZ e=false):swapsWithSole [tg] e l env=pure false:=by
 show swapsWith e (some tg) l env=pure false
 exact gq he fun a b c p q=>by rw[q] at hc;cases hc
theorem nR{o i:Expr}{pos:Pos}{env:Env}:swappedStores [.Subscript o i pos] e env=pure none:=by
 cases e<;>rfl
theorem FN{x:Str}{i1 i2:Expr}{dss:List (List D)}{ds:List D}{j1 j2:Int}{n1 n2:Nat}{px tp tp2 pos:Pos}(G:GoodS cx k X sc)(hN:X.N=ρ.map (·.1))(hx:ρ.lookup x=some (.oo dss))(ho:ownIn sc x=true)(hp:aH x=true)(hfr:aZ e=false)
  (q1:ev cx F sc (frz F e ρ) e=some d) (q2:ev cx F sc (frz F i1 ρ) i1=some (.int j1)) (q3:ixD dss.length j1=some n1) (q4:dss[n1]?=some ds) (q5:ev cx F sc (frz F i2 ρ) i2=some (.int j2)) (q6:ixD ds.length j2=some n2) (q7:fB d=true) :
  Runs X Hs0 H0 ρ (.nxt (cC ρ x (.oo (dss.set n1 (ds.set n2 d))))) (je X (.Assign [.Subscript (.Subscript (.Name x px) i1 tp) i2 tp2] e pos)):=by
 have hNf:∀ e,X.N=(frz F e ρ).map (·.1):=fun e=>by rw[aY];exact hN
 obtain⟨i,hi,_⟩:=cP hx
 have nd:(ρ.map (·.1)).Nodup:=by rw[<- hN];exact G.good.nd
 intro σ H Hs D h _ hn hr;obtain⟨⟨ad,bs,k1,k2⟩,_⟩:=h.oo i x dss hi;unfold aH at hp;rw[K2z,K5z,K5z] at hp;have vis:Vis X.env.scope x:=(G.own.own x ho).1.elim .inl fun q=>.inr (.inl q)
 have hNi:X.N[i]?=some x:=by rw[hN,List.getElem?_map,hi];rfl
 have pv:∀ {pp:Pos},PE X (.Name x pp) (N5 i):=fun {pp}=>jF hNi vis (by simpa using hp.1) (by simpa using hp.2);have ll:=k2.2.2.2.2.2.1
 have nlt:n1<bs.length:=by
  rw[ll];exact(List.getElem?_eq_some_iff.mp q4).1
 obtain⟨b,hb⟩:∃ b,bs[n1]?=some b:=⟨_,List.getElem?_eq_getElem nlt⟩;refine PS.sem (wX au (Dq (GK yp pv au (lZ (bw q2))) au set_list (ou (bw q5))) (wD q1 hfr) nR rfl) ?_;obtain⟨Hs1,sm1,shp,h1⟩:=h.frozen2 F e;refine(cW cx F G.good (hNf e) q1).1 σ H Hs1 _ h1.ext.sub h1.sh fun v1 H1 Hs4 E1 r1=>?_;obtain⟨Hs7,B1,r1'⟩:=oZ h.ext.sub sm1 shp E1 q7 r1;have hB1:=h.step B1;obtain⟨Hs2,sm2,h2⟩:=hB1.frozen F i1;refine⟨.ref ad,k1,(cW cx F G.good (hNf i1) q2).1 σ H1 Hs2 _ h2.ext.sub h2.sh fun v2 H2 Hs5 E2 r2=>?_⟩;have B2:Ext Hs7 H1 Hs7 H2:=⟨.refl _,E2.all,hB1.ext.sub.trans E2.all,fun _ _ _ h=>h⟩;have hB2:=hB1.step B2;have o2:=(k2.step B1).step B2;refine⟨ad,bs.map V.ref,j1,.ref b,rfl,aV r2,.of o2.1,?_,?_⟩
 ·unfold atI
  rw[G3z,ll,<- yr,q3];show(bs.map V.ref)[n1]?=_;rw[List.getElem?_map,hb];rfl
 obtain⟨Hs3,sm3,h3⟩:=hB2.frozen F i2;refine(cW cx F G.good (hNf i2) q5).1 σ H2 Hs3 _ h3.ext.sub h3.sh fun v3 H3 Hs6 E3 r3=>?_;have B3:Ext Hs7 H2 Hs7 H3:=⟨.refl _,E3.all,hB2.ext.sub.trans E3.all,fun _ _ _ h=>h⟩;have o3:=o2.step B3;obtain⟨m1,m2,ds',us,m3,m4,m5⟩:=o3.2.2.2.2.2.2 n1 b hb;rw[q4] at m3;cases m3;have nab:ad≠b:=fun w=>o3.2.2.2.2.1 (by rw[w];exact List.mem_of_getElem? hb);refine⟨b,us,j2,n2,rfl,aV r3,m4,by rw[<- m5.length,<- yr];exact q6,?_⟩;refine hn _ _ Hs7 _ rfl B1.vis (by rw[aM];exact hN) ((hB2.step B3).app2 nd hi k1 m1 m2 (bs':=bs) ⟨by rw[aO nab];exact o3.1,o3.2.1,o3.2.2.1,o3.2.2.2.1,o3.2.2.2.2.1,by rw[H3z];exact o3.2.2.2.2.2.1,fun jj b' e=>?_⟩)
 by_cases hjj:n1=jj
 ·subst hjj
  rw[hb] at e;cases e;refine⟨m1,m2,ds.set n2 d,us.set n2 v1,?_,aX,aR.set r1' n2 m5⟩;rw[List.getElem?_set,R5z rfl,R5z (by rw[<- ll];exact nlt)]
 ·obtain⟨m1',m2',ds',us',m3',m4',m5'⟩:=o3.2.2.2.2.2.2 jj b' e
  refine⟨m1',m2',ds',us',?_,?_,m5'⟩
  ·rw[List.getElem?_set,S5z hjj];exact m3'
  ·rw[aO]
   ·exact m4'
   ·intro w
    rw[w] at e;exact hjj ((List.getElem?_inj nlt o3.2.2.2.1).mp (hb.trans e.symm))
end
section
variable {X:Cx} {pos:Pos}
end
section
variable {X:Cx} {ρ:Rho} {cx:Cxt} {k F:Nat} {sc scope:Scope} {Hs0 H0:Hp} {e:Expr} {d:D}
theorem Ka{es:List Expr}{l:List D}{ρ':Rho}{kt:Nat}{pt pos:Pos}(G:GoodS cx k X sc)(hN:X.N=ρ.map (·.1))(hs:(swp sc es e).isSome=true)(he:ev cx F sc (frz F e ρ) e=some d)(hl:items d=some l)(hb:bindNames sc es l (frz F e ρ)=some ρ') :
  Runs X Hs0 H0 ρ (.nxt ρ') (je X (.Assign [.Tuple es kt pt] e pos)):=by
 have hN':X.N=(frz F e ρ).map (·.1):=by rw[aY];exact hN
 obtain⟨b,hb'⟩:=Option.isSome_iff_exists.mp hs
 cases b with
 | false =>
  have hw:=J6 (kt:=kt) (pt:=pt) G.good hb'
  have hso:swapsWithSole [.Tuple es kt pt] e pos.line X.env=pure false:=by
   show swapsWith e (some (.Tuple es kt pt)) pos.line X.env=pure false
   by_cases hc:∃ a b c p,e=.ListComp a b c p
   ·obtain⟨a,b,c,p,rfl⟩:=hc
    rfl
   ·exact gq he fun a b c p q=>hc ⟨a,b,c,p,q⟩
  intro σ H Hs D h _ hn hr;exact PS.sem (wX au gK hso hw rfl) (Cd G hN he h fun v Hs' H' sm h' r=>vf G h'.ext.sub hN' sV hl hb h' r fun σ' hN2 p=>hn ρ' σ' Hs' H' rfl sm hN2 p)
 | true =>
  obtain⟨x,px,y,py,a,b,k2,p2,rfl,rfl,lx,ly,hxy,pa,pb,hw⟩:=Fz (kt:=kt) (pt:=pt) G.good hb'
  cases F with
  | zero=>simp[ev] at he
  | succ F =>
   simp only[ev] at he;obtain⟨ds,h1,he⟩:=aW he;split at he
   ·cases he
    simp only[items,E2z] at hl;subst hl;have hA:=(fC (fun e _ d hd=>⟨(cW cx F G.good hN' hd).1,bw hd⟩) h1).1
    have hlen:ds.length=2:=by have:=(fH (env:=X.env) hb).2.2;simpa using this.symm
    obtain⟨d1,d2,rfl⟩:∃ d1 d2,ds=[d1,d2]:=by
     match ds,hlen with
     | [d1,d2],_=>exact⟨d1,d2,rfl⟩
    simp only[bindNames] at hb;split at hb
    ·rename_i c1
     split at hb
     ·rename_i c2
      cases hb;rw[K2z] at c1 c2;rw[aM] at c2;obtain⟨i,hi⟩:=bN c1.2;obtain⟨j,hj⟩:=bN c2.2
      have hij:i≠j:=fun z=>by rw[z,hj] at hi;cases hi;exact hxy rfl
      intro σ H Hs D h _ hn hr;obtain⟨Hs1,sm1,h1'⟩:=h.frozen (F+1) (.Tuple [a,b] k2 p2);refine PS.sem (KD G.good.calm G.good.nd (by rw[hN'];exact hi) (by rw[hN'];exact hj) hij lx ly iM hw rfl) (hA σ H Hs1 _ h1'.ext.sub h1'.sh fun vs H' Hs' E r=>?_);obtain⟨v,w,rfl,r1,r2⟩:=Py r
      have nd:((frz (F+1) (.Tuple [a,b] k2 p2) ρ).map (·.1)).Nodup:=by rw[<- hN'];exact G.good.nd
      have g1:=(h1'.step E).set nd hi r1;have g2:=g1.set (by rw[aM];exact nd) (by rw[aM];exact hj) r2;exact⟨v,w,rfl,hn _ _ Hs' H' rfl (sm1.trans E.vis) (by rw[aM,aM];exact hN') g2⟩
     ·cases hb
    ·cases hb
   ·cases he
theorem wB{x:Str}{ds:List D}{px ap cp pos:Pos}(G:GoodS cx k X sc)(hN:X.N=ρ.map (·.1))(hx:(frz F e ρ).lookup x=some (.ow ds))(ho:ownIn sc x=true)(hp:aH x=true)(hline:(ap.endLine==cp.line)=true)(hz:szl (ds.length+1)=true)(he:ev cx F sc (frz F e ρ) e=some d) :
  Runs X Hs0 H0 ρ (.nxt (cC (frz F e ρ) x (.ow (ds++[d])))) (je X (.Expr (.Call (.Attribute (.Name x px) "append" ap) [e] [] cp) pos)):=by
 have hN':X.N=(frz F e ρ).map (·.1):=by rw[aY];exact hN
 obtain⟨i,hi,_⟩:=cP hx
 have nd:((frz F e ρ).map (·.1)).Nodup:=by rw[<- hN'];exact G.good.nd
 have hpl:=bw he;intro σ H Hs D h _ hn hr;obtain⟨Hs1,sm1,h1⟩:=h.frozen F e;obtain⟨a,vs,k1,k2,k3,k4,k5⟩:=h1.ow i x ds hi;unfold aH at hp;rw[K2z,K5z,K5z] at hp;have vis:Vis X.env.scope x:=(G.own.own x ho).1.elim .inl fun q=>.inr (.inl q);refine PS.sem (jD (xr K0z PySem.F.slot_list_append PySem.F.type_list_append oM (jF (i:=i) (by rw[hN',List.getElem?_map,hi];rfl) vis (by simpa using hp.1) (by simpa using hp.2)) (bI au cY (aq hpl)) rfl (by rw[aq hpl];rfl) hline (aq hpl) rfl) rfl) ?_;refine⟨_,k1,.inl ⟨rfl,vs,.of k2⟩,?_⟩;refine(cW cx F G.good hN' he).1 σ H Hs1 _ h1.ext.sub h1.sh fun v H' Hs' E r=>?_;have h2:=h1.step E;refine⟨a,vs,v,rfl,rfl,E.all _ _ k2,by have:=k3.length;have:=v7 hz;omega,?_⟩;exact hn _ _ Hs' _ rfl (sm1.trans E.vis) (by rw[aM];exact hN') (h2.app nd hi k1 (aR.append (aR.same E.vis ds vs k3) (.cons r .nil)))
theorem HJ{e:Expr}(h:Oe e=true):∃ dp,e=.Dict [] [] dp:=by
 unfold Oe at h;split at h
 ·exact⟨_,rfl⟩
 ·cases h
theorem Ph{x:Str}{px dp pos:Pos}(G:GoodS cx k X sc)(hN:X.N=ρ.map (·.1))(hx:ownIn sc x=true)(hc:(ρ.map (·.1)).contains x=true)(ho:mG ρ x=true) :
  Runs X Hs0 H0 ρ (.nxt (cC ρ x (.od []))) (je X (.Assign [.Name x px] (.Dict [] [] dp) pos)):=by
 obtain⟨ox,of⟩:=G.own.own x hx;obtain⟨i,hi⟩:=bN hc
 have nd:(ρ.map (·.1)).Nodup:=by rw[<- hN];exact G.good.nd
 intro σ H Hs D h _ hn hr;refine PS.sem (jC (i:=i) G.good.nd (by rw[hN];exact hi) ox K8 rfl of) fun p o hp=>?_
 have Hn:Hs p=none:=by
  cases e:Hs p with
  | none=>rfl
  | some u=>rw[h.ext.sub _ _ e] at hp;cases hp
 have E:Ext Hs H Hs (upd H p (DtO p [] o)):=⟨.refl _,fun b u e=>by rw[aO (aK e hp)];exact e,fun b u e=>by rw[aO (aK e Hn)];exact h.ext.sub b u e,fun b u _ e=>e⟩
 exact hn _ _ Hs _ rfl (.refl _) (by rw[aM];exact hN) ((h.step E).ownD nd hi ⟨[],o,aX,Hn,h.ext.all.free hp,rfl,fun _ q=>(nomatch q),.nil⟩ (rY nd hi ho))
theorem Am{K:Z3}{H:Hp}{k:List Int}{b:Addr}{d:D}{v:V}(r:Rep K H d v):∀ {l:List (List Int×D)} {es:List En},es.map (·.1)=l.map (·.1)->aR K H (l.map (·.2)) (es.map (·.2.2))->(wR es k b v).map (·.1)=(Dk l k d).map (·.1)/\aR K H ((Dk l k d).map (·.2)) ((wR es k b v).map (·.2.2)):=by
 intro l es h1 h2
 have any:(jH es k).isSome=l.any fun q=>decide (q.1=k):=by
  have e1:∀ es:List En,(jH es k).isSome=(es.map (·.1)).any fun q=>decide (q=k):=by
   intro es;unfold jH;rw[Option.isSome_map]
   induction es with
   | nil=>rfl
   | cons e es ih =>
    rw[List.find?_cons,I4z,L4z,<- ih]
    cases decide (e.1=k)<;>rfl
  rw[e1,h1,List.any_map];rfl
 unfold wR Dk;rw[any];split
 ·clear any
  have go:∀ (l:List (List Int×D)) (es:List En),es.map (·.1)=l.map (·.1)->aR K H (l.map (·.2)) (es.map (·.2.2))->(es.map fun e=>if e.1=k then(e.1,e.2.1,v) else e).map (·.1)=(l.map fun q=>if q.1=k then(q.1,d) else q).map (·.1)/\aR K H ((l.map fun q=>if q.1=k then(q.1,d) else q).map (·.2)) ((es.map fun e=>if e.1=k then(e.1,e.2.1,v) else e).map (·.2.2)):=by
   intro l
   induction l with
   | nil =>
    intro es q1 q2
    cases es with
    | nil=>exact⟨rfl,.nil⟩
    | cons _ _=>simp at q1
   | cons q l ih =>
    intro es q1 q2
    cases es with
    | nil=>simp at q1
    | cons e es =>
     simp only[I4z,List.cons.injEq] at q1;simp only[I4z,aR] at q2;obtain⟨w,rr,z,z2,z3⟩:=q2;cases z;obtain⟨i1,i2⟩:=ih es q1.2 z3;simp only[I4z]
     by_cases c:q.1=k
     ·rw[R5z c,R5z (q1.1.trans c)]
      exact⟨by rw[i1];simp[q1.1],.cons r i2⟩
     ·rw[S5z c,S5z fun z=>c (q1.1.symm.trans z)]
      exact⟨by rw[i1,q1.1],.cons z2 i2⟩
  exact go l es h1 h2
 ·refine⟨by simp[h1],?_⟩
  rw[R3z,R3z];exact h2.append (.cons r .nil)
theorem oV:∀ {ts:List D} {k:List Int},iU ts=some k->gR ts=true
 | [],_,_=>rfl
 | a::ts,k,h=>by
  cases a<;>simp only[iU] at h
  all_goals first | cases h | skip
  obtain⟨r,q,_⟩:=Q0z.mp h;simp only[gR,fB,oV q,J4z]
theorem Bw{y:D}{k:List Int}(h:uU y=some k):fB y=true:=by
 cases y<;>simp only[uU] at h
 all_goals first | cases h | skip
 exact oV h
theorem FP{x:Str}{ie:Expr}{l:List (List Int×D)}{y:D}{kk:List Int}{px tp pos:Pos}(G:GoodS cx k X sc)(hN:X.N=ρ.map (·.1))(hx:ρ.lookup x=some (.od l))(ho:ownIn sc x=true)(hp:aH x=true)(hfr:aZ e=false)
  (q1:ev cx F sc (frz F e ρ) e=some d) (q4:ev cx F sc (frz F e ρ) ie=some y) (q5:uU y=some kk) (hfl:fB d=true) (hz:l.length<=1000) :
  Runs X Hs0 H0 ρ (.nxt (cC ρ x (.od (Dk l kk d)))) (je X (.Assign [.Subscript (.Name x px) ie tp] e pos)):=by
 have hN':X.N=(frz F e ρ).map (·.1):=by rw[aY];exact hN
 obtain⟨i,hi,_⟩:=cP hx
 have nd:(ρ.map (·.1)).Nodup:=by rw[<- hN];exact G.good.nd
 intro σ H Hs D h _ hn hr;obtain⟨Hs1,sm1,shp,h1⟩:=h.frozen2 F e;obtain⟨⟨ad,k1,es,ob,k2,k3,k4,k5,k6,k7⟩,no⟩:=h.od i x l hi;unfold aH at hp;rw[K2z,K5z,K5z] at hp;have vis:Vis X.env.scope x:=(G.own.own x ho).1.elim .inl fun q=>.inr (.inl q)
 have hNi:X.N[i]?=some x:=by rw[hN,List.getElem?_map,hi];rfl
 have pv:∀ {pp:Pos},PE X (.Name x pp) (N5 i):=fun {pp}=>jF hNi vis (by simpa using hp.1) (by simpa using hp.2)
 have hu:X.A.units+1<cLine:=by have:=G.good.room.units;omega
 refine PS.sem (wX au (Dq pv au (Kg hu) (ou (bw q4))) (wD q1 hfr) nR rfl) ?_;refine(cW cx F G.good hN' q1).1 σ H Hs1 _ h1.ext.sub h1.sh fun v1 H1 Hs4 E1 r1=>?_;refine⟨.ref ad,k1,(cW cx F G.good hN' q4).1 σ H1 Hs4 _ E1.sub (h1.sh.same E1.vis) fun v3 H3 Hs6 E3 r3=>?_⟩;have E:=E1.trans E3
 have hfy:gR [d,y]=true:=by
  have:fB y=true:=Bw q5;simp only[gR,hfl,this,J4z]
 obtain⟨Hs7,E7,r7⟩:=uX h.ext.sub sm1 shp E hfy (.cons (Rep.same E3.vis _ _ r1) (.cons r3 .nil));simp only[aR] at r7;obtain⟨_,_,z1,ra,_,_,z2,rb,_⟩:=r7;cases z1;cases z2;obtain⟨b,rfl,kb⟩:=mO q5 rb
 have hl:es.length<sizeLine:=by
  have:=congrArg List.length k5;rw[G3z,G3z] at this;rw[B5z];omega
 have hd7:=h.step E7;obtain⟨⟨ad',g1,es',ob',g2,g3,g4,g5,g6,g7⟩,_⟩:=hd7.od i x l hi;rw[k1] at g1;cases g1;refine⟨ad,es',ob',b,kk,rfl,rfl,g2,g6.same fun q=>E7.sub.tup q,E7.sub.tup kb,?_,fun o'=>?_⟩
 ·have:=congrArg List.length g5
  rw[G3z,G3z] at this;rw[B5z];omega
 obtain⟨p1,p2⟩:=Am (k:=kk) (b:=b) ra g5 g7;refine hn _ _ Hs7 _ rfl E7.vis (by rw[aM];exact hN) (hd7.appD nd hi k1 g3 g4 ⟨wR es' kk b v1,o',aX,g3,g4,p1,fun e he=>?_,p2⟩);rcases Ar he with⟨e',he',z1,z2⟩ | ⟨z1,z2⟩
 ·rw[z1,z2];exact g6 e' he'
 ·rw[z1,z2];exact kb
theorem yK(l:Addr)(xs:Array Value)(n:Nat)(b:Addr)(ys:Array Value)(m:Nat)(dd:Option Addr)(sl:Array (Option Value))(c0:¬(!xs.isEmpty&&Builtin.List.listTooLong (xs.size+ys.size))=true)(c1:xs.size<=sizeLine)(c2:xs.size+ys.size<=sizeLine+1) :
  Meets (Builtin.«list.extend» ⟨[.ref l,.ref b],[]⟩) (fun _ R s=>s.heap.get? l=some { cls:=.type "list",data:=.seq xs n }/\s.heap.get? b=some { cls:=.type "list",dict:=dd,data:=.seq ys m,slots:=sl } /\
   R (.ok (.ret Value.none)) { s with heap:=s.heap.update l (Obj.mapSeq fun x=>x++ys),toks:=s.toks }) :=
 .of_wp fun prog w A R s h=>by
  obtain⟨hp,g,d,tk,os⟩:=s;obtain⟨hl,hb,h⟩:=h;have f1:=sub_list_list;have f2:=AutoSeq1.sub_tuple_list;have f3:=AutoSeq1.sub_list_tuple
  have z:(xs++ys).size<=sizeLine+1:=by rw[Array.size_append];exact c2
  wp_walk using(wpAny_updateSeq hl rfl (hz:=c1) (_hz':=z)),I0z hl,I0z hb;exact⟨_,rfl,h⟩
def PN(K:Z3):V->List V->Hp->VK->Prop:=fun x vs H Q=>∃ l b xs zs,x=.ref l/\vs=[.ref b]/\H l=some (.lst xs)/\SqL K H b zs/\xs.length+zs.length<=sizeLine/\Q .non (upd H l (.lst (xs++zs)))
theorem Hu:MtM X "list.extend" (PN X.K):=by
 intro z0 s σ H x vs v us Q I rx rv h;obtain⟨l,b,xs,zs,rfl,rfl,hH,hB,hz,q⟩:=h;cases (show v=Value.ref l from rx);obtain⟨u,rfl,ru⟩:=rv.one;cases (show u=Value.ref b from ru);obtain⟨z,its,n,r,hl,e⟩:=I.lstM hH;obtain⟨its2,r2,pl,hz2⟩:=I.list hB;have hl2:=r2.length;obtain⟨⟨c2,dd2,data2,sl2⟩,n2,e2,hc2,hd2,hs2⟩:=pl;simp only at hc2 hs2
 have hsz:its.toArray.size+its2.toArray.size<=sizeLine:=by rw[V1z,V1z];omega
 have lng:¬ (!its.toArray.isEmpty&&Builtin.List.listTooLong (its.toArray.size+its2.toArray.size))=true:=fun w=>by
  rw[mH hsz,C4z] at w;cases w
 obtain⟨h3,h4⟩:=(show dd2=none/\data2=.seq its2.toArray n2 from⟨hd2,hs2⟩);subst hc2 h4;refine I5z F.slot_list_extend ⟨_,e,rfl⟩ F.entry_list_extend (F.args_list_extend_2 _ _) (yK l its.toArray n b its2.toArray n2 dd2 sl2 lng (by rw[V1z];omega) (by omega)) ⟨e,e2,?_⟩;exact⟨.non,_,I.lset (its':=its++its2) hH e (by simp) (r.append r2) (by rw[P1z];omega),rfl,q⟩
theorem uY(l:Addr)(xs:Array Value)(n:Nat)(b:Addr)(ys:Array Value)(m:Nat)(dd:Option Addr)(sl:Array (Option Value))(c0:¬(!xs.isEmpty&&Builtin.List.listTooLong (xs.size+ys.size))=true)(c1:xs.size<=sizeLine)(c2:xs.size+ys.size<=sizeLine+1) :
  Meets (Builtin.«list.extend» ⟨[.ref l,.ref b],[]⟩) (fun _ R s=>s.heap.get? l=some { cls:=.type "list",data:=.seq xs n }/\s.heap.get? b=some { cls:=.type "tuple",dict:=dd,data:=.seq ys m,slots:=sl } /\
   R (.ok (.ret Value.none)) { s with heap:=s.heap.update l (Obj.mapSeq fun x=>x++ys),toks:=s.toks }) :=
 .of_wp fun prog w A R s h=>by
  obtain⟨hp,g,d,tk,os⟩:=s;obtain⟨hl,hb,h⟩:=h;have f1:=sub_list_list;have f2:=AutoSeq1.sub_tuple_list;have f3:=AutoSeq1.sub_list_tuple;have f4:=isSubtype_tuple_tuple
  have z:(xs++ys).size<=sizeLine+1:=by rw[Array.size_append];exact c2
  wp_walk using(wpAny_updateSeq hl rfl (hz:=c1) (_hz':=z)),I0z hl,I0z hb;exact⟨_,rfl,h⟩
def PL(K:Z3):V->List V->Hp->VK->Prop:=fun x vs H Q=>∃ l b xs zs,x=.ref l/\vs=[.ref b]/\H l=some (.lst xs)/\SqT K H b zs/\xs.length+zs.length<=sizeLine/\Q .non (upd H l (.lst (xs++zs)))
theorem Ht:MtM X "list.extend" (PL X.K):=by
 intro z0 s σ H x vs v us Q I rx rv h;obtain⟨l,b,xs,zs,rfl,rfl,hH,hB,hz,q⟩:=h;cases (show v=Value.ref l from rx);obtain⟨u,rfl,ru⟩:=rv.one;cases (show u=Value.ref b from ru);obtain⟨z,its,n,r,hl,e⟩:=I.lstM hH;obtain⟨its2,r2,pl,hz2⟩:=I.tuple hB;have hl2:=r2.length;obtain⟨⟨c2,dd2,data2,sl2⟩,e2,hc2,n2,hs2⟩:=pl;simp only at hc2 hs2
 have hsz:its.toArray.size+its2.toArray.size<=sizeLine:=by rw[V1z,V1z];omega
 have lng:¬ (!its.toArray.isEmpty&&Builtin.List.listTooLong (its.toArray.size+its2.toArray.size))=true:=fun w=>by
  rw[mH hsz,C4z] at w;cases w
 subst hc2 hs2;refine I5z F.slot_list_extend ⟨_,e,rfl⟩ F.entry_list_extend (F.args_list_extend_2 _ _) (uY l its.toArray n b its2.toArray n2 dd2 sl2 lng (by rw[V1z];omega) (by omega)) ⟨e,e2,?_⟩;exact⟨.non,_,I.lset (its':=its++its2) hH e (by simp) (r.append r2) (by rw[P1z];omega),rfl,q⟩
theorem wA{x:Str}{ds zs:List D}{px ap cp pos:Pos}(G:GoodS cx k X sc)(hN:X.N=ρ.map (·.1))(hx:(frz F e ρ).lookup x=some (.ow ds))(ho:ownIn sc x=true)(hp:aH x=true)(hline:(ap.endLine==cp.line)=true)(hz:szl (ds.length+zs.length)=true)(he:ev cx F sc (frz F e ρ) e=some (.lst zs)) :
  Runs X Hs0 H0 ρ (.nxt (cC (frz F e ρ) x (.ow (ds++zs)))) (je X (.Expr (.Call (.Attribute (.Name x px) "extend" ap) [e] [] cp) pos)):=by
 have hN':X.N=(frz F e ρ).map (·.1):=by rw[aY];exact hN
 obtain⟨i,hi,_⟩:=cP hx
 have nd:((frz F e ρ).map (·.1)).Nodup:=by rw[<- hN'];exact G.good.nd
 have hpl:=bw he;intro σ H Hs D h _ hn hr;obtain⟨Hs1,sm1,h1⟩:=h.frozen F e;obtain⟨a,vs,k1,k2,k3,k4,k5⟩:=h1.ow i x ds hi;unfold aH at hp;rw[K2z,K5z,K5z] at hp;have vis:Vis X.env.scope x:=(G.own.own x ho).1.elim .inl fun q=>.inr (.inl q);refine PS.sem (jD (xr K0z PySem.F.slot_list_extend PySem.F.type_list_extend Hu (jF (i:=i) (by rw[hN',List.getElem?_map,hi];rfl) vis (by simpa using hp.1) (by simpa using hp.2)) (bI au cY (aq hpl)) rfl (by rw[aq hpl];rfl) hline (aq hpl) rfl) rfl) ?_;refine⟨_,k1,.inl ⟨rfl,vs,.of k2⟩,?_⟩;refine(cW cx F G.good hN' he).1 σ H Hs1 _ h1.ext.sub h1.sh fun v H' Hs' E r=>?_;have h2:=h1.step E;obtain⟨b,us,rfl,g1,g2⟩:=bF r;refine⟨a,b,vs,us,rfl,rfl,E.all _ _ k2,E.sub.seq g1,by have:=k3.length;have:=g2.length;have:=fQ hz;omega,?_⟩;exact hn _ _ Hs' _ rfl (sm1.trans E.vis) (by rw[aM];exact hN') (h2.app nd hi k1 (aR.append (aR.same E.vis ds vs k3) g2))
theorem uI{x:Str}{ds zs:List D}{px ap cp pos:Pos}(G:GoodS cx k X sc)(hN:X.N=ρ.map (·.1))(hx:(frz F e ρ).lookup x=some (.ow ds))(ho:ownIn sc x=true)(hp:aH x=true)(hline:(ap.endLine==cp.line)=true)(hz:szl (ds.length+zs.length)=true)(he:ev cx F sc (frz F e ρ) e=some (.tup zs)) :
  Runs X Hs0 H0 ρ (.nxt (cC (frz F e ρ) x (.ow (ds++zs)))) (je X (.Expr (.Call (.Attribute (.Name x px) "extend" ap) [e] [] cp) pos)):=by
 have hN':X.N=(frz F e ρ).map (·.1):=by rw[aY];exact hN
 obtain⟨i,hi,_⟩:=cP hx
 have nd:((frz F e ρ).map (·.1)).Nodup:=by rw[<- hN'];exact G.good.nd
 have hpl:=bw he;intro σ H Hs D h _ hn hr;obtain⟨Hs1,sm1,h1⟩:=h.frozen F e;obtain⟨a,vs,k1,k2,k3,k4,k5⟩:=h1.ow i x ds hi;unfold aH at hp;rw[K2z,K5z,K5z] at hp;have vis:Vis X.env.scope x:=(G.own.own x ho).1.elim .inl fun q=>.inr (.inl q);refine PS.sem (jD (xr K0z PySem.F.slot_list_extend PySem.F.type_list_extend Ht (jF (i:=i) (by rw[hN',List.getElem?_map,hi];rfl) vis (by simpa using hp.1) (by simpa using hp.2)) (bI au cY (aq hpl)) rfl (by rw[aq hpl];rfl) hline (aq hpl) rfl) rfl) ?_;refine⟨_,k1,.inl ⟨rfl,vs,.of k2⟩,?_⟩;refine(cW cx F G.good hN' he).1 σ H Hs1 _ h1.ext.sub h1.sh fun v H' Hs' E r=>?_;have h2:=h1.step E;obtain⟨b,us,rfl,g1,g2⟩:=bL r;refine⟨a,b,vs,us,rfl,rfl,E.all _ _ k2,E.sub.tup g1,by have:=k3.length;have:=g2.length;have:=fQ hz;omega,?_⟩;exact hn _ _ Hs' _ rfl (sm1.trans E.vis) (by rw[aM];exact hN') (h2.app nd hi k1 (aR.append (aR.same E.vis ds vs k3) g2))
theorem FT{pos:Pos}(G:GoodS cx k X sc)(hN:X.N=ρ.map (·.1))(he:ev cx F sc (frz F e ρ) e=some d)(hc:∀ a b c p,e≠.ListComp a b c p):Runs X Hs0 H0 ρ (.nxt (frz F e ρ)) (je X (.Expr e pos)):=by
 intro σ H Hs D h _ hn hr;exact PS.sem (jD au (gq he hc)) (Cd G hN he h fun v Hs' H' sm h' r=>hn _ _ Hs' H' rfl sm (by rw[aY];exact hN) h')
theorem BL{f:Rho->Stmt->Option Fl}(hf:∀ ρ s fl,X.N=ρ.map (·.1)->f ρ s=some fl->Runs X Hs0 H0 ρ fl (je X s)):∀ (l:List Stmt) (ρ:Rho) (fl:Fl),X.N=ρ.map (·.1)->iY f l ρ=some fl->Runs X Hs0 H0 ρ fl (iz X l)
 | [],ρ,fl,hN,h=>by
  simp only[iY,E2z] at h;subst h;intro σ H Hs D h _ hn hr;exact PSs.sem wU (hn _ _ Hs H rfl (.refl _) hN h)
 | s::r,ρ,fl,hN,h=>by
  simp only[iY] at h;obtain⟨fl1,h1,h2⟩:=aW h;intro σ H Hs D hd _ hn hr;refine PSs.sem (lY Dn dD) (hf ρ s fl1 hN h1 σ H Hs _ hd hN (fun ρ' σ' Hs' H' q sm hN' hd'=>?_) fun d v Hs' H' q E rr=>?_)
  ·subst q
   exact BL hf r ρ' fl hN' h2 σ' H' Hs' D hd' hN' (fun ρ2 σ2 Hs2 H2 q2 sm2=>hn ρ2 σ2 Hs2 H2 q2 (sm.trans sm2)) hr
  ·subst q
   cases h2;exact hr d v Hs' H' rfl E rr
theorem Kd{tg iter:Expr}{body:List Stmt}{l:List D}{fl:Fl}{pos:Pos}{f:D->Rho->Option Fl}(G:GoodS cx k X sc)(hN:X.N=ρ.map (·.1))(hI:evI cx (d8 tg) (ev cx F sc (frz F iter ρ)) sc iter=some l)
  (hf:∀ d ρ1 fl,f d ρ1=some fl->X.N=ρ1.map (·.1)->∃ ρ2,fP sc tg d ρ1=some ρ2/\(X.N=ρ2.map (·.1)->Runs X Hs0 H0 ρ2 fl (iz X body))) (h:bU f l (frz F iter ρ)=some fl):Runs X Hs0 H0 ρ fl (je X (.For tg iter body [] pos)):=by
 have hN':X.N=(frz F iter ρ).map (·.1):=by rw[aY];exact hN
 obtain⟨hI',hp⟩:=yQ (tg:=tg) (ρ:=frz F iter ρ) G.good (fun e d h=>⟨(cW cx F G.good hN' h).1,bw h⟩) hI;intro σ H Hs D hd _ hn hr;obtain⟨Hs1,sm1,h1⟩:=hd.frozen F iter;refine PS.sem (KH G.pass G.good.calm jE gK dD (dF hp)) (hI' σ H Hs1 _ h1.ext.sub h1.sh fun J H2 Hs2 E2 hJ=>?_)
 let W:Nat->Nat->St->Hp->Prop:=fun i m σ H=>m=l.length-i/\i<=l.length/\∃ ρi Hsi,Same Hs2 Hsi/\Hd X.K Hs0 H0 Hsi H ρi σ/\X.N=ρi.map (·.1)/\bU f (l.drop i) ρi=some fl
 refine⟨W,⟨l.length,rfl,D5z _,_,Hs2,.refl _,h1.step E2,hN',by simpa using h⟩,?_⟩;rintro i m σi Hi ⟨rfl,hi,ρi,Hsi,sm,hdi,hNi,gi⟩;obtain⟨stp,go⟩:=hJ Hsi Hi sm hdi.ext.sub
 by_cases hlt:i<l.length
 ·obtain⟨g1,g2⟩:=go i l[i] (List.getElem?_eq_getElem hlt)
  refine .inr ⟨g1,fun σ' H'=>W (i+1) (l.length-(i+1)) σ' H',fun σ' H' w=>⟨_,by omega,w⟩,fun x H' y=>?_⟩;obtain⟨Hs3,E3,rx⟩:=g2 x H' y;rw[G0z hlt] at gi;simp only[bU] at gi;obtain⟨fl1,b1,b2⟩:=aW gi;obtain⟨ρ2,c1,c2⟩:=hf _ _ _ b1 hNi;have hd3:=hdi.step E3;refine qY G.good.calm G.own G.good.nd hd3.ext.sub hNi (sV (Hs0:=Hs0) (H0:=H0) (H:=H')) c1 hd3 rx fun σ' hN2 p=>?_;refine c2 hN2 σ' H' Hs3 _ p hN2 (fun ρ' σ'' Hs' H'' q sm4 hN3 hd4=>?_) fun d v Hs' H'' q E rr=>?_
  ·subst q
   exact⟨rfl,hlt,ρ',Hs',sm.trans (E3.vis.trans sm4),hd4,hN3,b2⟩
  ·subst q
   cases b2;exact hr d v Hs' H'' rfl E rr
 ·have hi':i=l.length:=by omega
  subst hi';refine .inl ⟨stp,?_⟩;rw[List.drop_length] at gi;simp only[bU,E2z] at gi;exact hn ρi σi Hsi Hi gi.symm (sm1.trans (E2.vis.trans sm)) hNi hdi
theorem Ag{c:Expr}{body:List Stmt}{fl:Fl}{pos:Pos}{f:Rho->Option Fl}{m:Nat}(G:GoodS cx k X sc)(hN:X.N=ρ.map (·.1))(hf:∀ ρ fl,X.N=ρ.map (·.1)->f ρ=some fl->Runs X Hs0 H0 ρ fl (iz X body))
  (h:rB (fun ρ=>((ev cx F sc (frz F c ρ) c).bind asB).map fun b=>(frz F c ρ,b)) f m ρ=some fl):Runs X Hs0 H0 ρ fl (je X (.While c body [] pos)):=by
 intro σ H Hs D hd _ hn hr
 let W:Nat->St->Hp->Prop:=fun m σ H=>∃ ρi Hsi,Same Hs Hsi/\Hd X.K Hs0 H0 Hsi H ρi σ/\X.N=ρi.map (·.1)/\rB (fun ρ=>((ev cx F sc (frz F c ρ) c).bind asB).map fun b=>(frz F c ρ,b)) f m ρi=some fl
 refine PS.sem (Aw G.pass dO dD) ⟨W,⟨m,ρ,Hs,.refl _,hd,hN,h⟩,?_⟩;rintro m σi Hi ⟨ρi,Hsi,sm,hdi,hNi,gi⟩
 cases m with
 | zero=>simp[rB] at gi
 | succ m =>
  simp only[rB] at gi;split at gi
  ·cases gi
  ·rename_i ρ1 b hb
   obtain⟨b',h1,h2⟩:=Q0z.mp hb;cases h2;have he:=eN h1
   have hN':X.N=(frz F c ρi).map (·.1):=by rw[aY];exact hNi
   refine M9 G hNi he hdi fun Hs' H' sm' h'=>?_
   cases b with
   | true =>
    rw[R5z rfl] at gi ⊢;split at gi
    ·cases gi
    ·rename_i d hfd
     cases gi;refine⟨fun σ' H'=>W m σ' H',fun σ' H' w=>⟨m,M2z _,w⟩,?_⟩
     exact hf _ _ hN' hfd σi H' Hs' _ h' hN' (fun ρ2 σ2 Hs2 H2 q2=>by cases q2) fun d2 v Hs2 H2 q2 E rr=>by cases q2;exact hr d v Hs2 H2 rfl E rr
    ·rename_i ρ' hfd
     refine⟨fun σ' H'=>W m σ' H',fun σ' H' w=>⟨m,M2z _,w⟩,?_⟩
     refine hf _ _ hN' hfd σi H' Hs' _ h' hN' (fun ρ2 σ2 Hs2 H2 q2 sm2 hN2 hd2=>?_) fun d2 v Hs2 H2 q2=>by cases q2
     cases q2;exact⟨_,Hs2,sm.trans (sm'.trans sm2),hd2,hN2,gi⟩
   | false =>
    rw[S5z L1z] at gi ⊢;cases gi;exact hn _ _ Hs' H' rfl (sm.trans sm') hN' h'
end
section
variable {X:Cx} {ρ:Rho} {cx:Cxt} {k F:Nat} {sc scope:Scope} {Hs0 H0:Hp} {e:Expr} {d:D}
theorem O2{s:Stmt}{D:Ends}{σ:St}{H:Hp}(h:je X.nox s D σ H):je X s D σ H:=fun z0 s0 I=>E5z (h z0 s0 (I.wish _)) (fun _ _ q=>q.unwish) fun _ _ z=>False.elim z
abbrev Cx.pinned(X:Cx)(pn:List (Addr×Obj))(xe:Value->Shared->Prop):Cx:={ X with pn:=pn,xe:=xe }
theorem Inv.repin{pn pn' z0 pins':List (Addr×Obj)}{xe xe':Value->Shared->Prop}{σ:St}{H:Hp}{s:Shared}(I:Inv (X.pinned pn xe) z0 σ H s)(h:∀ p∈pn'++pins',p∈pn++z0):Inv (X.pinned pn' xe') pins' σ H s :=
 ⟨⟨I.ok.mod,I.ok.kind,I.ok.glob,I.ok.blt,I.ok.above,I.ok.inj,I.ok.has,I.ok.cab,I.ok.hd,I.ok.frames,I.ok.stk,I.ok.exf,I.ok.bs,I.ok.bsz,I.ok.noex,I.ok.exfs,I.ok.funs,I.ok.frf⟩,I.os,I.bare,I.base,I.loc,I.cell,I.free,I.freeC,fun p hp=>I.pin p (h p hp),I.hok,I.len⟩
theorem Good.wish(G:Good cx k X sc)(E:Value->Shared->Prop):Good cx k (X.wish E) sc:=⟨G.calm,G.room,G.sce,G.kind,G.nd,G.cst,G.blt,G.exs,G.fns,G.kw⟩
theorem GoodS.nox(G:GoodS cx k X sc):GoodS cx k X.nox sc:=⟨G.good.wish _,⟨G.own.own⟩,PassesOwn.never,G.stk⟩
theorem GoodS.pin_nox(G:GoodS cx k X sc)(pn:List (Addr×Obj))(E:Value->Shared->Prop):GoodS cx k (X.pinned pn E).nox sc:=⟨⟨G.good.calm,G.good.room,G.good.sce,G.good.kind,G.good.nd,G.good.cst,G.good.blt,G.good.exs,G.good.fns,G.good.kw⟩,⟨G.own.own⟩,PassesOwn.never,G.stk⟩
theorem GoodS.calm'(G:GoodS cx k X sc)(b:Bool):GoodS { cx with rs:=b } k X sc:=⟨⟨G.good.calm,G.good.room,G.good.sce,G.good.kind,G.good.nd,G.good.cst,G.good.blt,G.good.exs,G.good.fns,G.good.kw⟩,G.own,G.pass,G.stk⟩
def zU(rs:Bool)(X:Cx)(Hs0 H0:Hp)(ρ:Rho)(c:Str)(ρ':Rho)(t:TS):Prop:=∀ σ H Hs D,Hd X.K Hs0 H0 Hs H ρ σ->X.N=ρ.map (·.1) ->
 (∀ σ' Hs' H',Same Hs Hs'->X.N=ρ'.map (·.1)->Hd X.K Hs0 H0 Hs' H' ρ' σ'->∃ E,EX X c Hs' H' E/\XOk X σ' E/\(rs=true->zV X σ' E))->t D σ H
theorem sY{rs:Bool}{f:Rho->Stmt->Option Fl}{g:Rho->Stmt->Option (Str×Rho)}{c:Str}{ρ':Rho}(hf:∀ ρ s fl,X.N=ρ.map (·.1)->f ρ s=some fl->Runs X.nox Hs0 H0 ρ fl (je X.nox s))(hg:∀ ρ s c ρ',X.N=ρ.map (·.1)->g ρ s=some (c,ρ')->zU rs X Hs0 H0 ρ c ρ' (je X s)) :
  ∀ (l:List Stmt) (ρ:Rho),X.N=ρ.map (·.1)->gw f g l ρ=some (c,ρ')->zU rs X Hs0 H0 ρ c ρ' (iz X l)
 | [],ρ,hN,h=>by simp[gw] at h
 | s::r,ρ,hN,h=>by
  simp only[gw] at h;intro σ H Hs D hd _ hx;refine PSs.sem (lY Dn dD) ?_;split at h
  ·rename_i ρ1 h1
   refine O2 (hf ρ s _ hN h1 σ H Hs _ hd hN (fun ρ2 σ2 Hs2 H2 q sm hN2 hd2=>?_) fun d v Hs2 H2 q _ _=>nomatch q);cases q;exact sY hf hg r ρ1 hN2 h σ2 H2 Hs2 D hd2 hN2 fun σ3 Hs3 H3 sm3=>hx σ3 Hs3 H3 (sm.trans sm3)
  ·cases h
  ·exact hg ρ s c ρ' hN h σ H Hs _ hd hN hx
theorem Ed{c:Str}(G:Good cx k X sc)(hN:X.N=ρ.map (·.1))(he:evx cx F sc (frz F e ρ) e=some c){σ:St}{H Hs:Hp}{rs:Bool}{Q:VK}(h:Hd X.K Hs0 H0 Hs H ρ σ)
  (hx:∀ σ' Hs' H',Same Hs Hs'->X.N=(frz F e ρ).map (·.1)->Hd X.K Hs0 H0 Hs' H' (frz F e ρ) σ'->∃ E,EX X c Hs' H' E/\XOk X σ' E/\(rs=true->zV X σ' E)):pU X e σ H Q:=by
 obtain⟨Hs1,sm1,h1⟩:=h.frozen F e
 have hN':X.N=(frz F e ρ).map (·.1):=by rw[aY];exact hN
 obtain⟨E,e1,e2,_⟩:=hx σ Hs1 H sm1 hN' h1;exact tK cx F G hN' he σ H Hs1 E h1.ext.sub h1.sh e1 e2 Q
theorem CT{t:Option Expr}{l:Nat}{env:Env}{c:Str}(he:evx cx F sc ρ e=some c)(hc:aZ e=false):swapsWith e t l env=pure false:=by
 cases F with
 | zero=>exact nomatch (show(Option.none:Option Str)=some c from he)
 | succ F =>
  cases e<;>first | rfl | (exact nomatch (show(Option.none:Option Str)=some c from he)) | (exact absurd hc (by simp[aZ]))
theorem Hd.drop{K:Z3}{Hs0 H0 Hs H:Hp}{ρ:Rho}{σ:St}{x:Str}{i:Nat}(h:Hd K Hs0 H0 Hs H ρ σ)(hn:(ρ.map (·.1)).Nodup)(hi:(ρ.map (·.1))[i]?=some x):Hd K Hs0 H0 Hs H (cC ρ x .no) (σ.set i none):=by
 have hl:i<σ.length:=by have:=(List.getElem?_eq_some_iff.mp hi).1;rw[h.len];simpa using this
 refine⟨h.ext,by rw[H3z,h.len];have:=congrArg List.length (aM ρ x .no);simpa using this.symm,fun j y d e=>?_,fun j y ds e=>?_,fun j j' y y' ds es a hjj e1 e2 e3 e4=>?_,fun j y dss e=>?_,fun j y lq e=>?_⟩
 ·rw[aD hn hi j] at e
  split at e
  ·cases e
  ·rename_i hj
   obtain⟨v,q1,q2⟩:=h.sh j y d e;exact⟨v,by rw[List.getElem?_set_ne (fun z=>hj z.symm)];exact q1,q2⟩
 ·rw[aD hn hi j] at e
  split at e
  ·cases e
  ·rename_i hj
   obtain⟨a,vs,q1,q2⟩:=h.ow j y ds e;exact⟨a,vs,by rw[List.getElem?_set_ne (fun z=>hj z.symm)];exact q1,q2⟩
 ·rw[aD hn hi j] at e1
  rw[aD hn hi j'] at e2;split at e1
  ·cases e1
  ·rename_i hj
   split at e2
   ·cases e2
   ·rename_i hj'
    rw[List.getElem?_set_ne (fun z=>hj z.symm)] at e3;rw[List.getElem?_set_ne (fun z=>hj' z.symm)] at e4;exact h.dis j j' y y' ds es a hjj e1 e2 e3 e4
 ·rw[aD hn hi j] at e
  split at e
  ·cases e
  ·rename_i hj
   obtain⟨⟨a,bs,k1,k2⟩,k3⟩:=h.oo j y dss e;refine⟨⟨a,bs,by rw[List.getElem?_set_ne (fun z=>hj z.symm)];exact k1,k2⟩,fun l z s hl' g=>?_⟩;rw[aD hn hi l] at g;split at g
   ·cases g;rfl
   ·exact k3 l z s hl' g
 ·rw[aD hn hi j] at e
  split at e
  ·cases e
  ·rename_i hj
   obtain⟨⟨a,k1,k2⟩,k3⟩:=h.od j y lq e;refine⟨⟨a,by rw[List.getElem?_set_ne (fun z=>hj z.symm)];exact k1,k2⟩,fun l z s hl' g=>?_⟩;rw[aD hn hi l] at g;split at g
   ·cases g;rfl
   ·exact k3 l z s hl' g
theorem Ae{hs:List ExceptHandler}{o f:List Stmt}{c n kn:Str}(h:uF hs o f=some (c,n,kn)):∃ np p1 p2 p3 hp,hs=[.ExceptHandler (some (.Name c np)) (some n) [.Assign [.Name kn p1] (.Name n p2) p3] hp]/\o=[]/\f=[]:=by
 unfold uF at h;split at h
 ·split at h
  ·rename_i hq
   cases h;have e:=J5z.mp hq;subst e;exact⟨_,_,_,_,_,rfl,rfl,rfl⟩
  ·cases h
 ·cases h
theorem Kc{body:List Stmt}{c c' n kn:Str}{ρ':Rho}{np p1 p2 p3 hp pos:Pos}(G:GoodS cx k X sc)(hN:X.N=ρ.map (·.1))
  (hb:∀ pn xe,zU false (X.pinned pn xe) Hs0 H0 ρ c' ρ' (iz (X.pinned pn xe) body)) (hgl:mQ cx sc c=true) (ht:c=cx.top) (hin:cx.exs.contains c'=true) (hne:n≠kn) (hpn:aH n=true) (ln:sc.names.lookup n=some .local) (lk:sc.names.lookup kn=some .local) (cn:(ρ.map (·.1)).contains n=true) (ck:(ρ.map (·.1)).contains kn=true) (hpc:aH c=true) :
  Runs X Hs0 H0 ρ (.nxt (cC (cC ρ' kn (.sh (.exc c'))) n .no)) (je X (.Try body [.ExceptHandler (some (.Name c np)) (some n) [.Assign [.Name kn p1] (.Name n p2) p3] hp] [] [] pos)):=by
 intro σ H Hs D hd _ hn hr z0 s I;obtain⟨C,M,e1,e2,_,_,e3,_⟩:=G.good.exs.cls c' hin
 have hg:Gl X c:=by
  have e:sc.names.lookup c=some .globalImplicit:=by unfold mQ at hgl;simpa using hgl
  show X.env.scope.names.lookup c=_;rw[G.good.sce,e]
 have hm:X.mg c=some (.ref M):=by rw[ht];exact G.good.exs.glob _ _ e2
 unfold aH at hpn hpc;rw[K2z,K5z,K5z] at hpn hpc;obtain⟨i,hi⟩:=bN cn;obtain⟨j,hj⟩:=bN ck
 have hij:i≠j:=fun z=>by subst z;rw[hi] at hj;cases hj;exact hne rfl
 rw[arm_exec_Try];refine F5z (H4z (wpAny_tryStmt_except ?_))
 let xe:Value->Shared->Prop:=fun e s₁=>wpAny (model X.prog X.w) X.A (noteFrame e X.env) (fun _ s₂=>wpAny (model X.prog X.w) X.A (setFlight e none) (fun _ s₃=>wpAny (model X.prog X.w) X.A (handleBy e X.env [.ExceptHandler (some (.Name c np)) (some n) [.Assign [.Name kn p1] (.Name n p2) p3] hp]) (SP X z0 D) X.xe s₃) X.xe s₂) X.xe s₁
 have run:=hb (X.pn++z0) xe σ H Hs { nx:=fun _ _=>False,rt:=fun _ _=>False } hd hN ?_ [] s (Inv.repin (X:=X) (pn:=X.pn) (z0:=z0) I fun p hp=>by simpa using hp)
 ·refine E5z run (fun f s1 q=>?_) fun e s1 q=>q
  cases f with
  | next=>obtain⟨_,_,_,z⟩:=q;exact z.elim
  | brk=>obtain⟨_,_,_,z⟩:=q;exact z.elim
  | cont=>obtain⟨_,_,_,z⟩:=q;exact z.elim
  | ret u=>obtain⟨_,_,_,_,_,z⟩:=q;exact z.elim
 ·intro σ1 Hs1 H1 sm1 hN1 hd1
  refine⟨fun cls _ H2=>cls=.ref C/\∃ Hs2,Ext Hs1 H1 Hs2 H2,fun C2 H2 Hs2 q E=>⟨?_,Hs2,E⟩,?_,fun z=>nomatch z⟩
  ·have q':PySem.W.nsIn X.K mainGlobals c'=some (some (.ref C2)):=q
   rw[e1] at q';cases q';rfl
  ·intro pins2 H2 s2 e s3 I2 hcx
   obtain⟨ea,cls,H3,rfl,Fl,hn3,rfl,Hs3,E3⟩:=hcx;have I2':Inv (X.pinned (X.pn++z0) X.xe) pins2 σ1 H2 s2:=Inv.repin (X:=X) I2 fun p hp=>hp
   have nd1:(ρ'.map (·.1)).Nodup:=by rw[<- hN1];exact G.good.nd
   have hi1:(ρ'.map (·.1))[i]?=some n:=by rw[<- hN1];show X.N[i]?=_;rw[hN];exact hi
   have hj1:(ρ'.map (·.1))[j]?=some kn:=by rw[<- hN1];show X.N[j]?=_;rw[hN];exact hj
   refine caught (X:=X.pinned (X.pn++z0) X.xe) (Mc:=M) I2' Fl hn3 G.stk hg hm (by simpa using hpc.1) e3 G.good.nd (i:=i) (j:=j) (by show X.N[i]?=_;rw[hN];exact hi) (by show X.N[j]?=_;rw[hN];exact hj) hij
    (by show X.env.scope.names.lookup n=_;rw[G.good.sce];exact ln) (by show X.env.scope.names.lookup kn=_;rw[G.good.sce];exact lk) (by simpa using hpn.1) (by simpa using hpn.2) fun s4 I4=>?_
   have I5:Inv X z0 ((σ1.set j (some (.ref ea))).set i none) (upd H3 ea (.ext (isX ea (.ref C)))) s4:=Inv.repin (X:=X) (pn':=X.pn) I4 fun p hp=>X0z _ hp;have E4:Ext Hs3 H3 (upd Hs3 ea (.ext (isX ea (.ref C)))) (upd H3 ea (.ext (isX ea (.ref C)))):=Ext.new E3.sub _ hn3
   have hd4:Hd X.K Hs0 H0 (upd Hs3 ea (.ext (isX ea (.ref C)))) (upd H3 ea (.ext (isX ea (.ref C)))) (cC ρ' kn (.sh (.exc c'))) (σ1.set j (some (.ref ea))):=((Hd.step hd1 E3).step E4).set nd1 hj1 (by
    simp only[Rep]
    exact⟨ea,C,rfl,e1,aX⟩)
   have hd5:=hd4.drop (by rw[aM];exact nd1) (i:=i) (x:=n) (by rw[aM];exact hi1)
   exact⟨_,_,I5,hn _ _ _ _ rfl (sm1.trans (E3.vis.trans E4.vis)) (by rw[aM,aM];exact hN1) hd5⟩
end
mutual
theorem uH(cx:Cxt)(F:Nat):∀ (n:Nat) {k:Nat} {X:Cx} {sc:Scope} {ρ:Rho} {s:Stmt} {fl:Fl} {Hs0 H0:Hp},GoodS cx k X sc->X.N=ρ.map (·.1)->DE.st cx F n sc ρ s=some fl->Runs X Hs0 H0 ρ fl (je X s)
 | 0,k,X,sc,ρ,s,fl,Hs0,H0,_,_,h=>by simp[DE.st] at h
 | n+1,k,X,sc,ρ,s,fl,Hs0,H0,G,hN,h=>by
  have block:∀ (l:List Stmt) (ρ:Rho) (fl:Fl),X.N=ρ.map (·.1)->iY (fun ρ s=>DE.st cx F n sc ρ s) l ρ=some fl->Runs X Hs0 H0 ρ fl (iz X l):=BL fun ρ s fl hN h=>uH cx F n G hN h
  cases s with
  | Pass pos =>
   simp only[DE.st,E2z] at h;subst h;intro σ H Hs D hd _ hn hr;exact PS.sem Gs (hn _ _ Hs H rfl (.refl _) hN hd)
  | Return v pos =>
   simp only[DE.st] at h
   cases v with
   | none =>
    simp only[E2z] at h;subst h;intro σ H Hs D hd _ hn hr;exact PS.sem Gq (hr .non .non Hs H rfl hd.ext (by simp[Rep]))
   | some e =>
    simp only[Q0z] at h;obtain⟨d,he,rfl⟩:=h;intro σ H Hs D hd _ hn hr;exact PS.sem (KC au) (Cd G hN he hd fun v Hs' H' sm h' r=>hr d v Hs' H' rfl h'.ext r)
  | Assign tgs e pos =>
   simp only[DE.st] at h;split at h
   ·split at h
    ·rename_i hc
     rw[K2z] at hc;split at h
     ·rename_i hoo
      rw[K2z] at hoo;obtain⟨d,he,h⟩:=Option.bind_eq_some_iff.mp h;obtain⟨dss,hd,rfl⟩:=Q0z.mp h;exact Pb G hN hc.1 hc.2 hoo.1 hoo.2 he hd
     ·split at h
      ·cases h
      ·split at h
       ·cases h
       ·rename_i hno
        split at h
        ·cases h
        ·split at h
         ·rename_i d he
          cases h;refine FQ G hN hc.1 hc.2 (fun hf=>?_) he;rw[hf,M4z] at hno;simpa using hno
         ·split at h
          ·rename_i hd0
           cases h;rw[K2z] at hd0;obtain⟨dp,rfl⟩:=HJ hd0.1;exact Ph G hN hc.1 hc.2 hd0.2
          ·cases h
    ·cases h
   ·split at h
    ·rename_i hs
     obtain⟨d,he,h⟩:=aW h;obtain⟨l,hl,h⟩:=aW h;simp only[Q0z] at h;obtain⟨ρ',hb,rfl⟩:=h;rcases O3z _ _ |>.mp hs with hs | hs
     ·exact Ka G hN hs he hl hb
     ·cases hs
    ·cases h
   ·split at h
    ·rename_i x px
     split at h
     ·simp at h
     ·split at h
      ·split at h
       ·rename_i l hx'
        split at h
        ·rename_i hc
         simp only[K2z,C2z] at hc;obtain⟨d,h1,h⟩:=aW h;obtain⟨y,h4,h⟩:=aW h;obtain⟨kk,h5,h⟩:=aW h;split at h
         ·rename_i hfl
          cases h;simp only[K2z,D2z] at hfl;exact FP G hN hx' hc.1.1 hc.1.2 hc.2 h1 h4 h5 hfl.1 hfl.2
         ·cases h
        ·cases h
       ·cases h
      ·cases h
    ·split at h
     ·rename_i dss hx
      split at h
      ·rename_i hc
       rw[K2z,K2z] at hc;obtain⟨d,h1,h⟩:=aW h;obtain⟨j1,h2,h⟩:=aW h;obtain⟨n1,h3,h⟩:=aW h;obtain⟨ds,h4,h⟩:=aW h;obtain⟨j2,h5,h⟩:=aW h;obtain⟨n2,h6,h⟩:=aW h;split at h
       ·rename_i h7
        cases h;exact FN G hN hx hc.1.1 hc.1.2 (by simpa using hc.2) h1 (iu h2) h3 h4 (iu h5) h6 h7
       ·cases h
      ·cases h
     ·cases h
    ·cases h
   ·cases h
  | Expr v pos =>
   simp only[DE.st] at h;split at h
   ·rename_i x px m ap e cp
    split at h
    ·rename_i ds hx
     split at h
     ·rename_i hc
      rw[K2z,K2z] at hc;obtain⟨⟨c1,c2⟩,c4⟩:=hc;split at h
      ·rename_i hc2
       rw[K2z] at hc2;simp only[Q0z] at h;obtain⟨d,he,rfl⟩:=h
       have em:m="append":=by simpa using hc2.1
       subst em;exact wB G hN hx c1 c2 c4 hc2.2 he
      ·split at h
       ·rename_i hc3
        obtain⟨d,he,h⟩:=aW h
        have em:m="extend":=by simpa using hc3
        subst em;split at h
        ·split at h
         ·rename_i hz
          cases h;exact wA G hN hx c1 c2 c4 hz he
         ·cases h
        ·split at h
         ·rename_i hz
          cases h;exact uI G hN hx c1 c2 c4 hz he
         ·cases h
        ·cases h
       ·cases h
     ·cases h
    ·cases h
   ·cases h
   ·cases h
   ·rename_i h1 h3 h4
    simp only[Q0z] at h;obtain⟨d,he,rfl⟩:=h;exact FT G hN he fun a b c p q=>h3 a b c p q
  | If c a b pos =>
   simp only[DE.st] at h;obtain⟨t,h1,h⟩:=aW h;have he:=eN h1;intro σ H Hs D hd _ hn hr;refine PS.sem (Gu dO dD dD) (Ii G hN he hd fun Hs' H' sm h'=>?_)
   cases t with
   | true =>
    simp only[Q5z] at h;exact vH (block a _ fl hN h σ H' Hs' D h' hN (fun ρ2 σ2 Hs2 H2 q2 sm2=>hn ρ2 σ2 Hs2 H2 q2 (sm.trans sm2)) hr)
   | false =>
    simp only[Q1z,O5z] at h;exact yt (block b _ fl hN h σ H' Hs' D h' hN (fun ρ2 σ2 Hs2 H2 q2 sm2=>hn ρ2 σ2 Hs2 H2 q2 (sm.trans sm2)) hr)
  | For tg iter body orelse pos =>
   simp only[DE.st] at h;split at h
   ·obtain⟨l,hI,h⟩:=aW h
    refine Kd G hN hI (fun d ρ1 fl hf hN1=>?_) h;obtain⟨ρ2,g1,g2⟩:=aW hf;exact⟨ρ2,g1,fun hN2=>block body ρ2 fl hN2 g2⟩
   ·cases h
  | While c body orelse pos =>
   simp only[DE.st] at h;split at h
   ·exact Ag G hN (fun ρ fl hN h=>block body ρ fl hN h) h
   ·cases h
  | Try body handlers orelse final pos =>
   simp only[DE.st] at h;split at h
   ·rename_i c n' kn hto
    obtain⟨np,p1,p2,p3,hp,rfl,rfl,rfl⟩:=Ae hto;split at h
    ·rename_i fl' hfl
     cases h;have hb:Runs X.nox Hs0 H0 ρ fl (iz X.nox body):=BL (fun ρ s fl hN h=>uH cx F n G.nox hN h) body ρ fl hN hfl;intro σ H Hs D hd _ hn hr z0 s I;rw[arm_exec_Try];refine F5z (H4z (wpAny_tryStmt_except ?_));refine E5z (hb σ H Hs D hd hN hn hr z0 s (I.wish _)) (fun f s1 q=>?_) fun _ _ z=>z.elim;have q':=q.unwish
     cases f with
     | next=>exact C3z q'
     | brk=>exact q'
     | cont=>exact q'
     | ret u=>exact q'
    ·split at h
     ·rename_i c' ρ1 hx
      split at h
      ·rename_i hc
       cases h;simp only[K2z] at hc;obtain⟨⟨⟨⟨⟨⟨⟨⟨⟨h1,h2⟩,h3⟩,h4⟩,h5⟩,h6⟩,h7⟩,h8⟩,h9⟩,h10⟩:=hc;refine Kc G hN (fun pn xe=>?_) h1 (by simpa using h2) h3 (by simpa using h4) h5 (by simpa using h6) (by simpa using h7) h8 h9 h10;exact sY (X:=X.pinned pn xe) (fun ρ s fl hN h=>uH cx F n (G.pin_nox pn xe) hN h) (fun ρ s c ρ' hN h=>wk { cx with rs:=false } F n ((G.pin_nox pn xe).calm' false) hN h) body ρ hN hx
      ·cases h
     ·cases h
   ·cases h
  | _=>exact nomatch (show(Option.none:Option Fl)=some fl from h)
theorem wk(cx:Cxt)(F:Nat):∀ (n:Nat) {k:Nat} {X:Cx} {sc:Scope} {ρ:Rho} {s:Stmt} {c:Str} {ρ':Rho} {Hs0 H0:Hp},GoodS cx k X.nox sc->X.N=ρ.map (·.1)->DE.stx cx F n sc ρ s=some (c,ρ')->zU cx.rs X Hs0 H0 ρ c ρ' (je X s)
 | 0,k,X,sc,ρ,s,c,ρ',Hs0,H0,_,_,h=>by simp[DE.stx] at h
 | n+1,k,X,sc,ρ,s,c,ρ',Hs0,H0,G,hN,h=>by
  have GX:Good cx k X sc:=⟨G.good.calm,G.good.room,G.good.sce,G.good.kind,G.good.nd,G.good.cst,G.good.blt,G.good.exs,G.good.fns,G.good.kw⟩
  have block:∀ (l:List Stmt) (ρ:Rho) (c:Str) (ρ':Rho),X.N=ρ.map (·.1)->gw (fun ρ s=>DE.st cx F n sc ρ s) (fun ρ s=>DE.stx cx F n sc ρ s) l ρ=some (c,ρ')->zU cx.rs X Hs0 H0 ρ c ρ' (iz X l):=fun l ρ c ρ' hN h =>
   sY (fun ρ s fl hN h=>uH cx F n G hN h) (fun ρ s c ρ' hN h=>wk cx F n G hN h) l ρ hN h
  simp only[DE.stx] at h;split at h
  ·rename_i cc np txt j p1 cpos pos
   split at h
   ·rename_i hc
    cases h;simp only[K2z] at hc;obtain⟨⟨⟨h1,h2⟩,h3⟩,h4⟩:=hc;obtain⟨C,M,e1,_,e2,_⟩:=GX.exs.cls c h3
    have hg:Gl X c:=by
     have e:sc.names.lookup c=some .globalImplicit:=by unfold mQ at h2;simpa using h2
     show X.env.scope.names.lookup c=_;rw[GX.sce,e]
    unfold aH at h4;rw[K2z,K5z] at h4;intro σ H Hs D hd _ hx z0 s I;obtain⟨E,x1,x2,x3⟩:=hx σ Hs H (.refl _) hN hd;exact Al I GX.room.hd hg (GX.exs.glob _ _ e1) (by simpa using h4.1) e2 fun s2 h' e args I2 hm=>x3 h1 z0 H s2 C e h' args I2 hm (x1 C H Hs e1 (.refl hd.ext.sub))
   ·cases h
  ·rename_i e pos
   split at h
   ·cases h
   ·rename_i hfr
    obtain⟨c1,h1,h2⟩:=Q0z.mp h;cases h2;intro σ H Hs D hd _ hx;exact PS.sem (jD au (CT h1 (by simpa using hfr))) (Ed GX hN h1 hd hx)
  ·rename_i x px e pos
   split at h
   ·cases h
   ·rename_i hfr
    obtain⟨c1,h1,h2⟩:=Q0z.mp h;cases h2;intro σ H Hs D hd _ hx z0 s I;exact wpAny_Assign_Name (thn (Ed (Q:=fun _ _=>False) GX hN h1 hd hx z0 s I) fun v s1 ⟨_,_,_,_,q⟩=>q.elim) (CT h1 (by simpa using hfr))
  ·rename_i cc a b pos
   split at h
   ·rename_i kk hk
    have he:=eN hk
    have hN':X.N=(frz F cc ρ).map (·.1):=by rw[aY];exact hN
    intro σ H Hs D hd _ hx;obtain⟨Hs1,sm1,h1⟩:=hd.frozen F cc;refine PS.sem (Gu dO dD dD) ((cW cx F GX hN' he).2 kk rfl σ H Hs1 _ h1.ext.sub h1.sh fun H' Hs' E=>?_);have h2:=h1.step E
    cases kk with
    | true=>exact vH (block a _ c ρ' hN' h σ H' Hs' D h2 hN' fun σ3 Hs3 H3 sm3=>hx σ3 Hs3 H3 ((sm1.trans E.vis).trans sm3))
    | false=>exact yt (block b _ c ρ' hN' h σ H' Hs' D h2 hN' fun σ3 Hs3 H3 sm3=>hx σ3 Hs3 H3 ((sm1.trans E.vis).trans sm3))
   ·rename_i hk
    split at h
    ·rename_i e hn
     obtain⟨c1,h1,h2⟩:=Q0z.mp h;cases h2;unfold xO at hn;split at hn
     ·rename_i f as ks p1 p2
      cases hn
      have hN':X.N=(frz F (.UnaryOp .Not (.Call f as ks p1) p2) ρ).map (·.1):=by rw[aY];exact hN
      intro σ H Hs D hd _ hx;obtain⟨Hs1,sm1,hd1⟩:=hd.frozen F (.UnaryOp .Not (.Call f as ks p1) p2);obtain⟨E,e1,e2,_⟩:=hx σ Hs1 H sm1 hN' hd1;exact PS.sem (Gu (Dm (Dl au)) dD dD) (tK cx F GX hN' h1 σ H Hs1 E hd1.ext.sub hd1.sh e1 e2 _)
     ·cases hn
    ·cases h
  ·cases h
end
structure FunAt (K:Z3) (mg:Str->Option Value) (f:Str) (fd:Fd):Prop where
 ex:∃ (nm:Str) (t:Stmt) (a:Addr) (g:FuncData),mg f=some (.ref a)/\Fun K nm nm t a g/\Binds K g fd.ps []/\fd.body=bV t/\fd.sc=bh t
 fs:FnScope fd.N fd.ps fd.sc
 nd:(f==("__debug__":Str))=false
structure Text (w:World) (K:Z3) (mg:Str->Option Value) (P:Pg):Prop where
 cst:∀ x d,P.cst.lookup x=some d->∃ v u,(∀ H,Rep K H d v)/\mg x=some u/\RelV v u
 blt:∀ x b,P.blt.lookup x=some b->mg x=none/\x=Str.ofString b
 fns:∀ f fd,P.defs.lookup f=some fd->FunAt K mg f fd
 exs:XText K mg P.exs P.top
 kw:KnW K w
theorem kI{α:Type}:∀ {l:List (Str×α)} {x:Str},(l.map (·.1)).contains x=true->∃ a,l.lookup x=some a
 | [],x,h=>by simp at h
 | (y,a)::r,x,h=>by
  rw[L2z]
  cases hb:x==y with
  | true=>exact⟨a,rfl⟩
  | false =>
   refine kI ?_;rw[I4z,List.contains_cons,hb,Bool.false_or] at h;exact h
theorem wu{K:Z3}{H:Hp}{fd:Fd}{ds:List D}{vs:List V}(S:FnScope fd.N fd.ps fd.sc)(hl:ds.length=fd.ps.length)(r:aR K H ds vs) :
  fd.N=(cu fd ds).map (·.1)/\(start fd.N vs).length=(cu fd ds).length/\∀ (i:Nat) (x:Str) (s:Sl),(cu fd ds)[i]?=some (x,s)->(s=.no\/∃ d v,s=.sh d/\(start fd.N vs)[i]?=some (some v)/\Rep K H d v):=by
 have lv:=r.length
 have lz:(fd.ps.zip (ds.map Sl.sh)).length=fd.ps.length:=by rw[Q3z,G3z];omega
 have hpl:fd.ps.length<=fd.N.length:=by have:=congrArg List.length S.pre;rw[H2z] at this;omega
 refine⟨?_,?_,fun i x s e=>?_⟩
 ·unfold cu
  rw[R3z,X4z,List.map_fst_zip (by rw[G3z];omega)]
  have:(fd.N.drop fd.ps.length).map ((fun p:Str×Sl=>p.1)∘fun x=>(x,Sl.no))=fd.N.drop fd.ps.length:=by
   rw[show((fun p:Str×Sl=>p.1)∘fun x=>(x,Sl.no))=id from rfl,List.map_id]
  rw[this]
  conv=>lhs;rw[<- List.take_append_drop fd.ps.length fd.N,S.pre]
 ·unfold start cu
  rw[P1z,P1z,lz];simp;omega
 ·unfold cu at e
  by_cases hi:i<fd.ps.length
  ·rw[List.getElem?_append_left (by rw[lz];exact hi),List.getElem?_zip_eq_some] at e
   obtain⟨_,e2⟩:=e;rw[List.getElem?_map] at e2;obtain⟨d,e3,rfl⟩:=Q0z.mp e2;obtain⟨v,g1,g2⟩:=r.get e3;refine .inr ⟨d,v,rfl,?_,g2⟩;unfold start;rw[List.getElem?_append_left (by rw[G3z];omega),List.getElem?_map,g1];rfl
  ·rw[List.getElem?_append_right (by rw[lz];omega),List.getElem?_map] at e
   obtain⟨y,_,e3⟩:=Q0z.mp e;cases e3;exact .inl rfl
section
variable {P:Program} {w:World} {K:Z3} {mg:Str->Option Value} {base:Heap} {T:Pg} {F:Nat}
abbrev vR(c:Str->List D->Option Rs):Str->List D->Option D:=fun f ds=>Rs.val? (c f ds)
abbrev xR(c:Str->List D->Option Rs):Str->List D->Option Str:=fun f ds=>Rs.exc? (c f ds)
theorem jc{o:Option Rs}{d:D}(h:Rs.val? o=some d):o=some (.val d):=by
 unfold Rs.val? at h;split at h
 ·cases h;rfl
 ·cases h
theorem jh{o:Option Rs}{c:Str}(h:Rs.exc? o=some c):o=some (.exc c):=by
 unfold Rs.exc? at h;split at h
 ·cases h;rfl
 ·cases h
theorem jk{k:Nat}{f:Str}{fd:Fd}(hf:T.defs.lookup f=some fd):∀ ds r,eV T F k f ds=some r->ds.length=fd.ps.length:=by
 intro ds d h
 cases k with
 | zero=>simp[qX] at h
 | succ k =>
  simp only[jX,hf] at h;split at h
  ·rename_i hl;simpa using hl
  ·cases h
theorem Fun.okX{x qual:Str}{st:Stmt}{f:Addr}{fd:FuncData}{N ps:List Str}{k:Nat}{sp:Sp}(F:Fun K x qual st f fd)(S:FnScope N ps (bh st))(len:∀ vs H Q E,sp vs H Q E->vs.length=ps.length)
  (hbody : ∀ (cdv : Value) (A : Around) (outer : List Env) (s : Shared) (H : Hp) (vs : List V) (Q : VK) (E : XK), Room k (A.deeper (envOfC qual (bh st) s.heap.objs.size f cdv)) -> sp vs H Q E ->
   ∃ t,PSs (iI (CX1 P w) P w K mg base N qual (bh st) f cdv A outer s H E) (bV st) t/\t { nx:=fun _ H'=>Q .non H',rt:=Q } (start N vs) H):FnOk P w K mg base (CX1 P w) (k+1) f fd ps sp:=by
 obtain⟨oc,od,kV,doc,pm,an,cdv,ct,osl,rfl,lk,hcd⟩:=F.ex;exact Wx lk hcd S len fun A outer s H vs Q E hr hsp=>hbody cdv A outer s H vs Q E hr hsp
theorem Ey(X:Text w K mg T):∀ (k:Nat) (nm f:Str) (fd:Fd) (t:Stmt) (a:Addr) (g:FuncData),T.defs.lookup f=some fd->Fun K nm nm t a g->fd.body=bV t->fd.sc=bh t->FnScope fd.N fd.ps fd.sc->FnOk P w K mg base (CX1 P w) k a g fd.ps (spX K (vR (eV T F k)) (xR (eV T F k)) f fd.ps)
  | 0,nm,f,fd,t,a,g,hf,Fn,hb,hs,S=>by
    refine⟨fun vs H Q E h=>h.1,fun A outer s H args us vs Q E _ _ _ _ h=>?_⟩
    obtain⟨_,Hs,ds,_,_,⟨d,hc,_⟩ | ⟨c,hc,_⟩⟩:=h
    · have:=jc hc;simp[qX] at this
    · have:=jh hc;simp[qX] at this
  | k+1,nm,f,fd,t,a,g,hf,Fn,hb,hs,S=>by
    refine Fun.okX (N:=fd.N) Fn (by rw[<- hs];exact S) (fun vs H Q E h=>h.1) fun cdv A outer s H vs Q E hr h=>?_
    obtain⟨hlv,Hs,ds,hsm,rl,hcase⟩:=h
    have hld:ds.length=fd.ps.length:=by
      rcases hcase with⟨d,hc,_⟩ | ⟨c,hc,_⟩
      · exact jk hf ds _ (jc hc)
      · exact jk hf ds _ (jh hc)
    have unf:eV T F (k+1) f ds=pG (T.cx (eV T F k)) F fd.sc fd.body (cu fd ds):=by
      simp only[jX,hf]
      rw[R5z (by simpa using hld)]
    obtain⟨s1,s2,s3⟩:=wu S hld rl
    refine⟨iz _ (bV t),dD,?_⟩
    have G:GoodS (T.cx (eV T F k)) k (iI (CX1 P w) P w K mg base fd.N nm (bh t) a cdv A outer s H E).nox fd.sc :=
      { good := { calm := rfl, room := hr, sce := hs.symm, kind := S.kind, nd := S.nd, cst := X.cst, blt := X.blt, exs := X.exs, kw := X.kw
                  fns:=fun f' hf'=>by
                    obtain⟨fd',hl'⟩:=kI (l:=T.defs) hf'
                    have FA:=X.fns f' fd' hl'
                    obtain⟨nm',t',a',g',m1,m2,m3,m4,m5⟩:=FA.ex
                    exact⟨FA.nd,a',g',fd'.ps,fun ds d h=>jk hl' ds _ (jc h),fun ds c h=>jk hl' ds _ (jh h),m1,m2.kp,m3,Ey X k nm' f' fd' t' a' g' hl' m2 m4 m5 FA.fs⟩ }
        own:=⟨fun x hx=>⟨by
          unfold ownIn at hx
          rw[O3z] at hx
          show(bh t).names.lookup x=_\/(bh t).names.lookup x=_
          rw[<- hs]
          exact hx.imp (fun q=>by simpa using q) (fun q=>by simpa using q),.inl rfl⟩⟩
        pass:=PassesOwn.never
        stk:=⟨rfl,rfl⟩ }
    have noow:∀ (i:Nat) (x:Str) (ds':List D),(cu fd ds)[i]?=some (x,.ow ds')->False:=fun i x ds' e=>by
      rcases s3 i x _ e with q | ⟨d',v,q,q1,q2⟩
      · cases q
      · cases q
    have nooo:∀ (i:Nat) (x:Str) (dss:List (List D)),(cu fd ds)[i]?=some (x,.oo dss)->False:=fun i x ds' e=>by
      rcases s3 i x _ e with q | ⟨d',v,q,q1,q2⟩
      · cases q
      · cases q
    have nood:∀ (i:Nat) (x:Str) (l:List (List Int×D)),(cu fd ds)[i]?=some (x,.od l)->False:=fun i x ds' e=>by
      rcases s3 i x _ e with q | ⟨d',v,q,q1,q2⟩
      · cases q
      · cases q
    have hd:Hd K Hs H Hs H (cu fd ds) (start fd.N vs):=by
      refine⟨.refl hsm,s2,fun i x d e=>?_,fun i x ds' e=>(noow i x ds' e).elim,fun i j x y ds' es a' _ e=>(noow i x ds' e).elim,fun i x dss e=>(nooo i x dss e).elim,fun i x l e=>(nood i x l e).elim⟩
      rcases s3 i x _ e with q | ⟨d',v,q,q1,q2⟩
      · cases q
      · cases q
        exact⟨v,q1,q2⟩
    rcases hcase with⟨d,hc,hq⟩ | ⟨c,hc,hq⟩
    · have hc':=jc hc
      rw[unf] at hc'
      unfold pG at hc'
      intro z0 s0 I
      have fin:∀ fl,iY (fun ρ s=>DE.st (T.cx (eV T F k)) F F fd.sc ρ s) fd.body (cu fd ds)=some fl->(match fl with | .ret d'=>d'=d | .nxt _=>d=.non)->iz (iI (CX1 P w) P w K mg base fd.N nm (bh t) a cdv A outer s H E).nox (bV t) { nx:=fun _ H'=>Q .non H',rt:=Q } (start fd.N vs) H:=by
        intro fl hg hfl
        rw[hb] at hg
        refine BL (fun ρ s fl hN h=>uH _ F F G hN h) (bV t) (cu fd ds) fl s1 hg (start fd.N vs) H Hs _ hd s1 (fun ρ' σ' Hs' H' q _ _ hd'=>?_) fun d' v Hs' H' q E' r=>?_
        · subst q
          have e:d=.non:=hfl
          subst e
          exact hq .non H' Hs' hd'.ext (by simp[Rep])
        · subst q
          have e:d'=d:=hfl
          subst e
          exact hq v H' Hs' E' r
      have key:iz (iI (CX1 P w) P w K mg base fd.N nm (bh t) a cdv A outer s H E).nox (bV t) { nx:=fun _ H'=>Q .non H',rt:=Q } (start fd.N vs) H:=by
        split at hc'
        · rename_i d' hg;cases hc';exact fin _ hg rfl
        · rename_i ρ' hg;cases hc';exact fin _ hg rfl
        · split at hc'<;>cases hc'
      exact E5z (key z0 s0 (I.wish _)) (fun _ _ q=>q.unwish) fun _ _ z=>False.elim z
    · have hc':=jh hc
      rw[unf] at hc'
      unfold pG at hc'
      split at hc'
      · cases hc'
      · cases hc'
      · split at hc'
        · rename_i c' ρ' hg
          cases hc'
          rw[hb] at hg
          refine sY (rs:=true) (X:=iI (CX1 P w) P w K mg base fd.N nm (bh t) a cdv A outer s H E) (fun ρ s fl hN h=>uH _ F F G hN h) (fun ρ s c ρ' hN h=>wk _ F F G hN h) (bV t) (cu fd ds) s1 hg (start fd.N vs) H Hs _ hd s1 fun σ1 Hs1 H1 _ _ hd1=>?_
          refine⟨E,fun C H2 Hs2 q E2=>hq C H2 Hs2 q (hd1.ext.trans E2),fun z0 H2 s2 e s3 I2 hcx=>xG z0 σ1 H2 s2 e s3 I2 hcx,fun _ z0 H2 s2 C e h' args I2 hm hE=>uM I2 hm hE⟩
        · cases hc'
theorem FnOk.calm{k:Nat}{f:Addr}{fd:FuncData}{ps:List Str}{sp:Sp}(F:FnOk P w K mg base (CX1 P w) k f fd ps sp)(h:∀ vs H Q E,sp vs H Q E->sp vs H Q E0):FnOk P w K mg base CX0 k f fd ps sp :=
 ⟨F.len,fun A outer s H args us vs Q E hr he hb hv hs=>S4z (F.run A outer s H args us vs Q E0 hr he hb hv (h _ _ _ _ hs)) fun r s' q=>by
  cases r with
  | error e=>obtain⟨_,_,_,_,_,_,z⟩:=(show CX1 P w outer H s E0 e s' from q);exact z.elim
  | ok fl=>cases fl<;>exact q⟩
def rM(K:Z3):Sp:=fun vs H Q _=>∃ (a:Addr) (ns:List Int),vs=[.ref a]/\SqL K H a (ns.map V.int)/\ns.length<=63/\∀ H',Q (.bl true) H'
theorem Ma{k:Nat}{f:Str}{fd:Fd}{t:Stmt}{a:Addr}{g:FuncData}(X:Text w K mg T)(hf:T.defs.lookup f=some fd)(Fn:Fun K f f t a g)(hb:fd.body=bV t)(hs:fd.sc=bh t)(S:FnScope fd.N fd.ps fd.sc)(h1:fd.ps.length=1)
  (hlaw:∀ ns:List Int,ns.length<=63->aG T F k f [.lst (ns.map D.int)]=some (.bl true)):FnOk P w K mg base CX0 k a g fd.ps (rM K):=by
 refine FnOk.calm ((Ey (F:=F) X k f f fd t a g hf Fn hb hs S).imp fun vs H Q E h=>?_) fun _ _ _ _ h=>h;obtain⟨p,ns,rfl,hS,hl,q⟩:=h;refine⟨by rw[h1];rfl,H,[.lst (ns.map D.int)],.refl _,.cons ?_ .nil,.inl ⟨.bl true,by have:=hlaw ns hl;rw[ig] at this;exact this,fun v H' Hs' _ r=>by rw[dN r];exact q H'⟩⟩;simp only[Rep];exact⟨p,ns.map V.int,rfl,hS,rR (fun x=>by simp[Rep]) ns⟩
end
end L2
namespace DE
open PySem
def Ls{α:Type}(m:Nat)(h:Nat->α):List α:=(List.range m).map h
theorem dU{α:Type}{m:Nat}{h:Nat->α}:(Ls m h).length=m:=by simp[Ls]
theorem iV{α:Type}{m i:Nat}{h:Nat->α}(hi:i<m):(Ls m h)[i]?=some (h i):=by simp[Ls,hi]
theorem Ny{α β:Type}{m:Nat}{h:Nat->α}{f:α->β}:(Ls m h).map f=Ls m fun i=>f (h i):=by
 unfold Ls;rw[X4z];rfl
theorem Nx{α β:Type}{m:Nat}{h:Nat->α}{g:Nat->β}:(Ls m h).zip (Ls m g)=Ls m fun i=>(h i,g i):=by
 apply List.ext_getElem?;intro i
 by_cases hi:i<m
 ·rw[iV hi,List.getElem?_zip_eq_some]
  exact⟨iV hi,iV hi⟩
 ·rw[List.getElem?_eq_none (by rw[Q3z,dU,dU];omega),List.getElem?_eq_none (by rw[dU];omega)]
theorem zX{α:Type}{m:Nat}{h:Nat->α}:Ls (m+1) h=Ls m h++[h m]:=by
 unfold Ls;rw[List.range_succ,R3z];rfl
theorem Eu{m:Nat}{h:Nat->D}{j:Nat}(hj:j<m):atD (Ls m h) (j:Int)=some (h j):=by
 unfold atD ixD;rw[dU,R5z (by omega),R5z (by omega)];simp[iV hj]
theorem nq{l:List D}{j:Nat}{d:D}(h:l[j]?=some d):atD l (j:Int)=some d:=by
 have hj:=(List.getElem?_eq_some_iff.mp h).1;unfold atD ixD;rw[R5z (by omega),R5z (by omega)];simpa using h
theorem wM{lo hi:Int}:d7 lo hi=Ls (hi-lo).toNat fun k=>.int (lo+(k:Int)):=rfl
theorem wN{n:Nat}:d7 0 (n:Int)=Ls n fun k=>.int k:=by
 unfold d7 Ls;simp
def nmOf(cx:Cxt)(sc:Scope)(ρ:Rho)(x:Str):Option D:=if aH x then(match sc.names.lookup x with
    | some .local=>(match ρ.lookup x with | some (.sh d)=>some d | _=>none)
    | some .cell=>(match ρ.lookup x with | some (.sh d)=>some d | _=>none)
    | some .free=>(match ρ.lookup x with | some (.sh d)=>some d | _=>none)
    | some .globalImplicit=>cx.cst.lookup x
    | _=>none) else none
def cnOf(c:Const):Option D:=(match c with
    | .none=>some .non
    | .bool b=>some (.bl b)
    | .int i=>some (.int i)
    | .str x=>some (.str x)
    | _=>none)
section
variable {cx:Cxt} {n:Nat} {sc scope:Scope} {ρ:Rho} {a b c e:Expr} {es:List Expr} {p q:Pos} {x y z d:D} {ds:List D} {nm:Str} {op op':CmpOp}
theorem xName(h:nmOf cx sc ρ nm=some d):ev cx (n+1) sc ρ (.Name nm p)=some d:=h
theorem ak{k:Const}{j:Nat}(h:cnOf k=some d):ev cx (n+1) sc ρ (.Constant k j p)=some d:=h
theorem cj{o:Operator}(h1:ev cx n sc ρ a=some x)(h2:ev cx n sc ρ b=some y)(h:binop o x y=some d):ev cx (n+1) sc ρ (.BinOp a o b p)=some d:=by
 simp only[ev,h1,h2];exact h
theorem NQ{t:Bool}(h1:ev cx n sc ρ a=some (.bl t)):ev cx (n+1) sc ρ (.UnaryOp .Not a p)=some (.bl (!t)):=by
 simp only[ev,h1];rfl
theorem cL(h1:ev cx n sc ρ a=some (.bl true)):ev cx (n+1) sc ρ (.UnaryOp .Not a p)=some (.bl false):=NQ h1
theorem ur(h1:ev cx n sc ρ a=some (.bl false)):ev cx (n+1) sc ρ (.UnaryOp .Not a p)=some (.bl true):=NQ h1
theorem EY{i:Int}(h1:ev cx n sc ρ a=some (.int i)):ev cx (n+1) sc ρ (.UnaryOp .USub a p)=some (.int (-i)):=by
 simp only[ev,h1];rfl
theorem lB(h1:ev cx n sc ρ a=some (.bl true))(h2:cg .And (ev cx n sc ρ) (b::es)=some d):cg .And (ev cx n sc ρ) (a::b::es)=some d:=by
 simp only[cg,h1];exact h2
theorem z7(h1:ev cx n sc ρ a=some (.bl false)):cg .And (ev cx n sc ρ) (a::b::es)=some (.bl false):=by
 simp only[cg,h1];rfl
theorem j5(h1:ev cx n sc ρ a=some (.bl false))(h2:cg .Or (ev cx n sc ρ) (b::es)=some d):cg .Or (ev cx n sc ρ) (a::b::es)=some d:=by
 simp only[cg,h1];exact h2
theorem JH(h1:ev cx n sc ρ a=some (.bl true)):cg .Or (ev cx n sc ρ) (a::b::es)=some (.bl true):=by
 simp only[cg,h1];rfl
theorem iw{o:BoolOp}(h1:ev cx n sc ρ a=some d):cg o (ev cx n sc ρ) [a]=some d:=h1
theorem bY{o:BoolOp}(h:cg o (ev cx n sc ρ) es=some d):ev cx (n+1) sc ρ (.BoolOp o es p)=some d:=h
theorem bK(h1:ev cx n sc ρ a=some x)(h2:ev cx n sc ρ b=some y)(h:cmpop op x y=some d):ev cx (n+1) sc ρ (.Compare a [op] [b] p)=some d:=by
 simp only[ev,h1,h2];exact h
theorem JN(h1:ev cx n sc ρ a=some x)(h2:ev cx n sc ρ b=some y)(h:cmpop op x y=some (.bl true))(h3:ev cx n sc ρ c=some z)(h4:cmpop op' y z=some d)(hp:aL c=true:=by rfl):ev cx (n+1) sc ρ (.Compare a [op,op'] [b,c] p)=some d:=by
 simp only[ev,h1,h2,h3,hp];show((cmpop op x y).bind asB).bind _=_;rw[h];exact h4
theorem Jq(h1:ev cx n sc ρ c=some (.bl true))(h2:ev cx n sc ρ a=some d):ev cx (n+1) sc ρ (.IfExp c a b p)=some d:=by
 simp only[ev,h1];exact h2
theorem Jr(h1:ev cx n sc ρ c=some (.bl false))(h2:ev cx n sc ρ b=some d):ev cx (n+1) sc ρ (.IfExp c a b p)=some d:=by
 simp only[ev,h1];exact h2
theorem aJ{f:Expr->Option D}:j4 f []=some []:=rfl
theorem aj{f:Expr->Option D}(h1:f a=some x)(h2:j4 f es=some ds):j4 f (a::es)=some (x::ds):=by
 simp only[j4,h1,h2];rfl
theorem cI{j:Nat}(h1:j4 (ev cx n sc ρ) es=some ds)(hz:szl ds.length=true):ev cx (n+1) sc ρ (.Tuple es j p)=some (.tup ds):=by
 simp only[ev,h1];show(if szl ds.length=true then _ else _)=_;rw[R5z hz]
theorem nC(h1:j4 (ev cx n sc ρ) es=some ds)(hz:szl ds.length=true):ev cx (n+1) sc ρ (.List es p)=some (.lst ds):=by
 simp only[ev,h1];show(if szl ds.length=true then _ else _)=_;rw[R5z hz]
theorem FJ{x:D}{i:Int}{xs:List D}(h:items x=some xs):N7 x (.int i)=atD xs i:=by cases x<;>simp[items] at h<;>subst h<;>rfl
theorem xIx{i:Int}{xs:List D}(h1:ev cx n sc ρ a=some x)(h2:ev cx n sc ρ b=some (.int i))(h3:items x=some xs)(h4:atD xs i=some d)(hs:aL b=true:=by rfl):ev cx (n+1) sc ρ (.Subscript a b p)=some d:=by
 simp only[ev,h1];show Option.bind _ _=_
 cases b<;>first | (simp[aL] at hs;done) | (simp only[h2];show N7 x (.int i)=some d;rw[FJ h3];exact h4)
def oI(cx:Cxt)(n:Nat)(sc:Scope)(ρ:Rho):Option Expr->Option (Option Int)
 | none=>some none
 | some e=>(ev cx n sc ρ e).bind fun d=>(asI d).map some
theorem xSl{xs:List D}{lo hi:Option Expr}{l u:Option Int}(h1:ev cx n sc ρ a=some (.tup xs))(h2:oI cx n sc ρ lo=some l)(h3:oI cx n sc ρ hi=some u)(h4:(lV xs.length 0 l==0&&lV xs.length xs.length u==xs.length)=false) :
  ev cx (n+1) sc ρ (.Subscript a (.Slice lo hi none q) p)=some (.tup (nD xs l u)):=by
 unfold oI at h2 h3;simp only[ev,h1,bind,Q2z]
 have e:∀ (A B:Option (Option Int)),A=some l->B=some u->(A.bind fun l=>B.bind fun h=>if(lV xs.length 0 l==0&&lV xs.length xs.length h==xs.length)=true then some (D.tup xs) else some (D.tup (nD xs l h)))=some (.tup (nD xs l u)):=by
  intro A B ha hb;subst ha hb;simp only[Q2z,h4,Q1z,O5z]
 exact e _ _ h2 h3
theorem ZG{us:List D}{lo hi:Option Expr}{l u:Option Int}(h1:ev cx n sc ρ a=some (.lst us))(h2:oI cx n sc ρ lo=some l)(h3:oI cx n sc ρ hi=some u) :
  ev cx (n+1) sc ρ (.Subscript a (.Slice lo hi none q) p)=some (.lst (nD us l u)):=by
 unfold oI at h2 h3;simp only[ev,h1,bind,Q2z]
 have e:∀ (A B:Option (Option Int)),A=some l->B=some u->(A.bind fun l=>B.bind fun h=>some (D.lst (nD us l h)))=some (.lst (nD us l u)):=by
  intro A B ha hb;subst ha hb;rfl
 exact e _ _ h2 h3
theorem Hg:oI cx n sc ρ none=some none:=rfl
theorem Hf{i:Int}(h:ev cx n sc ρ e=some (.int i)):oI cx n sc ρ (some e)=some (some i):=by
 simp only[oI,h];rfl
theorem uw{t:Expr}{T:String}(hg:bC cx sc nm=some "isinstance")(ht:tyOf cx sc t=some T)(hk:fW T=true)(h1:ev cx n sc ρ a=some x)(h:DR T x=c')(hxo:xOf cx sc t=none:=by rfl)(hne:isExc x=false:=by rfl):ev cx (n+1) sc ρ (.Call (.Name nm q) [a,t] [] p)=some (.bl c'):=by
 unfold bC at hg;split at hg
 ·rename_i hgl
  subst h;simp only[ev,hgl,hg,h1,ht,Q5z,hxo,bind,Q2z]
  cases x<;>first | (show(if fW T=true then _ else _)=_;rw[R5z hk]) | exact absurd hne (by simp[isExc])
 ·cases hg
theorem dB{B:String}(hg:bC cx sc nm=some B)(hw:Aa cx sc B es=.al)(hn:(B=="isinstance"||es.isEmpty)=false)(h1:j4 (ev cx n sc ρ) es=some ds)(h:blt B ds=some d):ev cx (n+1) sc ρ (.Call (.Name nm q) es [] p)=some d:=by
 rw[Bool.or_eq_false_iff] at hn;unfold bC at hg;split at hg
 ·rename_i hgl
  simp only[ev,hgl,hg,Q5z];split
  ·rename_i he;cases he;simp at hn
  ·rename_i he;cases he
   simp only[hw,hn.2,h1,Q1z,O5z];exact h
  ·rename_i he;cases he
 ·cases hg
theorem xLs{xs:List D}{ns:List Int}(hg:bC cx sc nm=some "len")(hw:Aa cx sc "len" es=.ls a)(h1:ev cx n sc ρ a=some (.lst xs))(h2:iU xs=some ns)(hz:xs.length<=1000):ev cx (n+1) sc ρ (.Call (.Name nm q) es [] p)=some (.int (ddp ns).length):=by
 unfold bC at hg;split at hg
 ·rename_i hgl
  simp only[ev,hgl,hg,Q5z];split
  ·rename_i he;exact absurd he (by decide)
  ·rename_i he;cases he
   simp only[hw,h1,Q2z,Jx,bind,h2,Y3z hz,Q5z]
  ·rename_i he;cases he
 ·cases hg
def isFn(cx:Cxt)(sc:Scope)(nm:Str)(es:List Expr):Bool:=mQ cx sc nm&&(cx.blt.lookup nm).isNone&&cx.fns.contains nm && !es.isEmpty
theorem aA(hf:isFn cx sc nm es=true)(h1:j4 (ev cx n sc ρ) es=some ds)(h:cx.call nm ds=some d):ev cx (n+1) sc ρ (.Call (.Name nm q) es [] p)=some d:=by
 unfold isFn at hf;rw[K2z,K2z,K2z] at hf;obtain⟨⟨⟨h2,h3⟩,h4⟩,h5⟩:=hf
 have h3':cx.blt.lookup nm=none:=by simpa using h3
 simp only[ev,h2,h3',h4,h5,J4z,Q5z,h1];exact h
theorem wR1{tup:Bool}{j:Int}(hw:pR cx sc e=.r1 a)(h1:ev cx n sc ρ a=some (.int j))(hz:fM j=true):evI cx tup (ev cx n sc ρ) sc e=some (d7 0 j):=by
 unfold evI;rw[hw];simp only[h1,Q2z,asI];show(if fM j=true then _ else _)=_;rw[R5z hz]
theorem wR2{tup:Bool}{i j:Int}(hw:pR cx sc e=.r2 a b)(h1:ev cx n sc ρ a=some (.int i))(h2:ev cx n sc ρ b=some (.int j))(hz:(fM i&&fM j)=true):evI cx tup (ev cx n sc ρ) sc e=some (d7 i j):=by
 unfold evI;rw[hw];simp only[h1,h2,Q2z,asI];show(if(fM i&&fM j)=true then _ else _)=_;rw[R5z hz]
theorem wZp{xs ys:List D}(hw:pR cx sc e=.zp a b)(h1:ev cx n sc ρ a=some (.tup xs))(h2:ev cx n sc ρ b=some (.tup ys)):evI cx true (ev cx n sc ρ) sc e=some ((xs.zip ys).map fun q=>.tup [q.1,q.2]):=by
 unfold evI;rw[hw];simp only[h1,h2,bind,Q2z];rfl
theorem wEn{xs:List D}(hw:pR cx sc e=.en a)(h1:ev cx n sc ρ a=some (.tup xs)):evI cx true (ev cx n sc ρ) sc e=some (enD xs):=by
 unfold evI;rw[hw];simp only[h1,bind,Q2z];rfl
theorem OJ{xs:List D}(hw:pR cx sc e=.en a)(h1:ev cx n sc ρ a=some (.lst xs)):evI cx true (ev cx n sc ρ) sc e=some (enD xs):=by
 unfold evI;rw[hw];simp only[h1,bind,Q2z];rfl
theorem wSq{tup:Bool}{xs:List D}(hw:pR cx sc e=.sq)(h1:ev cx n sc ρ e=some x)(h2:items x=some xs):evI cx tup (ev cx n sc ρ) sc e=some xs:=by
 unfold evI;rw[hw];simp only[h1,Q2z];exact h2
theorem bD{f:D->Option (Option D)}{h g:Nat->D}:∀ {m:Nat},(∀ i,i<m->f (h i)=some (some (g i)))->bG f (Ls m h)=some (Ls m g):=by
 have key:∀ (l:List Nat),(∀ i∈l,f (h i)=some (some (g i)))->bG f (l.map h)=some (l.map g):=by
  intro l
  induction l with
  | nil=>intro _;rfl
  | cons i r ih =>
   intro hi;simp only[I4z,bG,hi i K1z,ih fun j hj=>hi j (W0z _ hj)];rfl
 intro m hm;exact key _ fun i hi=>hm i (List.mem_range.mp hi)
def cF(cx:Cxt)(n:Nat)(sc scope:Scope)(ρ:Rho)(tg elt:Expr)(ifs:List Expr):D->Option (Option D):=fun d=>do
 let ρ1 <- fP scope tg d (bJ scope ρ)
 let b <- mR (ev cx n (jZ scope sc) ρ1) ifs
 if b then(ev cx n (jZ scope sc) ρ1 elt).map some else some none
theorem cX{tg elt:Expr}{ρ1:Rho}(h1:fP scope tg x (bJ scope ρ)=some ρ1)(h2:ev cx n (jZ scope sc) ρ1 elt=some d):cF cx n sc scope ρ tg elt [] x=some (some d):=by
 simp only[cF,h1,mR];show Option.map some (ev cx n (jZ scope sc) ρ1 elt)=_;rw[h2];rfl
theorem m9{tg elt:Expr}{ρ1:Rho}{t:Bool}(h1:fP scope tg x (bJ scope ρ)=some ρ1)(h3:ev cx n (jZ scope sc) ρ1 c=some (.bl t))(h2:ev cx n (jZ scope sc) ρ1 elt=some d):cF cx n sc scope ρ tg elt [c] x=some (if t then some d else none):=by
 simp only[cF,h1,mR,h3,h2,bind,Q2z,asB]
 cases t<;>rfl
theorem cD{tg elt iter:Expr}{ifs:List Expr}{l out:List D}(hok:gY sc scope=true)(hI:evI cx (d8 tg) (ev cx n sc ρ) sc iter=some l)(hz:szl l.length=true)(hgo:bG (cF cx n sc scope ρ tg elt ifs) l=some out) :
  ev cx (n+1) sc ρ (.ListComp elt [⟨tg,iter,ifs,0⟩] scope p)=some (.lst out):=by
 simp only[ev,hok,hI];show(if szl l.length=true then(bG (cF cx n sc scope ρ tg elt ifs) l).bind (fun out=>some (D.lst out)) else none)=some (D.lst out);rw[R5z hz,hgo];rfl
variable {F:Nat} {f:Rho->Stmt->Option Fl} {r:List Stmt} {fl:Fl} {m:Nat}
abbrev blk(cx:Cxt)(F m:Nat)(sc:Scope):List Stmt->Rho->Option Fl:=iY (fun ρ s=>st cx F m sc ρ s)
theorem bO:blk cx F m sc [] ρ=some (.nxt ρ):=rfl
def qj(cx:Cxt)(F m:Nat)(sc:Scope)(r:List Stmt):Fl->Option Fl
 | .ret d=>some (.ret d)
 | .nxt ρ'=>blk cx F m sc r ρ'
theorem gSt{s:Stmt}{fl1:Fl}(h:st cx F m sc ρ s=some fl1)(k:qj cx F m sc r fl1=some fl):blk cx F m sc (s::r) ρ=some fl:=by
 show(st cx F m sc ρ s).bind _=_;rw[h]
 cases fl1<;>exact k
theorem cQ(h:ev cx F sc (frz F e ρ) e=some d):blk cx F (m+1) sc (.Return (some e) p::r) ρ=some (.ret d):=by
 refine gSt (fl1:=.ret d) ?_ rfl;simp only[st,h];rfl
theorem jg{px:Pos}(ho:(ownIn sc nm&&(ρ.map (·.1)).contains nm)=true)(h:ev cx F sc (frz F e ρ) e=some d)(k:blk cx F (m+1) sc r (cC (frz F e ρ) nm (lQ e d))=some fl)(hoo:(ooE cx sc e&&mG (frz F e ρ) nm)=false:=by rfl)(hno:(aZ e && !qF (frz F e ρ) nm)=false:=by rfl)(hle:Jy cx sc e=false:=by rfl)(hrd:rdA e=false:=by rfl):blk cx F (m+1) sc (.Assign [.Name nm px] e p::r) ρ=some fl:=by
 refine gSt (fl1:=.nxt _) ?_ k;simp only[st,h,R5z ho,hoo,hno,hle,hrd,X3z,Q1z,O5z]
theorem gTup{es:List Expr}{j:Nat}{ρ':Rho}{l:List D}(hs:(swp sc es e).isSome=true)(h:ev cx F sc (frz F e ρ) e=some d)(hl:items d=some l)(hb:bindNames sc es l (frz F e ρ)=some ρ')(k:blk cx F (m+1) sc r ρ'=some fl):blk cx F (m+1) sc (.Assign [.Tuple es j q] e p::r) ρ=some fl:=by
 refine gSt (fl1:=.nxt _) ?_ k;simp only[st,h,hs,Bool.true_or,Q5z,hl,bind,Q2z,hb,L3z]
def nG:Expr->Bool
 | .Call (.Name ..) _ _ _=>true
 | _=>false
theorem qP(hx:nG e=true)(h:ev cx F sc (frz F e ρ) e=some d)(k:blk cx F (m+1) sc r (frz F e ρ)=some fl):blk cx F (m+1) sc (.Expr e p::r) ρ=some fl:=by
 unfold nG at hx;split at hx
 ·refine gSt (fl1:=.nxt _) ?_ k
  simp only[st,h,L3z]
 ·cases hx
theorem gApp{px ap cp:Pos}{M:Str}{ds:List D}(hx:(frz F e ρ).lookup nm=some (.ow ds))(ho:(ownIn sc nm&&aH nm&&ap.endLine==cp.line)=true)(hM:(M=="append")=true)(hz:szl (ds.length+1)=true)(h:ev cx F sc (frz F e ρ) e=some d)(k:blk cx F (m+1) sc r (cC (frz F e ρ) nm (.ow (ds++[d])))=some fl) :
  blk cx F (m+1) sc (.Expr (.Call (.Attribute (.Name nm px) M ap) [e] [] cp) p::r) ρ=some fl:=by
 refine gSt (fl1:=.nxt _) ?_ k;simp only[st,hx,ho,hM,hz,J4z,Q5z,h,L3z]
theorem Zx{px ap cp:Pos}{M:Str}{ds zs:List D}(hx:(frz F e ρ).lookup nm=some (.ow ds))(ho:(ownIn sc nm&&aH nm&&ap.endLine==cp.line)=true)(hM:(M=="append")=false)(hM2:(M=="extend")=true)(hz:szl (ds.length+zs.length)=true)(h:ev cx F sc (frz F e ρ) e=some (.lst zs))(k:blk cx F (m+1) sc r (cC (frz F e ρ) nm (.ow (ds++zs)))=some fl) :
  blk cx F (m+1) sc (.Expr (.Call (.Attribute (.Name nm px) M ap) [e] [] cp) p::r) ρ=some fl:=by
 refine gSt (fl1:=.nxt _) ?_ k;simp only[st,hx,ho,hM,hM2,X3z,Q1z,O5z,Q5z,h,bind,Q2z,hz]
theorem uV{A B:List Stmt}{fl1:Fl}(h:ev cx F sc (frz F c ρ) c=some (.bl true))(k:blk cx F m sc A ρ=some fl1)(k2:qj cx F (m+1) sc r fl1=some fl):blk cx F (m+1) sc (.If c A B p::r) ρ=some fl:=by
 refine gSt ?_ k2;have k':iY (fun ρ s=>st cx F m sc ρ s) A ρ=some fl1:=k;simp only[st,h,bind,Q2z,asB,Q5z,k']
theorem Ws{A B:List Stmt}{fl1:Fl}(h:ev cx F sc (frz F c ρ) c=some (.bl false))(k:blk cx F m sc B ρ=some fl1)(k2:qj cx F (m+1) sc r fl1=some fl):blk cx F (m+1) sc (.If c A B p::r) ρ=some fl:=by
 refine gSt ?_ k2;have k':iY (fun ρ s=>st cx F m sc ρ s) B ρ=some fl1:=k;simp only[st,h,bind,Q2z,asB,Q1z,O5z,k']
theorem pX{A:List Stmt}(h:ev cx F sc (frz F c ρ) c=some (.bl false))(k:blk cx F (m+1) sc r ρ=some fl):blk cx F (m+1) sc (.If c A [] p::r) ρ=some fl :=
 Ws h bO k
theorem mW{f:D->Rho->Option Fl}{h:Nat->D}{R:Nat->Rho}{N:Nat}(hs:∀ i,i<N->f (h i) (R i)=some (.nxt (R (i+1)))):bU f (Ls N h) (R 0)=some (.nxt (R N)):=by
  have key:∀ (j i:Nat),i+j=N->bU f ((List.range' i j).map h) (R i)=some (.nxt (R N)):=by
    intro j
    induction j with
    | zero => intro i hi; have : i = N := by omega
              subst this;rfl
    | succ j ih =>
      intro i hi
      rw[List.range'_succ,I4z]
      simp only[bU,hs i (by omega)]
      exact ih (i+1) (by omega)
  have:=key N 0 (by omega)
  rw[<- List.range_eq_range'] at this
  exact this
def fF(cx:Cxt)(F m:Nat)(sc:Scope)(tg:Expr)(body:List Stmt):D->Rho->Option Fl:=fun d ρ=>do let ρ1 <- fP sc tg d ρ;iY (fun ρ s=>st cx F m sc ρ s) body ρ1
theorem dX{tg:Expr}{body:List Stmt}{ρ1:Rho}(h1:fP sc tg d ρ=some ρ1)(h2:blk cx F m sc body ρ1=some fl):fF cx F m sc tg body d ρ=some fl:=by
 have h2':iY (fun ρ s=>st cx F m sc ρ s) body ρ1=some fl:=h2;simp only[fF,h1];exact h2'
theorem Zw{tg iter:Expr}{body:List Stmt}{l:List D}{fl1:Fl}(hI:evI cx (d8 tg) (ev cx F sc (frz F iter ρ)) sc iter=some l)(hgo:bU (fF cx F m sc tg body) l (frz F iter ρ)=some fl1)(k2:qj cx F (m+1) sc r fl1=some fl):blk cx F (m+1) sc (.For tg iter body [] p::r) ρ=some fl:=by
 refine gSt ?_ k2;have hgo':bU (fun d ρ=>(fP sc tg d ρ).bind fun ρ1=>iY (fun ρ s=>st cx F m sc ρ s) body ρ1) l (frz F iter ρ)=some fl1:=hgo;simp only[st,hI,bind,Q2z,hgo']
theorem yE{c:Expr}{body:List Stmt}{ρ2:Rho}(hgo:rB (fun ρ=>((ev cx F sc (frz F c ρ) c).bind asB).map fun b=>(frz F c ρ,b)) (fun ρ=>blk cx F m sc body ρ) whF ρ=some (.nxt ρ2))(k2:blk cx F (m+1) sc r ρ2=some fl):blk cx F (m+1) sc (.While c body [] p::r) ρ=some fl:=by
 refine gSt (fl1:=.nxt ρ2) ?_ k2;have hgo':rB (fun ρ=>((ev cx F sc (frz F c ρ) c).bind asB).map fun b=>(frz F c ρ,b)) (fun ρ=>iY (fun ρ s=>st cx F m sc ρ s) body ρ) whF ρ=some (.nxt ρ2):=hgo;simp only[st,hgo']
theorem CP{f:Rho->Option Fl}{c:Expr}{N:Nat}{ρ1 ρ2:Rho}(hc:frz F c ρ=ρ1)(h:ev cx F sc ρ1 c=some (.bl true))(hf:f ρ1=some (.nxt ρ2))(k:rB (fun ρ=>((ev cx F sc (frz F c ρ) c).bind asB).map fun b=>(frz F c ρ,b)) f N ρ2=some fl):rB (fun ρ=>((ev cx F sc (frz F c ρ) c).bind asB).map fun b=>(frz F c ρ,b)) f (N+1) ρ=some fl:=by
 subst hc;simp only[rB,h,Q2z,asB,L3z,Q5z,hf];exact k
theorem rA{f:Rho->Option Fl}{c:Expr}{N:Nat}{ρ1:Rho}(hc:frz F c ρ=ρ1)(h:ev cx F sc ρ1 c=some (.bl false)):rB (fun ρ=>((ev cx F sc (frz F c ρ) c).bind asB).map fun b=>(frz F c ρ,b)) f (N+1) ρ=some (.nxt ρ1):=by
 subst hc;simp only[rB,h,Q2z,asB,L3z,Q1z,O5z]
abbrev cxN(P:Pg)(F k:Nat):Cxt:=⟨P.cst,P.blt,P.defs.map (·.1),P.exs,P.top,true,aG P F k,u9 P F k⟩
theorem Jf{P:Pg}{k:Nat}:P.cx (eV P F k)=cxN P F k:=by
 have e1:aG P F k=fun f ds=>Rs.val? (eV P F k f ds):=by funext f ds;exact ig
 have e2:u9 P F k=fun f ds=>Rs.exc? (eV P F k f ds):=by funext f ds;exact tX
 unfold cxN;rw[e1,e2];rfl
theorem bW{P:Pg}{k:Nat}{f:Str}{fd:Fd}(hf:P.defs.lookup f=some fd)(hl:(ds.length==fd.ps.length)=true)(h:blk (cxN P F k) F F fd.sc fd.body (cu fd ds)=some (.ret d)):aG P F (k+1) f ds=some d:=by
 have h':iY (fun ρ s=>st (cxN P F k) F F fd.sc ρ s) fd.body (cu fd ds)=some (.ret d):=h;rw[ig];simp only[jX,hf,hl,Q5z,pG,Jf,h',Rs.val?]
theorem um{P:Pg}{k:Nat}{f:Str}{fd:Fd}{ρ':Rho}(hf:P.defs.lookup f=some fd)(hl:(ds.length==fd.ps.length)=true)(h:blk (cxN P F k) F F fd.sc fd.body (cu fd ds)=some (.nxt ρ')):aG P F (k+1) f ds=some .non:=by
 have h':iY (fun ρ s=>st (cxN P F k) F F fd.sc ρ s) fd.body (cu fd ds)=some (.nxt ρ'):=h;rw[ig];simp only[jX,hf,hl,Q5z,pG,Jf,h',Rs.val?]
def zO(cx:Cxt)(F m:Nat)(sc:Scope)(l:List Stmt)(ρ:Rho)(c:Str):Prop:=iY (fun ρ s=>st cx F m sc ρ s) l ρ=none/\∃ ρ',gw (fun ρ s=>st cx F m sc ρ s) (fun ρ s=>stx cx F m sc ρ s) l ρ=some (c,ρ')
theorem pZ{P:Pg}{k:Nat}{f:Str}{fd:Fd}{c:Str}(hf:P.defs.lookup f=some fd)(hl:(ds.length==fd.ps.length)=true)(h:zO (cxN P F k) F F fd.sc fd.body (cu fd ds) c):u9 P F (k+1) f ds=some c/\aG P F (k+1) f ds=none:=by
 obtain⟨h1,ρ',h2⟩:=h;rw[tX,ig];simp only[jX,hf,hl,Q5z,pG,Jf,h1,h2,Rs.exc?,Rs.val?];trivial
theorem tZ{s:Stmt}{ρ1:Rho}{c:Str}(h1:st cx F m sc ρ s=some (.nxt ρ1))(h2:zO cx F m sc r ρ1 c):zO cx F m sc (s::r) ρ c:=by
 obtain⟨h3,ρ',h4⟩:=h2;refine⟨?_,ρ',?_⟩
 ·show(st cx F m sc ρ s).bind _=_
  rw[h1];exact h3
 ·simp only[gw,h1];exact h4
theorem uc{s:Stmt}{ρ1:Rho}{c:Str}(h1:st cx F m sc ρ s=none)(h2:stx cx F m sc ρ s=some (c,ρ1)):zO cx F m sc (s::r) ρ c:=by
 refine⟨?_,ρ1,?_⟩
 ·show(st cx F m sc ρ s).bind _=_
  rw[h1];rfl
 ·simp only[gw,h1];exact h2
theorem rm{A B:List Stmt}{cn:Str}{np p1 cpos rp:Pos}{txt:Str}{j:Nat}(h:ev cx F sc (frz F c ρ) c=some (.bl true))(hr:(cx.rs&&mQ cx sc cn&&cx.exs.contains cn&&aH cn)=true) :
  zO cx F (m+2) sc (.If c (.Raise (some (.Call (.Name cn np) [.Constant (.str txt) j p1] [] cpos)) none rp::A) B p::r) ρ cn:=by
 refine uc (ρ1:=frz F c ρ) ?_ ?_
 ·simp only[st,h,bind,Q2z,asB,Q5z]
  rfl
 ·simp only[stx,h,Q2z,asB,Q5z,gw]
  simp only[st,R5z hr]
theorem Ol{cn:Str}(hx:nG e=true)(h:ev cx F sc (frz F e ρ) e=none)(h2:evx cx F sc (frz F e ρ) e=some cn):zO cx F (m+1) sc (.Expr e p::r) ρ cn:=by
 refine uc (ρ1:=frz F e ρ) ?_ ?_
 ·unfold nG at hx
  split at hx
  ·simp only[st,h,S3z]
  ·cases hx
 ·unfold nG at hx
  split at hx
  ·simp only[stx,aZ,Q1z,O5z,h2,L3z]
  ·cases hx
theorem j7{c:Str}(hf:(isFn cx sc nm es&&es.all aL)=true)(h1:j4 (ev cx n sc ρ) es=some ds)(h:cx.callx nm ds=some c)(h0:cx.call nm ds=none):evx cx (n+1) sc ρ (.Call (.Name nm q) es [] p)=some c/\ev cx (n+1) sc ρ (.Call (.Name nm q) es [] p)=none:=by
 unfold isFn at hf;simp only[K2z] at hf;obtain⟨⟨⟨⟨h2,h3⟩,h4⟩,h5⟩,h6⟩:=hf
 have h3':cx.blt.lookup nm=none:=by simpa using h3
 constructor
 ·simp only[evx,h2,h5,h6,h4,J4z,Q5z,h1,h]
 ·simp only[ev,h2,h3',Q5z,h4,h5,J4z,h1,bind,Q2z,h0]
end
abbrev row(n:Nat)(f:Nat->Int):D:=.tup (Ls n fun j=>.int (f j))
abbrev tbl(m n:Nat)(f:Nat->Nat->Int):D:=.tup (Ls m fun i=>.tup (Ls n fun j=>.int (f i j)))
def W8:Nat->(Nat->Int)->Int
 | 0,_=>0
 | n+1,f=>W8 n f+f n
theorem WW{n:Nat}{h:Nat->D}:blt "len" [.tup (Ls n h)]=some (.int n):=by
 show some (D.int ((Ls n h).length:Int))=_;rw[dU]
theorem Et{l:List D}:blt "tuple" [.lst l]=some (.tup l):=rfl
theorem iy{n:Nat}(h:n<=100000):szl n=true:=by unfold szl;exact Y3z h
theorem iW{α:Type}{n:Nat}{h:Nat->α}(hn:n<=100000):szl (Ls n h).length=true:=by rw[dU];exact iy hn
theorem Z8{n:Nat}(h:n<=100000):fM (n:Int)=true:=by
 unfold fM;rw[Y3z (by omega),Y3z (by omega)];rfl
theorem oLe{i j:Int}(h:i<=j):cmpop .LtE (.int i) (.int j)=some (.bl true):=by
 show some (D.bl (decide (i<=j)))=_;rw[Y3z h]
theorem oLt{i j:Int}(h:i<j):cmpop .Lt (.int i) (.int j)=some (.bl true):=by
 show some (D.bl (decide (i<j)))=_;rw[Y3z h]
theorem Ob{i j:Int}(h:¬ i<j):cmpop .Lt (.int i) (.int j)=some (.bl false):=by
 show some (D.bl (decide (i<j)))=_;rw[A3z h]
theorem Ju{i j:Int}(h:i=j):cmpop .Eq (.int i) (.int j)=some (.bl true):=by
 subst h;show some (D.bl (i==i))=_;rw[N2z]
theorem Jv{i j:Int}(h:i≠j):cmpop .Eq (.int i) (.int j)=some (.bl false):=by
 show some (D.bl (i==j))=_;rw[G1z.mpr h]
theorem Hh{i j:Int}(h:i=j):cmpop .NotEq (.int i) (.int j)=some (.bl false):=by
 subst h;show some (D.bl (!(i==i)))=_;rw[N2z];rfl
theorem nj{i j:Int}(h:small i=true\/small j=true):binop .Mult (.int i) (.int j)=some (.int (i*j)):=by
 show(if(small i||small j||(mid i&&mid j))=true then _ else _)=_;rw[R5z (by rw[O3z,O3z];exact .inl h)]
theorem Oi{i j:Int}(h:0<j):binop .Mod (.int i) (.int j)=some (.int (i%j)):=by
 show(if decide (0<j)=true then _ else _)=_;rw[R5z (Y3z h)]
theorem bDiv{i j:Int}(h:0<j)(h':j<1073741824):binop .FloorDiv (.int i) (.int j)=some (.int (i / j)):=by
 show(if(decide (0<j)&&decide (j<1073741824))=true then _ else _)=_;rw[R5z (by rw[Y3z h,Y3z h'];rfl)]
mutual
theorem zq:∀ d:D,dep d<1000->deq d d=true
 | .non,_=>rfl
 | .bl b,_=>by simp[deq]
 | .int i,_=>by simp[deq]
 | .str x,_=>by simp[deq]
 | .tup xs,h=>by simp only[deq];exact mX xs (by simp only[dep] at h;omega)
 | .lst xs,h=>by simp only[deq];exact mX xs (by simp only[dep] at h;omega)
 | .exc c,h=>absurd h (by simp[dep])
 | .dic _ _,h=>absurd h (by simp[dep])
 | .dt _ _,h=>absurd h (by simp[dep])
theorem mX:∀ ds:List D,deps ds<1000->jP ds ds=true
 | [],_=>rfl
 | d::ds,h=>by
  simp only[deps] at h;simp only[jP,zq d (by omega),mX ds (by omega),J4z]
end
theorem oEq{x y:D}(h1:dep x<=50)(h2:dep y<=50):cmpop .Eq x y=some (.bl (deq x y)):=by
 show(if(decide (dep x<=50)&&decide (dep y<=50))=true then some (D.bl (deq x y)) else none)=_;rw[Y3z h1,Y3z h2];rfl
theorem oNe{x y:D}(h1:dep x<=50)(h2:dep y<=50):cmpop .NotEq x y=some (.bl (!deq x y)):=by
 show(if(decide (dep x<=50)&&decide (dep y<=50))=true then some (D.bl (!deq x y)) else none)=_;rw[Y3z h1,Y3z h2];rfl
theorem f9{b:Nat}:∀ {l:List D},(∀ d∈l,dep d<=b)->deps l<=b
 | [],_=>D5z _
 | d::r,h=>by
  simp only[deps];exact Nat.max_le.mpr ⟨h d K1z,f9 fun e he=>h e (W0z _ he)⟩
section
variable {cx:Cxt} {n:Nat} {sc scope:Scope} {ρ:Rho} {a b c e:Expr} {es:List Expr} {p q:Pos} {x y z d:D} {ds:List D} {nm:Str}
theorem Fq{tup:Bool}{j:Nat}(hw:pR cx sc e=.r1 a)(h1:ev cx n sc ρ a=some (.int j))(hz:j<=100000):evI cx tup (ev cx n sc ρ) sc e=some (Ls j fun k=>.int k):=by
 rw[wR1 hw h1 (Z8 hz),wN]
theorem W5{m:Nat}{h g:Nat->D}(hw:pR cx sc e=.zp a b)(h1:ev cx n sc ρ a=some (.tup (Ls m h)))(h2:ev cx n sc ρ b=some (.tup (Ls m g))):evI cx true (ev cx n sc ρ) sc e=some (Ls m fun i=>.tup [h i,g i]):=by
 rw[wZp hw h1 h2,Nx,Ny]
theorem Ab{tup:Bool}{xs:List D}(hw:pR cx sc e=.sq)(h1:ev cx n sc ρ e=some (.tup xs)):evI cx tup (ev cx n sc ρ) sc e=some xs:=wSq hw h1 rfl
theorem CN{m j:Nat}{h:Nat->D}(h1:ev cx n sc ρ a=some (.tup (Ls m h)))(h2:ev cx n sc ρ b=some (.int j))(hj:j<m)(hs:aL b=true)(hd:h j=d):ev cx (n+1) sc ρ (.Subscript a b p)=some d:=hd▸xIx h1 h2 rfl (Eu hj) hs
theorem Oo{m:Nat}{h:Nat->D}(h1:ev cx n sc ρ a=some (.tup (Ls m h)))(h2:ev cx n sc ρ b=some (.int 0))(hj:0<m)(hs:aL b=true)(hd:h 0=d):ev cx (n+1) sc ρ (.Subscript a b p)=some d:=hd▸xIx h1 h2 rfl (Eu (j:=0) hj) hs
end
section
variable {cx:Cxt} {n:Nat} {sc scope:Scope} {ρ:Rho} {a b c e:Expr} {es:List Expr} {p q:Pos} {x y z d:D} {ds:List D} {nm:Str}
end
theorem Nm{m:Nat}{h:Nat->D}:enD (Ls m h)=Ls m fun i=>.tup [.int i,h i]:=by
 apply List.ext_getElem?;intro i;unfold enD;rw[List.getElem?_map,List.getElem?_zipIdx]
 by_cases hi:i<m
 ·rw[iV hi,iV hi];simp
 ·rw[List.getElem?_eq_none (by rw[dU];omega),List.getElem?_eq_none (by rw[dU];omega)];rfl
theorem O1{cx:Cxt}{n:Nat}{sc:Scope}{ρ:Rho}{a e:Expr}{m:Nat}{h:Nat->D}(hw:pR cx sc e=.en a)(h1:ev cx n sc ρ a=some (.tup (Ls m h))):evI cx true (ev cx n sc ρ) sc e=some (Ls m fun i=>.tup [.int i,h i]):=by
 rw[wEn hw h1,Nm]
theorem Xh{i j:Int}(h:¬ i<=j):cmpop .LtE (.int i) (.int j)=some (.bl false):=by
 show some (D.bl (decide (i<=j)))=_;rw[A3z h]
theorem oGt{i j:Int}:cmpop .Gt (.int i) (.int j)=some (.bl (decide (j<i))):=rfl
theorem Xi{i j:Int}:cmpop .LtE (.int i) (.int j)=some (.bl (decide (i<=j))):=rfl
section
variable {cx:Cxt} {n:Nat} {sc scope:Scope} {ρ:Rho} {a b c e:Expr} {es:List Expr} {p q:Pos} {x y z d:D} {ds:List D} {nm:Str} {F m:Nat} {r:List Stmt} {fl:Fl} {op op':CmpOp}
theorem JQ(h1:ev cx n sc ρ a=some x)(h2:ev cx n sc ρ b=some y)(h:cmpop op x y=some (.bl false))(hp:aL c=true:=by rfl):ev cx (n+1) sc ρ (.Compare a [op,op'] [b,c] p)=some (.bl false):=by
 simp only[ev,hp,Bool.not_true,Q1z,O5z,h1,h2,bind,Q2z,h,asB]
theorem Wu{px ap cp:Pos}{M:Str}{ds zs:List D}(hx:(frz F e ρ).lookup nm=some (.ow ds))(ho:(ownIn sc nm&&aH nm&&ap.endLine==cp.line)=true)(hM:(M=="append")=false)(hM2:(M=="extend")=true)(hz:szl (ds.length+zs.length)=true)(h:ev cx F sc (frz F e ρ) e=some (.tup zs))(k:blk cx F (m+1) sc r (cC (frz F e ρ) nm (.ow (ds++zs)))=some fl) :
  blk cx F (m+1) sc (.Expr (.Call (.Attribute (.Name nm px) M ap) [e] [] cp) p::r) ρ=some fl:=by
 refine gSt (fl1:=.nxt _) ?_ k;simp only[st,hx,ho,hM,hM2,X3z,Q1z,O5z,Q5z,h,bind,Q2z,hz]
end
section
variable {cx:Cxt} {n:Nat} {sc scope:Scope} {ρ:Rho} {a b c e:Expr} {es:List Expr} {p q:Pos} {x y z d:D} {ds:List D} {nm:Str} {F m:Nat} {r:List Stmt} {fl:Fl}
theorem MN{body o f:List Stmt}{hs:List ExceptHandler}{t:Str×Str×Str}{fl1:Fl}(ht:uF hs o f=some t)(h:blk cx F m sc body ρ=some fl1)(k:qj cx F (m+1) sc r fl1=some fl):blk cx F (m+1) sc (.Try body hs o f p::r) ρ=some fl:=by
 obtain⟨t1,t2,t3⟩:=t;refine gSt ?_ k;have h':iY (fun ρ s=>st cx F m sc ρ s) body ρ=some fl1:=h;simp only[st,ht,h']
theorem Wq{body o f:List Stmt}{hs:List ExceptHandler}{t e1 kn c':Str}{ρ':Rho}(ht:uF hs o f=some (t,e1,kn))(h1:iY (fun ρ s=>st cx F m sc ρ s) body ρ=none)(h2:gw (fun ρ s=>st cx F m sc ρ s) (fun ρ s=>stx { cx with rs:=false } F m sc ρ s) body ρ=some (c',ρ'))
  (hc:(mQ cx sc t&&t==cx.top&&cx.exs.contains c'&&e1 !=kn&&aH e1&&sc.names.lookup e1==some .local&&sc.names.lookup kn==some .local&&(ρ.map (·.1)).contains e1&&(ρ.map (·.1)).contains kn&&aH t)=true)
  (k:blk cx F (m+1) sc r (cC (cC ρ' kn (.sh (.exc c'))) e1 .no)=some fl):blk cx F (m+1) sc (.Try body hs o f p::r) ρ=some fl:=by
 refine gSt (fl1:=.nxt _) ?_ k;simp only[st,ht,h1,h2,R5z hc]
theorem Ef{cx:Cxt}{n:Nat}{sc:Scope}{ρ:Rho}{e:Expr}{c:Str}(h:evx cx n sc ρ e=some c):Oe e=false:=by
 cases n with
 | zero=>cases h
 | succ n=>cases e<;>first | rfl | (simp[evx] at h)
end
section
variable {cx:Cxt} {n:Nat} {sc scope:Scope} {ρ:Rho} {a b c e:Expr} {p q:Pos}
theorem Om{us:List D}{i:Nat}(h1:ev cx n sc ρ a=some (.tup us))(h2:ev cx n sc ρ b=some (.int i))(hi:i<us.length):ev cx (n+1) sc ρ (.Subscript a (.Slice none (some b) none q) p)=some (.tup (us.take i)):=by
 have e1:lV us.length us.length (some (i:Int))=i:=by unfold lV;simp only;rw[S5z (by omega)];omega
 rw[xSl h1 Hg (Hf h2)]
 ·unfold nD
  rw[e1];show some (D.tup ((us.drop 0).take (i-0)))=_;rw[List.drop_zero,Nat.sub_zero]
 ·rw[e1]
  have:(i==us.length)=false:=by rw[G1z];omega
  rw[this,C4z]
theorem vN{us:List D}{i:Nat}(h1:ev cx n sc ρ a=some (.tup us))(h2:ev cx n sc ρ b=some (.int i))(h0:0<i)(hi:i<=us.length):ev cx (n+1) sc ρ (.Subscript a (.Slice (some b) none none q) p)=some (.tup (us.drop i)):=by
 have e1:lV us.length 0 (some (i:Int))=i:=by unfold lV;simp only;rw[S5z (by omega)];omega
 rw[xSl h1 (Hf h2) Hg]
 ·unfold nD
  rw[e1];show some (D.tup ((us.drop i).take (us.length-i)))=_;rw[List.take_of_length_le (by rw[I2z];omega)]
 ·rw[e1]
  have:(i==0)=false:=by rw[G1z];omega
  rw[this,X3z]
end
theorem zA{x:D}:∀ {l:List D},x∈l->dep x<=deps l
 | y::l,h=>by
  simp only[deps];rcases List.mem_cons.mp h with rfl | h
  ·omega
  ·have:=zA h;omega
theorem Jl{us vs:List D}(h:us.length+vs.length<=100000):binop .Add (.tup us) (.tup vs)=some (.tup (us++vs)):=by
 show(if szl (us.length+vs.length)=true then _ else _)=_;rw[R5z (iy h)]
theorem cJ{f:D->Option (Option D)}{g:D->D}:∀ {l:List D},(∀ x∈l,f x=some (some (g x)))->bG f l=some (l.map g)
 | [],_=>rfl
 | x::l,h=>by
  simp only[bG,h x K1z,bind,Q2z,cJ (l:=l) fun y hy=>h y (W0z _ hy),L3z,I4z]
theorem vh{l:List D}{t:D->Bool}:blt "all" [.lst (l.map fun x=>.bl (t x))]=some (.bl (l.all t)):=by
 have key:∀ l:List D,pP (l.map fun x=>.bl (t x))=some (l.map t):=by
  intro l
  induction l with
  | nil=>rfl
  | cons a r ih=>simp only[I4z,pP,ih];rfl
 show(pP (l.map fun x=>.bl (t x))).bind (fun bs=>some (D.bl (bs.all id)))=_;rw[key,Q2z,List.all_map];rfl
theorem oY{f:D->Rho->Option Fl}{R:List D->Rho}{whole:List D}(h:∀ pre x post,pre++x::post=whole->f x (R pre)=some (.nxt (R (pre++[x])))):∀ {l pre:List D},pre++l=whole->bU f l (R pre)=some (.nxt (R whole))
 | [],pre,e=>by rw[E3z] at e;rw[e];rfl
 | x::l,pre,e=>by
  simp only[bU,h pre x l e];exact oY h (l:=l) (pre:=pre++[x]) (by rw[X1z];exact e)
def Hx:List D->Sl
 | []=>.no
 | x::r=>.sh (r.getLastD x)
theorem uR:∀ (l:List D) (x:D),Hx (l++[x])=.sh x
 | [],x=>rfl
 | y::l,x=>by
  show Sl.sh ((l++[x]).getLastD y)=_;simp
theorem notX{x:D}(h:dep x<1000):isExc x=false:=by cases x<;>first | rfl | exact absurd h (by simp[dep])
def nOw:Sl->Bool
 | .ow _=>false
 | .oo _=>false
 | .od _=>false
 | _=>true
def g8(ρ:Rho):Bool:=ρ.all fun p=>nOw p.2
theorem cR{F:Nat}{e:Expr}{ρ:Rho}(h:g8 ρ=true):frz F e ρ=ρ:=by
 unfold frz
 conv=>rhs;rw[<- List.map_id ρ]
 apply I1z;intro p hp;have:=W2z.mp h p hp;obtain⟨x,s⟩:=p
 cases s<;>first | rfl | simp[nOw] at this
theorem zJ{ρ:Rho}{x:Str}(h:g8 ρ=true):qF ρ x=true:=by
 unfold qF;rw[W2z];intro p hp;have:=W2z.mp h p hp;obtain⟨y,s⟩:=p
 cases s<;>first | (simp[nOw] at this;done) | simp[JB]
section
variable {cx:Cxt} {sc:Scope} {ρ:Rho} {c e:Expr} {p:Pos} {d:D} {nm:Str} {F m:Nat} {r:List Stmt} {fl:Fl}
theorem ZC{px:Pos}(hc:g8 ρ=true)(ho:(ownIn sc nm&&(ρ.map (·.1)).contains nm)=true)(h:ev cx F sc ρ e=some d)(k:blk cx F (m+1) sc r (cC ρ nm (lQ e d))=some fl)(hoo:(ooE cx sc e&&mG ρ nm)=false:=by rfl)(hle:Jy cx sc e=false:=by rfl)(hrd:rdA e=false:=by rfl):blk cx F (m+1) sc (.Assign [.Name nm px] e p::r) ρ=some fl:=by
 refine jg ho (by rw[cR hc];exact h) ?_ (by rw[cR hc];exact hoo) (by rw[cR hc,zJ hc];simp) hle hrd
 rw[cR hc];exact k
theorem oH(h:aZ e=false):ooE cx sc e=false:=by
 cases e<;>first | rfl | exact absurd h (by simp[aZ])
theorem nW(h:aZ e=false):lQ e d=.sh d:=by
 unfold lQ;split
 ·rw[h];rfl
 ·rfl
theorem dG{px:Pos}{ρ':Rho}(hf:frz F e ρ=ρ')(ho:(ownIn sc nm&&(ρ.map (·.1)).contains nm)=true)(hfr:aZ e=false)(h:ev cx F sc ρ' e=some d)(k:blk cx F (m+1) sc r (cC ρ' nm (.sh d))=some fl)(hle:Jy cx sc e=false:=by rfl)(hrd:rdA e=false:=by rfl):blk cx F (m+1) sc (.Assign [.Name nm px] e p::r) ρ=some fl:=by
 refine jg ho (by rw[hf];exact h) ?_ (by rw[oH hfr];rfl) (by rw[hfr];rfl) hle hrd
 rw[hf,nW hfr];exact k
theorem mU{y:Str}{s:Sl}{ρ:Rho}:frz F e ((y,s)::ρ)=(match s with | .ow ds=>if dh F y e then(y,.sh (.lst ds)) else(y,.ow ds) | .oo dss=>if dh F y e then(y,.sh (.lst (dss.map .lst))) else(y,.oo dss) | .od l=>if dh F y e then(y,.sh (fK l)) else(y,.od l) | s=>(y,s))::frz F e ρ:=by
 cases s<;>rfl
theorem BX{y:Str}{s:Sl}{ρ:Rho}(h:nOw s=true):frz F e ((y,s)::ρ)=(y,s)::frz F e ρ:=by
 cases s<;>first | rfl | simp[nOw] at h
theorem Ig{y:Str}{ds:List D}{ρ:Rho}(h:dh F y e=true):frz F e ((y,.ow ds)::ρ)=(y,.sh (.lst ds))::frz F e ρ:=by
 show(if dh F y e=true then _ else _)::_=_;rw[R5z h];rfl
theorem vd{px:Pos}(hc:g8 ρ=true)(ho:(ownIn sc nm&&(ρ.map (·.1)).contains nm)=true)(hfr:aZ e=false)(h:ev cx F sc ρ e=some d)(k:blk cx F (m+1) sc r (cC ρ nm (.sh d))=some fl)(hle:Jy cx sc e=false:=by rfl)(hrd:rdA e=false:=by rfl):blk cx F (m+1) sc (.Assign [.Name nm px] e p::r) ρ=some fl:=ZC hc ho h (by rw[nW hfr];exact k) (by rw[oH hfr];rfl) hle hrd
theorem Oh{A B:List Stmt}{fl1:Fl}(hc:g8 ρ=true)(h:ev cx F sc ρ c=some (.bl true))(k:blk cx F m sc A ρ=some fl1)(k2:qj cx F (m+1) sc r fl1=some fl):blk cx F (m+1) sc (.If c A B p::r) ρ=some fl:=uV (by rw[cR hc];exact h) k k2
theorem cIfF{A B:List Stmt}{fl1:Fl}(hc:g8 ρ=true)(h:ev cx F sc ρ c=some (.bl false))(k:blk cx F m sc B ρ=some fl1)(k2:qj cx F (m+1) sc r fl1=some fl):blk cx F (m+1) sc (.If c A B p::r) ρ=some fl:=Ws (by rw[cR hc];exact h) k k2
theorem Es{A:List Stmt}(hc:g8 ρ=true)(h:ev cx F sc ρ c=some (.bl false))(k:blk cx F (m+1) sc r ρ=some fl):blk cx F (m+1) sc (.If c A [] p::r) ρ=some fl:=cIfF hc h bO k
theorem tY(hc:g8 ρ=true)(h:ev cx F sc ρ e=some d):blk cx F (m+1) sc (.Return (some e) p::r) ρ=some (.ret d):=cQ (by rw[cR hc];exact h)
end
theorem Oq{cx:Cxt}{n:Nat}{sc:Scope}{ρ:Rho}{a b c:Expr}{p:Pos}{cn:Str}(h1:ev cx n sc ρ c=some (.bl true))(h:evx cx n sc ρ a=some cn/\ev cx n sc ρ a=none):evx cx (n+1) sc ρ (.IfExp c a b p)=some cn/\ev cx (n+1) sc ρ (.IfExp c a b p)=none:=by
 constructor
 ·simp only[evx,h1,Q2z,asB,h.1]
 ·simp only[ev,h1,bind,Q2z,asB,Q5z,h.2]
theorem Ou{cx:Cxt}{n:Nat}{sc:Scope}{ρ:Rho}{a b c:Expr}{p:Pos}{cn:Str}(h1:ev cx n sc ρ c=some (.bl false))(h:evx cx n sc ρ b=some cn/\ev cx n sc ρ b=none):evx cx (n+1) sc ρ (.IfExp c a b p)=some cn/\ev cx (n+1) sc ρ (.IfExp c a b p)=none:=by
 constructor
 ·simp only[evx,h1,Q2z,asB,h.1]
 ·simp only[ev,h1,bind,Q2z,asB,Q1z,O5z,h.2]
theorem uq{cx:Cxt}{F m:Nat}{sc:Scope}{ρ:Rho}{e:Expr}{p:Pos}{r:List Stmt}{d:D}{cn:Str}(hx:nG e=true)(h:ev cx F sc (frz F e ρ) e=some d)(h2:zO cx F (m+1) sc r (frz F e ρ) cn):zO cx F (m+1) sc (.Expr e p::r) ρ cn:=by
 refine tZ ?_ h2;unfold nG at hx;split at hx
 ·simp only[st,h,L3z]
 ·cases hx
theorem vM{cx:Cxt}{F m:Nat}{sc:Scope}{ρ:Rho}{e:Expr}{p:Pos}{r:List Stmt}{cn:Str}(hx:nG e=true)(h:evx cx F sc (frz F e ρ) e=some cn/\ev cx F sc (frz F e ρ) e=none):zO cx F (m+1) sc (.Expr e p::r) ρ cn:=Ol hx h.2 h.1
def RXs(cx:Cxt)(F m:Nat)(sc:Scope)(s:Stmt)(ρ:Rho)(c:Str)(ρ':Rho):Prop:=st cx F m sc ρ s=none/\st { cx with rs:=false } F m sc ρ s=none/\stx { cx with rs:=false } F m sc ρ s=some (c,ρ')
theorem Dg{cx:Cxt}{F m:Nat}{sc:Scope}{ρ:Rho}{e:Expr}{p px:Pos}{nm c:Str}(hc:g8 ρ=true)(hfr:aZ e=false)(h:ev cx F sc ρ e=none)(h2:evx { cx with rs:=false } F sc ρ e=some c/\ev { cx with rs:=false } F sc ρ e=none):RXs cx F (m+1) sc (.Assign [.Name nm px] e p) ρ c ρ:=by
 refine⟨?_,?_,?_⟩
 ·simp only[st,cR hc,h,Ef h2.1,X3z,Q1z,O5z,S3z,X2z,ite_self]
 ·simp only[st,cR hc,h2.2,Ef h2.1,X3z,Q1z,O5z,S3z,X2z,ite_self]
 ·simp only[stx,cR hc,hfr,Q1z,O5z,h2.1,L3z]
theorem MK{cx:Cxt}{F m:Nat}{sc:Scope}{ρ ρ':Rho}{p:Pos}{s:Stmt}{r o f:List Stmt}{hs:List ExceptHandler}{t e1 kn c':Str}{fl:Fl}(ht:uF hs o f=some (t,e1,kn))(h:RXs cx F m sc s ρ c' ρ')
  (hc:(mQ cx sc t&&t==cx.top&&cx.exs.contains c'&&e1 !=kn&&aH e1&&sc.names.lookup e1==some .local&&sc.names.lookup kn==some .local&&(ρ.map (·.1)).contains e1&&(ρ.map (·.1)).contains kn&&aH t)=true)
  (k:blk cx F (m+1) sc r (cC (cC ρ' kn (.sh (.exc c'))) e1 .no)=some fl):blk cx F (m+1) sc (.Try [s] hs o f p::r) ρ=some fl:=by
 obtain⟨k1,k2,k3⟩:=h;refine Wq ht ?_ ?_ hc k
 ·simp only[iY,k1,bind,X2z]
 ·simp only[gw,k1,k3]
theorem Jt{d:D}(h:dep d<=50):cmpop .NotEq d d=some (.bl false):=by
 rw[oNe h h,zq d (by omega)];rfl
theorem vI{cx:Cxt}{sc:Scope}{ρ ρ':Rho}{p:Pos}{F m:Nat}{r A:List Stmt}{c:Expr}{fl:Fl}(hf:frz F c ρ=ρ')(h:ev cx F sc ρ' c=some (.bl false))(k:blk cx F (m+1) sc r ρ=some fl):blk cx F (m+1) sc (.If c A [] p::r) ρ=some fl:=pX (hf▸h) k
theorem Ie{cx:Cxt}{sc:Scope}{ρ ρ' ρ2:Rho}{p:Pos}{F m:Nat}{r A B:List Stmt}{c:Expr}{fl:Fl}(hf:frz F c ρ=ρ')(h:ev cx F sc ρ' c=some (.bl true))(k:blk cx F m sc A ρ=some (.nxt ρ2))(k2:blk cx F (m+1) sc r ρ2=some fl):blk cx F (m+1) sc (.If c A B p::r) ρ=some fl:=uV (fl1:=.nxt ρ2) (hf▸h) k k2
def asV:Stmt->Expr
 | .Assign _ e _=>e
 | _=>.Name "" ⟨0,0,0,0⟩
def ifX:Stmt->Expr
 | .If c _ _ _=>c
 | _=>.Name "" ⟨0,0,0,0⟩
theorem dH{α:Type}{f:D->Option (Option D)}{h g:α->D}:∀ {l:List α},(∀ x∈l,f (h x)=some (some (g x)))->bG f (l.map h)=some (l.map g)
 | [],_=>rfl
 | x::l,q=>by
  simp only[I4z,bG,q x K1z,bind,Q2z,dH (l:=l) fun y hy=>q y (W0z _ hy),L3z]
def upd(f:Nat->Nat->Int)(a b:Nat)(v:Int):Nat->Nat->Int:=fun i j=>if i=a then(if j=b then v else f i j) else f i j
theorem cZ{F:Nat}{e:Expr}:frz F e []=[]:=rfl
theorem ao{F:Nat}{e:Expr}{y:Str}{s:Sl}{ρ ρ':Rho}(h:nOw s=true)(q:frz F e ρ=ρ'):frz F e ((y,s)::ρ)=(y,s)::ρ':=by rw[BX h,q]
theorem Zz{cx:Cxt}{sc:Scope}{ρ ρ':Rho}{e:Expr}{p q:Pos}{d:D}{F m j:Nat}{r:List Stmt}{fl:Fl}{es:List Expr}{l:List D}(hc:g8 ρ=true)(hs:(swp sc es e).isSome=true)(h:ev cx F sc ρ e=some d)(hl:items d=some l)(hb:bindNames sc es l ρ=some ρ')(k:blk cx F (m+1) sc r ρ'=some fl):blk cx F (m+1) sc (.Assign [.Tuple es j q] e p::r) ρ=some fl:=gTup hs (by rw[cR hc];exact h) hl (by rw[cR hc];exact hb) k
def pQ(u d:Int):Prop:=0<d/\Int.gcd u d=1
def gc(u d:Int):Int:=(Int.gcd u d:Int)
def qJ(u d:Int):Int:=if d<0 then -(u / gc u d) else u / gc u d
def qK(u d:Int):Int:=if d<0 then -(d / gc u d) else d / gc u d
abbrev frD(u d:Int):D:=.tup [.int u,.int d]
abbrev loD(u d:Int):D:=frD (qJ u d) (qK u d)
theorem oX{u d:Int}(h:d≠0):0<gc u d:=by
 have:=Int.gcd_pos_of_ne_zero_right u h;unfold gc;omega
theorem MF{u d:Int}:gc u d ∣ u:=Int.gcd_dvd_left u d
theorem MJ{u d:Int}:gc u d ∣ d:=Int.gcd_dvd_right u d
theorem gc_u{u d:Int}:gc u d*(u / gc u d)=u:=Int.mul_ediv_cancel' (Int.gcd_dvd_left u d)
theorem Zv{u d:Int}:gc u d*(d / gc u d)=d:=Int.mul_ediv_cancel' (Int.gcd_dvd_right u d)
theorem LK{u d:Int}(h:d≠0):pQ (qJ u d) (qK u d):=by
 have g0:=oX (u:=u) h;have g1:Int.gcd (u / gc u d) (d / gc u d)=1:=Int.gcd_ediv_gcd_ediv_gcd (by unfold gc at g0;omega);have e:=Zv (u:=u) (d:=d);unfold pQ qJ qK
 by_cases q:d<0
 ·simp only[q,Q5z,Int.neg_gcd,Int.gcd_neg]
  refine⟨?_,g1⟩
  have:d / gc u d<0:=by
   apply Classical.byContradiction;intro hn;have:=Int.mul_nonneg (show 0<=gc u d by omega) (show 0<=d / gc u d by omega);omega
  omega
 ·simp only[q,O5z]
  refine⟨?_,g1⟩;apply Classical.byContradiction;intro hn;have:=Int.mul_nonneg (show 0<=gc u d by omega) (show 0 <= -(d / gc u d) by omega);rw[Int.mul_neg,e] at this;omega
theorem LQ{u d:Int}(h:d≠0):qJ u d*d=u*qK u d:=by
 have g0:=oX (u:=u) h;have a:=gc_u (u:=u) (d:=d);have b:=Zv (u:=u) (d:=d)
 have key:∀ g x y:Int,g*x=u->g*y=d->x*d=u*y:=fun g x y h1 h2=>by rw[<- h1,<- h2];grind
 have k:=key _ _ _ a b;unfold qJ qK;split
 ·rw[Int.neg_mul,k,Int.mul_neg]
 ·exact k
theorem Lz{u d v e:Int}(h1:pQ u d)(h2:pQ v e)(q:u*e=v*d):u=v/\d=e:=by
 obtain⟨d0,g1⟩:=h1;obtain⟨e0,g2⟩:=h2
 have a:d ∣ e:=by
  have z:Int.gcd d (u*e)=Int.gcd d e:=Int.gcd_mul_right_right_of_gcd_eq_one (by rw[Int.gcd_comm];exact g1)
  have w:d ∣ u*e:=⟨v,by rw[q];exact Int.mul_comm _ _⟩
  rw[Int.gcd_eq_natAbs_left w] at z;exact Int.gcd_eq_natAbs_left_iff_dvd.mp z.symm
 have b:e ∣ d:=by
  have z:Int.gcd e (v*d)=Int.gcd e d:=Int.gcd_mul_right_right_of_gcd_eq_one (by rw[Int.gcd_comm];exact g2)
  have w:e ∣ v*d:=⟨u,by rw[<- q];exact Int.mul_comm _ _⟩
  rw[Int.gcd_eq_natAbs_left w] at z;exact Int.gcd_eq_natAbs_left_iff_dvd.mp z.symm
 have de:d=e:=by
  have h1:=Int.le_of_dvd e0 a;have h2:=Int.le_of_dvd d0 b;omega
 subst de;refine⟨?_,rfl⟩;exact Int.eq_of_mul_eq_mul_right (by omega) q
theorem LC{u d v e:Int}(h:d≠0)(hv:pQ v e)(q:u*e=v*d):qJ u d=v/\qK u d=e:=by
 refine Lz (LK h) hv ?_;have:=LQ (u:=u) h;have g:=oX (u:=u) h;refine Int.eq_of_mul_eq_mul_right h ?_;grind
theorem fdiv_neg{x g:Int}(hg:g≠0)(h:g ∣ x):x.fdiv (-g)=-(x / g):=by
 obtain⟨y,rfl⟩:=h;rw[Int.mul_ediv_cancel_left _ hg,show g*y=-g * -y by grind,Int.mul_fdiv_cancel_left _ (by omega)]
theorem eH{x g:Int}(hg:0<g):x.fdiv g=x / g:=Int.fdiv_eq_ediv_of_nonneg x (by omega)
theorem sZ{a b:Int}:Int.gcd b (a.fmod b)=Int.gcd a b:=by
 have e:=Int.fmod_def a b
 have h:a.fmod b=a+b*(-(a.fdiv b)):=by rw[e];grind
 rw[h,Int.gcd_add_mul_left_right,Int.gcd_comm]
theorem yI{a b:Int}(h:b≠0):(a.fmod b).natAbs<b.natAbs:=by
 by_cases q:0<b
 ·have h1:=R0z a q
  have h2:=Int.fmod_lt_of_pos a q;omega
 ·have e:(-a).fmod (-b)=-(a.fmod b):=by simp
  have h1:=R0z (-a) (b := -b) (by omega);have h2:=Int.fmod_lt_of_pos (-a) (b := -b) (by omega);omega
theorem Nu{i j:Int}(h:j≠0):binop .Mod (.int i) (.int j)=some (.int (i.fmod j)):=by
 show(if decide (0<j)=true then _ else _)=_
 by_cases q:0<j
 ·rw[R5z (Y3z q),Int.fmod_eq_emod_of_nonneg i (by omega)]
 ·rw[S5z (by simpa using q),R5z (Y3z h)]
theorem pO{i j:Int}(h:j≠0)(h':j.natAbs.log2<9000):binop .FloorDiv (.int i) (.int j)=some (.int (i.fdiv j)):=by
 show(if(decide (0<j)&&decide (j<1073741824))=true then _ else _)=_
 by_cases q:0<j/\j<1073741824
 ·rw[R5z (by rw[Y3z q.1,Y3z q.2];rfl),eH q.1]
 ·rw[S5z (by rw[K2z,D2z,D2z];exact q),R5z (by rw[Y3z h,Y3z h'];rfl)]
theorem DK{n:Nat}(h:n<2^400):n.log2<9000:=by
 by_cases q:n=0
 ·subst q;decide
 ·have:=(Nat.log2_lt q).mpr h
  omega
abbrev qD(q:Rat):D:=frD q.num (q.den:Int)
theorem Qd(q:Rat):0<(q.den:Int):=by have:=q.den_nz;omega
theorem Gk(q:Rat):pQ q.num (q.den:Int):=⟨Qd q,q.reduced⟩
theorem jA(q:Rat):(q.num:Rat)=q*(q.den:Rat):=by
 have h:(q.num:Rat) / (q.den:Rat)=q:=by rw[<- Rat.mkRat_eq_div,Rat.mkRat_self]
 have:(q.den:Rat)≠0:=by
  intro e;have:=q.den_nz;have e2:(q.den:Rat)=((0:Nat):Rat):=e;exact this (Rat.natCast_inj.mp e2)
 grind
theorem gJ(q:Rat):(q.den:Rat)≠0:=by
 intro e;have e2:(q.den:Rat)=((0:Nat):Rat):=e;exact q.den_nz (Rat.natCast_inj.mp e2)
theorem Zu{d:Int}(h:d≠0):(d:Rat)≠0:=by
 intro e;have e2:(d:Rat)=((0:Int):Rat):=e;exact h (Rat.intCast_inj.mp e2)
theorem Oc{u d:Int}(h:d≠0):loD u d=qD ((u:Rat) / (d:Rat)):=by
 have hd:=Zu h;have e:=jA ((u:Rat) / (d:Rat))
 have key:u*(((u:Rat) / (d:Rat)).den:Int)=((u:Rat) / (d:Rat)).num*d:=by
  apply Rat.intCast_inj.mp;rw[T3z,T3z,e];show(u:Rat)*((((u:Rat) / (d:Rat)).den:Nat):Rat)=_;grind
 obtain⟨a,b⟩:=LC h (Gk _) key;show frD (qJ u d) (qK u d)=frD _ _;rw[a,b]
def Qb(D B:Nat)(q:Rat):Prop:=∃ x:Int,q*(D:Rat)=(x:Rat)/\x.natAbs<=B
theorem Qb.num{D B:Nat}{q:Rat}(hD:0<D)(h:Qb D B q):q.num.natAbs<=B/\q.den<=D:=by
 obtain⟨x,h1,h2⟩:=h;have e:=jA q
 have key:q.num*(D:Int)=x*(q.den:Int):=by
  apply Rat.intCast_inj.mp;rw[T3z,T3z,e,<- h1];show q*(q.den:Rat)*(D:Rat)=q*(D:Rat)*(q.den:Rat);grind
 have k2:q.num.natAbs*D=x.natAbs*q.den:=by
  have:=congrArg Int.natAbs key;rw[D4z,D4z] at this;simpa using this
 have dv:q.den ∣ D:=by
  have:q.den ∣ q.num.natAbs*D:=⟨x.natAbs,by rw[k2,V4z]⟩;exact(Nat.Coprime.symm q.reduced).dvd_of_dvd_mul_left this
 obtain⟨c,rfl⟩:=dv
 have c0:0<c:=by
  rcases Nat.eq_zero_or_pos c with e | e
  ·rw[e] at hD;omega
  ·exact e
 have dp:0<q.den:=Nat.pos_of_ne_zero q.den_nz;refine⟨?_,L0z _ c0⟩
 have k3:q.num.natAbs*c=x.natAbs:=by
  have:q.den*(q.num.natAbs*c)=q.den*x.natAbs:=by
   rw[<- Nat.mul_assoc,V4z q.den q.num.natAbs,Nat.mul_assoc,k2,V4z]
  exact Nat.eq_of_mul_eq_mul_left dp this
 have:=L0z q.num.natAbs c0;omega
theorem Qb.add{D B C:Nat}{p q:Rat}(h:Qb D B p)(k:Qb D C q):Qb D (B+C) (p+q):=by
 obtain⟨x,h1,h2⟩:=h;obtain⟨y,k1,k2⟩:=k;refine⟨x+y,?_,by omega⟩;rw[U3z,<- h1,<- k1];grind
theorem Qb.mul{D E B C:Nat}{p q:Rat}(h:Qb D B p)(k:Qb E C q):Qb (D*E) (B*C) (p*q):=by
 obtain⟨x,h1,h2⟩:=h;obtain⟨y,k1,k2⟩:=k;refine⟨x*y,?_,by rw[D4z];exact E4z h2 k2⟩;rw[T3z,<- h1,<- k1,Rat.natCast_mul];grind
theorem Qb.up{D B C:Nat}{p:Rat}(h:Qb D B p)(hc:B<=C):Qb D C p:=let ⟨x,h1,h2⟩:=h;⟨x,h1,Q4z h2 hc⟩
theorem Qb.zero{D:Nat}:Qb D 0 0:=⟨0,by grind,by decide⟩
theorem Qb.one{D:Nat}:Qb D D 1:=⟨(D:Int),by show(1:Rat)*(D:Rat)=(D:Rat);grind,by simp⟩
def Sq(q:Rat):Prop:=q.num.natAbs<=1000000000000000000/\q.den<=1000000000000000000
theorem Qb.sq{D B:Nat}{q:Rat}(h:Qb D B q)(hD:0<D)(h1:D<=1000000000000000000)(h2:B<=1000000000000000000):Sq q:=by
 have:=h.num hD;exact⟨by omega,by omega⟩
def dg:Nat->(Nat->Rat)->Rat
 | 0,_=>0
 | n+1,g=>dg n g+g n
def mulQ(n:Nat)(F G:Nat->Nat->Rat):Nat->Nat->Rat:=fun i j=>dg n fun l=>F i l*G l j
theorem sumQ_b{D B:Nat}{g:Nat->Rat}:∀ {n:Nat},(∀ i,i<n->Qb D B (g i))->Qb D (n*B) (dg n g)
 | 0,_=>by rw[Nat.zero_mul];exact Qb.zero
 | n+1,h=>by
  rw[T4z];exact(sumQ_b fun i hi=>h i (by omega)).add (h n (by omega))
theorem J7{a b:Rat}:((a.num*(b.den:Int)+b.num*(a.den:Int):Int):Rat) / (((a.den:Int)*(b.den:Int):Int):Rat)=a+b:=by
 rw[U3z,T3z,T3z,T3z,jA a,jA b];show(a*(a.den:Rat)*(b.den:Rat)+b*(b.den:Rat)*(a.den:Rat)) / ((a.den:Rat)*(b.den:Rat))=a+b;have:=gJ a;have:=gJ b;grind
theorem Lp{a b:Rat}:((a.num*b.num:Int):Rat) / (((a.den:Int)*(b.den:Int):Int):Rat)=a*b:=by
 rw[T3z,T3z,jA a,jA b];show(a*(a.den:Rat)*(b*(b.den:Rat))) / ((a.den:Rat)*(b.den:Rat))=a*b;have:=gJ a;have:=gJ b;grind
theorem Dw{b:Rat}(h:b≠0):b.num≠0:=fun e=>h (by
 have:=jA b;rw[e] at this;have h0:=gJ b;have:(0:Rat)=b*(b.den:Rat):=this
 grind)
theorem Dv{q:Rat}(h:0<=q):0<=q.num:=Rat.num_nonneg.mpr h
theorem V4{q:Rat}(h:0<q):0<q.num:=by
 have:=Dv (Rat.le_of_lt h);have h2:=Dw (b:=q) (by intro e;rw[e] at h;exact absurd h (by decide));omega
section
variable {cx:Cxt} {sc:Scope} {ρ ρ' ρ2:Rho} {e:Expr} {p:Pos} {d:D} {nm:Str} {F m:Nat} {r:List Stmt} {fl:Fl} {ds:List D}
theorem bx{y:Str}{s:Sl}(h:nOw s=true)(r:g8 ρ=true):g8 ((y,s)::ρ)=true:=by
 unfold g8 at r ⊢;rw[K4z,h,r];rfl
theorem dJ{tg iter:Expr}{body:List Stmt}{l:List D}(hf:frz F iter ρ=ρ')(hI:evI cx (d8 tg) (ev cx F sc ρ') sc iter=some l)(hgo:bU (fF cx F m sc tg body) l ρ'=some (.nxt ρ2))(k2:blk cx F (m+1) sc r ρ2=some fl):blk cx F (m+1) sc (.For tg iter body [] p::r) ρ=some fl:=by
 subst hf;exact Zw hI hgo k2
theorem BP{px:Pos}(hf:frz F e ρ=ρ')(ho:(ownIn sc nm&&(ρ.map (·.1)).contains nm)=true)(h:ev cx F sc ρ' e=some d)(k:blk cx F (m+1) sc r (cC ρ' nm (lQ e d))=some fl)(hoo:(ooE cx sc e&&mG ρ' nm)=false:=by rfl)(hno:(aZ e && !qF ρ' nm)=false:=by rfl)(hle:Jy cx sc e=false:=by rfl)(hrd:rdA e=false:=by rfl):blk cx F (m+1) sc (.Assign [.Name nm px] e p::r) ρ=some fl:=by
 subst hf;exact jg ho h k hoo hno hle hrd
theorem gRetE(hf:frz F e ρ=ρ')(h:ev cx F sc ρ' e=some d):blk cx F (m+1) sc (.Return (some e) p::r) ρ=some (.ret d):=cQ (by rw[hf];exact h)
theorem uW{px ap cp:Pos}{M:Str}(hf:frz F e ρ=ρ')(hx:ρ'.lookup nm=some (.ow ds))(ho:(ownIn sc nm&&aH nm&&ap.endLine==cp.line)=true)(hM:(M=="append")=true)(hz:szl (ds.length+1)=true)(h:ev cx F sc ρ' e=some d)(k:blk cx F (m+1) sc r (cC ρ' nm (.ow (ds++[d])))=some fl) :
  blk cx F (m+1) sc (.Expr (.Call (.Attribute (.Name nm px) M ap) [e] [] cp) p::r) ρ=some fl:=by
 subst hf;exact gApp hx ho hM hz h k
theorem gP{y:Str}(h:dh F y e=false)(q:frz F e ρ=ρ'):frz F e ((y,.ow ds)::ρ)=(y,.ow ds)::ρ':=by
 rw[mU,q];simp only[h,Q1z,O5z]
theorem tD{y:Str}(h:dh F y e=true)(q:frz F e ρ=ρ'):frz F e ((y,.ow ds)::ρ)=(y,.sh (.lst ds))::ρ':=by rw[Ig h,q]
end
theorem Zm{x:Str}:qF [] x=true:=rfl
theorem gj{x y:Str}{s:Sl}{ρ:Rho}(h:JB s=false)(q:qF ρ x=true):qF ((y,s)::ρ) x=true:=by
 unfold qF at q ⊢;rw[K4z,q,h];simp
theorem gQ{f:D->Rho->Option Fl}{h:Nat->D}{P:Nat->Rho->Prop}{N:Nat}(hs:∀ i ρ,i<N->P i ρ->∃ ρ',P (i+1) ρ'/\f (h i) ρ=some (.nxt ρ')){ρ:Rho}(h0:P 0 ρ):∃ ρ',P N ρ'/\bU f (Ls N h) ρ=some (.nxt ρ'):=by
 have key:∀ (n a:Nat) (ρ:Rho),a+n<=N->P a ρ->∃ ρ',P (a+n) ρ'/\bU f ((List.range' a n).map h) ρ=some (.nxt ρ'):=by
  intro n
  induction n with
  | zero=>intro a ρ _ hp;exact⟨ρ,hp,rfl⟩
  | succ n ih =>
   intro a ρ ha hp;obtain⟨ρ1,h1,h2⟩:=hs a ρ (by omega) hp;obtain⟨ρ2,h3,h4⟩:=ih (a+1) ρ1 (by omega) h1;refine⟨ρ2,by rw[show a+(n+1)=a+1+n by omega];exact h3,?_⟩;rw[List.range'_succ,I4z];simp only[bU,h2];exact h4
 obtain⟨ρ',h1,h2⟩:=key N 0 ρ (by omega) h0;rw[Nat.zero_add] at h1;refine⟨ρ',h1,?_⟩;unfold Ls;rw[List.range_eq_range'];exact h2
end DE
namespace M41
open PySem L2 DE
def top(i:Nat):Stmt:=PySem.Challenge.pw_minortables_k41_whole_sets_of_ways.main.body.getD i (.Pass ⟨0,0,0,0⟩)
def aQ(t:Stmt):Fd:=⟨(dY t).args.map (·.arg),(dY t).args.map (·.arg)++(((bh t).names.filter fun p=>(p.2==.local||p.2==.cell) && !((dY t).args.map (·.arg)).contains p.1).map (·.1)),bh t,bV t⟩
def cs:List (Str×D):=[("MOST_LINES",.int 4),("UP",.str "up"),("DOWN",.str "down"),("SCALE",.str "scale")]
noncomputable def bl:List (Str×String):=[("len","len"),("all","all"),("tuple","tuple"),("list","list"),("abs","abs"),("int","int"),("bool","bool"),("isinstance","isinstance"),("range","range"),("zip","zip"),("enumerate","enumerate"),("set","set"),("ValueError","ValueError")]
def df:List (Str×Fd):=[(("is_whole":Str),aQ (top 10)),(("is_whole_within":Str),aQ (top 11)),(("is_short_tuple":Str),aQ (top 12)),(("has_lines":Str),aQ (top 13)),(("numbers_of":Str),aQ (top 14)),(("has_table_form":Str),aQ (top 15)),(("is_place":Str),aQ (top 16)),(("are_rising_places":Str),aQ (top 17)),(("need_table":Str),aQ (top 18)),(("need_place":Str),aQ (top 19)),(("need_places":Str),aQ (top 20)),(("need_size":Str),aQ (top 21)),(("common_measure":Str),aQ (top 23)),(("lowest":Str),aQ (top 24)),(("has_fraction_form":Str),aQ (top 25)),(("is_fraction":Str),aQ (top 26)),(("sum_of":Str),aQ (top 27)),(("times_of":Str),aQ (top 28)),(("all_sum":Str),aQ (top 29)),(("need_fraction_table":Str),aQ (top 30)),(("row_as_fractions":Str),aQ (top 31)),(("as_fractions":Str),aQ (top 32)),(("column_of":Str),aQ (top 34)),(("columns_of":Str),aQ (top 35)),(("plain_row":Str),aQ (top 36)),(("plain":Str),aQ (top 37)),(("with_behind":Str),aQ (top 39)),(("rising_tuples":Str),aQ (top 40)),(("is_step_of":Str),aQ (top 45)),(("is_step":Str),aQ (top 46)),(("need_steps":Str),aQ (top 47)),(("row_by_column":Str),aQ (top 48)),(("row_by_columns":Str),aQ (top 49)),(("product_of":Str),aQ (top 50)),(("table_of_step":Str),aQ (top 51)),(("made_by":Str),aQ (top 52)),(("step_tables":Str),aQ (top 54)),(("with_one_more":Str),aQ (top 55)),(("goings":Str),aQ (top 56)),(("runs_from":Str),aQ (top 57)),(("runs_between":Str),aQ (top 58)),(("shares_from":Str),aQ (top 59)),(("share_between":Str),aQ (top 60)),(("need_levels":Str),aQ (top 61)),(("need_sets":Str),aQ (top 62)),(("ways":Str),aQ (top 63)),(("share_of_ways":Str),aQ (top 64)),(("sets_of_ways":Str),aQ (top 65)),(("share_of_sets":Str),aQ (top 66)),(("all_sets":Str),aQ (top 67)),(("_law_cell":Str),aQ (top 69)),(("_law_pick":Str),aQ (top 70)),(("_law_some":Str),aQ (top 75)),(("_law_share":Str),aQ (top 78)),(("_law_steps":Str),aQ (top 79)),(("_law_lowest":Str),aQ (top 80)),(("_law_sum":Str),aQ (top 81)),(("_law_word":Str),aQ (top 84)),(("_law_do":Str),aQ (top 85)),(("_law_minor":Str),aQ (top 86)),(("_law_is_set":Str),aQ (top 87)),(("law":Str),aQ (top 88))]
noncomputable def xs:List Str:=["NoTable","NoFit","NoPlace","NoStep","NoSteps","NoText"]
def T:Pg:=⟨cs,bl,df,xs,"MinorError"⟩
def BnO(nm:Str)(t:Stmt):Prop:=∀ (kV doc pm:Value) (an:Option Addr) (cdv ct:Value) (us:List Value),us.length=(aQ t).ps.length->bindArgs (PySem.W.fnOf nm nm (dY t) (bV t) (bh t) .none kV doc pm an cdv ct) ⟨us,[]⟩=pure ((aQ t).ps.zip us)
def fsB(fd:Fd):Bool:=decide (fd.sc.kind=.function) && !fd.sc.isCoroutine && !fd.sc.isGenerator&&decide fd.N.Nodup&&decide (fd.N.take fd.ps.length=fd.ps)&&fd.ps.all (fun x=>decide (fd.sc.names.lookup x=some .local)||decide (fd.sc.names.lookup x=some .cell))&&fd.sc.names.all fun y=>decide (y.2≠.free)
theorem M5{fd:Fd}(h:fsB fd=true):FnScope fd.N fd.ps fd.sc:=by
 unfold fsB at h;simp only[K2z,D2z,C2z,W2z,O3z] at h;obtain⟨⟨⟨⟨⟨⟨h1,h2⟩,h3⟩,h4⟩,h5⟩,h6⟩,h7⟩:=h;exact⟨h1,h2,h3,h4,h5,h6,h7⟩
theorem aP{K:Z3}{h:Heap}{mg:Str->Option Value}{x nm:Str}{t:Stmt}(X:K.In h)(G:h.Ns mainGlobals mg)(f:Addr)(dc pm cd:Value)(hb:BnO nm t)(a:PySem.W.nsIn K mainGlobals x=some (some (.ref f)))
  (l:K.lookup f=some ⟨.type "function",none,.func (PySem.W.fnOf nm nm (dY t) (bV t) (bh t) .none .none dc pm none cd .none),#[]⟩) (c:(PySem.W.codeIn K cd nm&&PySem.W.keepIn K (.ref f)&&fsB (aQ t) && !(x==("__debug__":Str)))=true):FunAt K mg x (aQ t):=by
 simp only[K2z,C2z] at c;obtain⟨⟨⟨c,k⟩,hs⟩,hd⟩:=c;exact⟨⟨nm,t,f,_,N4z X G a,yF l c k,(yF l c k).binds hb,rfl,rfl⟩,M5 hs,hd⟩
theorem len1{us:List Value}(h:us.length=1):∃ a,us=[a]:=List.length_eq_one_iff.mp h
theorem len2{us:List Value}(h:us.length=2):∃ a b,us=[a,b]:=by cases us with | nil=>cases h | cons a r=>obtain⟨b,z⟩:=len1 (us:=r) (Y4z h);exact⟨a,b,congrArg (List.cons a) z⟩
theorem Hv{us:List Value}(h:us.length=3):∃ a b c,us=[a,b,c]:=by cases us with | nil=>cases h | cons a r=>obtain⟨b,c,z⟩:=len2 (us:=r) (Y4z h);exact⟨a,b,c,congrArg (List.cons a) z⟩
theorem vD{us:List Value}(h:us.length=4):∃ a b c d,us=[a,b,c,d]:=by cases us with | nil=>cases h | cons a r=>obtain⟨b,c,d,z⟩:=Hv (us:=r) (Y4z h);exact⟨a,b,c,d,congrArg (List.cons a) z⟩
theorem len5{us:List Value}(h:us.length=5):∃ a b c d e,us=[a,b,c,d,e]:=by cases us with | nil=>cases h | cons a r=>obtain⟨b,c,d,e,z⟩:=vD (us:=r) (Y4z h);exact⟨a,b,c,d,e,congrArg (List.cons a) z⟩
theorem b10:BnO "is_whole" (top 10):=fun _ _ _ _ _ _ _ h=>by obtain⟨_,rfl⟩:=len1 h;rfl
theorem b11:BnO "is_whole_within" (top 11):=fun _ _ _ _ _ _ _ h=>by obtain⟨_,_,_,rfl⟩:=Hv h;rfl
theorem b12:BnO "is_short_tuple" (top 12):=fun _ _ _ _ _ _ _ h=>by obtain⟨_,rfl⟩:=len1 h;rfl
theorem b13:BnO "has_lines" (top 13):=fun _ _ _ _ _ _ _ h=>by obtain⟨_,rfl⟩:=len1 h;rfl
theorem b14:BnO "numbers_of" (top 14):=fun _ _ _ _ _ _ _ h=>by obtain⟨_,rfl⟩:=len1 h;rfl
theorem b15:BnO "has_table_form" (top 15):=fun _ _ _ _ _ _ _ h=>by obtain⟨_,rfl⟩:=len1 h;rfl
theorem b16:BnO "is_place" (top 16):=fun _ _ _ _ _ _ _ h=>by obtain⟨_,_,rfl⟩:=len2 h;rfl
theorem b17:BnO "are_rising_places" (top 17):=fun _ _ _ _ _ _ _ h=>by obtain⟨_,_,rfl⟩:=len2 h;rfl
theorem b18:BnO "need_table" (top 18):=fun _ _ _ _ _ _ _ h=>by obtain⟨_,rfl⟩:=len1 h;rfl
theorem b19:BnO "need_place" (top 19):=fun _ _ _ _ _ _ _ h=>by obtain⟨_,_,rfl⟩:=len2 h;rfl
theorem b20:BnO "need_places" (top 20):=fun _ _ _ _ _ _ _ h=>by obtain⟨_,_,rfl⟩:=len2 h;rfl
theorem b21:BnO "need_size" (top 21):=fun _ _ _ _ _ _ _ h=>by obtain⟨_,_,rfl⟩:=len2 h;rfl
theorem b23:BnO "common_measure" (top 23):=fun _ _ _ _ _ _ _ h=>by obtain⟨_,_,rfl⟩:=len2 h;rfl
theorem b24:BnO "lowest" (top 24):=fun _ _ _ _ _ _ _ h=>by obtain⟨_,_,rfl⟩:=len2 h;rfl
theorem b25:BnO "has_fraction_form" (top 25):=fun _ _ _ _ _ _ _ h=>by obtain⟨_,rfl⟩:=len1 h;rfl
theorem b26:BnO "is_fraction" (top 26):=fun _ _ _ _ _ _ _ h=>by obtain⟨_,rfl⟩:=len1 h;rfl
theorem b27:BnO "sum_of" (top 27):=fun _ _ _ _ _ _ _ h=>by obtain⟨_,_,rfl⟩:=len2 h;rfl
theorem b28:BnO "times_of" (top 28):=fun _ _ _ _ _ _ _ h=>by obtain⟨_,_,rfl⟩:=len2 h;rfl
theorem b29:BnO "all_sum" (top 29):=fun _ _ _ _ _ _ _ h=>by obtain⟨_,rfl⟩:=len1 h;rfl
theorem b30:BnO "need_fraction_table" (top 30):=fun _ _ _ _ _ _ _ h=>by obtain⟨_,rfl⟩:=len1 h;rfl
theorem b31:BnO "row_as_fractions" (top 31):=fun _ _ _ _ _ _ _ h=>by obtain⟨_,rfl⟩:=len1 h;rfl
theorem b32:BnO "as_fractions" (top 32):=fun _ _ _ _ _ _ _ h=>by obtain⟨_,rfl⟩:=len1 h;rfl
theorem b34:BnO "column_of" (top 34):=fun _ _ _ _ _ _ _ h=>by obtain⟨_,_,rfl⟩:=len2 h;rfl
theorem b35:BnO "columns_of" (top 35):=fun _ _ _ _ _ _ _ h=>by obtain⟨_,rfl⟩:=len1 h;rfl
theorem b36:BnO "plain_row" (top 36):=fun _ _ _ _ _ _ _ h=>by obtain⟨_,_,rfl⟩:=len2 h;rfl
theorem b37:BnO "plain" (top 37):=fun _ _ _ _ _ _ _ h=>by obtain⟨_,rfl⟩:=len1 h;rfl
theorem b39:BnO "with_behind" (top 39):=fun _ _ _ _ _ _ _ h=>by obtain⟨_,_,rfl⟩:=len2 h;rfl
theorem b40:BnO "rising_tuples" (top 40):=fun _ _ _ _ _ _ _ h=>by obtain⟨_,_,rfl⟩:=len2 h;rfl
theorem b45:BnO "is_step_of" (top 45):=fun _ _ _ _ _ _ _ h=>by obtain⟨_,_,_,_,rfl⟩:=vD h;rfl
theorem b46:BnO "is_step" (top 46):=fun _ _ _ _ _ _ _ h=>by obtain⟨_,_,rfl⟩:=len2 h;rfl
theorem b47:BnO "need_steps" (top 47):=fun _ _ _ _ _ _ _ h=>by obtain⟨_,_,rfl⟩:=len2 h;rfl
theorem b48:BnO "row_by_column" (top 48):=fun _ _ _ _ _ _ _ h=>by obtain⟨_,_,rfl⟩:=len2 h;rfl
theorem b49:BnO "row_by_columns" (top 49):=fun _ _ _ _ _ _ _ h=>by obtain⟨_,_,rfl⟩:=len2 h;rfl
theorem b50:BnO "product_of" (top 50):=fun _ _ _ _ _ _ _ h=>by obtain⟨_,_,rfl⟩:=len2 h;rfl
theorem b51:BnO "table_of_step" (top 51):=fun _ _ _ _ _ _ _ h=>by obtain⟨_,_,_,_,rfl⟩:=vD h;rfl
theorem b52:BnO "made_by" (top 52):=fun _ _ _ _ _ _ _ h=>by obtain⟨_,_,rfl⟩:=len2 h;rfl
theorem b54:BnO "step_tables" (top 54):=fun _ _ _ _ _ _ _ h=>by obtain⟨_,_,rfl⟩:=len2 h;rfl
theorem b55:BnO "with_one_more" (top 55):=fun _ _ _ _ _ _ _ h=>by obtain⟨_,_,_,rfl⟩:=Hv h;rfl
theorem b56:BnO "goings" (top 56):=fun _ _ _ _ _ _ _ h=>by obtain⟨_,_,rfl⟩:=len2 h;rfl
theorem b57:BnO "runs_from" (top 57):=fun _ _ _ _ _ _ _ h=>by obtain⟨_,_,rfl⟩:=len2 h;rfl
theorem b58:BnO "runs_between" (top 58):=fun _ _ _ _ _ _ _ h=>by obtain⟨_,_,_,_,rfl⟩:=vD h;rfl
theorem b59:BnO "shares_from" (top 59):=fun _ _ _ _ _ _ _ h=>by obtain⟨_,_,rfl⟩:=len2 h;rfl
theorem b60:BnO "share_between" (top 60):=fun _ _ _ _ _ _ _ h=>by obtain⟨_,_,_,_,rfl⟩:=vD h;rfl
theorem b61:BnO "need_levels" (top 61):=fun _ _ _ _ _ _ _ h=>by obtain⟨_,_,_,_,rfl⟩:=vD h;rfl
theorem b62:BnO "need_sets" (top 62):=fun _ _ _ _ _ _ _ h=>by obtain⟨_,_,_,_,rfl⟩:=vD h;rfl
theorem b63:BnO "ways" (top 63):=fun _ _ _ _ _ _ _ h=>by obtain⟨_,_,_,_,rfl⟩:=vD h;rfl
theorem b64:BnO "share_of_ways" (top 64):=fun _ _ _ _ _ _ _ h=>by obtain⟨_,_,_,_,rfl⟩:=vD h;rfl
theorem b65:BnO "sets_of_ways" (top 65):=fun _ _ _ _ _ _ _ h=>by obtain⟨_,_,_,_,rfl⟩:=vD h;rfl
theorem b66:BnO "share_of_sets" (top 66):=fun _ _ _ _ _ _ _ h=>by obtain⟨_,_,_,_,rfl⟩:=vD h;rfl
theorem b67:BnO "all_sets" (top 67):=fun _ _ _ _ _ _ _ h=>by obtain⟨_,_,_,rfl⟩:=Hv h;rfl
theorem b69:BnO "_law_cell" (top 69):=fun _ _ _ _ _ _ _ h=>by obtain⟨_,_,rfl⟩:=len2 h;rfl
theorem b70:BnO "_law_pick" (top 70):=fun _ _ _ _ _ _ _ h=>by obtain⟨_,_,_,rfl⟩:=Hv h;rfl
theorem b75:BnO "_law_some" (top 75):=fun _ _ _ _ _ _ _ h=>by obtain⟨_,_,rfl⟩:=len2 h;rfl
theorem b78:BnO "_law_share" (top 78):=fun _ _ _ _ _ _ _ h=>by obtain⟨_,_,rfl⟩:=len2 h;rfl
theorem b79:BnO "_law_steps" (top 79):=fun _ _ _ _ _ _ _ h=>by obtain⟨_,_,_,_,rfl⟩:=vD h;rfl
theorem b80:BnO "_law_lowest" (top 80):=fun _ _ _ _ _ _ _ h=>by obtain⟨_,_,rfl⟩:=len2 h;rfl
theorem b81:BnO "_law_sum" (top 81):=fun _ _ _ _ _ _ _ h=>by obtain⟨_,rfl⟩:=len1 h;rfl
theorem b84:BnO "_law_word" (top 84):=fun _ _ _ _ _ _ _ h=>by obtain⟨_,rfl⟩:=len1 h;rfl
theorem b85:BnO "_law_do" (top 85):=fun _ _ _ _ _ _ _ h=>by obtain⟨_,_,_,_,_,rfl⟩:=len5 h;rfl
theorem b86:BnO "_law_minor" (top 86):=fun _ _ _ _ _ _ _ h=>by obtain⟨_,_,_,rfl⟩:=Hv h;rfl
theorem b87:BnO "_law_is_set" (top 87):=fun _ _ _ _ _ _ _ h=>by obtain⟨_,_,_,rfl⟩:=Hv h;rfl
theorem b88:BnO "law" (top 88):=fun _ _ _ _ _ _ _ h=>by obtain⟨_,rfl⟩:=len1 h;rfl
theorem in_of{α:Type}{Q:Str->α->Prop}:∀ {l:List (Str×α)},(∀ p∈l,Q p.1 p.2)->∀ f fd,l.lookup f=some fd->Q f fd
 | (y,e)::r,hp,f,fd,h=>by
  rw[L2z] at h
  cases hb:f==y with
  | true =>
   rw[hb] at h
   have e1:f=y:=by simpa using hb
   cases h;subst e1;exact hp _ K1z
  | false =>
   rw[hb] at h;exact in_of (fun p hm=>hp p (W0z _ hm)) f fd h
theorem aC{α:Type}{Q:α->Prop}{a:α}{l:List α}(h:Q a)(t:∀ p∈l,Q p):∀ p∈a::l,Q p:=List.forall_mem_cons.mpr ⟨h,t⟩
theorem aN{α:Type}{Q:α->Prop}:∀ p∈([]:List α),Q p:=List.forall_mem_nil _
theorem cA{K:Z3}{h:Heap}{mg:Str->Option Value}{x:Str}{i:Int}(X:K.In h)(G:h.Ns mainGlobals mg)(tk:Tok)(e:PySem.W.nsIn K mainGlobals x=some (some (.int i tk))):∃ v u,(∀ H,Rep K H (D.int i) v)/\mg x=some u/\RelV v u:=⟨.int i,_,fun _=>by simp[Rep],N4z X G e,⟨_,rfl⟩⟩
theorem cS{K:Z3}{h:Heap}{mg:Str->Option Value}{x y:Str}(X:K.In h)(G:h.Ns mainGlobals mg)(tk:Tok)(e:PySem.W.nsIn K mainGlobals x=some (some (.str y tk))):∃ v u,(∀ H,Rep K H (D.str y) v)/\mg x=some u/\RelV v u:=⟨.str y,_,fun _=>by simp[Rep],N4z X G e,⟨_,rfl⟩⟩
theorem bA{K:Z3}{h:Heap}{mg:Str->Option Value}{x:Str}{b:String}(X:K.In h)(G:h.Ns mainGlobals mg)(e:PySem.W.nsIn K mainGlobals x=some none)(q:x=Str.ofString b):mg x=none/\x=Str.ofString b:=⟨PySem.W.mg_none_of X G e,q⟩
theorem Wa:T.defs.lookup ("law":Str)=some (aQ (top 88)):=by rfl'
theorem fin{l:PySem.W.OpenLaw}{w:World}{K:Z3}{h:Heap}{mg:Str->Option Value}{fa:Addr}(hlaw:∀ ns:List Int,ns.length<=63->aG T 60 40 "law" [.lst (ns.map D.int)]=some (.bl true))(TX:Text w K mg T)(X:K.In h)(G:h.Ns mainGlobals mg)(hfa:mg "law"=some (.ref fa))(f:Addr)(dc pm cd:Value)(a:PySem.W.nsIn K mainGlobals "law"=some (some (.ref f)))
  (lk:K.lookup f=some ⟨.type "function",none,.func (PySem.W.fnOf "law" "law" (dY (top 88)) (bV (top 88)) (bh (top 88)) .none .none dc pm none cd .none),#[]⟩) (c:PySem.W.codeIn K cd "law"=true) (kp:PySem.W.keepIn K (.ref f)=true) :
  ∃ fd:FuncData,(∀ (s:Shared) (v:Value),BindsTo s fd ⟨[v],[]⟩ [("_law_script",v)])/\∀ base:Heap,K.In base->base.Ns mainGlobals mg->FnOk l.prog w K mg base CX0 40 fa fd ["_law_script"] (rM K):=by
 have e:=hfa.symm.trans (N4z X G a);cases e;refine⟨_,fun s v=>.of_eq (b88 .none dc pm none cd .none [v] rfl),fun base _ _=>?_⟩;exact Ma (fd:=aQ (top 88)) (t:=top 88) (f:="law") TX Wa (yF lk c kp) rfl rfl (M5 (by decide +kernel)) rfl hlaw
theorem walk{l:PySem.W.OpenLaw}{q:Program}{loose:List Str}{XP:(Str->Option Value)->Heap->Prop}{YP:World->Heap->Prop}{d:DefRec}{K:Params->Z3}(hn:l.most=some 63)(hdf:d.params.defaults=[])
  (hY:∀ (w:World) (h:Heap),YP w h->(K w.params).In h)
  (F : ∀ (w : World) (mg : Str -> Option Value) (fa : Addr) (h : Heap), (K w.params).In h -> h.Ns mainGlobals mg -> mg d.name = some (.ref fa) ->
   ∃ fd:FuncData,(∀ (s:Shared) (u:Value),BindsTo s fd ⟨[u],[]⟩ [("_law_script",u)])/\∀ base:Heap,(K w.params).In base->base.Ns mainGlobals mg->FnOk l.prog w (K w.params) mg base CX0 40 fa fd ["_law_script"] (rM (K w.params))) :
  PySem.W.WalkO q loose XP YP l.row.toRowW d [] (fun f vs=>PySem.call f vs) :=
 L2.Fp (n:=63) (k:=40) (x:="_law_script") (CX:=fun _=>CX0) (sp:=fun w=>rM (K w.params)) hn (by decide) hdf ⟨rfl,by decide,by decide⟩ hY F (fun _ _ a ns hl _ hS=>⟨a,ns,rfl,hS,hl,fun _=>rfl⟩) fun _ _ _ _ _ z=>z
end M41
local macro_rules | `(tactic| walk_at "xs") => `(tactic| first | exact DE.WW | exact DE.bLenL | exact DE.bSum | rfl | assumption | omega)
local macro_rules | `(tactic| walk_at "xm") => `(tactic| first | exact DE.aJ | (refine' DE.aj ?hA ?hB; (case hA => walk_at "xv"); (case hB => walk_at "xm")))
local macro_rules | `(tactic| walk_at "xi") => `(tactic| first
 | (refine' DE.Ab ?hA ?hB; (case hA => rfl); (case hB => walk_at "xv"))
 | (refine' DE.wSq ?hA ?hB ?hC; (case hA => rfl); (case hB => walk_at "xv"); (case hC => rfl))
 | (refine' DE.Fq ?hA ?hB ?hC; (case hA => rfl); (case hB => walk_at "xv"); (case hC => omega))
 | (refine' DE.wR2 ?hA ?hB ?hC ?hD; (case hA => rfl); (case hB => walk_at "xv"); (case hC => walk_at "xv"); (case hD => walk_at "xs"))
 | (refine' DE.W5 ?hA ?hB ?hC; (case hA => rfl); (case hB => walk_at "xv"); (case hC => walk_at "xv"))
 | (refine' DE.O1 ?hA ?hB; (case hA => rfl); (case hB => walk_at "xv")))
local macro_rules | `(tactic| walk_at "xl") => `(tactic| (refine' DE.cD ?hA ?hB ?hC (DE.bD ?hD); (case hA => rfl); (case hB => walk_at "xi"); (case hC => (exact DE.iW (by omega))); (case hD => (intro i hi; refine' DE.cX ?hE ?hF; (case hE => rfl); (case hF => walk_at "xv")))))
local macro_rules | `(tactic| walk_at "xv") => `(tactic| first
 | exact DE.xName rfl
 | exact DE.ak rfl
 | (refine' DE.cj ?hA ?hB ?hC; (case hA => walk_at "xv"); (case hB => walk_at "xv"); (case hC => walk_at "xs"))
 | (refine' DE.bK ?hA ?hB ?hC; (case hA => walk_at "xv"); (case hB => walk_at "xv"); (case hC => walk_at "xs"))
 | (refine' DE.Oo ?hA ?hB ?hC ?hD ?hE; (case hA => walk_at "xv"); (case hB => walk_at "xv"); (case hC => omega); (case hD => rfl); (case hE => rfl))
 | (refine' DE.CN ?hA ?hB ?hC ?hD ?hE; (case hA => walk_at "xv"); (case hB => walk_at "xv"); (case hC => omega); (case hD => rfl); (case hE => rfl))
 | (refine' DE.xIxLl ?hA ?hB ?hC ?hD ?hE; (case hA => walk_at "xv"); (case hB => walk_at "xv"); (case hC => omega); (case hD => rfl); (case hE => rfl))
 | (refine' DE.uw ?hA ?hB ?hC ?hD ?hE ?hF ?hG; (case hA => rfl); (case hB => rfl); (case hC => rfl); (case hD => walk_at "xv"); (case hE => rfl); (case hF => rfl); (case hG => rfl))
 | (refine' DE.dB ?hA ?hB ?hC ?hD ?hE; (case hA => rfl); (case hB => rfl); (case hC => rfl); (case hD => walk_at "xm"); (case hE => walk_at "xs"))
 | (refine' DE.aA ?hA ?hB ?hC; (case hA => rfl); (case hB => walk_at "xm"); (case hC => walk_at "xc"))
 | (refine' DE.cI ?hA ?hB; (case hA => walk_at "xm"); (case hB => rfl))
 | (refine' DE.nC ?hA ?hB; (case hA => walk_at "xm"); (case hB => rfl))
 | walk_at "xl"
 | (refine' DE.EY ?hA; (case hA => walk_at "xv"))
 | (refine' DE.NQ ?hA; (case hA => walk_at "xv")))
local macro_rules|`(tactic|nofun)=>`(tactic|walk_at "xv")
namespace M41
open PySem DE
def whole:D->Bool
 | .int _=>true
 | _=>false
theorem is_whole(k:Nat){d:D}(h:dep d<1000):aG T 60 (k+1) "is_whole" [d]=some (.bl (whole d)):=by
 cases d with
 | exc c=>exact absurd h (by simp[dep])
 | dic _ _=>exact absurd h (by simp[dep])
 | dt _ _=>exact absurd h (by simp[dep])
 | _=>rfl'
def within(l m:Int):D->Bool
 | .int i=>decide (l<=i)&&decide (i<=m)
 | _=>false
theorem oR(k:Nat){d:D}{l m:Int}(h:dep d<1000):aG T 60 (k+2) "is_whole_within" [d,.int l,.int m]=some (.bl (within l m d)):=by
 cases hw:whole d with
 | false =>
  have e:within l m d=false:=by cases d<;>first | rfl | simp[whole] at hw
  rw[e];refine bW (fd:=aQ (top 11)) rfl rfl (cQ (bY (z7 ?_)));refine' aA ?L41a_1a ?L41a_1b ?L41a_1c;(case L41a_1a=>rfl);(case L41a_1b=>walk_at "xm");(case L41a_1c=>exact hw▸is_whole k h)
 | true =>
  cases d<;>simp[whole] at hw
  rename_i i;refine bW (fd:=aQ (top 11)) rfl rfl (cQ (bY (lB ?_ (iw ?_))))
  ·refine' aA ?L41a_2a ?L41a_2b ?L41a_2c;(case L41a_2a=>rfl);(case L41a_2b=>walk_at "xm");(case L41a_2c=>exact is_whole k (by simp[dep]))
  ·by_cases h1:l<=i
   ·have e:within l m (.int i)=decide (i<=m):=by simp[within,h1]
    rw[e];exact JN (by nofun) (by nofun) (oLe h1) (by nofun) Xi
   ·have e:within l m (.int i)=false:=by simp[within,h1]
    rw[e];exact JQ (by nofun) (by nofun) (Xh h1)
def bQ:D->Bool
 | .tup us=>decide (1<=us.length)&&decide (us.length<=4)
 | _=>false
theorem vg{us:List D}:blt "len" [.tup us]=some (.int (us.length:Int)):=rfl
theorem gO(k:Nat){d:D}(h:dep d<1000):aG T 60 (k+1) "is_short_tuple" [d]=some (.bl (bQ d)):=by
 cases ht:DR "tuple" d with
 | false =>
  have e:bQ d=false:=by cases d<;>first | rfl | simp[DR] at ht
  rw[e];exact bW (fd:=aQ (top 12)) rfl rfl (cQ (bY (z7 (uw rfl rfl rfl (by nofun) ht rfl (notX h)))))
 | true =>
  cases d<;>simp[DR] at ht
  rename_i us;refine bW (fd:=aQ (top 12)) rfl rfl (cQ (bY (lB (uw rfl rfl rfl (by nofun) rfl) (iw ?_))))
  by_cases h1:1<=us.length
  ·have e:bQ (.tup us)=decide ((us.length:Int)<=4):=by
    simp only[bQ,h1,decide_true,M4z];exact decide_eq_decide.mpr (by omega)
   rw[e];refine JN (by nofun) (y:=.int (us.length:Int)) ?_ (oLe (by omega)) (by nofun) Xi;refine' dB ?L41a_3a ?L41a_3b ?L41a_3c ?L41a_3d ?L41a_3e;(case L41a_3a=>rfl);(case L41a_3b=>rfl);(case L41a_3c=>rfl);(case L41a_3d=>walk_at "xm");(case L41a_3e=>exact vg)
  ·have e:bQ (.tup us)=false:=by simp only[bQ];rw[A3z h1];rfl
   rw[e];refine JQ (by nofun) (y:=.int (us.length:Int)) ?_ (Xh (by omega));refine' dB ?L41a_4a ?L41a_4b ?L41a_4c ?L41a_4d ?L41a_4e;(case L41a_4a=>rfl);(case L41a_4b=>rfl);(case L41a_4c=>rfl);(case L41a_4d=>walk_at "xm");(case L41a_4e=>exact vg)
theorem at0{z:D}{zs:List D}:atD (z::zs) 0=some z:=nq (j:=0) rfl
def LR:D->Nat
 | .tup us=>us.length
 | _=>0
def lens(us:List D):Bool:=us.all fun r=>LR r==LR (us.headD .non)
def iQ:D->Bool
 | .tup us=>bQ (.tup us)&&us.all bQ&&lens us
 | _=>false
theorem eX{d:D}(h:bQ d=true):∃ us,d=.tup us/\1<=us.length/\us.length<=4:=by
 cases d<;>simp[bQ] at h
 rename_i us;exact⟨us,rfl,by omega,by omega⟩
theorem Jd{us:List D}(h:dep (.tup us)<1000):∀ x∈us,dep x<1000:=fun x hx=>by
 have:=zA hx;simp only[dep] at h;omega
theorem has_lines(k:Nat){d:D}(h:dep d<1000):aG T 60 (k+2) "has_lines" [d]=some (.bl (iQ d)):=by
 cases hs:bQ d with
 | false =>
  have e:iQ d=false:=by cases d<;>first | rfl | (simp only[iQ,hs];rfl)
  rw[e];refine bW (fd:=aQ (top 13)) rfl rfl (uV (fl1:=.ret (.bl false)) (bY (JH (ur ?_))) (cQ (by nofun)) rfl);refine' aA ?L41a_5a ?L41a_5b ?L41a_5c;(case L41a_5a=>rfl);(case L41a_5b=>walk_at "xm");(case L41a_5c=>exact hs▸gO k h)
 | true =>
  obtain⟨us,rfl,g1,g4⟩:=eX hs;have hd:=Jd h
  cases ha:us.all bQ with
  | false =>
   have e:iQ (.tup us)=false:=by simp only[iQ,ha,C4z,X3z]
   rw[e];refine bW (fd:=aQ (top 13)) rfl rfl (uV (fl1:=.ret (.bl false)) (bY (j5 (cL ?_) (iw (ur ?_)))) (cQ (by nofun)) rfl)
   ·refine' aA ?L41a_6a ?L41a_6b ?L41a_6c;(case L41a_6a=>rfl);(case L41a_6b=>walk_at "xm");(case L41a_6c=>exact hs▸gO k h)
   ·refine dB rfl rfl rfl (aj (cD (l:=us) rfl (wSq rfl (by nofun) rfl) (iy (by omega)) (cJ (g:=fun x=>.bl (bQ x)) fun x hx=>cX rfl ?_)) aJ) (by rw[vh,ha])
    refine' aA ?L41a_7a ?L41a_7b ?L41a_7c;(case L41a_7a=>rfl);(case L41a_7b=>walk_at "xm");(case L41a_7c=>exact gO k (hd x hx))
  | true =>
   have e:iQ (.tup us)=lens us:=by simp only[iQ,ha,hs,M4z]
   rw[e];refine bW (fd:=aQ (top 13)) rfl rfl (pX (bY (j5 (cL ?_) (iw (cL ?_)))) (cQ ?_))
   ·refine' aA ?L41a_8a ?L41a_8b ?L41a_8c;(case L41a_8a=>rfl);(case L41a_8b=>walk_at "xm");(case L41a_8c=>exact hs▸gO k h)
   ·refine dB rfl rfl rfl (aj (cD (l:=us) rfl (wSq rfl (by nofun) rfl) (iy (by omega)) (cJ (g:=fun x=>.bl (bQ x)) fun x hx=>cX rfl ?_)) aJ) (by rw[vh,ha])
    refine' aA ?L41a_9a ?L41a_9b ?L41a_9c;(case L41a_9a=>rfl);(case L41a_9b=>walk_at "xm");(case L41a_9c=>exact gO k (hd x hx))
   ·refine dB rfl rfl rfl (aj (cD (l:=us) rfl (wSq rfl (by nofun) rfl) (iy (by omega)) (cJ (g:=fun x=>.bl (LR x==LR (us.headD .non))) fun x hx=>cX rfl ?_)) aJ) vh
    obtain⟨ys,rfl,y1,y4⟩:=eX (W2z.mp ha x hx)
    cases us with
    | nil=>simp at g1
    | cons z zs =>
     obtain⟨ws,rfl,w1,w4⟩:=eX (W2z.mp ha z (by simp));refine bK (x:=.int (ys.length:Int)) (y:=.int (ws.length:Int)) ?_ ?_ ?_
     ·refine' dB ?L41a_10a ?L41a_10b ?L41a_10c ?L41a_10d ?L41a_10e;(case L41a_10a=>rfl);(case L41a_10b=>rfl);(case L41a_10c=>rfl);(case L41a_10d=>walk_at "xm");(case L41a_10e=>exact vg)
     ·refine dB rfl rfl rfl (aj ?_ aJ) vg
      exact xIx (by nofun) (by nofun) rfl at0
     ·show some (D.bl ((ys.length:Int)==(ws.length:Int)))=_
      congr 2;show _=(ys.length==ws.length);rw[Bool.eq_iff_iff];simp only[J5z];omega
def oO:D->List D
 | .tup us=>us
 | _=>[]
def nums:List D->List D
 | []=>[]
 | r::rs=>oO r++nums rs
theorem oJ:∀ (a:List D) (r:D),nums (a++[r])=nums a++oO r
 | [],r=>by simp[nums]
 | x::a,r=>by simp[nums,oJ a r]
theorem jf:∀ {us:List D},us.all bQ=true->(nums us).length<=4*us.length
 | [],_=>by simp[nums]
 | r::us,h=>by
  rw[K4z,K2z] at h;obtain⟨ys,rfl,y1,y4⟩:=eX h.1;have:=jf h.2;simp only[nums,oO,P1z,P2z];omega
theorem numbers_of(k:Nat){us:List D}(h4:us.length<=4)(ha:us.all bQ=true):aG T 60 (k+1) "numbers_of" [.tup us]=some (.lst (nums us)):=by
 have hl:=jf ha
 have key:∀ (s:Sl),(s=.no\/∃ d,s=.sh d)->blk (cxN T 60 k) 60 60 (aQ (top 14)).sc ((aQ (top 14)).body.drop 2) [("table",.sh (.tup us)),("told",.ow (nums us)),("row",s)]=some (.ret (.lst (nums us))):=by
  intro s hs;rcases hs with rfl | ⟨d,rfl⟩
  ·exact cQ (by nofun)
  ·exact cQ (by nofun)
 refine bW (fd:=aQ (top 14)) rfl rfl (jg rfl (d:=.lst []) (by nofun) (Zw (l:=us) (fl1:=.nxt [("table",.sh (.tup us)),("told",.ow (nums us)),("row",Hx us)]) (wSq rfl (by nofun) rfl) ?_ (key _ ?_)))
 ·refine oY (R:=fun pre=>[("table",.sh (.tup us)),("told",.ow (nums pre)),("row",Hx pre)]) (whole:=us) (fun pre x post e=>?_) (pre:=[]) rfl
  have hx:bQ x=true:=W2z.mp ha x (by rw[<- e];simp)
  have hp:pre.all bQ=true:=by rw[<- e,List.all_append,K2z] at ha;exact ha.1
  have hl2:=jf hp
  have hl3:pre.length<=us.length:=by rw[<- e];simp
  obtain⟨ys,rfl,y1,y4⟩:=eX hx;rw[oJ,uR,show oO (.tup ys)=ys from rfl];exact dX rfl (Wu rfl rfl rfl rfl (iy (by omega)) (by nofun) bO)
 ·cases us with
  | nil=>exact .inl rfl
  | cons x r=>exact .inr ⟨_,rfl⟩
theorem su{x:D}:∀ {us:List D},x∈nums us->∃ r∈us,x∈oO r
 | r::us,h=>by
  simp only[nums,List.mem_append] at h;rcases h with h | h
  ·exact⟨r,by simp,h⟩
  ·obtain⟨r',h1,h2⟩:=su h
   exact⟨r',W0z _ h1,h2⟩
theorem lR{m:Nat}{h:Nat->D}:bQ (.tup (Ls m h))=(decide (1<=m)&&decide (m<=4)):=by simp only[bQ,dU]
theorem kE{m:Nat}{h:Nat->D}{x:D}(hx:x∈Ls m h):∃ i,i<m/\x=h i:=by
 unfold Ls at hx;obtain⟨i,hi,rfl⟩:=List.mem_map.mp hx;exact⟨i,List.mem_range.mp hi,rfl⟩
theorem HX{m:Nat}{h:Nat->D}(hm:1<=m):(Ls m h).headD .non=h 0:=by
 obtain⟨m',rfl⟩:∃ m',m=m'+1:=⟨m-1,by omega⟩;unfold Ls;rw[List.range_succ_eq_map];rfl
theorem cN(k:Nat){i l h:Int}(h1:l<=i)(h2:i<=h):aG T 60 (k+2) "is_whole_within" [.int i,.int l,.int h]=some (.bl true):=by
 rw[oR k (by simp[dep])];simp[within,h1,h2]
theorem is_place(k:Nat){v many:Nat}(h:v<many):aG T 60 (k+3) "is_place" [.int v,.int many]=some (.bl true):=by
 refine bW (fd:=aQ (top 16)) rfl rfl (cQ ?_);refine' aA ?L41a_19a ?L41a_19b ?L41a_19c;(case L41a_19a=>rfl);(case L41a_19b=>walk_at "xm");(case L41a_19c=>exact cN _ (by omega) (by omega))
noncomputable def u5(ns:List Int)(k:Nat):Int:=if k<ns.length then ns.getD k 0 else if ns=[] then 0 else ns.getD (k%ns.length) 0*31+k
def dR(ns:List Int)(k:Nat):Int:=(u5 ns k+6151*((k:Int)+1))*40692%2147483399
def pickN(ns:List Int)(k many:Nat):Nat:=((dR ns k*dR ns k+dR ns k / 31)%2147483629%(many:Int)).toNat
theorem bR{ns:List Int}{k many:Nat}(h:0<many):pickN ns k many<many:=by
 unfold pickN;have h1:=V3z ((dR ns k*dR ns k+dR ns k / 31)%2147483629) (show(many:Int)≠0 by omega);have h2:=Int.emod_lt_of_pos ((dR ns k*dR ns k+dR ns k / 31)%2147483629) (show(0:Int)<many by omega);omega
abbrev scr(ns:List Int):D:=.lst (ns.map D.int)
theorem lU{ns:List Int}:blt "len" [scr ns]=some (.int (ns.length:Int)):=by
 show some (D.int ((ns.map D.int).length:Int))=_;rw[G3z]
theorem Df{ns:List Int}{k:Nat}(h:k<ns.length):atD (ns.map D.int) (k:Int)=some (.int (ns.getD k 0)):=by
 refine nq ?_;rw[List.getElem?_map,List.getElem?_eq_getElem h,List.getD_eq_getElem?_getD,List.getElem?_eq_getElem h];rfl
theorem Gg{ns:List Int}:dep (scr ns)<=50:=by
 simp only[dep]
 have:=f9 (b:=0) (l:=ns.map D.int) fun d hd=>by
  obtain⟨i,_,rfl⟩:=List.mem_map.mp hd;simp[dep]
 omega
theorem cell(k:Nat)(ns:List Int)(kk:Nat):aG T 60 (k+1) "_law_cell" [scr ns,.int kk]=some (.int (u5 ns kk)):=by
 unfold u5
 by_cases h:kk<ns.length
 ·rw[R5z h]
  refine bW (fd:=aQ (top 69)) rfl rfl (uV (fl1:=.ret (.int (ns.getD kk 0))) (bK (by nofun) (dB rfl rfl rfl (by walk_at "xm") lU) (oLt (by omega))) (cQ ?_) rfl);exact xIx (by nofun) (by nofun) rfl (Df h)
 ·rw[S5z h]
  by_cases e:ns=[]
  ·subst e
   rw[R5z rfl];refine bW (fd:=aQ (top 69)) rfl rfl (pX (bK (by nofun) (dB rfl rfl rfl (by walk_at "xm") (lU (ns:=[]))) (Ob (by simp))) (uV (fl1:=.ret (.int 0)) (bK (by nofun) (by nofun) rfl) (cQ (by nofun)) rfl))
  ·rw[S5z e]
   have hl:0<ns.length:=List.length_pos_iff.mpr e;refine bW (fd:=aQ (top 69)) rfl rfl (pX (bK (by nofun) (dB rfl rfl rfl (by walk_at "xm") lU) (Ob (by omega))) (pX (bK (y:=.lst []) (by nofun) (by nofun) ?_) (cQ ?_)))
   ·rw[oEq Gg (by simp[dep,deps])]
    cases ns with
    | nil=>exact absurd rfl e
    | cons a r=>rfl
   ·refine cj (cj (x:=.int (ns.getD (kk%ns.length) 0)) (xIx (i:=((kk%ns.length:Nat):Int)) (by nofun) ?_ rfl (Df (Nat.mod_lt _ hl))) (by nofun) (nj (.inr (by decide)))) (by nofun) rfl
    refine cj (by nofun) (dB rfl rfl rfl (by walk_at "xm") lU) ?_;rw[Oi (by omega)];rfl
theorem pick(k:Nat)(ns:List Int)(kk:Nat){many:Nat}(h:0<many):aG T 60 (k+2) "_law_pick" [scr ns,.int kk,.int many]=some (.int ((pickN ns kk many:Nat):Int)):=by
 have d0:=V3z ((u5 ns kk+6151*((kk:Int)+1))*40692) (show(2147483399:Int)≠0 by decide);have d1:=Int.emod_lt_of_pos ((u5 ns kk+6151*((kk:Int)+1))*40692) (show(0:Int)<2147483399 by decide)
 have e:((pickN ns kk many:Nat):Int)=(dR ns kk*dR ns kk+dR ns kk / 31)%2147483629%(many:Int):=by
  unfold pickN;exact Int.toNat_of_nonneg (V3z _ (by omega))
 rw[e];refine bW (fd:=aQ (top 70)) rfl rfl (jg rfl (d:=.int (dR ns kk)) ?_ (cQ ?_))
 ·refine cj (cj (cj (x:=.int (u5 ns kk)) (y:=.int (6151*((kk:Int)+1))) ?_ ?_ rfl) (by nofun) (nj (.inr (by decide)))) (by nofun) (Oi (by decide))
  ·refine' aA ?L41a_20a ?L41a_20b ?L41a_20c;(case L41a_20a=>rfl);(case L41a_20b=>walk_at "xm");(case L41a_20c=>exact cell _ ns kk)
  ·exact cj (by nofun) (cj (by nofun) (by nofun) rfl) (nj (.inl (by decide)))
 ·refine cj (cj (cj (cj (by nofun) (by nofun) (nj (.inl ?_))) (cj (by nofun) (by nofun) (bDiv (by decide) (by decide))) rfl) (by nofun) (Oi (by decide))) (by nofun) (Oi (by omega))
  unfold small;unfold dR;rw[Y3z (by omega),Y3z (by omega)];rfl
theorem vp{cx:Cxt}{n:Nat}{sc:Scope}{ρ:Rho}{e:Expr}{d d':D}(h:ev cx n sc ρ e=some d)(q:d=d'):ev cx n sc ρ e=some d':=q▸h
def mul(n:Nat)(f g:Nat->Nat->Int):Nat->Nat->Int:=fun i j=>W8 n fun l=>f i l*g l j
def dl(i j:Nat):Int:=if j=i then 1 else 0
theorem plain_row(k:Nat){n i:Nat}(h4:n<=4):aG T 60 (k+1) "plain_row" [.int n,.int i]=some (row n (dl i)):=by
 refine bW (fd:=aQ (top 36)) rfl rfl (cQ (dB rfl rfl rfl (aj ?_ aJ) Et));refine' cD ?L41a_21a ?L41a_21b ?L41a_21c (bD ?L41a_21d);(case L41a_21a=>rfl);(case L41a_21b=>walk_at "xi");(case L41a_21c=>exact iW (by omega))
 case L41a_21d =>
  intro j hj;refine' cX ?L41a_21e ?L41a_21f;(case L41a_21e=>rfl)
  case L41a_21f =>
   by_cases e:j=i
   ·have:dl i j=1:=R5z e
    rw[this];exact Jq (bK (by nofun) (by nofun) (Ju (by omega))) (by nofun)
   ·have:dl i j=0:=S5z e
    rw[this];exact Jr (bK (by nofun) (by nofun) (Jv (by omega))) (by nofun)
theorem need_size(k:Nat){n:Nat}(h1:1<=n)(h4:n<=4):aG T 60 (k+3) "need_size" [.int n,.int 4]=some .non:=by
 refine um (fd:=aQ (top 21)) rfl rfl (pX (cL ?_) bO);refine' aA ?L41a_22a ?L41a_22b ?L41a_22c;(case L41a_22a=>rfl);(case L41a_22b=>walk_at "xm");(case L41a_22c=>exact cN k (by omega) (by omega))
theorem plain(k:Nat){n:Nat}(h1:1<=n)(h4:n<=4):aG T 60 (k+4) "plain" [.int n]=some (tbl n n dl):=by
 refine bW (fd:=aQ (top 37)) rfl rfl (qP rfl (d:=.non) ?_ (cQ (dB rfl rfl rfl (aj ?_ aJ) Et)))
 ·refine' aA ?L41a_23a ?L41a_23b ?L41a_23c;(case L41a_23a=>rfl);(case L41a_23b=>walk_at "xm");(case L41a_23c=>exact need_size k h1 h4)
 ·refine' cD ?L41a_24a ?L41a_24b ?L41a_24c (bD ?L41a_24d);(case L41a_24a=>rfl);(case L41a_24b=>walk_at "xi");(case L41a_24c=>exact iW (by omega))
  case L41a_24d =>
   intro i hi;refine' cX ?L41a_24e ?L41a_24f;(case L41a_24e=>rfl)
   case L41a_24f =>
    refine' aA ?L41a_25a ?L41a_25b ?L41a_25c;(case L41a_25a=>rfl);(case L41a_25b=>walk_at "xm");(case L41a_25c=>exact plain_row (k+2) h4)
def cB(i j:Nat):Stmt:=(aQ (top i)).body.getD j (.Pass ⟨0,0,0,0⟩)
def aU:Stmt->List Stmt
 | .For _ _ b _ _=>b
 | _=>[]
def cG:Stmt->Expr
 | .For t _ _ _ _=>t
 | _=>.Name "" ⟨0,0,0,0⟩
def whB:Stmt->List Stmt
 | .While _ b _ _=>b
 | _=>[]
def whC:Stmt->Expr
 | .While c _ _ _=>c
 | _=>.Name "" ⟨0,0,0,0⟩
abbrev whR(cx:Cxt)(sc:Scope)(s:Stmt)(N:Nat)(ρ:Rho):Option Fl:=rB (fun ρ=>((ev cx 60 sc (frz 60 (whC s) ρ) (whC s)).bind asB).map fun b=>(frz 60 (whC s) ρ,b)) (fun ρ=>blk cx 60 59 sc (whB s) ρ) N ρ
def Ak(a b:Int)(r:Sl):Rho:=[("one",.sh (.int a)),("other",.sh (.int b)),("rest",r)]
theorem Xg{b:Int}:cmpop .NotEq (.int b) (.int 0)=some (.bl (decide (b≠0))):=by
 rw[oNe (by simp[dep]) (by simp[dep])]
 by_cases h:b=0
 ·subst h;rfl
 ·simp[deq,h]
theorem WM(k:Nat):∀ (n:Nat) (a b:Int) (r:Sl) (N:Nat),nOw r=true->b.natAbs<=n->n<N->∃ a' r',nOw r'=true/\a'.natAbs=Int.gcd a b/\whR (cxN T 60 k) (aQ (top 23)).sc (cB 23 0) N (Ak a b r)=some (.nxt (Ak a' 0 r')):=by
 intro n
 induction n with
 | zero =>
  intro a b r N hr hb hN
  have b0:b=0:=by omega
  subst b0;obtain⟨N',rfl⟩:∃ N',N=N'+1:=⟨N-1,by omega⟩;exact⟨a,r,hr,by simp,rA (cR (bx rfl (bx rfl (bx hr rfl)))) (bK (x:=.int 0) (y:=.int 0) (xName rfl) (ak rfl) rfl)⟩
 | succ n ih =>
  intro a b r N hr hb hN;obtain⟨N',rfl⟩:∃ N',N=N'+1:=⟨N-1,by omega⟩
  by_cases b0:b=0
  ·subst b0
   exact⟨a,r,hr,by simp,rA (cR (bx rfl (bx rfl (bx hr rfl)))) (bK (x:=.int 0) (y:=.int 0) (xName rfl) (ak rfl) rfl)⟩
  ·have hl:=yI (a:=a) b0
   obtain⟨a',r',h1,h2,h3⟩:=ih b (a.fmod b) (.sh (.int (a.fmod b))) N' rfl (by omega) (by omega);refine⟨a',r',h1,by rw[h2,sZ],CP (ρ1:=Ak a b r) (ρ2:=Ak b (a.fmod b) (.sh (.int (a.fmod b)))) (cR (bx rfl (bx rfl (bx hr rfl)))) (bK (x:=.int b) (y:=.int 0) (xName rfl) (ak rfl) (by rw[Xg,Y3z b0])) ?_ h3⟩;refine vd (d:=.int (a.fmod b)) (bx rfl (bx rfl (bx hr rfl))) rfl rfl (cj (x:=.int a) (y:=.int b) (xName rfl) (xName rfl) (Nu b0)) ?_;refine dG (ρ:=Ak a b (.sh (.int (a.fmod b)))) (ρ':=Ak a b (.sh (.int (a.fmod b)))) (d:=.int b) rfl rfl rfl (xName rfl) ?_;exact dG (ρ:=Ak b b (.sh (.int (a.fmod b)))) (ρ':=Ak b b (.sh (.int (a.fmod b)))) (d:=.int (a.fmod b)) rfl rfl rfl (xName rfl) bO
theorem common(k:Nat){a b:Int}(hb:b.natAbs<10000000000000000000000000000000000000000000000000000000000000000000000000000000000000000000000000000):aG T 60 (k+1) "common_measure" [.int a,.int b]=some (.int (gc a b)):=by
 obtain⟨a',r',h1,h2,h3⟩:=WM k b.natAbs a b .no 10000000000000000000000000000000000000000000000000000000000000000000000000000000000000000000000000000 rfl (A5z _) hb;refine bW (fd:=aQ (top 23)) rfl rfl (yE (ρ2:=Ak a' 0 r') h3 (tY (bx rfl (bx rfl (bx h1 rfl))) (vp (dB (ds:=[.int a']) rfl rfl rfl (aj (xName rfl) aJ) rfl) ?_)));congr 1;unfold gc;rw[<- h2]
 split<;>omega
theorem lowest(k:Nat){u d:Int}(hd:d≠0)(hb:d.natAbs<10000000000000000000000000000000000000000000000000000000000000000000000000000000000000000000000000000):aG T 60 (k+2) "lowest" [.int u,.int d]=some (loD u d):=by
 have g0:=oX (u:=u) hd;have cm:=common k (a:=u) hb
 have gl:(gc u d).natAbs<=d.natAbs:=by
  have:=Nat.le_of_dvd (by omega) (Int.gcd_dvd_natAbs_right u d);unfold gc;omega
 have lg:(gc u d).natAbs.log2<9000:=DK (S1z gl (J1z hb (by decide +kernel)));refine bW (fd:=aQ (top 24)) rfl rfl (dG (ρ':=[("up",.sh (.int u)),("down",.sh (.int d)),("measure",.no)]) (d:=.int (gc u d)) rfl rfl rfl (aA rfl (aj (xName rfl) (aj (xName rfl) aJ)) cm) ?_)
 by_cases q:d<0
 ·refine Ie (ρ:=[("up",.sh (.int u)),("down",.sh (.int d)),("measure",.sh (.int (gc u d)))]) (ρ':=[("up",.sh (.int u)),("down",.sh (.int d)),("measure",.sh (.int (gc u d)))]) (ρ2:=[("up",.sh (.int u)),("down",.sh (.int d)),("measure",.sh (.int (-(gc u d))))]) rfl (bK (x:=.int d) (y:=.int 0) (xName rfl) (ak rfl) (oLt q)) (dG (ρ':=[("up",.sh (.int u)),("down",.sh (.int d)),("measure",.sh (.int (gc u d)))]) (d:=.int (-(gc u d))) rfl rfl rfl (EY (xName rfl)) bO) (cQ ?_)
  refine vp (cI (ds:=[.int (u.fdiv (-(gc u d))),.int (d.fdiv (-(gc u d)))]) (aj (cj (xName rfl) (xName rfl) (pO (by omega) (by rw[Int.natAbs_neg];exact lg))) (aj (cj (xName rfl) (xName rfl) (pO (by omega) (by rw[Int.natAbs_neg];exact lg))) aJ)) rfl) ?_
  show D.tup _=D.tup [.int (qJ u d),.int (qK u d)];unfold qJ qK;rw[R5z q,R5z q,fdiv_neg (by omega) MF,fdiv_neg (by omega) MJ]
 ·refine vI (ρ:=[("up",.sh (.int u)),("down",.sh (.int d)),("measure",.sh (.int (gc u d)))]) (ρ':=[("up",.sh (.int u)),("down",.sh (.int d)),("measure",.sh (.int (gc u d)))]) rfl (bK (x:=.int d) (y:=.int 0) (xName rfl) (ak rfl) (Ob q)) (cQ ?_)
  refine vp (cI (ds:=[.int (u.fdiv (gc u d)),.int (d.fdiv (gc u d))]) (aj (cj (xName rfl) (xName rfl) (pO (by omega) lg)) (aj (cj (xName rfl) (xName rfl) (pO (by omega) lg)) aJ)) rfl) ?_;show D.tup _=D.tup [.int (qJ u d),.int (qK u d)];unfold qJ qK;rw[S5z q,S5z q,eH g0,eH g0]
theorem yH(k:Nat){u d:Int}(hb:d.natAbs<10000000000000000000000000000000000000000000000000000000000000000000000000000000000000000000000000000):aG T 60 (k+2) "has_fraction_form" [frD u d]=some (.bl (decide (0<d)&&decide (Int.gcd u d=1))):=by
 have w:∀ i,aG T 60 (k+1) "is_whole" [.int i]=some (.bl true):=fun i=>is_whole k (by simp[dep]);refine bW (fd:=aQ (top 25)) rfl rfl (pX (bY (j5 (cL (uw rfl rfl rfl (xName rfl) rfl)) (iw (bK (x:=.int 2) (y:=.int 2) (dB rfl rfl rfl (aj (x:=frD u d) (xName rfl) aJ) rfl) (ak rfl) (Hh rfl))))) (pX (bY (j5 (cL (aA rfl (aj (x:=.int u) (xIx (x:=frD u d) (i:=0) (xName rfl) (ak rfl) rfl rfl) aJ) (w u))) (iw (cL (aA rfl (aj (x:=.int d) (xIx (x:=frD u d) (i:=1) (xName rfl) (ak rfl) rfl rfl) aJ) (w d)))))) (cQ (bY ?_))))
 by_cases q:0<d
 ·rw[Y3z q,M4z]
  refine lB (bK (x:=.int d) (y:=.int 0) (xIx (x:=frD u d) (i:=1) (xName rfl) (ak rfl) rfl rfl) (ak rfl) (by rw[oGt,Y3z q])) (iw (bK (x:=.int (gc u d)) (y:=.int 1) (aA rfl (aj (x:=.int u) (xIx (x:=frD u d) (i:=0) (xName rfl) (ak rfl) rfl rfl) (aj (x:=.int d) (xIx (x:=frD u d) (i:=1) (xName rfl) (ak rfl) rfl rfl) aJ)) (common k hb)) (ak rfl) ?_))
  by_cases e:Int.gcd u d=1
  ·rw[Y3z e];exact Ju (by unfold gc;omega)
  ·rw[A3z e];exact Jv (by unfold gc;omega)
 ·rw[A3z q,X3z]
  exact z7 (bK (x:=.int d) (y:=.int 0) (xIx (x:=frD u d) (i:=1) (xName rfl) (ak rfl) rfl rfl) (ak rfl) (by rw[oGt,A3z q]))
theorem tG(k:Nat){u d:Int}(hb:d.natAbs<10000000000000000000000000000000000000000000000000000000000000000000000000000000000000000000000000000)(h:pQ u d):aG T 60 (k+2) "has_fraction_form" [frD u d]=some (.bl true):=by
 rw[yH k hb,Y3z h.1,Y3z h.2];rfl
theorem Wf(k:Nat){u d:Int}(hb:d.natAbs<10000000000000000000000000000000000000000000000000000000000000000000000000000000000000000000000000000)(h:pQ u d)(h0:0<=u):aG T 60 (k+3) "is_fraction" [frD u d]=some (.bl true):=by
 refine bW (fd:=aQ (top 26)) rfl rfl (cQ (bY (lB (aA rfl (aj (x:=frD u d) (xName rfl) aJ) (tG k hb h)) (iw (bK (x:=.int u) (y:=.int 0) (xIx (x:=frD u d) (i:=0) (xName rfl) (ak rfl) rfl rfl) (ak rfl) ?_)))));show some (D.bl (decide (0<=u)))=_;rw[Y3z h0]
theorem smN{x:Int}(h:x.natAbs<=1000000000000000000):small x=true:=by
 unfold small;rw[Y3z (by omega),Y3z (by omega)];rfl
theorem Zo{a b:Int}(h:a.natAbs<=1000000000000000000)(h':b.natAbs<=1000000000000000000):(a*b).natAbs<=1000000000000000000000000000000000000:=by
 rw[D4z];exact E4z h h'
theorem Dy{a b:Int}(h:a≠0)(h':b≠0):a*b≠0:=W3z h h'
section
variable {a b c d:Int}
theorem sum_of(k:Nat)(hb:b≠0)(hd:d≠0)(ka:a.natAbs<=1000000000000000000)(kb:b.natAbs<=1000000000000000000)(kc:c.natAbs<=1000000000000000000)(kd:d.natAbs<=1000000000000000000):aG T 60 (k+3) "sum_of" [frD a b,frD c d]=some (loD (a*d+c*b) (b*d)):=by
 have z:=Zo kb kd;refine bW (fd:=aQ (top 27)) rfl rfl (cQ (aA rfl (aj (cj (x:=.int (a*d)) (y:=.int (c*b)) (cj (x:=.int a) (y:=.int d) (xIx (x:=frD a b) (i:=0) (xName rfl) (ak rfl) rfl rfl) (xIx (x:=frD c d) (i:=1) (xName rfl) (ak rfl) rfl rfl) (nj (.inl (smN ka)))) (cj (x:=.int c) (y:=.int b) (xIx (x:=frD c d) (i:=0) (xName rfl) (ak rfl) rfl rfl) (xIx (x:=frD a b) (i:=1) (xName rfl) (ak rfl) rfl rfl) (nj (.inl (smN kc)))) rfl) (aj (cj (x:=.int b) (y:=.int d) (xIx (x:=frD a b) (i:=1) (xName rfl) (ak rfl) rfl rfl) (xIx (x:=frD c d) (i:=1) (xName rfl) (ak rfl) rfl rfl) (nj (.inl (smN kb)))) aJ)) (lowest k (Dy hb hd) (by omega))))
theorem times_of(k:Nat)(hb:b≠0)(hd:d≠0)(ka:a.natAbs<=1000000000000000000)(kb:b.natAbs<=1000000000000000000)(kd:d.natAbs<=1000000000000000000):aG T 60 (k+3) "times_of" [frD a b,frD c d]=some (loD (a*c) (b*d)):=by
 have z:=Zo kb kd;refine bW (fd:=aQ (top 28)) rfl rfl (cQ (aA rfl (aj (cj (x:=.int a) (y:=.int c) (xIx (x:=frD a b) (i:=0) (xName rfl) (ak rfl) rfl rfl) (xIx (x:=frD c d) (i:=0) (xName rfl) (ak rfl) rfl rfl) (nj (.inl (smN ka)))) (aj (cj (x:=.int b) (y:=.int d) (xIx (x:=frD a b) (i:=1) (xName rfl) (ak rfl) rfl rfl) (xIx (x:=frD c d) (i:=1) (xName rfl) (ak rfl) rfl rfl) (nj (.inl (smN kb)))) aJ)) (lowest k (Dy hb hd) (by omega))))
end
def uL(u d:Int)(a b:Sl):Rho:=[("_law_up",.sh (.int u)),("_law_down",.sh (.int d)),("_law_one",a),("_law_other",b)]
theorem V7(k:Nat){u d:Int}:∀ (n:Nat) (a b:Int) (N:Nat),0<=a->0<=b->b.natAbs<=n->n<N->∃ a':Int,0<=a'/\a'.natAbs=Int.gcd a b/\whR (cxN T 60 k) (aQ (top 80)).sc (cB 80 1) N (uL u d (.sh (.int a)) (.sh (.int b)))=some (.nxt (uL u d (.sh (.int a')) (.sh (.int 0)))):=by
 intro n
 induction n with
 | zero =>
  intro a b N ha h0 hb hN
  have b0:b=0:=by omega
  subst b0;obtain⟨N',rfl⟩:∃ N',N=N'+1:=⟨N-1,by omega⟩;exact⟨a,ha,by simp,rA rfl (bK (x:=.int 0) (y:=.int 0) (xName rfl) (ak rfl) rfl)⟩
 | succ n ih =>
  intro a b N ha h0 hb hN;obtain⟨N',rfl⟩:∃ N',N=N'+1:=⟨N-1,by omega⟩
  by_cases b0:b=0
  ·subst b0
   exact⟨a,ha,by simp,rA rfl (bK (x:=.int 0) (y:=.int 0) (xName rfl) (ak rfl) rfl)⟩
  ·have hl:=yI (a:=a) b0
   have hn:=R0z a (b:=b) (by omega);obtain⟨a',h1,h2,h3⟩:=ih b (a.fmod b) N' h0 hn (by omega) (by omega);refine⟨a',h1,by rw[h2,sZ],CP (ρ1:=uL u d (.sh (.int a)) (.sh (.int b))) (ρ2:=uL u d (.sh (.int b)) (.sh (.int (a.fmod b)))) rfl (bK (x:=.int b) (y:=.int 0) (xName rfl) (ak rfl) (by rw[Xg,Y3z b0])) ?_ h3⟩;exact gTup (d:=.tup [.int b,.int (a.fmod b)]) rfl (cI (aj (xName rfl) (aj (cj (x:=.int a) (y:=.int b) (xName rfl) (xName rfl) (Nu b0)) aJ)) rfl) rfl rfl bO
theorem Zq(k:Nat){u d:Int}(hd:d≠0)(hb:d.natAbs<10000000000000000000000000000000000000000000000000000000000000000000000000000000000000000000000000000):aG T 60 (k+1) "_law_lowest" [.int u,.int d]=some (loD u d):=by
 have g0:=oX (u:=u) hd;obtain⟨a',h1,h2,h3⟩:=V7 k (u:=u) (d:=d) d.natAbs (if u<0 then -u else u) (if d<0 then -d else d) 10000000000000000000000000000000000000000000000000000000000000000000000000000000000000000000000000000 (by split<;>omega) (by split<;>omega) (by split<;>omega) hb
 have e:a'=gc u d:=by
  have:Int.gcd (if u<0 then -u else u) (if d<0 then -d else d)=Int.gcd u d:=by
   split<;>split<;>simp
  rw[this] at h2;unfold gc;omega
 subst e
 have gl:(gc u d).natAbs<=d.natAbs:=by
  have:=Nat.le_of_dvd (by omega) (Int.gcd_dvd_natAbs_right u d);unfold gc;omega
 have lg:(gc u d).natAbs.log2<9000:=DK (S1z gl (J1z hb (by decide +kernel)));refine bW (fd:=aQ (top 80)) rfl rfl (gTup (d:=.tup [.int (if u<0 then -u else u),.int (if d<0 then -d else d)]) (ρ':=uL u d (.sh (.int (if u<0 then -u else u))) (.sh (.int (if d<0 then -d else d)))) rfl (cI (aj (dB (ds:=[.int u]) rfl rfl rfl (aj (xName rfl) aJ) rfl) (aj (dB (ds:=[.int d]) rfl rfl rfl (aj (xName rfl) aJ) rfl) aJ)) rfl) rfl rfl (yE h3 (cQ ?_)));show ev _ _ _ (uL u d (.sh (.int (gc u d))) (.sh (.int 0))) _=_
 by_cases q:0<d
 ·refine Jq (bK (x:=.int d) (y:=.int 0) (xName rfl) (ak rfl) (by rw[oGt,Y3z q])) (vp (cI (ds:=[.int (u.fdiv (gc u d)),.int (d.fdiv (gc u d))]) (aj (cj (xName rfl) (xName rfl) (pO (by omega) lg)) (aj (cj (xName rfl) (xName rfl) (pO (by omega) lg)) aJ)) rfl) ?_)
  show D.tup _=D.tup [.int (qJ u d),.int (qK u d)];unfold qJ qK;rw[S5z (by omega),S5z (by omega),eH g0,eH g0]
 ·refine Jr (bK (x:=.int d) (y:=.int 0) (xName rfl) (ak rfl) (by rw[oGt,A3z q])) (vp (cI (ds:=[.int (0-u.fdiv (gc u d)),.int (0-d.fdiv (gc u d))]) (aj (cj (ak rfl) (cj (xName rfl) (xName rfl) (pO (by omega) lg)) rfl) (aj (cj (ak rfl) (cj (xName rfl) (xName rfl) (pO (by omega) lg)) rfl) aJ)) rfl) ?_)
  show D.tup _=D.tup [.int (qJ u d),.int (qK u d)];unfold qJ qK;rw[R5z (by omega),R5z (by omega),eH g0,eH g0,Int.zero_sub,Int.zero_sub]
theorem zY{cx:Cxt}{N j:Nat}{sc:Scope}{ρ:Rho}{e:Expr}{p q:Pos}{u d:Int}(h:ev cx (N+1) sc ρ e=some (frD u d)):ev cx (N+2) sc ρ (.Subscript e (.Constant (.int 0) j q) p)=some (.int u):=xIx (x:=frD u d) (i:=0) h (ak rfl) rfl rfl
theorem JD{cx:Cxt}{N j:Nat}{sc:Scope}{ρ:Rho}{e:Expr}{p q:Pos}{u d:Int}(h:ev cx (N+1) sc ρ e=some (frD u d)):ev cx (N+2) sc ρ (.Subscript e (.Constant (.int 1) j q) p)=some (.int d):=xIx (x:=frD u d) (i:=1) h (ak rfl) rfl rfl
theorem Ek{m b:Nat}{h:Nat->D}(q:∀ i,i<m->dep (h i)<=b):deps (Ls m h)<=b:=f9 fun x hx=>by
 obtain⟨i,hi,rfl⟩:=kE hx;exact q i hi
theorem xX{m n:Nat}{h:Nat->Nat->D}(h1:1<=m)(hm:m<=4)(h2:1<=n)(hn:n<=4):iQ (.tup (Ls m fun i=>.tup (Ls n (h i))))=true:=by
 show(bQ (.tup (Ls m fun i=>.tup (Ls n (h i))))&&(Ls m fun i=>D.tup (Ls n (h i))).all bQ&&lens (Ls m fun i=>D.tup (Ls n (h i))))=true;rw[lR,Y3z h1,Y3z hm]
 have a1:(Ls m fun i=>D.tup (Ls n (h i))).all bQ=true:=by
  rw[W2z];intro x hx;obtain⟨i,_,rfl⟩:=kE hx;rw[lR,Y3z h2,Y3z hn];rfl
 have a2:lens (Ls m fun i=>D.tup (Ls n (h i)))=true:=by
  unfold lens;rw[W2z,HX h1];intro x hx;obtain⟨i,_,rfl⟩:=kE hx;simp[LR,dU]
 rw[a1,a2];rfl
theorem nY{m n:Nat}{h:Nat->Nat->D}(h2:1<=n)(hn:n<=4):(Ls m fun i=>D.tup (Ls n (h i))).all bQ=true:=by
 rw[W2z];intro x hx;obtain⟨i,_,rfl⟩:=kE hx;rw[lR,Y3z h2,Y3z hn];rfl
theorem tQ(q:Rat):(q.den:Int)≠0:=by have:=q.den_nz;omega
theorem d_na(q:Rat):((q.den:Int)).natAbs=q.den:=rfl
section
variable {a b:Rat}
theorem J8(k:Nat)(ha:Sq a)(hb:Sq b):aG T 60 (k+3) "sum_of" [qD a,qD b]=some (qD (a+b)):=by
 rw[sum_of k (tQ a) (tQ b) ha.1 ha.2 hb.1 hb.2,Oc (W3z (tQ a) (tQ b)),J7]
theorem lE(k:Nat)(ha:Sq a)(hb:Sq b):aG T 60 (k+3) "times_of" [qD a,qD b]=some (qD (a*b)):=by
 rw[times_of k (tQ a) (tQ b) ha.1 ha.2 hb.2,Oc (W3z (tQ a) (tQ b)),Lp]
theorem Ea(k:Nat)(ha:Sq a)(h:0<=a):aG T 60 (k+3) "is_fraction" [qD a]=some (.bl true):=Wf k (S1z ha.2 (by decide +kernel)) (Gk a) (Dv h)
theorem M6(k:Nat)(ha:Sq a):aG T 60 (k+2) "has_fraction_form" [qD a]=some (.bl true):=tG k (S1z ha.2 (by decide +kernel)) (Gk a)
end
def Dh(l:D)(t f:Sl):Rho:=[("some",.sh l),("told",t),("fraction",f)]
def uT(g:Nat->Rat):Nat->Sl
 | 0=>.no
 | i+1=>.sh (qD (g i))
theorem yd(g:Nat->Rat)(i:Nat):nOw (uT g i)=true:=by cases i<;>rfl
theorem all_sum(k:Nat){n:Nat}{g:Nat->Rat}(hg:∀ i,i<n->Sq (g i))(hs:∀ i,i<n->Sq (dg i g)):aG T 60 (k+4) "all_sum" [.lst (Ls n fun i=>qD (g i))]=some (qD (dg n g)):=by
 refine bW (fd:=aQ (top 29)) rfl rfl (dG (ρ':=Dh (.lst (Ls n fun i=>qD (g i))) .no .no) (d:=qD 0) rfl rfl rfl (cI (aj (ak rfl) (aj (ak rfl) aJ)) rfl) ?_);refine dJ (ρ:=Dh (.lst (Ls n fun i=>qD (g i))) (.sh (qD (dg 0 g))) .no) (ρ':=Dh (.lst (Ls n fun i=>qD (g i))) (.sh (qD (dg 0 g))) (uT g 0)) (ρ2:=Dh (.lst (Ls n fun i=>qD (g i))) (.sh (qD (dg n g))) (uT g n)) rfl (wSq (x:=.lst (Ls n fun i=>qD (g i))) rfl (xName rfl) rfl) (mW (R:=fun i=>Dh (.lst (Ls n fun i=>qD (g i))) (.sh (qD (dg i g))) (uT g i)) fun i hi=>?_) (tY (bx rfl (bx rfl (bx (yd g n) rfl))) (xName rfl));refine dX (ρ1:=Dh (.lst (Ls n fun i=>qD (g i))) (.sh (qD (dg i g))) (.sh (qD (g i)))) rfl ?_;exact dG (ρ:=Dh (.lst (Ls n fun i=>qD (g i))) (.sh (qD (dg i g))) (.sh (qD (g i)))) (ρ':=Dh (.lst (Ls n fun i=>qD (g i))) (.sh (qD (dg i g))) (.sh (qD (g i)))) (d:=qD (dg (i+1) g)) rfl rfl rfl (aA rfl (aj (xName rfl) (aj (xName rfl) aJ)) (J8 k (hs i hi) (hg i hi))) bO
abbrev rwq(n:Nat)(f:Nat->Rat):D:=.tup (Ls n fun j=>qD (f j))
abbrev ftq(m n:Nat)(F:Nat->Nat->Rat):D:=.tup (Ls m fun i=>rwq n (F i))
theorem row_by_column(k:Nat){n:Nat}{f g:Nat->Rat}(h4:n<=4)(hf:∀ i,i<n->Sq (f i))(hg:∀ i,i<n->Sq (g i))(hp:∀ i,i<n->Sq (f i*g i))(hs:∀ i,i<n->Sq (dg i fun l=>f l*g l)):aG T 60 (k+5) "row_by_column" [rwq n f,rwq n g]=some (qD (dg n fun l=>f l*g l)):=by
 refine bW (fd:=aQ (top 48)) rfl rfl (cQ (aA rfl (aj (x:=.lst (Ls n fun i=>qD (f i*g i))) (cD rfl (W5 (h:=fun j=>qD (f j)) (g:=fun j=>qD (g j)) rfl (xName rfl) (xName rfl)) (iW (by omega)) (bD (g:=fun i=>qD (f i*g i)) fun i hi=>cX rfl ?_)) aJ) (all_sum k hp hs)));exact aA rfl (aj (x:=qD (f i)) (xName rfl) (aj (x:=qD (g i)) (xName rfl) aJ)) (lE (k+1) (hf i hi) (hg i hi))
theorem row_by_columns(k:Nat){n p:Nat}{f:Nat->Rat}{G:Nat->Nat->Rat}(h4:n<=4)(hp4:p<=4)(hf:∀ i,i<n->Sq (f i))(hg:∀ j i,j<p->i<n->Sq (G j i))(hp:∀ j i,j<p->i<n->Sq (f i*G j i))(hs:∀ j i,j<p->i<n->Sq (dg i fun l=>f l*G j l)):aG T 60 (k+6) "row_by_columns" [rwq n f,ftq p n G]=some (rwq p fun j=>dg n fun l=>f l*G j l):=by
 refine bW (fd:=aQ (top 49)) rfl rfl (cQ (dB rfl rfl rfl (aj (cD rfl (Ab (xs:=Ls p fun i=>rwq n (G i)) rfl (xName rfl)) (iW (by omega)) (bD (g:=fun j=>qD (dg n fun l=>f l*G j l)) fun j hj=>cX rfl ?_)) aJ) Et));exact aA rfl (aj (x:=rwq n f) (xName rfl) (aj (x:=rwq n (G j)) (xName rfl) aJ)) (row_by_column k h4 hf (fun i hi=>hg j i hj hi) (fun i hi=>hp j i hj hi) (fun i hi=>hs j i hj hi))
theorem Je{m n:Nat}{F:Nat->Nat->Rat}:dep (ftq m n F)<=3:=by
 have:∀ i,i<m->dep (rwq n (F i))<=2:=fun i _=>by
  have:=Ek (m:=n) (b:=1) (h:=fun j=>qD (F i j)) fun j _=>by simp[dep,deps]
  simp only[dep];omega
 have:=Ek this;simp only[dep];omega
theorem Ho{m n:Nat}{F:Nat->Nat->Rat}{x:D}(hx:x∈nums (Ls m fun i=>rwq n (F i))):∃ i j,i<m/\j<n/\x=qD (F i j):=by
 obtain⟨r,hr,hx⟩:=su hx;obtain⟨i,hi,rfl⟩:=kE hr;obtain⟨j,hj,rfl⟩:=kE (show x∈Ls n fun j=>qD (F i j) from hx);exact⟨i,j,hi,hj,rfl⟩
theorem xP(k:Nat){m n:Nat}{F:Nat->Nat->Rat}(h1:1<=m)(h2:m<=4)(h3:1<=n)(h4:n<=4)(hl:∀ i j,i<m->j<n->Sq (F i j)):aG T 60 (k+3) "need_fraction_table" [ftq m n F]=some .non:=by
 have hz:(nums (Ls m fun i=>rwq n (F i))).length<=4*(Ls m fun i=>rwq n (F i)).length:=jf (nY (m:=m) (n:=n) (h:=fun i j=>qD (F i j)) h3 h4);rw[dU] at hz;have hL:aG T 60 (k+2) "has_lines" [ftq m n F]=some (.bl true):=(xX (h:=fun i j=>qD (F i j)) h1 h2 h3 h4)▸has_lines k (S1z Je (by decide));have hN:aG T 60 (k+2) "numbers_of" [ftq m n F]=some (.lst (nums (Ls m fun i=>rwq n (F i)))):=numbers_of (k+1) (by rw[dU];exact h2) (nY (h:=fun i j=>qD (F i j)) h3 h4);refine um (fd:=aQ (top 30)) rfl rfl (pX (bY (j5 (cL (aA rfl (aj (xName rfl) aJ) hL)) (iw (cL (dB (ds:=[.lst ((nums (Ls m fun i=>rwq n (F i))).map fun _=>.bl true)]) rfl rfl rfl (aj (cD (l:=nums (Ls m fun i=>rwq n (F i))) rfl (wSq (x:=.lst (nums (Ls m fun i=>rwq n (F i)))) rfl (aA rfl (aj (xName rfl) aJ) hN) rfl) (iy (by omega)) (cJ (g:=fun _=>.bl true) fun x hx=>?_)) aJ) ?_))))) bO)
 ·obtain⟨i,j,hi,hj,rfl⟩:=Ho hx
  exact cX rfl (aA rfl (aj (x:=qD (F i j)) (xName rfl) aJ) (M6 k (hl i j hi hj)))
 ·have:=vh (l:=nums (Ls m fun i=>rwq n (F i))) (t:=fun _=>true)
  rw[this];congr 2;simp
theorem Cy(k:Nat){m n:Nat}{F:Nat->Nat->Rat}(h1:1<=m)(h2:m<=4)(h4:n<=4):aG T 60 (k+2) "columns_of" [ftq m n F]=some (ftq n m fun i j=>F j i):=by
 have col:∀ j,j<n->aG T 60 (k+1) "column_of" [ftq m n F,.int j]=some (rwq m fun i=>F i j):=fun j hj=>by
  refine bW (fd:=aQ (top 34)) rfl rfl (cQ (dB rfl rfl rfl (aj (cD rfl (Ab (xs:=Ls m fun i=>rwq n (F i)) rfl (xName rfl)) (iW (by omega)) (bD (g:=fun i=>qD (F i j)) fun i hi=>cX rfl ?_)) aJ) Et));exact CN (m:=n) (h:=fun j=>qD (F i j)) (xName rfl) (xName rfl) hj rfl rfl
 refine bW (fd:=aQ (top 35)) rfl rfl (cQ (dB rfl rfl rfl (aj (cD rfl (Fq (j:=n) rfl (dB (ds:=[rwq n (F 0)]) rfl rfl rfl (aj (Oo (m:=m) (h:=fun i=>rwq n (F i)) (xName rfl) (ak rfl) (by omega) rfl rfl) aJ) WW) (by omega)) (iW (by omega)) (bD (g:=fun j=>rwq m fun i=>F i j) fun j hj=>cX rfl ?_)) aJ) Et));exact aA rfl (aj (x:=ftq m n F) (xName rfl) (aj (x:=.int j) (xName rfl) aJ)) (col j hj)
def Bq(m n D B:Nat)(F:Nat->Nat->Rat):Prop:=∀ i j,i<m->j<n->Qb D B (F i j)
theorem Bq.mul{m n p D B E C:Nat}{F G:Nat->Nat->Rat}(hF:Bq m n D B F)(hG:Bq n p E C G):Bq m p (D*E) (n*(B*C)) (mulQ n F G):=fun i j hi hj=>sumQ_b fun l hl=>(hF i l hi hl).mul (hG l j hl hj)
theorem product(k:Nat){m n p D B E C:Nat}{F G:Nat->Nat->Rat}(h1:1<=m)(h2:m<=4)(h3:1<=n)(h4:n<=4)(h5:1<=p)(h6:p<=4)(hF:Bq m n D B F)(hG:Bq n p E C G)(d0:0<D)(e0:0<E)(hD:D*E<=1000000000000000000)(hB:4*(B*C)<=1000000000000000000)(hBB:B<=1000000000000000000)(hCC:C<=1000000000000000000):aG T 60 (k+7) "product_of" [ftq m n F,ftq n p G]=some (ftq m p (mulQ n F G)):=by
 have de:0<D*E:=Nat.mul_pos d0 e0;have hD1:D<=D*E:=L0z _ e0;have hE1:E<=D*E:=Nat.le_mul_of_pos_left _ d0;have sF:∀ i j,i<m->j<n->Sq (F i j):=fun i j hi hj=>(hF i j hi hj).sq d0 (by omega) hBB;have sG:∀ i j,i<n->j<p->Sq (G i j):=fun i j hi hj=>(hG i j hi hj).sq e0 (by omega) hCC
 let R (c:Sl):Rho:=[("one",.sh (ftq m n F)),("other",.sh (ftq n p G)),("columns",c)]
 refine bW (fd:=aQ (top 50)) rfl rfl (qP rfl (d:=.non) (aA rfl (aj (xName rfl) aJ) (xP (k+3) h1 h2 h3 h4 sF)) (qP rfl (d:=.non) (aA rfl (aj (xName rfl) aJ) (xP (k+3) h3 h4 h5 h6 sG)) (pX (bK (x:=.int n) (y:=.int n) (dB (ds:=[rwq n (F 0)]) rfl rfl rfl (aj (Oo (m:=m) (h:=fun i=>rwq n (F i)) (xName rfl) (ak rfl) (by omega) rfl rfl) aJ) WW) (by nofun) (Hh rfl)) ?_)));refine dG (ρ:=R .no) (ρ':=R .no) (d:=ftq p n fun i j=>G j i) rfl rfl rfl (aA rfl (aj (xName rfl) aJ) (Cy (k+4) h3 h4 h6)) ?_;refine cQ (ρ:=R (.sh (ftq p n fun i j=>G j i))) (dB rfl rfl rfl (aj (cD rfl (Ab (xs:=Ls m fun i=>rwq n (F i)) rfl (xName rfl)) (iW (by omega)) (bD (g:=fun i=>rwq p (mulQ n F G i)) fun i hi=>cX rfl ?_)) aJ) Et);refine aA rfl (aj (x:=rwq n (F i)) (xName rfl) (aj (x:=ftq p n fun i j=>G j i) (xName rfl) aJ)) (row_by_columns k h4 h6 (fun l hl=>sF i l hi hl) (fun j l hj hl=>sG l j hl hj) (fun j l hj hl=>((hF i l hi hl).mul (hG l j hl hj)).sq de hD (by omega)) (fun j l hj hl=>(sumQ_b (n:=l) fun q hq=>(hF i q hi (by omega)).mul (hG q j (by omega) hj)).sq de hD (Q4z (A1z _ (by omega:l<=4)) hB)))
structure Stp where
 w:Nat
 p:Nat
 s:Rat
def wS:Nat->Str
 | 0=>"up"
 | 1=>"down"
 | _=>"scale"
def stD(x:Stp):D:=.tup [.str (wS x.w),.int (x.p:Int),qD x.s]
def spR(x:Stp):Nat:=match x.w with
 | 1=>x.p+1
 | _=>x.p
def spC(x:Stp):Nat:=match x.w with
 | 0=>x.p+1
 | _=>x.p
def idQ:Nat->Nat->Rat:=fun i j=>if i=j then 1 else 0
def stQ(x:Stp):Nat->Nat->Rat:=fun i j=>if i=spR x then(if j=spC x then x.s else idQ i j) else idQ i j
def okP(n w p:Nat):Bool:=match w with
 | 0=>decide (p+1<n)
 | 1=>decide (p+1<n)
 | 2=>decide (p<n)
 | _=>false
section
variable {s:Rat}
theorem CQ(k:Nat):∀ n,n<5->∀ w,w<3->∀ p,p<4->okP n w p=true->aG T 60 (k+6) "table_of_step" [.int n,.str (wS w),.int p,qD s]=some (ftq n n (stQ ⟨w,p,s⟩)):=by
 intro n hn w hw p hp h
 match n,hn,w,hw,p,hp,h with
 | 0,_,w,_,p,_,h=>exact absurd h (by unfold okP;split<;>simp)
 | 1,_,2,_,0,_,_=>rfl'
 | 2,_,0,_,0,_,_=>rfl'
 | 2,_,1,_,0,_,_=>rfl'
 | 2,_,2,_,0,_,_=>rfl'
 | 2,_,2,_,1,_,_=>rfl'
 | 3,_,0,_,0,_,_=>rfl'
 | 3,_,0,_,1,_,_=>rfl'
 | 3,_,1,_,0,_,_=>rfl'
 | 3,_,1,_,1,_,_=>rfl'
 | 3,_,2,_,0,_,_=>rfl'
 | 3,_,2,_,1,_,_=>rfl'
 | 3,_,2,_,2,_,_=>rfl'
 | 4,_,0,_,0,_,_=>rfl'
 | 4,_,0,_,1,_,_=>rfl'
 | 4,_,0,_,2,_,_=>rfl'
 | 4,_,1,_,0,_,_=>rfl'
 | 4,_,1,_,1,_,_=>rfl'
 | 4,_,1,_,2,_,_=>rfl'
 | 4,_,2,_,0,_,_=>rfl'
 | 4,_,2,_,1,_,_=>rfl'
 | 4,_,2,_,2,_,_=>rfl'
 | 4,_,2,_,3,_,_=>rfl'
theorem KJ(k:Nat):∀ n,n<5->1<=n->aG T 60 (k+6) "as_fractions" [tbl n n dl]=some (ftq n n idQ):=by
 intro n hn h1
 match n,hn,h1 with
 | 1,_,_=>rfl'
 | 2,_,_=>rfl'
 | 3,_,_=>rfl'
 | 4,_,_=>rfl'
end
theorem rZ{n w p:Nat}(h:okP n w p=true):p<n:=by
 unfold okP at h
 split at h<;>simp at h<;>omega
theorem Bj{n w p:Nat}(h:okP n w p=true):w<3:=by
 unfold okP at h
 split at h<;>simp at h<;>omega
structure okS (n:Nat) (x:Stp):Prop where
 pl:okP n x.w x.p=true
 nn:0<=x.s
 ps:x.w=2->0<x.s
 sq:Sq x.s
theorem oU(k:Nat){v:Nat}{m:Int}(h:(v:Int)<m):aG T 60 (k+3) "is_place" [.int v,.int m]=some (.bl true) :=
 bW (fd:=aQ (top 16)) rfl rfl (cQ (aA rfl (aj (xName rfl) (aj (ak rfl) (aj (cj (x:=.int m) (y:=.int 1) (xName rfl) (ak rfl) rfl) aJ))) (cN k (by omega) (by omega))))
theorem Mp(k:Nat){n p:Nat}{s:Rat}(hp:p<n)(h:0<s)(hs:Sq s):aG T 60 (k+4) "is_step_of" [.int n,.str "scale",.int p,qD s]=some (.bl true):=by
 have hf:=Ea k hs (Rat.le_of_lt h);have ip:aG T 60 (k+3) "is_place" [.int p,.int n]=some (.bl true):=oU k (by omega);refine bW (fd:=aQ (top 45)) rfl rfl (Oh (ρ:=[("many",.sh (.int n)),("word",.sh (.str "scale")),("place",.sh (.int p)),("share",.sh (qD s))]) (fl1:=.ret (.bl true)) rfl (bK (x:=.str "scale") (y:=.str "scale") (xName rfl) (xName rfl) rfl) (tY rfl (bY (lB (aA rfl (aj (xName rfl) (aj (xName rfl) aJ)) ip) (lB (aA rfl (aj (xName rfl) aJ) hf) (iw (bK (x:=.int s.num) (y:=.int 0) (zY (xName rfl)) (ak rfl) ?_)))))) rfl);rw[oGt,Y3z (V4 h)]
theorem DQ(k:Nat){n p:Nat}{s:Rat}{w:Str}(hw:w="up"\/w="down")(hp:p+1<n)(h:0<=s)(hs:Sq s):aG T 60 (k+4) "is_step_of" [.int n,.str w,.int p,qD s]=some (.bl true):=by
 have hf:=Ea k hs h;have ip:aG T 60 (k+3) "is_place" [.int p,.int ((n:Int)-1)]=some (.bl true):=oU k (by omega)
 have c1:cmpop .Eq (.str w) (.str "scale")=some (.bl false):=by rcases hw with rfl | rfl<;>rfl'
 have c2:cmpop .In (.str w) (.tup [.str "up",.str "down"])=some (.bl true):=by rcases hw with rfl | rfl<;>rfl'
 exact bW (fd:=aQ (top 45)) rfl rfl (Es (ρ:=[("many",.sh (.int n)),("word",.sh (.str w)),("place",.sh (.int p)),("share",.sh (qD s))]) rfl (bK (x:=.str w) (y:=.str "scale") (xName rfl) (xName rfl) c1) (tY rfl (bY (lB (bK (x:=.str w) (y:=.tup [.str "up",.str "down"]) (xName rfl) (cI (aj (xName rfl) (aj (xName rfl) aJ)) rfl) c2) (lB (aA rfl (aj (xName rfl) (aj (cj (x:=.int n) (y:=.int 1) (xName rfl) (ak rfl) rfl) aJ)) ip) (iw (aA rfl (aj (xName rfl) aJ) hf)))))))
theorem is_step_of(k:Nat){n:Nat}{x:Stp}(h:okS n x):aG T 60 (k+4) "is_step_of" [.int n,.str (wS x.w),.int (x.p:Int),qD x.s]=some (.bl true):=by
 have hlt:=rZ h.pl;have hw:=Bj h.pl;have pl:=h.pl;obtain⟨w,p,s⟩:=x
 match w,hw with
 | 2,_=>exact Mp k hlt (h.ps rfl) h.sq
 | 0,_=>exact DQ k (.inl rfl) (by simpa[okP] using pl) h.nn h.sq
 | 1,_=>exact DQ k (.inr rfl) (by simpa[okP] using pl) h.nn h.sq
theorem lN{α:Type}{P:List α->Prop}(h0:P [])(hs:∀ l a,P l->P (l++[a]))(l:List α):P l:=by
 rw[<- List.reverse_reverse l]
 induction l.reverse with
 | nil=>exact h0
 | cons a t ih=>rw[List.reverse_cons];exact hs _ _ ih
theorem is_step(k:Nat){n:Nat}{x:Stp}(h:okS n x):aG T 60 (k+5) "is_step" [.int n,stD x]=some (.bl true):=by
 have i1:aG T 60 (k+4) "is_whole" [.int n]=some (.bl true):=is_whole (k+3) (by simp[dep]);refine bW (fd:=aQ (top 46)) rfl rfl (Es (ρ:=[("many",.sh (.int n)),("thing",.sh (stD x))]) rfl (bY (j5 (cL (aA rfl (aj (xName rfl) aJ) i1)) (j5 (cL (uw rfl rfl rfl (x:=stD x) (xName rfl) rfl rfl rfl)) (iw (bK (x:=.int 3) (y:=.int 3) (dB (ds:=[stD x]) rfl rfl rfl (aj (xName rfl) aJ) rfl) (ak rfl) rfl))))) ?_);exact tY (ρ:=[("many",.sh (.int n)),("thing",.sh (stD x))]) rfl (aA rfl (aj (xName rfl) (aj (xIx (x:=stD x) (i:=0) (xName rfl) (ak rfl) rfl rfl) (aj (xIx (x:=stD x) (i:=1) (xName rfl) (ak rfl) rfl rfl) (aj (xIx (x:=stD x) (i:=2) (xName rfl) (ak rfl) rfl rfl) aJ)))) (is_step_of k h))
abbrev ssD(l:List Stp):D:=.lst (l.map stD)
theorem need_steps(k:Nat){n:Nat}{l:List Stp}(h1:1<=n)(h4:n<=4)(hl:∀ x∈l,okS n x)(hz:l.length<=100):aG T 60 (k+6) "need_steps" [.int n,ssD l]=some .non:=by
 have w1:aG T 60 (k+5) "is_whole_within" [.int n,.int 1,.int 4]=some (.bl true):=cN (k+3) (by omega) (by omega);refine um (fd:=aQ (top 47)) rfl rfl (Es (ρ:=[("many",.sh (.int n)),("steps",.sh (ssD l))]) rfl (cL (aA rfl (aj (xName rfl) (aj (ak rfl) (aj (xName rfl) aJ))) w1)) (Es (ρ:=[("many",.sh (.int n)),("steps",.sh (ssD l))]) rfl (bY (j5 (cL (uw rfl rfl rfl (x:=ssD l) (xName rfl) rfl rfl rfl)) (iw (cL (dB (ds:=[.lst ((l.map stD).map fun _=>.bl true)]) rfl rfl rfl (aj (cD (l:=l.map stD) rfl (wSq (x:=ssD l) rfl (xName rfl) rfl) (iy (by rw[G3z];omega)) (cJ (g:=fun _=>.bl true) fun y hy=>?_)) aJ) ?_))))) bO))
 ·obtain⟨x,hx,rfl⟩:=List.mem_map.mp hy
  exact cX rfl (aA rfl (aj (x:=.int n) (xName rfl) (aj (x:=stD x) (xName rfl) aJ)) (is_step k (hl x hx)))
 ·have:=vh (l:=l.map stD) (t:=fun _=>true)
  rw[this];congr 2;simp
def mkQ(n:Nat)(l:List Stp):Nat->Nat->Rat:=l.foldl (fun M x=>mulQ n M (stQ x)) idQ
theorem mL{n:Nat}{l:List Stp}{x:Stp}:mkQ n (l++[x])=mulQ n (mkQ n l) (stQ x):=by simp[mkQ]
structure Sml (n E C:Nat) (l:List Stp):Prop where
 ok:∀ x∈l,okS n x
 bq:∀ x∈l,Bq n n E C (stQ x)
 e0:0<E
 h1:E^l.length<=1000000000000000000
 h2:(4*C)^l.length<=1000000000000000000
 c1:1<=C
 cc:C<=1000000000000000000
theorem id_b{n:Nat}:Bq n n 1 1 idQ:=fun i j _ _=>by
 unfold idQ;split
 ·exact Qb.one
 ·exact Qb.zero.up (by decide)
theorem mk_b{n E C:Nat}(h4:n<=4):∀ {l:List Stp},(∀ x∈l,Bq n n E C (stQ x))->Bq n n (E^l.length) ((4*C)^l.length) (mkQ n l):=by
 intro l;refine lN (P:=fun l=>(∀ x∈l,Bq n n E C (stQ x))->Bq n n (E^l.length) ((4*C)^l.length) (mkQ n l)) (fun _=>id_b) (fun l x ih h=>?_) l;rw[mL,P1z,T0z,Z4z,Z4z];have:=(ih fun y hy=>h y (by simp[hy])).mul (h x (by simp));refine fun i j hi hj=>(this i j hi hj).up ?_;rw[show(4*C)^l.length*(4*C)=4*((4*C)^l.length*C) by rw[Nat.mul_left_comm]];exact A1z _ h4
def ffB:D->Bool
 | .tup [.int u,.int v]=>decide (0<v)&&decide (Int.gcd u v=1)
 | _=>false
def nnB:D->Bool
 | .tup [.int u,_]=>decide (0<=u)
 | _=>false
def psB:D->Bool
 | .tup [.int u,_]=>decide (0<u)
 | _=>false
def bdS:D->Bool
 | .tup [.int u,.int v]=>decide (u.natAbs<=1000000000000000000)&&decide (v.natAbs<=1000000000000000000)
 | _=>true
def vq(t:Str):D->Bool
 | .str x=>decide (x=t)
 | _=>false
theorem wd1{t:Str}{w:D}:deq w (.str t)=vq t w:=by cases w<;>rfl
theorem wd2{t:Str}{w:D}:deq (.str t) w=vq t w:=by
 cases w<;>first | rfl | skip
 rename_i x;show(t==x)=decide (x=t)
 by_cases h:x=t
 ·subst h;simp
 ·rw[A3z h]
  have:t≠x:=fun e=>h e.symm;simpa using this
theorem Ec{s:D}(h:ffB s=true):∃ u v,s=frD u v/\0<v/\Int.gcd u v=1:=by
 unfold ffB at h;split at h
 ·rename_i u v
  simp only[K2z,D2z] at h;exact⟨u,v,rfl,h.1,h.2⟩
 ·cases h
theorem neI{a b:Int}:cmpop .NotEq (.int a) (.int b)=some (.bl (!(a==b))):=rfl
theorem JF{cx:Cxt}{n:Nat}{sc:Scope}{ρ:Rho}{a b:Expr}{es:List Expr}{x y:Bool}(h1:ev cx n sc ρ a=some (.bl x))(h2:x=true->cg .And (ev cx n sc ρ) (b::es)=some (.bl y)):cg .And (ev cx n sc ρ) (a::b::es)=some (.bl (x&&y)):=by
 cases x
 ·exact z7 h1
 ·exact lB h1 (h2 rfl)
theorem BZ(k:Nat){d:D}(h:dep d<1000)(hb:bdS d=true):aG T 60 (k+2) "has_fraction_form" [d]=some (.bl (ffB d)):=by
 cases d with
 | tup us =>
  by_cases hl:us.length=2
  ·match us,hl with
   | [a,b],_ =>
    have da:dep a<1000:=by simp only[dep,deps] at h;omega
    have db:dep b<1000:=by simp only[dep,deps] at h;omega
    have c1:ev (cxN T 60 (k+1)) 60 (aQ (top 25)).sc [("thing",.sh (.tup [a,b]))] (ifX (cB 25 0))=some (.bl false) :=
     bY (j5 (cL (uw rfl rfl rfl (xName rfl) rfl)) (iw (bK (x:=.int 2) (y:=.int 2) (dB rfl rfl rfl (aj (x:=.tup [a,b]) (xName rfl) aJ) rfl) (ak rfl) (Hh rfl))))
    cases wa:whole a with
    | false =>
     have e:ffB (.tup [a,b])=false:=by cases a<;>first | rfl | simp[whole] at wa
     rw[e];exact bW (fd:=aQ (top 25)) rfl rfl (Es rfl c1 (uV (fl1:=.ret (.bl false)) (bY (JH (ur (aA rfl (aj (x:=a) (xIx (x:=.tup [a,b]) (i:=0) (xName rfl) (ak rfl) rfl rfl) aJ) (wa▸is_whole k da))))) (cQ (ak rfl)) rfl))
    | true =>
     cases wb:whole b with
     | false =>
      have e:ffB (.tup [a,b])=false:=by cases a<;>first | rfl | (cases b<;>first | rfl | simp[whole] at wb)
      rw[e];exact bW (fd:=aQ (top 25)) rfl rfl (Es rfl c1 (uV (fl1:=.ret (.bl false)) (bY (j5 (cL (aA rfl (aj (x:=a) (xIx (x:=.tup [a,b]) (i:=0) (xName rfl) (ak rfl) rfl rfl) aJ) (wa▸is_whole k da))) (iw (ur (aA rfl (aj (x:=b) (xIx (x:=.tup [a,b]) (i:=1) (xName rfl) (ak rfl) rfl rfl) aJ) (wb▸is_whole k db)))))) (cQ (ak rfl)) rfl))
     | true =>
      cases a<;>simp[whole] at wa
      cases b<;>simp[whole] at wb
      simp only[bdS,K2z,D2z] at hb;exact yH k (S1z hb.2 (by decide +kernel))
  ·have e:ffB (.tup us)=false:=by
    match us,hl with
    | [],_=>rfl
    | [a],_=>cases a<;>rfl
    | a::b::c::r,_=>cases a<;>first | rfl | (cases b<;>rfl)
    | [_,_],hl=>exact absurd rfl hl
   rw[e];refine bW (fd:=aQ (top 25)) rfl rfl (uV (fl1:=.ret (.bl false)) (bY (j5 (cL (uw rfl rfl rfl (xName rfl) rfl)) (iw (bK (x:=.int (us.length:Int)) (y:=.int 2) (dB rfl rfl rfl (aj (x:=.tup us) (xName rfl) aJ) vg) (ak rfl) ?_)))) (cQ (ak rfl)) rfl);rw[neI]
   have:((us.length:Int)==2)=false:=by simpa using(by omega:¬ (us.length:Int)=2)
   rw[this];rfl
 | exc c=>exact absurd h (by simp[dep])
 | dic _ _=>exact absurd h (by simp[dep])
 | dt _ _=>exact absurd h (by simp[dep])
 | _=>exact bW (fd:=aQ (top 25)) rfl rfl (uV (fl1:=.ret (.bl false)) (bY (JH (ur (uw rfl rfl rfl (xName rfl) rfl)))) (cQ (ak rfl)) rfl)
def frB(s:D):Bool:=ffB s&&nnB s
theorem yG(k:Nat){d:D}(h:dep d<1000)(hb:bdS d=true):aG T 60 (k+3) "is_fraction" [d]=some (.bl (frB d)):=by
 refine bW (fd:=aQ (top 26)) rfl rfl (cQ (bY (JF (aA rfl (aj (x:=d) (xName rfl) aJ) (BZ k h hb)) fun q=>iw ?_)));obtain⟨u,v,rfl,_,_⟩:=Ec q;exact bK (x:=.int u) (y:=.int 0) (zY (xName rfl)) (ak rfl) rfl
theorem oE(k:Nat){d:D}{m:Int}(h:dep d<1000):aG T 60 (k+3) "is_place" [d,.int m]=some (.bl (within 0 (m-1) d)) :=
 bW (fd:=aQ (top 16)) rfl rfl (cQ (aA rfl (aj (xName rfl) (aj (ak rfl) (aj (cj (x:=.int m) (y:=.int 1) (xName rfl) (ak rfl) rfl) aJ))) (oR k h)))
theorem in2{w:D}(h:dep w<=50):cmpop .In w (.tup [.str "up",.str "down"])=some (.bl (vq "up" w||vq "down" w)):=by
 have q:inT w [.str "up",.str "down"]=some (vq "up" w||vq "down" w):=by
  have e:inS w [.str "up",.str "down"]=some (vq "up" w||vq "down" w):=by
   show(if decide (dep w<=50) then some (deq (.str "up") w||(deq (.str "down") w||false)) else none)=_;rw[Y3z h,wd2,wd2,Bool.or_false];rfl
  unfold inT;split
  ·rename_i i ns h1 h2;exact nomatch (show(none:Option (List Int))=some ns from h2)
  ·exact e
 show(inT w _).map _=_;rw[q];rfl
def stB(n:Int)(w p s:D):Bool:=if vq "scale" w then within 0 (n-1) p&&(frB s&&psB s) else(vq "up" w||vq "down" w)&&(within 0 (n-1-1) p&&frB s)
theorem HD(k:Nat){n:Int}{w p s:D}(hw:dep w<=50)(hp:dep p<1000)(hs:dep s<1000)(hb:bdS s=true):aG T 60 (k+4) "is_step_of" [.int n,w,p,s]=some (.bl (stB n w p s)):=by
 have hf:=yG k hs hb;unfold stB
 cases e:vq "scale" w with
 | true =>
  refine bW (fd:=aQ (top 45)) rfl rfl (Oh (ρ:=[("many",.sh (.int n)),("word",.sh w),("place",.sh p),("share",.sh s)]) (fl1:=.ret (.bl (within 0 (n-1) p&&(frB s&&psB s)))) rfl (bK (x:=w) (y:=.str "scale") (xName rfl) (xName rfl) (by rw[oEq hw (by simp[dep]),wd1,e])) (tY rfl (bY (JF (aA rfl (aj (xName rfl) (aj (xName rfl) aJ)) (oE k hp)) fun _=>JF (aA rfl (aj (xName rfl) aJ) hf) fun q=>iw ?_))) rfl);obtain⟨u,v,rfl,_,_⟩:=Ec (Bool.and_eq_true_iff.mp q).1;exact bK (x:=.int u) (y:=.int 0) (zY (xName rfl)) (ak rfl) rfl
 | false =>
  exact bW (fd:=aQ (top 45)) rfl rfl (Es (ρ:=[("many",.sh (.int n)),("word",.sh w),("place",.sh p),("share",.sh s)]) rfl (bK (x:=w) (y:=.str "scale") (xName rfl) (xName rfl) (by rw[oEq hw (by simp[dep]),wd1,e])) (tY rfl (bY (JF (bK (x:=w) (y:=.tup [.str "up",.str "down"]) (xName rfl) (cI (aj (xName rfl) (aj (xName rfl) aJ)) rfl) (in2 hw)) fun _=>JF (aA rfl (aj (xName rfl) (aj (cj (x:=.int n) (y:=.int 1) (xName rfl) (ak rfl) rfl) aJ)) (oE k hp)) fun _=>iw (aA rfl (aj (xName rfl) aJ) hf)))))
def j6(n:Int):D->Bool
 | .tup [w,p,s]=>stB n w p s
 | _=>false
def bdB:D->Bool
 | .tup [_,_,s]=>bdS s
 | _=>true
theorem Af{n:Int}{us:List D}(hl:us.length≠3):j6 n (.tup us)=false:=by
 match us,hl with
 | [],_=>rfl
 | [_],_=>unfold j6;rfl
 | [_,_],_=>unfold j6;rfl
 | _::_::_::_::_,_=>unfold j6;rfl
 | [_,_,_],hl=>exact absurd rfl hl
theorem ne3{us:List D}(hl:us.length≠3):cmpop .NotEq (.int (us.length:Int)) (.int 3)=some (.bl true):=by
 rw[neI]
 have:((us.length:Int)==3)=false:=by simpa using(by omega:¬ (us.length:Int)=3)
 rw[this];rfl
theorem qM(k:Nat){n:Int}{d:D}(h:dep d<=50)(hb:bdB d=true):aG T 60 (k+5) "is_step" [.int n,d]=some (.bl (j6 n d)):=by
 have wn:aG T 60 (k+4) "is_whole" [.int n]=some (.bl true):=is_whole (k+3) (by simp[dep])
 cases d with
 | tup us =>
  by_cases hl:us.length=3
  ·match us,hl with
   | [w,p,s],_ =>
    simp only[dep,deps] at h;refine bW (fd:=aQ (top 46)) rfl rfl (Es (ρ:=[("many",.sh (.int n)),("thing",.sh (.tup [w,p,s]))]) rfl (bY (j5 (cL (aA rfl (aj (x:=.int n) (xName rfl) aJ) wn)) (j5 (cL (uw rfl rfl rfl (xName rfl) rfl)) (iw (bK (x:=.int 3) (y:=.int 3) (dB rfl rfl rfl (aj (x:=.tup [w,p,s]) (xName rfl) aJ) rfl) (ak rfl) (Hh rfl)))))) (tY rfl (aA rfl (aj (xName rfl) (aj (x:=w) (xIx (x:=.tup [w,p,s]) (i:=0) (xName rfl) (ak rfl) rfl rfl) (aj (x:=p) (xIx (x:=.tup [w,p,s]) (i:=1) (xName rfl) (ak rfl) rfl rfl) (aj (x:=s) (xIx (x:=.tup [w,p,s]) (i:=2) (xName rfl) (ak rfl) rfl rfl) aJ)))) (HD k (by omega) (by omega) (by omega) hb))))
  ·rw[Af hl]
   exact bW (fd:=aQ (top 46)) rfl rfl (uV (fl1:=.ret (.bl false)) (bY (j5 (cL (aA rfl (aj (x:=.int n) (xName rfl) aJ) wn)) (j5 (cL (uw rfl rfl rfl (xName rfl) rfl)) (iw (bK (x:=.int (us.length:Int)) (y:=.int 3) (dB rfl rfl rfl (aj (x:=.tup us) (xName rfl) aJ) vg) (ak rfl) (ne3 hl)))))) (cQ (ak rfl)) rfl)
 | exc c=>exact absurd h (by simp[dep])
 | dic _ _=>exact absurd h (by simp[dep])
 | dt _ _=>exact absurd h (by simp[dep])
 | _=>exact bW (fd:=aQ (top 46)) rfl rfl (uV (fl1:=.ret (.bl false)) (bY (j5 (cL (aA rfl (aj (x:=.int n) (xName rfl) aJ) wn)) (JH (ur (uw rfl rfl rfl (xName rfl) rfl))))) (cQ (ak rfl)) rfl)
theorem d9{α:Type}{f:D->Rho->Option Fl}{g:α->D}{P:List α->Rho->Prop}{whole:List α}(h:∀ pre x post ρ,pre++x::post=whole->P pre ρ->∃ ρ',P (pre++[x]) ρ'/\f (g x) ρ=some (.nxt ρ')):∀ {l pre:List α} {ρ:Rho},pre++l=whole->P pre ρ->∃ ρ',P whole ρ'/\bU f (l.map g) ρ=some (.nxt ρ')
 | [],pre,ρ,e,hP=>⟨ρ,by rw[E3z] at e;rw[<- e];exact hP,rfl⟩
 | x::l,pre,ρ,e,hP=>by
  obtain⟨ρ1,h1,h2⟩:=h pre x l ρ e hP;obtain⟨ρ2,h3,h4⟩:=d9 h (l:=l) (pre:=pre++[x]) (by rw[X1z];exact e) h1;refine⟨ρ2,h3,?_⟩;simp only[I4z,bU,h2];exact h4
def Aj(n:Nat)(l:List Stp)(md w p s:Sl):Rho:=[("many",.sh (.int n)),("steps",.sh (ssD l)),("made",md),("word",w),("place",p),("share",s)]
theorem wY{E:Nat}(h:0<E){i j:Nat}(hij:i<=j):E^i<=E^j:=B1z h hij
theorem Sml.bnd{n E C:Nat}{l:List Stp}(S:Sml n E C l){pre:List Stp}{x:Stp}{post:List Stp}(e:pre++x::post=l):E^pre.length*E<=1000000000000000000/\4*((4*C)^pre.length*C)<=1000000000000000000/\(4*C)^pre.length<=1000000000000000000:=by
 have hl:pre.length+1<=l.length:=by rw[<- e,P1z,P2z];omega
 have c1:=S.c1;refine⟨?_,?_,?_⟩
 ·rw[<- Z4z];exact Q4z (wY S.e0 hl) S.h1
 ·rw[show 4*((4*C)^pre.length*C)=(4*C)^(pre.length+1) by rw[Z4z,Nat.mul_left_comm]]
  exact Q4z (wY (by omega) hl) S.h2
 ·exact Q4z (wY (by omega) (by omega)) S.h2
theorem made_by(k:Nat){n E C:Nat}{l:List Stp}(h1:1<=n)(h4:n<=4)(S:Sml n E C l)(hz:l.length<=100):aG T 60 (k+8) "made_by" [.int n,ssD l]=some (ftq n n (mkQ n l)):=by
 have go:=d9 (f:=fF (cxN T 60 (k+7)) 60 59 (aQ (top 52)).sc (cG (cB 52 2)) (aU (cB 52 2))) (g:=stD) (whole:=l) (P:=fun pre ρ=>∃ w p s,nOw w=true/\nOw p=true/\nOw s=true/\ρ=Aj n l (.sh (ftq n n (mkQ n pre))) w p s) (fun pre x post ρ e hP=>by
  obtain⟨w,p,s,_,_,_,rfl⟩:=hP;have ok:=S.ok x (by rw[<- e];simp);obtain⟨b1,b2,b3⟩:=S.bnd e;refine⟨_,⟨.sh (.str (wS x.w)),.sh (.int (x.p:Int)),.sh (qD x.s),rfl,rfl,rfl,rfl⟩,dX (ρ1:=Aj n l (.sh (ftq n n (mkQ n pre))) (.sh (.str (wS x.w))) (.sh (.int (x.p:Int))) (.sh (qD x.s))) rfl ?_⟩;have ts:aG T 60 (k+7) "table_of_step" [.int n,.str (wS x.w),.int (x.p:Int),qD x.s]=some (ftq n n (stQ x)):=CQ (k+1) n (by omega) x.w (Bj ok.pl) x.p (by have:=rZ ok.pl;omega) ok.pl;have pr:=product k (F:=mkQ n pre) (G:=stQ x) h1 h4 h1 h4 h1 h4 (mk_b h4 fun y hy=>S.bq y (by rw[<- e];simp[hy])) (S.bq x (by rw[<- e];simp)) (Nat.pow_pos S.e0) S.e0 b1 b2 b3 S.cc;rw[<- mL] at pr
  exact dG (ρ:=Aj n l (.sh (ftq n n (mkQ n pre))) (.sh (.str (wS x.w))) (.sh (.int (x.p:Int))) (.sh (qD x.s))) (ρ':=Aj n l (.sh (ftq n n (mkQ n pre))) (.sh (.str (wS x.w))) (.sh (.int (x.p:Int))) (.sh (qD x.s))) (d:=ftq n n (mkQ n (pre++[x]))) rfl rfl rfl (aA rfl (aj (xName rfl) (aj (aA rfl (aj (xName rfl) (aj (xName rfl) (aj (xName rfl) (aj (xName rfl) aJ)))) ts) aJ)) pr) bO) (l:=l) (pre:=[]) (ρ:=Aj n l (.sh (ftq n n (mkQ n []))) .no .no .no) rfl ⟨.no,.no,.no,rfl,rfl,rfl,rfl⟩
 obtain⟨ρ',⟨w,p,s,c1,c2,c3,rfl⟩,hgo⟩:=go;have pl:aG T 60 (k+7) "plain" [.int n]=some (tbl n n dl):=plain (k+3) h1 h4;refine bW (fd:=aQ (top 52)) rfl rfl (qP rfl (d:=.non) (aA rfl (aj (xName rfl) (aj (xName rfl) aJ)) (need_steps (k+1) h1 h4 S.ok hz)) ?_);refine dG (ρ:=Aj n l .no .no .no .no) (ρ':=Aj n l .no .no .no .no) (d:=ftq n n idQ) rfl rfl rfl (aA rfl (aj (aA rfl (aj (xName rfl) aJ) pl) aJ) (KJ (k+1) n (by omega) h1)) ?_;exact dJ (ρ:=Aj n l (.sh (ftq n n (mkQ n []))) .no .no .no) (ρ':=Aj n l (.sh (ftq n n (mkQ n []))) .no .no .no) rfl (wSq (x:=ssD l) rfl (xName rfl) rfl) hgo (tY (bx rfl (bx rfl (bx rfl (bx c1 (bx c2 (bx c3 rfl)))))) (xName rfl))
def qo(u d:Int):Rat:=(u:Rat) / (d:Rat)
def wK(l:D)(u d o:Sl):Rho:=[("_law_some_here",.sh l),("_law_up",u),("_law_down",d),("_law_one",o)]
def yg(u d:Nat->Int):Nat->Sl
 | 0=>.no
 | i+1=>.sh (frD (u i) (d i))
theorem Hy(u d:Nat->Int)(i:Nat):nOw (yg u d i)=true:=by cases i<;>rfl
theorem smB{x:Int}(h:x.natAbs<=1000000000000000000):small x=true:=by
 unfold small;rw[Y3z (by omega),Y3z (by omega)];rfl
theorem CV{a:Rat}{u d:Int}(hd:d≠0):qo (a.num*d+u*(a.den:Int)) ((a.den:Int)*d)=a+qo u d:=by
 unfold qo;have h1:=Zu hd;have h2:=gJ a;rw[U3z,T3z,T3z,T3z,jA a];show(a*(a.den:Rat)*(d:Rat)+(u:Rat)*(a.den:Rat)) / ((a.den:Rat)*(d:Rat))=a+(u:Rat) / (d:Rat);grind
theorem Hw(k:Nat){n:Nat}{u d:Nat->Int}(hd:∀ i,i<n->d i≠0)(hb:∀ i,i<n->(u i).natAbs<=1000000000000000000/\(d i).natAbs<=1000000000000000000)(hs:∀ i,i<n->Sq (dg i fun j=>qo (u j) (d j))):aG T 60 (k+2) "_law_sum" [.lst (Ls n fun i=>frD (u i) (d i))]=some (qD (dg n fun j=>qo (u j) (d j))):=by
 let L:D:=.lst (Ls n fun i=>frD (u i) (d i))
 let g:Nat->Rat:=fun j=>qo (u j) (d j)
 let R (i:Nat) (o:Sl):Rho:=wK L (.sh (.int (dg i g).num)) (.sh (.int ((dg i g).den:Int))) o
 refine bW (fd:=aQ (top 81)) rfl rfl (gTup (d:=.tup [.int 0,.int 1]) (ρ':=R 0 .no) rfl (cI (aj (ak rfl) (aj (ak rfl) aJ)) rfl) rfl rfl ?_);refine dJ (ρ:=R 0 .no) (ρ':=R 0 (yg u d 0)) (ρ2:=R n (yg u d n)) rfl (wSq (x:=L) rfl (xName rfl) rfl) (mW (R:=fun i=>R i (yg u d i)) fun i hi=>?_) (tY (ρ:=R n (yg u d n)) (bx rfl (bx rfl (bx rfl (bx (Hy u d n) rfl)))) (cI (aj (xName rfl) (aj (xName rfl) aJ)) rfl));have sq:=hs i hi;obtain⟨b1,b2⟩:=hb i hi;have d0:((dg i g).den:Int)*d i≠0:=W3z (tQ _) (hd i hi)
 have dz:(((dg i g).den:Int)*d i).natAbs<10000000000000000000000000000000000000000000000000000000000000000000000000000000000000000000000000000:=by
  rw[D4z];exact S1z (E4z sq.2 b2) (by decide +kernel)
 have ll:=Zq k (u:=(dg i g).num*d i+u i*((dg i g).den:Int)) d0 dz;rw[Oc d0,show(((dg i g).num*d i+u i*((dg i g).den:Int):Int):Rat) / ((((dg i g).den:Int)*d i:Int):Rat)=dg (i+1) g from CV (hd i hi)] at ll;refine dX (ρ1:=R i (.sh (frD (u i) (d i)))) rfl (Zz (ρ:=R i (.sh (frD (u i) (d i)))) (ρ':=R (i+1) (.sh (frD (u i) (d i)))) (d:=qD (dg (i+1) g)) rfl rfl ?_ rfl rfl bO);exact aA rfl (aj (cj (x:=.int ((dg i g).num*d i)) (y:=.int (u i*((dg i g).den:Int))) (cj (x:=.int (dg i g).num) (y:=.int (d i)) (xName rfl) (JD (xName rfl)) (nj (.inl (smB sq.1)))) (cj (x:=.int (u i)) (y:=.int ((dg i g).den:Int)) (zY (xName rfl)) (xName rfl) (nj (.inl (smB b1)))) rfl) (aj (cj (x:=.int ((dg i g).den:Int)) (y:=.int (d i)) (xName rfl) (JD (xName rfl)) (nj (.inl (smB (by exact sq.2))))) aJ)) ll
section
variable {n:Nat} {i j:Nat}
end
def shF:Nat->D
 | 0=>frD 0 1
 | 1=>frD 1 1
 | 2=>frD 2 1
 | 3=>frD 3 1
 | 4=>frD 1 2
 | 5=>frD 3 2
 | 6=>frD 2 3
 | _=>frD 5 1
theorem share(k:Nat)(ns:List Int)(a:Nat):aG T 60 (k+3) "_law_share" [scr ns,.int a]=some (shF (pickN ns a 8)):=by
 have h:=bR (ns:=ns) (k:=a) (many:=8) (by omega);have pk:=pick k ns a (many:=8) (by omega);generalize pickN ns a 8=p at h pk;refine bW (fd:=aQ (top 78)) rfl rfl (tY (ρ:=[("_law_script",.sh (scr ns)),("_law_at",.sh (.int a))]) rfl (xIx (x:=.lst [frD 0 1,frD 1 1,frD 2 1,frD 3 1,frD 1 2,frD 3 2,frD 2 3,frD 5 1]) (i:=(p:Int)) ?_ (aA rfl (aj (x:=scr ns) (xName rfl) (aj (xName rfl) (aj (ak rfl) aJ))) pk) rfl ?_))
 ·rfl
 ·match p,h with
  | 0,_=>rfl
  | 1,_=>rfl
  | 2,_=>rfl
  | 3,_=>rfl
  | 4,_=>rfl
  | 5,_=>rfl
  | 6,_=>rfl
  | 7,_=>rfl
def shN:Nat->Nat
 | 0=>0
 | 1=>6
 | 2=>12
 | 3=>18
 | 4=>3
 | 5=>9
 | 6=>4
 | _=>30
def shQ(p:Nat):Rat:=(shN p:Rat) / 6
def scQ(p:Nat):Rat:=if p=0 then 4 else shQ p
theorem Pu:∀ p,p<8->shN p<=30:=by decide
theorem Pq{p:Nat}(h:p<8):qD (shQ p)=shF p:=by
 match p,h with
 | 0,_=>rfl'
 | 1,_=>rfl'
 | 2,_=>rfl'
 | 3,_=>rfl'
 | 4,_=>rfl'
 | 5,_=>rfl'
 | 6,_=>rfl'
 | 7,_=>rfl'
theorem wG{p:Nat}(h:p<8):0<=shQ p/\0<scQ p:=by
 match p,h with
 | 0,_=>decide +kernel
 | 1,_=>decide +kernel
 | 2,_=>decide +kernel
 | 3,_=>decide +kernel
 | 4,_=>decide +kernel
 | 5,_=>decide +kernel
 | 6,_=>decide +kernel
 | 7,_=>decide +kernel
theorem Ga{p:Nat}(h:p<8):Qb 6 30 (shQ p):=⟨(shN p:Int),by
 show shQ p*(6:Rat)=((shN p:Nat):Rat)
 unfold shQ;grind,by have:=Pu p h;omega⟩
theorem Kh{p:Nat}(h:p<8):Qb 6 30 (scQ p):=by
 unfold scQ;split
 ·exact⟨24,by decide +kernel,by decide⟩
 ·exact Ga h
def NT:Nat->Nat
 | 0=>0
 | 1=>1
 | 2=>0
 | 3=>1
 | _=>2
theorem Fe(p:Nat):NT p<3:=by unfold NT;split<;>omega
def wV(ns:List Int)(n b:Nat):Nat:=if 1<n then NT (pickN ns b 5) else 2
def stV(ns:List Int)(at' n k:Nat):Stp:=⟨wV ns n (at'+1+4*k),if wV ns n (at'+1+4*k)=2 then pickN ns (at'+1+4*k+2) n else pickN ns (at'+1+4*k+2) (n-1),if wV ns n (at'+1+4*k)=2 then scQ (pickN ns (at'+1+4*k+1) 8) else shQ (pickN ns (at'+1+4*k+1) 8)⟩
def Dc(ns:List Int)(at' n m:Nat):List Stp:=(List.range m).map (stV ns at' n)
theorem JV{ns:List Int}{n b:Nat}:wV ns n b<3:=by
 unfold wV;split
 ·exact Fe _
 ·omega
theorem rK{ns:List Int}{at' n k:Nat}(h1:1<=n):okS n (stV ns at' n k)/\Bq n n 6 30 (stQ (stV ns at' n k)):=by
 have hp:=bR (ns:=ns) (k:=at'+1+4*k+1) (many:=8) (by omega);have hw:=JV (ns:=ns) (n:=n) (b:=at'+1+4*k)
 have qb:Qb 6 30 (stV ns at' n k).s:=by
  show Qb 6 30 (if wV ns n (at'+1+4*k)=2 then _ else _);split
  ·exact Kh hp
  ·exact Ga hp
 have pl:okP n (stV ns at' n k).w (stV ns at' n k).p=true:=by
  show okP n (wV ns n (at'+1+4*k)) (if wV ns n (at'+1+4*k)=2 then _ else _)=true
  by_cases q:wV ns n (at'+1+4*k)=2
  ·rw[R5z q,q]
   have:=bR (ns:=ns) (k:=at'+1+4*k+2) (many:=n) (by omega);simp[okP];exact this
  ·rw[S5z q]
   have n1:1<n:=by
    unfold wV at q
    by_cases z:1<n
    ·exact z
    ·rw[S5z z] at q;exact absurd rfl q
   have:=bR (ns:=ns) (k:=at'+1+4*k+2) (many:=n-1) (by omega);generalize wV ns n (at'+1+4*k)=w at hw q
   match w,hw with
   | 0,_=>simp[okP];omega
   | 1,_=>simp[okP];omega
   | 2,_=>exact absurd rfl q
 refine⟨⟨pl,?_,fun hq=>?_,qb.sq (by decide) (by decide) (by decide)⟩,fun i j _ _=>?_⟩
 ·show 0<=(if wV ns n (at'+1+4*k)=2 then _ else _)
  split
  ·exact Rat.le_of_lt (wG hp).2
  ·exact(wG hp).1
 ·have hq:wV ns n (at'+1+4*k)=2:=hq
  show 0<(if wV ns n (at'+1+4*k)=2 then _ else _);rw[R5z hq];exact(wG hp).2
 ·have i0:Qb 6 30 (idQ i j):=by
   unfold idQ;split
   ·exact Qb.one.up (by decide)
   ·exact Qb.zero.up (D5z _)
  unfold stQ;split
  ·split
   ·exact qb
   ·exact i0
  ·exact i0
theorem xT{ns:List Int}{at' n m:Nat}{x:Stp}(h:x∈Dc ns at' n m):∃ k,x=stV ns at' n k:=by
 obtain⟨k,_,rfl⟩:=List.mem_map.mp h;exact⟨k,rfl⟩
theorem Ke{n:Nat}{l:List Stp}(h1:1<=n)(hl:l.length<=7)(h:∀ x∈l,∃ ns at' k,x=stV ns at' n k):Sml n 6 30 l:=by
 refine⟨fun x hx=>?_,fun x hx=>?_,by decide,Q4z (B1z (by decide) hl) (by decide),Q4z (B1z (by decide) hl) (by decide),by decide,by decide⟩
 ·obtain⟨ns,a,k,rfl⟩:=h x hx;exact(rK h1).1
 ·obtain⟨ns,a,k,rfl⟩:=h x hx;exact(rK h1).2
theorem Wt{cx:Cxt}{sc:Scope}{ρ ρ' ρ2:Rho}{p:Pos}{F m:Nat}{r A B:List Stmt}{c:Expr}{fl:Fl}(hf:frz F c ρ=ρ')(h:ev cx F sc ρ' c=some (.bl false))(k:blk cx F m sc B ρ=some (.nxt ρ2))(k2:blk cx F (m+1) sc r ρ2=some fl):blk cx F (m+1) sc (.If c A B p::r) ρ=some fl:=by
 subst hf;exact Ws h k k2
def iC(ns:List Int)(a n m:Nat)(md k b w s:Sl):Rho:=[("_law_script",.sh (scr ns)),("_law_at",.sh (.int a)),("_law_many",.sh (.int n)),("_law_most",.sh (.int m)),("_law_made_here",md),("_law_k",k),("_law_base",b),("_law_word_here",w),("_law_share_here",s)]
theorem eqS{w:Nat}(h:w<3):cmpop .Eq (.str (wS w)) (.str "scale")=some (.bl (decide (w=2))):=by
 match w,h with
 | 0,_=>rfl'
 | 1,_=>rfl'
 | 2,_=>rfl'
theorem gt0{p:Nat}(h:p<8):cmpop .Gt (.int (shQ p).num) (.int 0)=some (.bl (decide (p≠0))):=by
 match p,h with
 | 0,_=>rfl'
 | 1,_=>rfl'
 | 2,_=>rfl'
 | 3,_=>rfl'
 | 4,_=>rfl'
 | 5,_=>rfl'
 | 6,_=>rfl'
 | 7,_=>rfl'
abbrev sSc:Scope:=(aQ (top 79)).sc
abbrev sF:Stmt:=cB 79 1
theorem xZ(k:Nat)(ns:List Int)(a:Nat){n mo:Nat}(h1:1<=n)(h4:n<=4)(hmo:mo<=100):aG T 60 (k+4) "_law_steps" [scr ns,.int a,.int n,.int mo]=some (ssD (Dc ns a n (pickN ns a (mo+1)))):=by
 have hm:=bR (ns:=ns) (k:=a) (many:=mo+1) (by omega);have pk:=pick (k+1) ns a (many:=mo+1) (by omega);generalize pickN ns a (mo+1)=m at hm pk
 obtain⟨ρ',⟨kk,b,w,s,c1,c2,c3,c4,rfl⟩,hgo⟩:=gQ (f:=fF (cxN T 60 (k+3)) 60 59 sSc (cG sF) (aU sF)) (h:=fun i=>.int i) (N:=m) (P:=fun i ρ=>∃ kk b w s,nOw kk=true/\nOw b=true/\nOw w=true/\nOw s=true/\ρ=iC ns a n mo (.ow (Ls i fun j=>stD (stV ns a n j))) kk b w s) (fun i ρ hi hP=>by
  obtain⟨kk,b,w,s,q1,q2,q3,q4,rfl⟩:=hP
  let bb:Nat:=a+1+4*i
  let md:Sl:=.ow (Ls i fun j=>stD (stV ns a n j))
  have hp:=bR (ns:=ns) (k:=bb+1) (many:=8) (by omega);have sh:=share k ns (bb+1);rw[<- Pq hp] at sh;refine⟨_,⟨.sh (.int i),.sh (.int (bb:Nat)),.sh (.str (wS (wV ns n bb))),.sh (qD (shQ (pickN ns (bb+1) 8))),rfl,rfl,rfl,rfl,rfl⟩,?_⟩;rw[zX (m:=i)];refine dX (ρ1:=iC ns a n mo md (.sh (.int i)) b w s) rfl (dG (ρ':=iC ns a n mo md (.sh (.int i)) b w s) (d:=.int (bb:Nat)) (ao rfl (ao rfl (ao rfl (ao rfl (gP rfl (ao rfl (ao q2 (ao q3 (ao q4 cZ))))))))) rfl rfl (vp (cj (x:=.int ((a:Int)+1)) (y:=.int (4*(i:Int))) (cj (x:=.int a) (y:=.int 1) (xName rfl) (ak rfl) rfl) (cj (x:=.int 4) (y:=.int i) (ak rfl) (xName rfl) (nj (.inl rfl))) rfl) (congrArg D.int (by show(a:Int)+1+4*i=((a+1+4*i:Nat):Int);omega))) ?_);refine dG (ρ':=iC ns a n mo md (.sh (.int i)) (.sh (.int (bb:Nat))) w s) (d:=.str (wS (wV ns n bb))) (ao rfl (ao rfl (ao rfl (ao rfl (gP rfl (ao rfl (ao rfl (ao q3 (ao q4 cZ))))))))) rfl rfl ?_ ?_
  ·by_cases z:1<n
   ·have h5:=bR (ns:=ns) (k:=bb) (many:=5) (by omega)
    have p5:=pick (k+1) ns bb (many:=5) (by omega);have e:wV ns n bb=NT (pickN ns bb 5):=R5z z;rw[e];generalize pickN ns bb 5=y at h5 p5;refine Jq (bK (x:=.int n) (y:=.int 1) (xName rfl) (ak rfl) (by rw[oGt,Y3z (by omega)])) (xIx (x:=.lst [.str "up",.str "down",.str "up",.str "down",.str "scale"]) (i:=(y:Int)) rfl (aA rfl (aj (x:=scr ns) (xName rfl) (aj (xName rfl) (aj (ak rfl) aJ))) p5) rfl ?_)
    match y,h5 with
    | 0,_=>rfl
    | 1,_=>rfl
    | 2,_=>rfl
    | 3,_=>rfl
    | 4,_=>rfl
   ·have e:wV ns n bb=2:=S5z z
    rw[e];exact Jr (bK (x:=.int n) (y:=.int 1) (xName rfl) (ak rfl) (by rw[oGt,A3z (by omega)])) (ak rfl)
  refine dG (ρ':=iC ns a n mo md (.sh (.int i)) (.sh (.int (bb:Nat))) (.sh (.str (wS (wV ns n bb)))) s) (d:=qD (shQ (pickN ns (bb+1) 8))) (ao rfl (ao rfl (ao rfl (ao rfl (gP rfl (ao rfl (ao rfl (ao rfl (ao q4 cZ))))))))) rfl rfl (aA rfl (aj (x:=scr ns) (xName rfl) (aj (x:=.int ((bb+1:Nat):Int)) (cj (x:=.int (bb:Nat)) (y:=.int 1) (xName rfl) (ak rfl) rfl) aJ)) sh) ?_
  let R:Rho:=iC ns a n mo md (.sh (.int i)) (.sh (.int (bb:Nat))) (.sh (.str (wS (wV ns n bb)))) (.sh (qD (shQ (pickN ns (bb+1) 8))))
  have fz:∀ e,dh 60 "_law_made_here" e=false->frz 60 e R=R:=fun e he=>ao rfl (ao rfl (ao rfl (ao rfl (gP he (ao rfl (ao rfl (ao rfl (ao rfl cZ))))))));have cnd:=eqS (JV (ns:=ns) (n:=n) (b:=bb))
  by_cases q:wV ns n bb=2
  ·have sd:stD (stV ns a n i)=.tup [.str (wS (wV ns n bb)),.int (pickN ns (bb+2) n:Nat),qD (scQ (pickN ns (bb+1) 8))]:=by
    show D.tup [.str (wS (wV ns n bb)),.int (((if wV ns n bb=2 then _ else _):Nat):Int),qD (if wV ns n bb=2 then _ else _)]=_;rw[R5z q,R5z q]
   rw[sd];refine Ie (ρ:=R) (ρ':=R) (ρ2:=iC ns a n mo (.ow ((Ls i fun j=>stD (stV ns a n j))++[.tup [.str (wS (wV ns n bb)),.int (pickN ns (bb+2) n:Nat),qD (scQ (pickN ns (bb+1) 8))]])) (.sh (.int i)) (.sh (.int (bb:Nat))) (.sh (.str (wS (wV ns n bb)))) (.sh (qD (shQ (pickN ns (bb+1) 8))))) (fz _ rfl) (bK (x:=.str (wS (wV ns n bb))) (y:=.str "scale") (xName rfl) (ak rfl) (by rw[cnd,Y3z q])) ?_ bO;refine uW (ρ:=R) (ρ':=R) (fz _ rfl) rfl rfl rfl (iy (by rw[dU];omega)) (cI (aj (xName rfl) (aj (aA rfl (aj (x:=scr ns) (xName rfl) (aj (x:=.int ((bb+2:Nat):Int)) (cj (x:=.int (bb:Nat)) (y:=.int 2) (xName rfl) (ak rfl) rfl) (aj (xName rfl) aJ))) (pick (k+1) ns (bb+2) (many:=n) (by omega))) (aj ?_ aJ))) rfl) bO;have g:=gt0 hp
   by_cases z:pickN ns (bb+1) 8=0
   ·rw[show scQ (pickN ns (bb+1) 8)=4 from R5z z]
    exact Jr (bK (x:=.int (shQ (pickN ns (bb+1) 8)).num) (y:=.int 0) (zY (xName rfl)) (ak rfl) (by rw[g,A3z (by omega)])) (cI (aj (ak rfl) (aj (ak rfl) aJ)) rfl)
   ·rw[show scQ (pickN ns (bb+1) 8)=shQ (pickN ns (bb+1) 8) from S5z z]
    exact Jq (bK (x:=.int (shQ (pickN ns (bb+1) 8)).num) (y:=.int 0) (zY (xName rfl)) (ak rfl) (by rw[g,Y3z z])) (xName rfl)
  ·have n1:1<n:=by
    unfold wV at q
    by_cases z:1<n
    ·exact z
    ·rw[S5z z] at q;exact absurd rfl q
   have sd:stD (stV ns a n i)=.tup [.str (wS (wV ns n bb)),.int (pickN ns (bb+2) (n-1):Nat),qD (shQ (pickN ns (bb+1) 8))]:=by
    show D.tup [.str (wS (wV ns n bb)),.int (((if wV ns n bb=2 then _ else _):Nat):Int),qD (if wV ns n bb=2 then _ else _)]=_;rw[S5z q,S5z q]
   rw[sd];refine Wt (ρ:=R) (ρ':=R) (ρ2:=iC ns a n mo (.ow ((Ls i fun j=>stD (stV ns a n j))++[.tup [.str (wS (wV ns n bb)),.int (pickN ns (bb+2) (n-1):Nat),qD (shQ (pickN ns (bb+1) 8))]])) (.sh (.int i)) (.sh (.int (bb:Nat))) (.sh (.str (wS (wV ns n bb)))) (.sh (qD (shQ (pickN ns (bb+1) 8))))) (fz _ rfl) (bK (x:=.str (wS (wV ns n bb))) (y:=.str "scale") (xName rfl) (ak rfl) (by rw[cnd,A3z q])) ?_ bO
   exact uW (ρ:=R) (ρ':=R) (fz _ rfl) rfl rfl rfl (iy (by rw[dU];omega)) (cI (aj (xName rfl) (aj (aA rfl (aj (x:=scr ns) (xName rfl) (aj (x:=.int ((bb+2:Nat):Int)) (cj (x:=.int (bb:Nat)) (y:=.int 2) (xName rfl) (ak rfl) rfl) (aj (x:=.int ((n-1:Nat):Int)) (vp (cj (x:=.int n) (y:=.int 1) (xName rfl) (ak rfl) rfl) (congrArg D.int (by omega))) aJ))) (pick (k+1) ns (bb+2) (many:=n-1) (by omega))) (aj (xName rfl) aJ))) rfl) bO) (ρ:=iC ns a n mo (.ow []) .no .no .no .no) ⟨.no,.no,.no,.no,rfl,rfl,rfl,rfl,rfl⟩
 refine bW (fd:=aQ (top 79)) rfl rfl (ZC (ρ:=iC ns a n mo .no .no .no .no .no) (d:=.lst []) rfl rfl (nC aJ rfl) ?_);refine dJ (ρ:=iC ns a n mo (.ow []) .no .no .no .no) (ρ':=iC ns a n mo (.ow []) .no .no .no .no) rfl (Fq (j:=m) rfl (aA rfl (aj (x:=scr ns) (xName rfl) (aj (xName rfl) (aj (x:=.int ((mo+1:Nat):Int)) (cj (x:=.int mo) (y:=.int 1) (xName rfl) (ak rfl) rfl) aJ))) pk) (by omega)) hgo ?_;refine gRetE (ρ':=iC ns a n mo (.sh (ssD (Dc ns a n m))) kk b w s) ?_ (xName rfl)
 have e:ssD (Dc ns a n m)=.lst (Ls m fun j=>stD (stV ns a n j)):=by
  show D.lst (((List.range m).map (stV ns a n)).map stD)=_;rw[X4z];rfl
 rw[e];exact ao rfl (ao rfl (ao rfl (ao rfl (tD rfl (ao c1 (ao c2 (ao c3 (ao c4 cZ))))))))
abbrev ti(l:List Int):D:=.tup (l.map D.int)
def prD(p:List Int×Rat):D:=.tup [ti p.1,qD p.2]
def wok(b:List Int)(f:Nat->Rat)(j:Nat):Bool:=decide (f j≠0) && !(b.any (· ==(j:Int)))
def wom(n:Nat)(b:List Int)(s:Rat)(f:Nat->Rat):List (List Int×Rat):=((List.range n).filter (wok b f)).map fun(j:Nat)=>(b++[(j:Int)],s*f j)
theorem JR{n:Nat}{b:List Int}{s:Rat}{f:Nat->Rat}:wom (n+1) b s f=wom n b s f++if wok b f n then[(b++[(n:Int)],s*f n)] else[]:=by
 unfold wom;rw[List.range_succ,List.filter_append,R3z];congr 1
 cases h:wok b f n<;>simp[U2z,h]
theorem qe{n:Nat}{b:List Int}{s:Rat}{f:Nat->Rat}:(wom n b s f).length<=n:=by
 unfold wom;rw[G3z];exact Q4z (V0z _ _) (by simp)
theorem nA:∀ l:List Int,iU (l.map D.int)=some l
 | []=>rfl
 | x::l=>by simp only[I4z,iU,nA l,L3z]
theorem Li{i:Int}{b:List Int}:cmpop .NotIn (.int i) (ti b)=some (.bl (!(b.any (· ==i)))):=by
 show(inT (.int i) (b.map D.int)).map _=_;unfold inT;simp only[asI,nA];rfl
theorem Qe{q:Rat}:cmpop .NotEq (.int q.num) (.int 0)=some (.bl (decide (q≠0))):=by
 rw[neI];congr 2
 by_cases h:q=0
 ·subst h;simp
 ·rw[Y3z h]
  have:=Dw h;simpa using this
theorem Kw{q:Rat}{cx:Cxt}{n:Nat}{sc:Scope}{ρ:Rho}{a b:Expr}{p:Pos}(h1:ev cx n sc ρ a=some (qD q))(h2:ev cx n sc ρ b=some (.int 0))(hs:aL b=true):ev cx (n+1) sc ρ (.Subscript a b p)=some (.int q.num):=xIx (x:=qD q) (i:=0) h1 h2 rfl at0 hs
theorem gRetE{cx:Cxt}{sc:Scope}{ρ ρ':Rho}{e:Expr}{p:Pos}{d:D}{F m:Nat}{r:List Stmt}(hf:frz F e ρ=ρ')(h:ev cx F sc ρ' e=some d):blk cx F (m+1) sc (.Return (some e) p::r) ρ=some (.ret d):=cQ (by rw[hf];exact h)
def vA(b s r:D)(t l m:Sl):Rho:=[("behind",.sh b),("share",.sh s),("row",.sh r),("told",t),("level",l),("more",m)]
def lvS:Nat->Sl
 | 0=>.no
 | i+1=>.sh (.int i)
theorem V8(i:Nat):nOw (lvS i)=true:=by cases i<;>rfl
theorem vP(k:Nat){n:Nat}{b:List Int}{s:Rat}{f:Nat->Rat}(h4:n<=4)(hb:b.length<=100)(hs:Sq s)(hf:∀ j,j<n->Sq (f j)):aG T 60 (k+4) "with_one_more" [ti b,qD s,rwq n f]=some (.lst ((wom n b s f).map prD)):=by
 refine bW (fd:=aQ (top 55)) rfl rfl (jg rfl (d:=.lst []) (nC aJ rfl) ?_)
 have go:=mW (f:=fF (cxN T 60 (k+3)) 60 59 (aQ (top 55)).sc (cG (cB 55 1)) (aU (cB 55 1))) (N:=n) (h:=fun i=>.tup [.int i,qD (f i)]) (R:=fun i=>vA (ti b) (qD s) (rwq n f) (.ow ((wom i b s f).map prD)) (lvS i) (uT f i)) fun i hi=>by
  refine dX (ρ1:=vA (ti b) (qD s) (rwq n f) (.ow ((wom i b s f).map prD)) (.sh (.int i)) (.sh (qD (f i)))) rfl ?_;have cd:ev (cxN T 60 (k+3)) 60 (aQ (top 55)).sc (vA (ti b) (qD s) (rwq n f) (.ow ((wom i b s f).map prD)) (.sh (.int i)) (.sh (qD (f i)))) (ifX ((aU (cB 55 1)).getD 0 (.Pass ⟨0,0,0,0⟩)))=some (.bl (wok b f i)):=bY (JF (bK (x:=.int (f i).num) (y:=.int 0) (Kw (xName rfl) (ak rfl) rfl) (ak rfl) Qe) fun _=>iw (bK (x:=.int i) (y:=ti b) (xName rfl) (xName rfl) Li));have wl:=qe (n:=i) (b:=b) (s:=s) (f:=f)
  cases q:wok b f i with
  | false =>
   rw[q] at cd;refine vI (ρ':=vA (ti b) (qD s) (rwq n f) (.ow ((wom i b s f).map prD)) (.sh (.int i)) (.sh (qD (f i)))) (ao rfl (ao rfl (ao rfl (gP rfl (ao rfl (ao rfl cZ)))))) cd ?_;show _=some (Fl.nxt (vA (ti b) (qD s) (rwq n f) (.ow ((wom (i+1) b s f).map prD)) (.sh (.int i)) (.sh (qD (f i)))));rw[JR,q];simp only[Q1z,O5z,E3z];exact bO
  | true =>
   rw[q] at cd;refine Ie (ρ':=vA (ti b) (qD s) (rwq n f) (.ow ((wom i b s f).map prD)) (.sh (.int i)) (.sh (qD (f i)))) (ρ2:=vA (ti b) (qD s) (rwq n f) (.ow ((wom i b s f).map prD++[prD (b++[(i:Int)],s*f i)])) (.sh (.int i)) (.sh (qD (f i)))) (ao rfl (ao rfl (ao rfl (gP rfl (ao rfl (ao rfl cZ)))))) cd ?_ ?_
   ·refine uW (ds:=(wom i b s f).map prD) (d:=prD (b++[(i:Int)],s*f i)) (ρ':=vA (ti b) (qD s) (rwq n f) (.ow ((wom i b s f).map prD)) (.sh (.int i)) (.sh (qD (f i)))) (ao rfl (ao rfl (ao rfl (gP rfl (ao rfl (ao rfl cZ)))))) rfl rfl rfl (iy (by rw[G3z];omega)) ?_ bO
    refine cI (aj (vp (cj (x:=ti b) (y:=.tup [.int i]) (xName rfl) (cI (aj (xName rfl) aJ) rfl) (Jl (by rw[G3z];simp;omega))) ?_) (aj (aA rfl (aj (xName rfl) (aj (xName rfl) aJ)) (lE k hs (hf i hi))) aJ)) rfl
    show D.tup _=D.tup _;rw[R3z];rfl
   ·show _=some (Fl.nxt (vA (ti b) (qD s) (rwq n f) (.ow ((wom (i+1) b s f).map prD)) (.sh (.int i)) (.sh (qD (f i)))))
    rw[JR,q,R3z];exact bO
 refine dJ (ρ:=vA (ti b) (qD s) (rwq n f) (.ow []) .no .no) (ρ':=vA (ti b) (qD s) (rwq n f) (.ow []) .no .no) (ao rfl (ao rfl (ao rfl (gP rfl (ao rfl (ao rfl cZ)))))) (O1 (h:=fun j=>qD (f j)) rfl (xName rfl)) go ?_;exact gRetE (ρ':=vA (ti b) (qD s) (rwq n f) (.sh (.lst ((wom n b s f).map prD))) (lvS n) (uT f n)) (ao rfl (ao rfl (ao rfl (tD rfl (ao (V8 n) (ao (yd f n) cZ)))))) (xName rfl)
def SlK(s:Sl):Prop:=s=.no\/∃ d,s=.sh d
def gst(n:Nat)(T:Nat->Nat->Rat)(M:List (List Int×Rat))(lv:Nat):List (List Int×Rat):=M.flatMap fun p=>wom n p.1 p.2 (T lv)
def goi(n:Nat)(T:Nat->Nat->Rat)(lvs:List Nat):List (List Int×Rat):=lvs.foldl (gst n T) [([],1)]
def jy(t l:D)(td lv lo be sh:Sl):Rho:=[("table",.sh t),("levels",.sh l),("told",td),("level",lv),("longer",lo),("behind",be),("share",sh)]
abbrev gF:Stmt:=cB 56 1
abbrev gI:Stmt:=(aU gF).getD 1 (.Pass ⟨0,0,0,0⟩)
abbrev gSc:Scope:=(aQ (top 56)).sc
section
variable {n:Nat} {G:Nat->Nat->Rat} {l:D}
theorem DY(k:Nat)(h4:n<=4){md:D}{lv:Nat}(hl:lv<n)(hG:∀ i j,i<n->j<n->Sq (G i j)):∀ (M A:List (List Int×Rat)) (be sh:Sl),SlK be->SlK sh->(∀ p∈M,p.1.length<=50/\Sq p.2)->A.length+4*M.length<=1000->∃ be' sh',SlK be'/\SlK sh'/\bU (fF (cxN T 60 (k+4)) 60 58 gSc (cG gI) (aU gI)) (M.map prD) (jy (ftq n n G) l (.sh md) (.sh (.int lv)) (.ow (A.map prD)) be sh)=some (.nxt (jy (ftq n n G) l (.sh md) (.sh (.int lv)) (.ow ((A++gst n G M lv).map prD)) be' sh'))
 | [],A,be,sh,h1,h2,_,_=>⟨be,sh,h1,h2,by simp only[gst,List.flatMap_nil,E3z];rfl⟩
 | p::M,A,be,sh,h1,h2,hp,hz=>by
  have wl:=qe (n:=n) (b:=p.1) (s:=p.2) (f:=G lv);simp only[P2z] at hz;obtain⟨be',sh',g1,g2,g3⟩:=DY k h4 (md:=md) hl hG M (A++wom n p.1 p.2 (G lv)) (.sh (ti p.1)) (.sh (qD p.2)) (.inr ⟨_,rfl⟩) (.inr ⟨_,rfl⟩) (fun q hq=>hp q (W0z _ hq)) (by rw[P1z];omega);refine⟨be',sh',g1,g2,?_⟩;obtain⟨q1,q2⟩:=hp p K1z;have wm:=vP k (n:=n) (b:=p.1) (s:=p.2) (f:=G lv) h4 (by omega) q2 fun j hj=>hG lv j hl hj
  have st:fF (cxN T 60 (k+4)) 60 58 gSc (cG gI) (aU gI) (prD p) (jy (ftq n n G) l (.sh md) (.sh (.int lv)) (.ow (A.map prD)) be sh)=some (.nxt (jy (ftq n n G) l (.sh md) (.sh (.int lv)) (.ow ((A++wom n p.1 p.2 (G lv)).map prD)) (.sh (ti p.1)) (.sh (qD p.2)))):=by
   refine dX (ρ1:=jy (ftq n n G) l (.sh md) (.sh (.int lv)) (.ow (A.map prD)) (.sh (ti p.1)) (.sh (qD p.2))) rfl ?_;rw[R3z];refine Zx (ds:=A.map prD) (zs:=(wom n p.1 p.2 (G lv)).map prD) rfl rfl rfl rfl (iy (by rw[G3z,G3z];omega)) ?_ rfl;exact aA rfl (aj (x:=ti p.1) (xName rfl) (aj (x:=qD p.2) (xName rfl) (aj (x:=rwq n (G lv)) (CN (m:=n) (j:=lv) (h:=fun i=>rwq n (G i)) (xName rfl) (xName rfl) hl rfl rfl) aJ))) wm
  simp only[I4z,bU,st];rw[show A++gst n G (p::M) lv=A++wom n p.1 p.2 (G lv)++gst n G M lv by simp[gst]];exact g3
def mdP(M:List (List Int×Rat))(s:Sl):Prop:=s=.ow (M.map prD)\/s=.sh (.lst (M.map prD))
theorem yD(k:Nat)(h4:n<=4)(hG:∀ i j,i<n->j<n->Sq (G i j)):∀ (lvs:List Nat) (M:List (List Int×Rat)) (md lv lo be sh:Sl),mdP M md->SlK lv->SlK lo->SlK be->SlK sh->(∀ x∈lvs,x<n)->(∀ pre x post,pre++x::post=lvs->(pre.foldl (gst n G) M).length<=200/\∀ p∈pre.foldl (gst n G) M,p.1.length<=50/\Sq p.2) ->
  ∃ md' lv' lo' be' sh',mdP (lvs.foldl (gst n G) M) md'/\SlK lv'/\SlK lo'/\SlK be'/\SlK sh'/\bU (fF (cxN T 60 (k+4)) 60 59 gSc (cG gF) (aU gF)) (lvs.map fun(x:Nat)=>D.int x) (jy (ftq n n G) l md lv lo be sh)=some (.nxt (jy (ftq n n G) l md' lv' lo' be' sh'))
 | [],M,md,lv,lo,be,sh,h,h1,h2,h3,h5,_,_=>⟨md,lv,lo,be,sh,h,h1,h2,h3,h5,rfl⟩
 | x::lvs,M,md,lv,lo,be,sh,h,h1,h2,h3,h5,hx,hq=>by
  obtain⟨z1,z2⟩:=hq [] x lvs rfl;have z1:M.length<=200:=z1;have z2:∀ p∈M,p.1.length<=50/\Sq p.2:=z2;obtain⟨be1,sh1,q1,q2,q3⟩:=DY k h4 (l:=l) (md:=.lst (M.map prD)) (hx x K1z) hG M [] be sh h3 h5 z2 (by simp;omega);obtain⟨md',lv',lo',be',sh',r0,r1,r2,r3,r4,r5⟩:=yD k h4 hG lvs (gst n G M x) (.sh (.lst ((gst n G M x).map prD))) (.sh (.int x)) (.sh (.lst ((gst n G M x).map prD))) be1 sh1 (.inr rfl) (.inr ⟨_,rfl⟩) (.inr ⟨_,rfl⟩) q1 q2 (fun y hy=>hx y (W0z _ hy)) (fun pre y post e=>hq (x::pre) y post (by rw[<- e];rfl));refine⟨md',lv',lo',be',sh',r0,r1,r2,r3,r4,?_⟩
  have c3:nOw be=true:=by rcases h3 with rfl | ⟨_,rfl⟩<;>rfl
  have c5:nOw sh=true:=by rcases h5 with rfl | ⟨_,rfl⟩<;>rfl
  have c2:nOw lo=true:=by rcases h2 with rfl | ⟨_,rfl⟩<;>rfl
  have d1:nOw be1=true:=by rcases q1 with rfl | ⟨_,rfl⟩<;>rfl
  have d2:nOw sh1=true:=by rcases q2 with rfl | ⟨_,rfl⟩<;>rfl
  have st:fF (cxN T 60 (k+4)) 60 59 gSc (cG gF) (aU gF) (.int x) (jy (ftq n n G) l md lv lo be sh)=some (.nxt (jy (ftq n n G) l (.sh (.lst ((gst n G M x).map prD))) (.sh (.int x)) (.sh (.lst ((gst n G M x).map prD))) be1 sh1)):=by
   refine dX (ρ1:=jy (ftq n n G) l md (.sh (.int x)) lo be sh) rfl ?_
   have s2:blk (cxN T 60 (k+4)) 60 59 gSc ((aU gF).drop 2) (jy (ftq n n G) l (.sh (.lst (M.map prD))) (.sh (.int x)) (.ow ((gst n G M x).map prD)) be1 sh1)=some (.nxt (jy (ftq n n G) l (.sh (.lst ((gst n G M x).map prD))) (.sh (.int x)) (.sh (.lst ((gst n G M x).map prD))) be1 sh1)) :=
    dG (d:=.lst ((gst n G M x).map prD)) (ρ':=jy (ftq n n G) l (.sh (.lst (M.map prD))) (.sh (.int x)) (.sh (.lst ((gst n G M x).map prD))) be1 sh1) (ao rfl (ao rfl (ao rfl (ao rfl (tD rfl (ao d1 (ao d2 cZ))))))) rfl rfl (xName rfl) bO
   rcases h with rfl | rfl
   ·refine BP (ρ':=jy (ftq n n G) l (.ow (M.map prD)) (.sh (.int x)) lo be sh) (d:=.lst []) (ao rfl (ao rfl (gP rfl (ao rfl (ao c2 (ao c3 (ao c5 cZ))))))) rfl (nC aJ rfl) ?_ (hno:=by rcases h2 with rfl | ⟨_,rfl⟩<;>rcases h3 with rfl | ⟨_,rfl⟩<;>rcases h5 with rfl | ⟨_,rfl⟩<;>rfl)
    exact dJ (ρ:=jy (ftq n n G) l (.ow (M.map prD)) (.sh (.int x)) (.ow []) be sh) (ρ':=jy (ftq n n G) l (.sh (.lst (M.map prD))) (.sh (.int x)) (.ow []) be sh) (ao rfl (ao rfl (tD rfl (ao rfl (gP rfl (ao c3 (ao c5 cZ))))))) (wSq (x:=.lst (M.map prD)) rfl (xName rfl) rfl) q3 s2
   ·refine BP (ρ':=jy (ftq n n G) l (.sh (.lst (M.map prD))) (.sh (.int x)) lo be sh) (d:=.lst []) (ao rfl (ao rfl (ao rfl (ao rfl (ao c2 (ao c3 (ao c5 cZ))))))) rfl (nC aJ rfl) ?_ (hno:=by rcases h2 with rfl | ⟨_,rfl⟩<;>rcases h3 with rfl | ⟨_,rfl⟩<;>rcases h5 with rfl | ⟨_,rfl⟩<;>rfl)
    exact dJ (ρ:=jy (ftq n n G) l (.sh (.lst (M.map prD))) (.sh (.int x)) (.ow []) be sh) (ρ':=jy (ftq n n G) l (.sh (.lst (M.map prD))) (.sh (.int x)) (.ow []) be sh) (ao rfl (ao rfl (ao rfl (ao rfl (gP rfl (ao c3 (ao c5 cZ))))))) (wSq (x:=.lst (M.map prD)) rfl (xName rfl) rfl) q3 s2
  simp only[I4z,bU,st];exact r5
theorem goings(k:Nat)(h4:n<=4)(hG:∀ i j,i<n->j<n->Sq (G i j)){lvs:List Nat}(hx:∀ x∈lvs,x<n)(hq:∀ pre x post,pre++x::post=lvs->(pre.foldl (gst n G) [([],1)]).length<=200/\∀ p∈pre.foldl (gst n G) [([],1)],p.1.length<=50/\Sq p.2):aG T 60 (k+5) "goings" [ftq n n G,.tup (lvs.map fun(x:Nat)=>D.int x)]=some (.lst ((goi n G lvs).map prD)):=by
 have p1:[prD ([],1)]=[D.tup [.tup [],.tup [.int 1,.int 1]]]:=rfl;obtain⟨md',lv',lo',be',sh',r0,r1,r2,r3,r4,r5⟩:=yD k h4 (l:=.tup (lvs.map fun(x:Nat)=>D.int x)) hG lvs [([],1)] (.ow [prD ([],1)]) .no .no .no .no (.inl rfl) (.inl rfl) (.inl rfl) (.inl rfl) (.inl rfl) hx hq;refine bW (fd:=aQ (top 56)) rfl rfl (jg rfl (d:=.lst [prD ([],1)]) (nC (aj (cI (aj (cI aJ rfl) (aj (cI (aj (ak rfl) (aj (ak rfl) aJ)) rfl) aJ)) rfl) aJ) rfl) ?_);refine dJ (ρ:=jy (ftq n n G) (.tup (lvs.map fun(x:Nat)=>D.int x)) (.ow [prD ([],1)]) .no .no .no .no) (ρ':=jy (ftq n n G) (.tup (lvs.map fun(x:Nat)=>D.int x)) (.ow [prD ([],1)]) .no .no .no .no) (ao rfl (ao rfl (gP rfl (ao rfl (ao rfl (ao rfl (ao rfl cZ))))))) (Ab (xs:=lvs.map fun(x:Nat)=>D.int x) rfl (xName rfl)) r5 ?_
 have c1:nOw lv'=true:=by rcases r1 with rfl | ⟨_,rfl⟩<;>rfl
 have c2:nOw lo'=true:=by rcases r2 with rfl | ⟨_,rfl⟩<;>rfl
 have c3:nOw be'=true:=by rcases r3 with rfl | ⟨_,rfl⟩<;>rfl
 have c4:nOw sh'=true:=by rcases r4 with rfl | ⟨_,rfl⟩<;>rfl
 rcases r0 with rfl | rfl
 ·exact gRetE (ρ':=jy (ftq n n G) _ (.sh (.lst ((goi n G lvs).map prD))) lv' lo' be' sh') (ao rfl (ao rfl (tD rfl (ao c1 (ao c2 (ao c3 (ao c4 cZ))))))) (xName rfl)
 ·exact gRetE (ρ':=jy (ftq n n G) _ (.sh (.lst ((goi n G lvs).map prD))) lv' lo' be' sh') (ao rfl (ao rfl (ao rfl (ao c1 (ao c2 (ao c3 (ao c4 cZ))))))) (xName rfl)
end
theorem bf{s:Sl}(h:SlK s):nOw s=true:=by rcases h with rfl | ⟨_,rfl⟩<;>rfl
theorem gC{d:D}:SlK (.sh d):=.inr ⟨_,rfl⟩
abbrev tbs(n:Nat)(l:List Stp):D:=.lst (l.map fun x=>ftq n n (stQ x))
theorem step_tables(k:Nat){n:Nat}{l:List Stp}(h4:n<=4)(hl:∀ x∈l,okS n x)(hz:l.length<=100):aG T 60 (k+7) "step_tables" [.int n,ssD l]=some (tbs n l):=by
 refine bW (fd:=aQ (top 54)) rfl rfl (cQ (cD (l:=l.map stD) rfl (wSq (x:=ssD l) rfl (xName rfl) rfl) (iy (by rw[G3z];omega)) (dH fun x hx=>cX rfl ?_)))
 have o:=hl x hx;have w:=Bj o.pl;have p:=rZ o.pl;exact aA rfl (aj (xName rfl) (aj (x:=.str (wS x.w)) (xName rfl) (aj (x:=.int (x.p:Int)) (xName rfl) (aj (x:=qD x.s) (xName rfl) aJ)))) (CQ k n (by omega) x.w w x.p (by omega) o.pl)
structure Rn where
 pre:List Nat
 x:Nat
 s:Rat
def js(n:Nat)(G:Nat->Nat->Rat)(x:Nat):List Nat:=(List.range n).filter (wok [] (G x))
theorem W4{n:Nat}{G:Nat->Nat->Rat}{x:Nat}:wom n [] 1 (G x)=(js n G x).map fun(j:Nat)=>([(j:Int)],1*G x j):=rfl
def nxR(n:Nat)(G:Nat->Nat->Rat)(r:Rn):List Rn:=(js n G r.x).map fun j=>⟨r.pre++[r.x],j,r.s*(1*G r.x j)⟩
def rst(n:Nat)(M:List Rn)(G:Nat->Nat->Rat):List Rn:=M.flatMap (nxR n G)
def fY(t s:D)(td tb lo ru sh be mo:Sl):Rho:=[("tables",.sh t),("some",.sh s),("told",td),("table",tb),("longer",lo),("run",ru),("share",sh),("behind",be),("more",mo)]
abbrev rF:Stmt:=cB 57 1
abbrev rG:Stmt:=(aU rF).getD 1 (.Pass ⟨0,0,0,0⟩)
abbrev rH:Stmt:=(aU rG).getD 0 (.Pass ⟨0,0,0,0⟩)
abbrev rSc:Scope:=(aQ (top 57)).sc
theorem nu{l:List D}{x:D}:atD (l++[x]) (-1)=some x:=by
 unfold atD ixD;rw[S5z (by omega),R5z (by simp;omega),Q2z]
 have e:(-1+((l++[x]).length:Int)).toNat=l.length:=by simp;omega
 rw[e];simp
section
variable {n:Nat} {G:Nat->Nat->Rat} {ts so md:D} {r:Rn}
end
section
variable {n:Nat} {G:Nat->Nat->Rat} {ts so md:D}
end
def runs(n:Nat)(L:List Stp)(x:Nat):List Rn:=L.foldl (fun M y=>rst n M (stQ y)) [⟨[],x,1⟩]
abbrev niD(L:List Nat):D:=.tup (L.map fun(x:Nat)=>D.int x)
theorem pB{α:Type}{f:D->Option (Option D)}{h g:α->D}{t:α->Bool}:∀ {l:List α},(∀ x∈l,f (h x)=some (if t x then some (g x) else none))->bG f (l.map h)=some ((l.filter t).map g)
 | [],_=>rfl
 | x::l,q=>by
  have h1:=q x K1z;have h2:=pB (l:=l) fun y hy=>q y (W0z _ hy);simp only[I4z,bG,h1]
  cases ht:t x with
  | true=>simp only[Q5z,U2z,ht,I4z,h2];rfl
  | false=>simp only[Q1z,O5z,U2z,ht];exact h2
theorem need_place(k:Nat){n x:Nat}(h:x<n):aG T 60 (k+4) "need_place" [.int x,.int n]=some .non :=
 um (fd:=aQ (top 19)) rfl rfl (pX (cL (aA rfl (aj (xName rfl) (aj (xName rfl) aJ)) (is_place k h))) bO)
section
variable {cx:Cxt} {n:Nat} {sc:Scope} {ρ ρ':Rho} {e e2 a b k v:Expr} {p q px ap:Pos} {d x y z:D} {kk:List Int} {nm y0:Str} {F m:Nat} {r:List Stmt} {fl:Fl} {l:List (List Int×D)}
theorem ZJ(h1:ev cx n sc ρ k=some y)(h2:uU y=some kk)(h3:ev cx n sc ρ v=some d):ev cx (n+1) sc ρ (.Dict [some k] [v] p)=some (.dt [kk] [d]):=by
 have h:dt1 (ev cx n sc ρ) [some k] [v]=some (.dt [kk] [d]):=by simp only[dt1,h1,h3,bind,Option.bind,h2]
 simp only[ev,h]
theorem JM{M:Str}(hl:(ap.endLine==p.line&&M=="get"&&aL e&&aL e2)=true)(h1:ev cx n sc ρ (.Name nm px)=some x)(h2:ev cx n sc ρ e=some y)(h3:ev cx n sc ρ e2=some z)(h:Ib x y z=some d):ev cx (n+1) sc ρ (.Call (.Attribute (.Name nm px) M ap) [e,e2] [] p)=some d:=by
 simp only[ev,hl,Q5z];simp only[h1,h2,h3,bind,Option.bind,h]
theorem Ov{M:Str}{g a1:Expr}{as:List Expr}{gp:Pos}(hl:(ap.endLine==p.line&&M=="get"&&aL e&&aL e2)=true)(h1:ev cx n sc ρ (.Call g (a1::as) [] gp)=some x)(h2:ev cx n sc ρ e=some y)(h3:ev cx n sc ρ e2=some z)(h:Ib x y z=some d):ev cx (n+1) sc ρ (.Call (.Attribute (.Call g (a1::as) [] gp) M ap) [e,e2] [] p)=some d:=by
 simp only[ev,hl,Q5z];simp only[h1,h2,h3,bind,Option.bind,h]
theorem wIt{us:List D}(hw:pR cx sc e=.it a)(h1:ev cx n sc ρ a=some x)(h2:Jz x=some us):evI cx true (ev cx n sc ρ) sc e=some us:=by
 unfold evI;simp only[hw,h1,bind,Option.bind,Q5z,h2]
theorem gD0{dp:Pos}(ho:(ownIn sc nm&&(ρ.map (·.1)).contains nm)=true)(hc:mG ρ nm=true)(hF:0<F)(hk:blk cx F (m+1) sc r (cC ρ nm (.od []))=some fl):blk cx F (m+1) sc (.Assign [.Name nm px] (.Dict [] [] dp) p::r) ρ=some fl:=by
 refine gSt (fl1:=.nxt (cC ρ nm (.od []))) ?_ hk;obtain⟨F,rfl⟩:∃ F',F=F'+1:=⟨F-1,by omega⟩;have h:ev cx (F+1) sc (frz (F+1) (.Dict [] [] dp) ρ) (.Dict [] [] dp)=none:=rfl;simp only[st,R5z ho,h,hc];rfl
theorem Wr{tp:Pos}{ie:Expr}(hf:frz F e ρ=ρ')(ha:Nv nm e=none)(hx:(frz F ie ρ').lookup nm=some (.sh x))(hx2:ρ.lookup nm=some (.od l))(ho:(ownIn sc nm&&aH nm && !aZ e)=true)(h:ev cx F sc ρ' e=some d)(h1:ev cx F sc ρ' ie=some y)(h2:uU y=some kk)(hfl:(fB d&&decide (l.length<=1000))=true)(hk:blk cx F (m+1) sc r (cC ρ nm (.od (Dk l kk d)))=some fl):blk cx F (m+1) sc (.Assign [.Subscript (.Name nm px) ie tp] e p::r) ρ=some fl:=by
 subst hf;refine gSt (fl1:=.nxt _) ?_ hk;simp only[st,ha,hx,hx2,R5z ho,h,h1,h2,bind,Option.bind,R5z hfl]
theorem M4(h:dh F y0 e=false)(hq:frz F e ρ=ρ'):frz F e ((y0,.od l)::ρ)=(y0,.od l)::ρ':=by
 rw[mU,hq];simp only[h,Q1z,O5z]
theorem MP(h:dh F y0 e=true)(hq:frz F e ρ=ρ'):frz F e ((y0,.od l)::ρ)=(y0,.sh (fK l))::ρ':=by
 rw[mU,hq];simp only[h,Q5z]
end
def ed(p:Nat×Rat):List Int×D:=([(p.1:Int)],qD p.2)
abbrev EN:=List (Nat×Rat)
def putN(E:EN)(j:Nat)(v:Rat):EN:=if(E.any fun q=>decide (q.1=j))=true then E.map (fun q=>if q.1=j then(q.1,v) else q) else E++[(j,v)]
def V9(E:EN)(j:Nat):Option Rat:=(E.find? fun q=>decide (q.1=j)).map (·.2)
def vE(E:EN)(j:Nat):Rat:=(V9 E j).getD 0
def pst(G:Nat->Nat->Rat)(p:Nat×Rat)(E:EN)(j:Nat):EN:=putN E j (vE E j+p.2*(1*G p.1 j))
def hst(n:Nat)(G:Nat->Nat->Rat)(E:EN)(p:Nat×Rat):EN:=(js n G p.1).foldl (pst G p) E
def iK(t s:D)(sh tb la le sa be mo:Sl):Rho:=[("tables",.sh t),("some",.sh s),("shares",sh),("table",tb),("later",la),("levels",le),("share",sa),("behind",be),("more",mo)]
abbrev hF:Stmt:=cB 59 1
abbrev hG:Stmt:=(aU hF).getD 1 (.Pass ⟨0,0,0,0⟩)
abbrev hH:Stmt:=(aU hG).getD 0 (.Pass ⟨0,0,0,0⟩)
abbrev hSc:Scope:=(aQ (top 59)).sc
theorem M7(q:Rat):fB (qD q)=true:=rfl
section
variable {n:Nat} {G:Nat->Nat->Rat} {ts so sd:D} {p:Nat×Rat}
end
section
variable {n:Nat} {G:Nat->Nat->Rat} {ts so sd:D}
end
section
variable {n:Nat} {ts so:D}
end
theorem yJ{α β:Type}{f:α->List β}{b:Nat}:∀ {l:List α},(∀ a∈l,(f a).length<=b)->(l.flatMap f).length<=l.length*b
 | [],_=>by simp
 | a::l,h=>by
  have i:=yJ (l:=l) fun x hx=>h x (W0z _ hx);have:=h a K1z;simp only[F2z,P1z,P2z,Nat.add_mul,Nat.one_mul];omega
def bB:List Rat->Rat
 | []=>0
 | q::r=>q+bB r
theorem lK:∀ a b:List Rat,bB (a++b)=bB a+bB b
 | [],b=>by simp only[N3z,bB];grind
 | q::a,b=>by simp only[Y2z,bB,lK a b];grind
theorem nQ{D B:Nat}:∀ {l:List Rat},(∀ q∈l,Qb D B q)->Qb D (l.length*B) (bB l)
 | [],_=>by rw[List.length_nil,Nat.zero_mul];exact Qb.zero
 | q::l,h=>by
  have:=(h q K1z).add (nQ fun p hp=>h p (W0z _ hp));rw[P2z,T4z,Nat.add_comm];exact this
theorem v8{q:Rat}(l:List Rat):bB (l++[q])=bB l+q:=by
 rw[lK];simp only[bB];grind
theorem dzQ{a q:Rat}(ha:Sq a)(hq:Sq q):((a.den:Int)*(q.den:Int)).natAbs<10000000000000000000000000000000000000000000000000000000000000000000000000000000000000000000000000000:=by
 rw[D4z];exact S1z (E4z ha.2 hq.2) (by decide +kernel)
theorem Bt(k:Nat){l:List Rat}(hl:∀ q∈l,Sq q)(hp:∀ pre post,pre++post=l->Sq (bB pre)):aG T 60 (k+2) "_law_sum" [.lst (l.map qD)]=some (qD (bB l)):=by
 refine bW (fd:=aQ (top 81)) rfl rfl (gTup (d:=.tup [.int 0,.int 1]) (ρ':=wK (.lst (l.map qD)) (.sh (.int (bB []).num)) (.sh (.int ((bB []).den:Int))) .no) rfl (cI (aj (ak rfl) (aj (ak rfl) aJ)) rfl) rfl rfl ?_)
 obtain⟨ρ',⟨o,ho,rfl⟩,go⟩:=d9 (f:=fF (cxN T 60 (k+1)) 60 59 (aQ (top 81)).sc (cG (cB 81 1)) (aU (cB 81 1))) (g:=qD) (whole:=l) (P:=fun pre ρ=>∃ o,nOw o=true/\ρ=wK (.lst (l.map qD)) (.sh (.int (bB pre).num)) (.sh (.int ((bB pre).den:Int))) o) (fun pre q post ρ e=>fun⟨o,ho,hρ⟩=>by
  subst hρ;have sq:=hp pre (q::post) e;have s2:=hl q (by rw[<- e];simp);have d0:((bB pre).den:Int)*(q.den:Int)≠0:=W3z (tQ _) (tQ _);have ll:=Zq k (u:=(bB pre).num*(q.den:Int)+q.num*((bB pre).den:Int)) d0 (dzQ sq s2);rw[Oc d0,show(((bB pre).num*(q.den:Int)+q.num*((bB pre).den:Int):Int):Rat) / ((((bB pre).den:Int)*(q.den:Int):Int):Rat)=bB pre+q from(CV (tQ q)).trans (by rw[show qo q.num (q.den:Int)=q from by unfold qo;rw[jA q];have:=gJ q;show q*(q.den:Rat) / (q.den:Rat)=q;grind]),<- v8] at ll;refine⟨wK (.lst (l.map qD)) (.sh (.int (bB (pre++[q])).num)) (.sh (.int ((bB (pre++[q])).den:Int))) (.sh (qD q)),⟨_,rfl,rfl⟩,?_⟩;refine dX (ρ1:=wK (.lst (l.map qD)) (.sh (.int (bB pre).num)) (.sh (.int ((bB pre).den:Int))) (.sh (qD q))) rfl (Zz (ρ:=wK (.lst (l.map qD)) (.sh (.int (bB pre).num)) (.sh (.int ((bB pre).den:Int))) (.sh (qD q))) (ρ':=wK (.lst (l.map qD)) (.sh (.int (bB (pre++[q])).num)) (.sh (.int ((bB (pre++[q])).den:Int))) (.sh (qD q))) (d:=qD (bB (pre++[q]))) rfl rfl ?_ rfl rfl bO)
  exact aA rfl (aj (cj (x:=.int ((bB pre).num*(q.den:Int))) (y:=.int (q.num*((bB pre).den:Int))) (cj (x:=.int (bB pre).num) (y:=.int (q.den:Int)) (xName rfl) (JD (xName rfl)) (nj (.inl (smB sq.1)))) (cj (x:=.int q.num) (y:=.int ((bB pre).den:Int)) (zY (xName rfl)) (xName rfl) (nj (.inl (smB s2.1)))) rfl) (aj (cj (x:=.int ((bB pre).den:Int)) (y:=.int (q.den:Int)) (xName rfl) (JD (xName rfl)) (nj (.inl (smB (by exact sq.2))))) aJ)) ll) (pre:=[]) (l:=l) rfl ⟨.no,rfl,rfl⟩
 refine dJ (ρ:=wK (.lst (l.map qD)) (.sh (.int (bB []).num)) (.sh (.int ((bB []).den:Int))) .no) (ρ':=wK (.lst (l.map qD)) (.sh (.int (bB []).num)) (.sh (.int ((bB []).den:Int))) .no) (ρ2:=wK (.lst (l.map qD)) (.sh (.int (bB l).num)) (.sh (.int ((bB l).den:Int))) o) rfl (wSq (x:=.lst (l.map qD)) rfl (xName rfl) rfl) go ?_;exact tY (ρ:=wK (.lst (l.map qD)) (.sh (.int (bB l).num)) (.sh (.int ((bB l).den:Int))) o) (bx rfl (bx rfl (bx rfl (bx ho rfl)))) (cI (aj (xName rfl) (aj (xName rfl) aJ)) rfl)
structure Rg where
 pre:List (List Nat)
 x:List Nat
 s:Rat
def rgD(r:Rg):D:=.tup [.tup ((r.pre++[r.x]).map niD),qD r.s]
def pgD(p:List Nat×Rat):D:=.tup [niD p.1,qD p.2]
abbrev GF:=List Nat->List (List Nat×Rat)
def nxG(F:GF)(r:Rg):List Rg:=(F r.x).map fun j=>⟨r.pre++[r.x],j.1,r.s*j.2⟩
def rsg(M:List Rg)(F:GF):List Rg:=M.flatMap (nxG F)
section
variable {tb ts so md:D} {r:Rg}
theorem Dd(k:Nat)(hp:r.pre.length<=50)(hs:Sq r.s):∀ (J:List (List Nat×Rat)) (A:List Rg) (be mo:Sl),SlK be->SlK mo->(∀ j∈J,Sq j.2)->A.length+J.length<=1000->∃ be' mo',SlK be'/\SlK mo'/\bU (fF (cxN T 60 (k+5)) 60 57 rSc (cG rH) (aU rH)) (J.map pgD) (fY ts so (.sh md) (.sh tb) (.ow (A.map rgD)) (.sh (.tup ((r.pre++[r.x]).map niD))) (.sh (qD r.s)) be mo)=some (.nxt (fY ts so (.sh md) (.sh tb) (.ow ((A++J.map fun j=>(⟨r.pre++[r.x],j.1,r.s*j.2⟩:Rg)).map rgD)) (.sh (.tup ((r.pre++[r.x]).map niD))) (.sh (qD r.s)) be' mo'))
 | [],A,be,mo,h1,h2,_,_=>⟨be,mo,h1,h2,by simp only[U4z,E3z];rfl⟩
 | j::J,A,be,mo,h1,h2,hj,hz=>by
  simp only[P2z] at hz;obtain⟨be',mo',g1,g2,g3⟩:=Dd k hp hs J (A++[(⟨r.pre++[r.x],j.1,r.s*j.2⟩:Rg)]) (.sh (niD j.1)) (.sh (qD j.2)) gC gC (fun q hq=>hj q (W0z _ hq)) (by rw[P1z];simp;omega);refine⟨be',mo',g1,g2,?_⟩
  have st:fF (cxN T 60 (k+5)) 60 57 rSc (cG rH) (aU rH) (pgD j) (fY ts so (.sh md) (.sh tb) (.ow (A.map rgD)) (.sh (.tup ((r.pre++[r.x]).map niD))) (.sh (qD r.s)) be mo)=some (.nxt (fY ts so (.sh md) (.sh tb) (.ow ((A++[(⟨r.pre++[r.x],j.1,r.s*j.2⟩:Rg)]).map rgD)) (.sh (.tup ((r.pre++[r.x]).map niD))) (.sh (qD r.s)) (.sh (niD j.1)) (.sh (qD j.2)))):=by
   refine dX (ρ1:=fY ts so (.sh md) (.sh tb) (.ow (A.map rgD)) (.sh (.tup ((r.pre++[r.x]).map niD))) (.sh (qD r.s)) (.sh (niD j.1)) (.sh (qD j.2))) rfl ?_;rw[R3z (f:=rgD)];refine uW (ds:=A.map rgD) (d:=rgD ⟨r.pre++[r.x],j.1,r.s*j.2⟩) (ρ':=fY ts so (.sh md) (.sh tb) (.ow (A.map rgD)) (.sh (.tup ((r.pre++[r.x]).map niD))) (.sh (qD r.s)) (.sh (niD j.1)) (.sh (qD j.2))) (ao rfl (ao rfl (ao rfl (ao rfl (gP rfl (ao rfl (ao rfl (ao rfl (ao rfl cZ))))))))) rfl rfl rfl (iy (by rw[G3z];omega)) ?_ bO;refine cI (aj (vp (cj (x:=.tup ((r.pre++[r.x]).map niD)) (y:=.tup [niD j.1]) (xName rfl) (cI (aj (xName rfl) aJ) rfl) (Jl (by rw[G3z];simp;omega))) ?_) (aj (aA rfl (aj (x:=qD r.s) (xName rfl) (aj (x:=qD j.2) (xName rfl) aJ)) (lE (k+2) hs (hj j K1z))) aJ)) rfl;simp
  simp only[I4z,bU,st];rw[show A++((⟨r.pre++[r.x],j.1,r.s*j.2⟩:Rg)::J.map fun j=>(⟨r.pre++[r.x],j.1,r.s*j.2⟩:Rg))=A++[(⟨r.pre++[r.x],j.1,r.s*j.2⟩:Rg)]++J.map fun j=>(⟨r.pre++[r.x],j.1,r.s*j.2⟩:Rg) by simp];exact g3
end
structure rGk (k:Nat) (tb:D) (F:GF) (r:Rg):Prop where
 len:r.pre.length<=50
 s:Sq r.s
 few:(F r.x).length<=4
 sq:∀ j∈F r.x,Sq j.2
 go:aG T 60 (k+5) "goings" [tb,niD r.x]=some (.lst ((F r.x).map pgD))
section
variable {tb ts so md:D} {F:GF}
theorem wF(k:Nat):∀ (M A:List Rg) (ru sh be mo:Sl),SlK ru->SlK sh->SlK be->SlK mo->(∀ r∈M,rGk k tb F r)->A.length+4*M.length<=1000->∃ ru' sh' be' mo',SlK ru'/\SlK sh'/\SlK be'/\SlK mo'/\bU (fF (cxN T 60 (k+5)) 60 58 rSc (cG rG) (aU rG)) (M.map rgD) (fY ts so (.sh md) (.sh tb) (.ow (A.map rgD)) ru sh be mo)=some (.nxt (fY ts so (.sh md) (.sh tb) (.ow ((A++rsg M F).map rgD)) ru' sh' be' mo'))
 | [],A,ru,sh,be,mo,h1,h2,h3,h5,_,_=>⟨ru,sh,be,mo,h1,h2,h3,h5,by simp only[rsg,List.flatMap_nil,E3z];rfl⟩
 | r::M,A,ru,sh,be,mo,h1,h2,h3,h5,hr,hz=>by
  simp only[P2z] at hz;obtain⟨o1,o2,o3,o4,o5⟩:=hr r K1z;obtain⟨be1,mo1,q1,q2,q3⟩:=Dd k (tb:=tb) (ts:=ts) (so:=so) (md:=md) (r:=r) o1 o2 (F r.x) A be mo h3 h5 o4 (by omega);obtain⟨ru',sh',be',mo',g1,g2,g3,g4,g5⟩:=wF k M (A++nxG F r) (.sh (.tup ((r.pre++[r.x]).map niD))) (.sh (qD r.s)) be1 mo1 gC gC q1 q2 (fun q hq=>hr q (W0z _ hq)) (by rw[P1z];unfold nxG;rw[G3z];omega);refine⟨ru',sh',be',mo',g1,g2,g3,g4,?_⟩
  have st:fF (cxN T 60 (k+5)) 60 58 rSc (cG rG) (aU rG) (rgD r) (fY ts so (.sh md) (.sh tb) (.ow (A.map rgD)) ru sh be mo)=some (.nxt (fY ts so (.sh md) (.sh tb) (.ow ((A++nxG F r).map rgD)) (.sh (.tup ((r.pre++[r.x]).map niD))) (.sh (qD r.s)) be1 mo1)):=by
   refine dX (ρ1:=fY ts so (.sh md) (.sh tb) (.ow (A.map rgD)) (.sh (.tup ((r.pre++[r.x]).map niD))) (.sh (qD r.s)) be mo) rfl ?_;refine dJ (l:=(F r.x).map pgD) (ρ':=fY ts so (.sh md) (.sh tb) (.ow (A.map rgD)) (.sh (.tup ((r.pre++[r.x]).map niD))) (.sh (qD r.s)) be mo) (ρ2:=fY ts so (.sh md) (.sh tb) (.ow ((A++nxG F r).map rgD)) (.sh (.tup ((r.pre++[r.x]).map niD))) (.sh (qD r.s)) be1 mo1) (ao rfl (ao rfl (ao rfl (ao rfl (gP rfl (ao rfl (ao rfl (ao (bf h3) (ao (bf h5) cZ))))))))) (wSq (x:=.lst ((F r.x).map pgD)) rfl (aA rfl (aj (x:=tb) (xName rfl) (aj (x:=niD r.x) (xIx (x:=.tup ((r.pre++[r.x]).map niD)) (i := -1) (xName rfl) (EY (ak rfl)) rfl ?_) aJ)) o5) rfl) q3 bO;rw[R3z];exact nu
  simp only[I4z,bU,st];rw[show A++rsg (r::M) F=A++nxG F r++rsg M F by simp[rsg]];exact g5
def mdS(M:List Rg)(s:Sl):Prop:=s=.ow (M.map rgD)\/s=.sh (.lst (M.map rgD))
theorem wC(k:Nat):∀ (L:List (D×GF)) (M:List Rg) (td tb lo ru sh be mo:Sl),mdS M td->SlK tb->SlK lo->SlK ru->SlK sh->SlK be->SlK mo->(∀ pre x post,pre++x::post=L->(pre.foldl (fun M x=>rsg M x.2) M).length<=200/\∀ r∈pre.foldl (fun M x=>rsg M x.2) M,rGk k x.1 x.2 r) ->
  ∃ td' tb' lo' ru' sh' be' mo',mdS (L.foldl (fun M x=>rsg M x.2) M) td'/\SlK tb'/\SlK lo'/\SlK ru'/\SlK sh'/\SlK be'/\SlK mo'/\bU (fF (cxN T 60 (k+5)) 60 59 rSc (cG rF) (aU rF)) (L.map (·.1)) (fY ts so td tb lo ru sh be mo)=some (.nxt (fY ts so td' tb' lo' ru' sh' be' mo'))
 | [],M,td,tb,lo,ru,sh,be,mo,h,h1,h2,h3,h5,h6,h7,_=>⟨td,tb,lo,ru,sh,be,mo,h,h1,h2,h3,h5,h6,h7,rfl⟩
 | x::L,M,td,tb,lo,ru,sh,be,mo,h,h1,h2,h3,h5,h6,h7,hq=>by
  obtain⟨z1,z2⟩:=hq [] x L rfl;have z1:M.length<=200:=z1;obtain⟨ru1,sh1,be1,mo1,q1,q2,q3,q4,q5⟩:=wF k (tb:=x.1) (F:=x.2) (ts:=ts) (so:=so) (md:=.lst (M.map rgD)) M [] ru sh be mo h3 h5 h6 h7 z2 (by simp;omega);obtain⟨td',tb',lo',ru',sh',be',mo',r0,r1,r2,r3,r4,r5,r6,r7⟩:=wC k L (rsg M x.2) (.sh (.lst ((rsg M x.2).map rgD))) (.sh (x.1)) (.sh (.lst ((rsg M x.2).map rgD))) ru1 sh1 be1 mo1 (.inr rfl) gC gC q1 q2 q3 q4 (fun pre y post e=>hq (x::pre) y post (by rw[<- e];rfl));refine⟨td',tb',lo',ru',sh',be',mo',r0,r1,r2,r3,r4,r5,r6,?_⟩
  have st:fF (cxN T 60 (k+5)) 60 59 rSc (cG rF) (aU rF) (x.1) (fY ts so td tb lo ru sh be mo)=some (.nxt (fY ts so (.sh (.lst ((rsg M x.2).map rgD))) (.sh (x.1)) (.sh (.lst ((rsg M x.2).map rgD))) ru1 sh1 be1 mo1)):=by
   refine dX (ρ1:=fY ts so td (.sh (x.1)) lo ru sh be mo) rfl ?_
   have s2:blk (cxN T 60 (k+5)) 60 59 rSc ((aU rF).drop 2) (fY ts so (.sh (.lst (M.map rgD))) (.sh (x.1)) (.ow ((rsg M x.2).map rgD)) ru1 sh1 be1 mo1)=some (.nxt (fY ts so (.sh (.lst ((rsg M x.2).map rgD))) (.sh (x.1)) (.sh (.lst ((rsg M x.2).map rgD))) ru1 sh1 be1 mo1)) :=
    dG (d:=.lst ((rsg M x.2).map rgD)) (ρ':=fY ts so (.sh (.lst (M.map rgD))) (.sh (x.1)) (.sh (.lst ((rsg M x.2).map rgD))) ru1 sh1 be1 mo1) (ao rfl (ao rfl (ao rfl (ao rfl (tD rfl (ao (bf q1) (ao (bf q2) (ao (bf q3) (ao (bf q4) cZ))))))))) rfl rfl (xName rfl) bO
   rcases h with rfl | rfl
   ·refine BP (ρ':=fY ts so (.ow (M.map rgD)) (.sh (x.1)) lo ru sh be mo) (d:=.lst []) (ao rfl (ao rfl (gP rfl (ao rfl (ao (bf h2) (ao (bf h3) (ao (bf h5) (ao (bf h6) (ao (bf h7) cZ))))))))) rfl (nC aJ rfl) ?_ (hno:=by rcases h2 with rfl | ⟨_,rfl⟩<;>rcases h3 with rfl | ⟨_,rfl⟩<;>rcases h5 with rfl | ⟨_,rfl⟩<;>rcases h6 with rfl | ⟨_,rfl⟩<;>rcases h7 with rfl | ⟨_,rfl⟩<;>rfl)
    exact dJ (ρ:=fY ts so (.ow (M.map rgD)) (.sh (x.1)) (.ow []) ru sh be mo) (ρ':=fY ts so (.sh (.lst (M.map rgD))) (.sh (x.1)) (.ow []) ru sh be mo) (ao rfl (ao rfl (tD rfl (ao rfl (gP rfl (ao (bf h3) (ao (bf h5) (ao (bf h6) (ao (bf h7) cZ))))))))) (wSq (x:=.lst (M.map rgD)) rfl (xName rfl) rfl) q5 s2
   ·refine BP (ρ':=fY ts so (.sh (.lst (M.map rgD))) (.sh (x.1)) lo ru sh be mo) (d:=.lst []) (ao rfl (ao rfl (ao rfl (ao rfl (ao (bf h2) (ao (bf h3) (ao (bf h5) (ao (bf h6) (ao (bf h7) cZ))))))))) rfl (nC aJ rfl) ?_ (hno:=by rcases h2 with rfl | ⟨_,rfl⟩<;>rcases h3 with rfl | ⟨_,rfl⟩<;>rcases h5 with rfl | ⟨_,rfl⟩<;>rcases h6 with rfl | ⟨_,rfl⟩<;>rcases h7 with rfl | ⟨_,rfl⟩<;>rfl)
    exact dJ (ρ:=fY ts so (.sh (.lst (M.map rgD))) (.sh (x.1)) (.ow []) ru sh be mo) (ρ':=fY ts so (.sh (.lst (M.map rgD))) (.sh (x.1)) (.ow []) ru sh be mo) (ao rfl (ao rfl (ao rfl (ao rfl (gP rfl (ao (bf h3) (ao (bf h5) (ao (bf h6) (ao (bf h7) cZ))))))))) (wSq (x:=.lst (M.map rgD)) rfl (xName rfl) rfl) q5 s2
  simp only[I4z,bU,st];exact r7
end
def eZ(L:List (D×GF))(x:List Nat):List Rg:=L.foldl (fun M y=>rsg M y.2) [⟨[],x,1⟩]
abbrev tbg(L:List (D×GF)):D:=.lst (L.map (·.1))
theorem uK(k:Nat){x:List Nat}{L:List (D×GF)}(hq:∀ pre y post,pre++y::post=L->(eZ pre x).length<=200/\∀ r∈eZ pre x,rGk k y.1 y.2 r):aG T 60 (k+6) "runs_from" [tbg L,niD x]=some (.lst ((eZ L x).map rgD)):=by
 obtain⟨td',tb',lo',ru',sh',be',mo',r0,r1,r2,r3,r4,r5,r6,r7⟩:=wC k (ts:=tbg L) (so:=niD x) L [⟨[],x,1⟩] (.ow [rgD ⟨[],x,1⟩]) .no .no .no .no .no .no (.inl rfl) (.inl rfl) (.inl rfl) (.inl rfl) (.inl rfl) (.inl rfl) (.inl rfl) hq;refine bW (fd:=aQ (top 57)) rfl rfl (jg rfl (d:=.lst [rgD ⟨[],x,1⟩]) (nC (aj (cI (aj (x:=.tup [niD x]) (cI (aj (xName rfl) aJ) rfl) (aj (cI (aj (ak rfl) (aj (ak rfl) aJ)) rfl) aJ)) rfl) aJ) rfl) ?_);refine dJ (ρ:=fY (tbg L) (niD x) (.ow [rgD ⟨[],x,1⟩]) .no .no .no .no .no .no) (ρ':=fY (tbg L) (niD x) (.ow [rgD ⟨[],x,1⟩]) .no .no .no .no .no .no) (ao rfl (ao rfl (gP rfl (ao rfl (ao rfl (ao rfl (ao rfl (ao rfl (ao rfl cZ))))))))) (wSq (x:=tbg L) rfl (xName rfl) rfl) r7 ?_;rcases r0 with rfl | rfl
 ·exact gRetE (ρ':=fY (tbg L) (niD x) (.sh (.lst ((eZ L x).map rgD))) tb' lo' ru' sh' be' mo') (ao rfl (ao rfl (tD rfl (ao (bf r1) (ao (bf r2) (ao (bf r3) (ao (bf r4) (ao (bf r5) (ao (bf r6) cZ))))))))) (xName rfl)
 ·exact gRetE (ρ':=fY (tbg L) (niD x) (.sh (.lst ((eZ L x).map rgD))) tb' lo' ru' sh' be' mo') (ao rfl (ao rfl (ao rfl (ao (bf r1) (ao (bf r2) (ao (bf r3) (ao (bf r4) (ao (bf r5) (ao (bf r6) cZ))))))))) (xName rfl)
def inG(l:List Nat):List Int:=l.map fun(x:Nat)=>(x:Int)
theorem yw:∀ {a b:List Nat},inG a=inG b->a=b
 | [],[],_=>rfl
 | [],_::_,h=>by simp[inG] at h
 | _::_,[],h=>by simp[inG] at h
 | x::a,y::b,h=>by
  have h:(x:Int)::inG a=(y:Int)::inG b:=h;injection h with h1 h2;rw[yw h2,show x=y by omega]
theorem Hr{l:List Nat}:niD l=.tup ((inG l).map D.int):=by
 unfold inG;rw[X4z];rfl
theorem qL{l:List Nat}:uU (niD l)=some (inG l):=by
 rw[Hr];exact nA _
def edG(p:List Nat×Rat):List Int×D:=(inG p.1,qD p.2)
abbrev EG:=List (List Nat×Rat)
def wQ(E:EG)(j:List Nat)(v:Rat):EG:=if(E.any fun q=>decide (q.1=j))=true then E.map (fun q=>if q.1=j then(q.1,v) else q) else E++[(j,v)]
def uQ(E:EG)(j:List Nat):Option Rat:=(E.find? fun q=>decide (q.1=j)).map (·.2)
def vG(E:EG)(j:List Nat):Rat:=(uQ E j).getD 0
theorem tM{p:List Nat×Rat}{j:List Nat}:((edG p).1=inG j)↔p.1=j:=by
 show inG p.1=inG j↔_;constructor
 ·exact yw
 ·intro h;rw[h]
theorem Gn{E:EG}{j:List Nat}{v:Rat}:Dk (E.map edG) (inG j) (qD v)=(wQ E j v).map edG:=by
 unfold Dk wQ
 have e:((E.map edG).any fun q=>decide (q.1=inG j))=E.any fun q=>decide (q.1=j):=by
  rw[List.any_map];congr 1;funext p;exact decide_eq_decide.mpr tM
 rw[e];split
 ·rw[X4z,X4z]
  refine I1z fun p _=>?_;show(if(edG p).1=inG j then((edG p).1,qD v) else edG p)=edG (if p.1=j then(p.1,v) else p)
  by_cases h:p.1=j
  ·rw[R5z h,R5z (tM.mpr h)];rfl
  ·rw[S5z h,S5z fun z=>h (tM.mp z)]
 ·rw[R3z];rfl
theorem vJ(E:EG):((E.map edG).map (·.1)).zip ((E.map edG).map (·.2))=E.map edG:=by
 induction E with
 | nil=>rfl
 | cons p E ih=>simp only[I4z,List.zip_cons_cons,ih]
theorem qO{E:EG}{j:List Nat}:Ib (fK (E.map edG)) (niD j) (qD 0)=some (qD (vG E j)):=by
 show(uU (niD j)).map (fun k=>(xV (((E.map edG).map (·.1)).zip ((E.map edG).map (·.2))) k).getD (qD 0))=_;rw[qL,L3z];rw[vJ];congr 1;unfold xV vG uQ;rw[List.find?_map]
 have e:((fun q:List Int×D=>decide (q.1=inG j))∘edG)=fun q=>decide (q.1=j):=by
  funext p;exact decide_eq_decide.mpr tM
 rw[e]
 cases E.find? fun q=>decide (q.1=j)<;>rfl
theorem HB{E:EG}:Jz (fK (E.map edG))=some (E.map fun p=>pgD p):=by
 show some ((((E.map edG).map (·.1)).zip ((E.map edG).map (·.2))).map fun q=>D.tup [.tup (q.1.map D.int),q.2])=_;rw[vJ,X4z];congr 1;refine I1z fun p _=>?_;show D.tup [.tup ((inG p.1).map D.int),qD p.2]=D.tup [niD p.1,qD p.2];rw[Hr]
theorem JW{E:EG}{j i:List Nat}{v:Rat}:vG (wQ E j v) i=if i=j then v else vG E i:=by
 unfold wQ vG uQ;split
 ·rename_i h
  induction E with
  | nil=>simp at h
  | cons p E ih =>
   simp only[I4z,List.find?_cons]
   by_cases c:p.1=j
   ·rw[R5z c]
    by_cases ci:i=j
    ·subst ci;simp[c]
    ·have:¬ p.1=i:=fun z=>ci (z.symm.trans c)
     simp only[this,W4z];rw[S5z ci]
     by_cases ha:(E.any fun q=>decide (q.1=j))=true
     ·have:=ih ha
      rw[S5z ci] at this;exact this
     ·have e:E.map (fun q=>if q.1=j then(q.1,v) else q)=E:=by
       refine(I1z fun q hq=>?_).trans (List.map_id E);have:¬ q.1=j:=fun z=>ha (List.any_eq_true.mpr ⟨q,hq,by simp[z]⟩);rw[S5z this];rfl
      rw[e]
   ·rw[S5z c]
    have ha:(E.any fun q=>decide (q.1=j))=true:=by
     simp only[L4z,c,W4z,Bool.false_or] at h;exact h
    by_cases ci:p.1=i
    ·have:¬ i=j:=fun z=>c (ci.trans z)
     simp[ci,this]
    ·simp only[ci,W4z]
     exact ih ha
 ·rename_i h
  rw[List.find?_append];have hn:∀ q∈E,¬ q.1=j:=fun q hq z=>h (List.any_eq_true.mpr ⟨q,hq,by simp[z]⟩)
  by_cases ci:i=j
  ·subst ci
   have e:E.find? (fun q=>decide (q.1=i))=none:=List.find?_eq_none.mpr fun q hq=>by simp[hn q hq]
   rw[e];simp
  ·cases e:E.find? (fun q=>decide (q.1=i)) with
   | some q=>simp[ci]
   | none =>
    have:¬ j=i:=fun z=>ci z.symm;simp[ci,this]
theorem Ao{E:EG}{j:List Nat}{v:Rat}:(wQ E j v).length<=E.length+1:=by
 unfold wQ;split
 ·rw[G3z];omega
 ·simp
def vC(p:List Nat×Rat)(E:EG)(j:List Nat×Rat):EG:=wQ E j.1 (vG E j.1+p.2*j.2)
def pW(F:GF)(E:EG)(p:List Nat×Rat):EG:=(F p.1).foldl (vC p) E
def zj(F:GF)(E:EG):EG:=E.foldl (pW F) []
section
variable {tb ts so sd:D} {p:List Nat×Rat}
theorem DP(k:Nat)(hp:Sq p.2):∀ (J:List (List Nat×Rat)) (E:EG) (be mo:Sl),SlK be->SlK mo->(∀ j∈J,Sq j.2/\Sq (p.2*j.2))->(∀ pre j post,pre++j::post=J->Sq (vG (pre.foldl (vC p) E) j.1))->E.length+J.length<=500->∃ be' mo',SlK be'/\SlK mo'/\bU (fF (cxN T 60 (k+5)) 60 57 hSc (cG hH) (aU hH)) (J.map pgD) (iK ts so (.sh sd) (.sh tb) (.od (E.map edG)) (.sh (niD p.1)) (.sh (qD p.2)) be mo)=some (.nxt (iK ts so (.sh sd) (.sh tb) (.od ((J.foldl (vC p) E).map edG)) (.sh (niD p.1)) (.sh (qD p.2)) be' mo'))
 | [],E,be,mo,h1,h2,_,_,_=>⟨be,mo,h1,h2,rfl⟩
 | j::J,E,be,mo,h1,h2,hj,hv,hz=>by
  simp only[P2z] at hz;have pl:=Ao (E:=E) (j:=j.1) (v:=vG E j.1+p.2*j.2);obtain⟨be',mo',g1,g2,g3⟩:=DP k hp J (vC p E j) (.sh (niD j.1)) (.sh (qD j.2)) gC gC (fun q hq=>hj q (W0z _ hq)) (fun pre i post e=>hv (j::pre) i post (by rw[<- e];rfl)) (by unfold vC;omega);refine⟨be',mo',g1,g2,?_⟩;obtain⟨s1,s2⟩:=hj j K1z;have s3:Sq (vG E j.1):=hv [] j J rfl
  have st:fF (cxN T 60 (k+5)) 60 57 hSc (cG hH) (aU hH) (pgD j) (iK ts so (.sh sd) (.sh tb) (.od (E.map edG)) (.sh (niD p.1)) (.sh (qD p.2)) be mo)=some (.nxt (iK ts so (.sh sd) (.sh tb) (.od ((vC p E j).map edG)) (.sh (niD p.1)) (.sh (qD p.2)) (.sh (niD j.1)) (.sh (qD j.2)))):=by
   refine dX (ρ1:=iK ts so (.sh sd) (.sh tb) (.od (E.map edG)) (.sh (niD p.1)) (.sh (qD p.2)) (.sh (niD j.1)) (.sh (qD j.2))) rfl ?_;unfold vC;rw[<- Gn];refine Wr (ρ':=iK ts so (.sh sd) (.sh tb) (.sh (fK (E.map edG))) (.sh (niD p.1)) (.sh (qD p.2)) (.sh (niD j.1)) (.sh (qD j.2))) (x:=fK (E.map edG)) (l:=E.map edG) (d:=qD (vG E j.1+p.2*j.2)) (y:=niD j.1) (kk:=inG j.1) (ao rfl (ao rfl (ao rfl (ao rfl (MP rfl (ao rfl (ao rfl (ao rfl (ao rfl cZ))))))))) rfl rfl rfl rfl ?_ (xName rfl) qL ?_ bO
   ·refine aA rfl (aj (x:=qD (vG E j.1)) (JM rfl (xName rfl) (xName rfl) (cI (aj (ak rfl) (aj (ak rfl) aJ)) rfl) qO) (aj (x:=qD (p.2*j.2)) (aA rfl (aj (x:=qD p.2) (xName rfl) (aj (x:=qD j.2) (xName rfl) aJ)) (lE (k+2) hp s1)) aJ)) (J8 (k+2) s3 s2)
   ·rw[M7,G3z,Y3z (by omega)];rfl
  simp only[I4z,bU,st];exact g3
end
structure hGk (k:Nat) (tb:D) (F:GF) (E0 E:EG):Prop where
 lt:∀ p∈E,Sq p.2/\(F p.1).length<=100/\(∀ j∈F p.1,Sq j.2/\Sq (p.2*j.2))/\aG T 60 (k+5) "goings" [tb,niD p.1]=some (.lst ((F p.1).map pgD))
 mid:∀ pre p post,pre++p::post=E->(pre.foldl (pW F) E0).length<=100/\∀ pj j pt,pj++j::pt=F p.1->Sq (vG (pj.foldl (vC p) (pre.foldl (pW F) E0)) j.1)
section
variable {tb ts so sd:D} {F:GF}
theorem yj(k:Nat):∀ (E E0:EG) (le sa be mo:Sl),SlK le->SlK sa->SlK be->SlK mo->hGk k tb F E0 E->∃ le' sa' be' mo',SlK le'/\SlK sa'/\SlK be'/\SlK mo'/\bU (fF (cxN T 60 (k+5)) 60 58 hSc (cG M41.hG) (aU M41.hG)) (E.map pgD) (iK ts so (.sh sd) (.sh tb) (.od (E0.map edG)) le sa be mo)=some (.nxt (iK ts so (.sh sd) (.sh tb) (.od ((E.foldl (pW F) E0).map edG)) le' sa' be' mo'))
 | [],E0,le,sa,be,mo,h1,h2,h3,h5,_=>⟨le,sa,be,mo,h1,h2,h3,h5,rfl⟩
 | p::E,E0,le,sa,be,mo,h1,h2,h3,h5,O=>by
  obtain⟨o2,o3,o4,o5⟩:=O.lt p K1z;obtain⟨m1,m2⟩:=O.mid [] p E rfl;have m1:E0.length<=100:=m1;obtain⟨be1,mo1,q1,q2,q3⟩:=DP k (tb:=tb) (ts:=ts) (so:=so) (sd:=sd) (p:=p) o2 (F p.1) E0 be mo h3 h5 o4 m2 (by omega);obtain⟨le',sa',be',mo',g1,g2,g3,g4,g5⟩:=yj k E (pW F E0 p) (.sh (niD p.1)) (.sh (qD p.2)) be1 mo1 gC gC q1 q2 ⟨fun q hq=>O.lt q (W0z _ hq),fun pre q post e=>O.mid (p::pre) q post (by rw[<- e];rfl)⟩;refine⟨le',sa',be',mo',g1,g2,g3,g4,?_⟩
  have st:fF (cxN T 60 (k+5)) 60 58 hSc (cG M41.hG) (aU M41.hG) (pgD p) (iK ts so (.sh sd) (.sh tb) (.od (E0.map edG)) le sa be mo)=some (.nxt (iK ts so (.sh sd) (.sh tb) (.od ((pW F E0 p).map edG)) (.sh (niD p.1)) (.sh (qD p.2)) be1 mo1)):=by
   refine dX (ρ1:=iK ts so (.sh sd) (.sh tb) (.od (E0.map edG)) (.sh (niD p.1)) (.sh (qD p.2)) be mo) rfl ?_;exact dJ (l:=(F p.1).map pgD) (ρ':=iK ts so (.sh sd) (.sh tb) (.od (E0.map edG)) (.sh (niD p.1)) (.sh (qD p.2)) be mo) (ρ2:=iK ts so (.sh sd) (.sh tb) (.od ((pW F E0 p).map edG)) (.sh (niD p.1)) (.sh (qD p.2)) be1 mo1) (ao rfl (ao rfl (ao rfl (ao rfl (M4 rfl (ao rfl (ao rfl (ao (bf h3) (ao (bf h5) cZ))))))))) (wSq (x:=.lst ((F p.1).map pgD)) rfl (aA rfl (aj (x:=tb) (xName rfl) (aj (x:=niD p.1) (xName rfl) aJ)) o5) rfl) q3 bO
  simp only[I4z,bU,st];exact g5
end
def gD(L:List (D×GF))(x:List Nat):EG:=L.foldl (fun E y=>zj y.2 E) [(x,1)]
section
variable {ts so:D}
theorem yh(k:Nat):∀ (L:List (D×GF)) (E:EG) (tb la le sa be mo:Sl),SlK tb->SlK la->SlK le->SlK sa->SlK be->SlK mo->(∀ pre x post,pre++x::post=L->hGk k x.1 x.2 [] (pre.foldl (fun E y=>zj y.2 E) E)) ->
  ∃ tb' la' le' sa' be' mo',SlK tb'/\SlK la'/\SlK le'/\SlK sa'/\SlK be'/\SlK mo'/\bU (fF (cxN T 60 (k+5)) 60 59 hSc (cG hF) (aU hF)) (L.map (·.1)) (iK ts so (.sh (fK (E.map edG))) tb la le sa be mo)=some (.nxt (iK ts so (.sh (fK ((L.foldl (fun E y=>zj y.2 E) E).map edG))) tb' la' le' sa' be' mo'))
 | [],E,tb,la,le,sa,be,mo,h1,h2,h3,h5,h6,h7,_=>⟨tb,la,le,sa,be,mo,h1,h2,h3,h5,h6,h7,rfl⟩
 | x::L,E,tb,la,le,sa,be,mo,h1,h2,h3,h5,h6,h7,hq=>by
  obtain⟨le1,sa1,be1,mo1,q1,q2,q3,q4,q5⟩:=yj k (tb:=x.1) (F:=x.2) (ts:=ts) (so:=so) (sd:=fK (E.map edG)) E [] le sa be mo h3 h5 h6 h7 (hq [] x L rfl);obtain⟨tb',la',le',sa',be',mo',r1,r2,r3,r4,r5,r6,r7⟩:=yh k L (zj x.2 E) (.sh x.1) (.sh (fK ((zj x.2 E).map edG))) le1 sa1 be1 mo1 gC gC q1 q2 q3 q4 (fun pre y post e=>hq (x::pre) y post (by rw[<- e];rfl));refine⟨tb',la',le',sa',be',mo',r1,r2,r3,r4,r5,r6,?_⟩
  have st:fF (cxN T 60 (k+5)) 60 59 hSc (cG hF) (aU hF) x.1 (iK ts so (.sh (fK (E.map edG))) tb la le sa be mo)=some (.nxt (iK ts so (.sh (fK ((zj x.2 E).map edG))) (.sh x.1) (.sh (fK ((zj x.2 E).map edG))) le1 sa1 be1 mo1)):=by
   refine dX (ρ1:=iK ts so (.sh (fK (E.map edG))) (.sh x.1) la le sa be mo) rfl ?_;refine gD0 rfl ?_ (by decide) ?_
   ·rcases h3 with rfl | ⟨_,rfl⟩<;>rcases h5 with rfl | ⟨_,rfl⟩<;>rcases h6 with rfl | ⟨_,rfl⟩<;>rcases h7 with rfl | ⟨_,rfl⟩<;>rfl
   refine dJ (l:=E.map pgD) (ρ:=iK ts so (.sh (fK (E.map edG))) (.sh x.1) (.od (([]:EG).map edG)) le sa be mo) (ρ':=iK ts so (.sh (fK (E.map edG))) (.sh x.1) (.od (([]:EG).map edG)) le sa be mo) (ao rfl (ao rfl (ao rfl (ao rfl (M4 rfl (ao (bf h3) (ao (bf h5) (ao (bf h6) (ao (bf h7) cZ))))))))) (wIt rfl (xName rfl) HB) q5 ?_;exact dG (d:=fK ((zj x.2 E).map edG)) (ρ:=iK ts so (.sh (fK (E.map edG))) (.sh x.1) (.od ((zj x.2 E).map edG)) le1 sa1 be1 mo1) (ρ':=iK ts so (.sh (fK (E.map edG))) (.sh x.1) (.sh (fK ((zj x.2 E).map edG))) le1 sa1 be1 mo1) (ao rfl (ao rfl (ao rfl (ao rfl (MP rfl (ao (bf q1) (ao (bf q2) (ao (bf q3) (ao (bf q4) cZ))))))))) rfl rfl (xName rfl) bO
  simp only[I4z,bU,st];exact r7
end
theorem nZ(k:Nat){x:List Nat}{L:List (D×GF)}(hq:∀ pre y post,pre++y::post=L->hGk k y.1 y.2 [] (gD pre x)):aG T 60 (k+6) "shares_from" [tbg L,niD x]=some (fK ((gD L x).map edG)):=by
 obtain⟨tb',la',le',sa',be',mo',r1,r2,r3,r4,r5,r6,r7⟩:=yh k (ts:=tbg L) (so:=niD x) L [(x,1)] .no .no .no .no .no .no (.inl rfl) (.inl rfl) (.inl rfl) (.inl rfl) (.inl rfl) (.inl rfl) hq;refine bW (fd:=aQ (top 59)) rfl rfl (dG (ρ':=iK (tbg L) (niD x) .no .no .no .no .no .no .no) (d:=fK ([(x,1)].map edG)) rfl rfl rfl (ZJ (y:=niD x) (kk:=inG x) (d:=qD 1) (xName rfl) qL (cI (aj (ak rfl) (aj (ak rfl) aJ)) rfl)) ?_);refine dJ (ρ:=iK (tbg L) (niD x) (.sh (fK ([(x,1)].map edG))) .no .no .no .no .no .no) (ρ':=iK (tbg L) (niD x) (.sh (fK ([(x,1)].map edG))) .no .no .no .no .no .no) rfl (wSq (x:=tbg L) rfl (xName rfl) rfl) r7 ?_;exact gRetE (ρ':=iK (tbg L) (niD x) (.sh (fK ((gD L x).map edG))) tb' la' le' sa' be' mo') (ao rfl (ao rfl (ao rfl (ao (bf r1) (ao (bf r2) (ao (bf r3) (ao (bf r4) (ao (bf r5) (ao (bf r6) cZ))))))))) (xName rfl)
def mnS(M:Nat->Nat->Rat)(a:Nat)(f:List Nat->Rat):List Nat->List Nat->Rat->Rat
 | _,[],_=>0
 | pre,j::r,e=>e*M a j*f (pre++r)+mnS M a f (pre++[j]) r (-e)
def mn(M:Nat->Nat->Rat):List Nat->List Nat->Rat
 | [],_=>1
 | a::as,bs=>mnS M a (mn M as) [] bs 1
theorem mn1{M:Nat->Nat->Rat}{a b:Nat}:mn M [a] [b]=M a b:=by
 simp only[mn,mnS,N3z];grind
theorem mn2{M:Nat->Nat->Rat}{a b c d:Nat}:mn M [a,b] [c,d]=M a c*M b d-M a d*M b c:=by
 simp only[mn,mnS,N3z,E3z,Y2z];grind
theorem mn3{M:Nat->Nat->Rat}{a b c d e f:Nat}:mn M [a,b,c] [d,e,f]=M a d*(M b e*M c f-M b f*M c e)-M a e*(M b d*M c f-M b f*M c d)+M a f*(M b d*M c e-M b e*M c d):=by
 simp only[mn,mnS,N3z,E3z,Y2z];grind
theorem s1{f:Nat->Rat}:dg 1 f=f 0:=by simp only[dg];grind
theorem s2{f:Nat->Rat}:dg 2 f=f 0+f 1:=by simp only[dg];grind
theorem s3{f:Nat->Rat}:dg 3 f=f 0+f 1+f 2:=by simp only[dg];grind
def NZ(b:List Nat)(f:Nat->Rat)(j:Nat):Bool:=decide (f j≠0) && !(b.any (· ==j))
def Ow(n:Nat)(b:List Nat)(s:Rat)(f:Nat->Rat):List (List Nat×Rat):=((List.range n).filter (NZ b f)).map fun j=>(b++[j],s*f j)
def Og(n:Nat)(T:Nat->Nat->Rat)(M:List (List Nat×Rat))(lv:Nat):List (List Nat×Rat):=M.flatMap fun p=>Ow n p.1 p.2 (T lv)
def goG(n:Nat)(T:Nat->Nat->Rat)(lvs:List Nat):List (List Nat×Rat):=lvs.foldl (Og n T) [([],1)]
def pI(p:List Nat×Rat):List Int×Rat:=(inG p.1,p.2)
theorem Fj{b:List Nat}{f:Nat->Rat}{j:Nat}:NZ b f j=wok (inG b) f j:=by
 unfold NZ wok;congr 2
 induction b with
 | nil=>rfl
 | cons a b ih =>
  show((a==j)||b.any _)=(((a:Int)==(j:Int))||(inG b).any _);rw[ih];congr 1
  by_cases h:a=j
  ·subst h;simp
  ·rw[G1z.mpr h,G1z.mpr (by omega)]
theorem Fi{n:Nat}{b:List Nat}{s:Rat}{f:Nat->Rat}:(Ow n b s f).map pI=wom n (inG b) s f:=by
 unfold Ow wom;rw[X4z,show NZ b f=wok (inG b) f from funext fun j=>Fj];refine I1z fun j _=>?_;show(inG (b++[j]),_)=(inG b++[(j:Int)],_);simp[inG]
theorem yC{n:Nat}{G:Nat->Nat->Rat}{lv:Nat}:∀ M:List (List Nat×Rat),(Og n G M lv).map pI=gst n G (M.map pI) lv
 | []=>rfl
 | p::M=>by
  have:=yC (n:=n) (G:=G) (lv:=lv) M;unfold Og gst at this ⊢;simp only[F2z,R3z,I4z,this,Fi];rfl
theorem DX{n:Nat}{G:Nat->Nat->Rat}:∀ (l:List Nat) (M:List (List Nat×Rat)),(l.foldl (Og n G) M).map pI=l.foldl (gst n G) (M.map pI)
 | [],M=>rfl
 | x::l,M=>by rw[I3z,I3z,DX l,yC]
theorem Mx{n:Nat}{G:Nat->Nat->Rat}{l:List Nat}:(goG n G l).map pI=goi n G l:=DX l _
theorem Qf:∀ l:List (List Nat×Rat),l.map pgD=(l.map pI).map prD:=fun l=>by
 rw[X4z];refine I1z fun p _=>?_;show D.tup [niD p.1,qD p.2]=D.tup [ti (inG p.1),qD p.2];rw[Hr]
noncomputable def subs:Nat->Nat->List (List Nat)
 | 1,1=>[[0]]
 | 2,1=>[[0],[1]]
 | 2,2=>[[0,1]]
 | 3,1=>[[0],[1],[2]]
 | 3,2=>[[0,1],[0,2],[1,2]]
 | 3,3=>[[0,1,2]]
 | _,_=>[]
theorem wj{n r:Nat}{a:List Nat}(h3:n<=3)(h:a∈subs n r):r<4:=by
 rcases Nat.lt_or_ge r 4 with q | q
 ·exact q
 obtain⟨k,rfl⟩:∃ k,r=k+4:=⟨r-4,by omega⟩
 match n,h3 with
 | 0,_=>simp[subs] at h
 | 1,_=>simp[subs] at h
 | 2,_=>simp[subs] at h
 | 3,_=>simp[subs] at h
theorem uG{p:Nat->Nat->List Nat->Prop}(h:∀ n r:Fin 4,∀ a∈subs n r,p n r a):∀ n,n<=3->∀ r,∀ a∈subs n r,p n r a:=fun n h3 r a ha=>h ⟨n,by omega⟩ ⟨r,wj h3 ha⟩ a ha
structure Gk1 (n:Nat) (y:Stp) (lv:List Nat):Prop where
 few:(goG n (stQ y) lv).length<=2
 nd:((goG n (stQ y) lv).map (·.1)).Nodup
 up:∀ p∈goG n (stQ y) lv,p.1∈subs n lv.length
 val:∀ b∈subs n lv.length,vG (goG n (stQ y) lv) b=mn (stQ y) lv b
 sh:∀ p∈goG n (stQ y) lv,p.2=1\/p.2=y.s
def shL:List Rat:=4::(List.range 8).map shQ
theorem gk_f:∀ (n:Fin 4) (w p:Fin 3),okP n w p=true->∀ s∈shL,(w.val=2->¬ s=0)->∀ r:Fin 4,∀ lv∈subs n r,(goG n (stQ ⟨w,p,s⟩) lv).length<=2/\((goG n (stQ ⟨w,p,s⟩) lv).map (·.1)).Nodup/\(∀ q∈goG n (stQ ⟨w,p,s⟩) lv,q.1∈subs n lv.length)/\(∀ b∈subs n lv.length,vG (goG n (stQ ⟨w,p,s⟩) lv) b=mn (stQ ⟨w,p,s⟩) lv b)/\∀ q∈goG n (stQ ⟨w,p,s⟩) lv,q.2=1\/q.2=s:=by decide +kernel
theorem Mz{s:Rat}(n:Nat)(h3:n<=3)(w:Nat)(hw:w<3)(p:Nat)(ok:okP n w p=true)(hs:s∈shL)(h2:w=2->¬ s=0)(r:Nat)(lv:List Nat)(hl:lv∈subs n r):Gk1 n ⟨w,p,s⟩ lv :=
 let ⟨a,b,c,d,e⟩:=gk_f ⟨n,by omega⟩ ⟨w,hw⟩ ⟨p,by have:=rZ ok;omega⟩ ok s hs h2 ⟨r,wj h3 hl⟩ lv hl
 ⟨a,b,c,d,e⟩
theorem bH:∀ n,n<=3->∀ r,∀ a∈subs n r,a.length=r:=uG (p:=fun _ r a=>a.length=r) (by decide +kernel)
theorem CW:∀ n,n<=3->∀ r,∀ a∈subs n r,1<=r/\r<=n:=uG (p:=fun n r _=>1<=r/\r<=n) (by decide +kernel)
theorem Nr{A B:Nat->Nat->Rat}:∀ n,n<=3->∀ r,∀ a∈subs n r,∀ b∈subs n r,mn (mulQ n A B) a b=bB ((subs n r).map fun c=>mn A a c*mn B c b):=by
 intro n hn r a ha b hb;have la:=bH n hn r a ha;have lb:=bH n hn r b hb;obtain⟨r1,rn⟩:=CW n hn r a ha;clear ha hb
 match n,r,a,b,hn,r1,rn,la,lb with
 | 1,1,[x],[y],_,_,_,_,_=>(simp only[subs,I4z,U4z,bB,mn1,mn2,mn3,mulQ,s1,s2,s3];grind)
 | 2,1,[x],[y],_,_,_,_,_=>(simp only[subs,I4z,U4z,bB,mn1,mn2,mn3,mulQ,s1,s2,s3];grind)
 | 3,1,[x],[y],_,_,_,_,_=>(simp only[subs,I4z,U4z,bB,mn1,mn2,mn3,mulQ,s1,s2,s3];grind)
 | 2,2,[x,z],[y,w],_,_,_,_,_=>(simp only[subs,I4z,U4z,bB,mn1,mn2,mn3,mulQ,s1,s2,s3];grind)
 | 3,2,[x,z],[y,w],_,_,_,_,_=>(simp only[subs,I4z,U4z,bB,mn1,mn2,mn3,mulQ,s1,s2,s3];grind)
 | 3,3,[x,z,u],[y,w,v],_,_,_,_,_=>(simp only[subs,I4z,U4z,bB,mn1,mn2,mn3,mulQ,s1,s2,s3];grind)
 | 0,_,_,_,_,r1,rn,_,_=>omega
theorem Mu:∀ n,n<=3->∀ r,∀ a∈subs n r,∀ b∈subs n r,mn idQ a b=if b=a then 1 else 0:=uG (p:=fun n r a=>∀ b∈subs n r,mn idQ a b=if b=a then 1 else 0) (by decide +kernel)
theorem Ac{E:EG}{i:List Nat}(h:∀ q∈E,q.1≠i):vG E i=0:=by
 have e:E.find? (fun q=>decide (q.1=i))=none:=List.find?_eq_none.mpr fun q hq=>by simp[h q hq]
 unfold vG uQ;rw[e];rfl
theorem lC{p:List Nat×Rat}{E:EG}{i:List Nat}(h:∀ q∈E,q.1≠p.1):vG (p::E) i=(if i=p.1 then p.2 else 0)+vG E i:=by
 by_cases c:i=p.1
 ·subst c
  rw[R5z rfl,Ac h];simp[vG,uQ];grind
 ·rw[S5z c]
  have:¬ p.1=i:=fun z=>c z.symm;simp[vG,uQ,List.find?_cons,this];grind
theorem vQ{p:List Nat×Rat}:∀ (J:List (List Nat×Rat)) (E:EG) (j:List Nat),(J.map (·.1)).Nodup->vG (J.foldl (vC p) E) j=vG E j+p.2*vG J j
 | [],E,j,_=>by
  rw[List.foldl_nil,show vG [] j=0 from rfl];grind
 | a::J,E,j,h=>by
  obtain⟨h1,h2⟩:=K3z.mp h;rw[I3z,vQ J _ j h2,lC fun q hq z=>h1 (List.mem_map.mpr ⟨q,hq,z⟩)];unfold vC;rw[JW]
  by_cases c:j=a.1
  ·rw[R5z c,R5z c,c];grind
  ·rw[S5z c,S5z c];grind
theorem rC{F:GF}{j:List Nat}:∀ (E E0:EG),(∀ p∈E,((F p.1).map (·.1)).Nodup)->vG (E.foldl (pW F) E0) j=vG E0 j+bB (E.map fun p=>p.2*vG (F p.1) j)
 | [],E0,_=>by simp only[List.foldl_nil,U4z,bB];grind
 | p::E,E0,h=>by
  rw[I3z,rC E _ fun q hq=>h q (W0z _ hq)];unfold pW;rw[vQ _ _ _ (h p K1z)];simp only[I4z,bB];grind
structure KyG (S:List (List Nat)) (E:EG):Prop where
 nd:(E.map (·.1)).Nodup
 mem:∀ p∈E,p.1∈S
theorem wO{E:EG}{j:List Nat}{v:Rat}:(wQ E j v).map (·.1)=if(E.any fun q=>decide (q.1=j))=true then E.map (·.1) else E.map (·.1)++[j]:=by
 unfold wQ;split
 ·rw[X4z]
  refine I1z fun q _=>?_;show(if q.1=j then(q.1,v) else q).1=q.1
  split<;>rfl
 ·rw[R3z];rfl
section
variable {S:List (List Nat)}
theorem KyG.mem'{E:EG}(h:KyG S E):∀ x∈E.map (·.1),x∈S:=fun x hx=>by
 obtain⟨p,hp,rfl⟩:=List.mem_map.mp hx;exact h.mem p hp
theorem KyG.put{E:EG}{j:List Nat}{v:Rat}(h:KyG S E)(hj:j∈S):KyG S (wQ E j v):=by
 have e:=wO (E:=E) (j:=j) (v:=v)
 have l:∀ x∈(wQ E j v).map (·.1),x∈S:=fun x hx=>by
  rw[e] at hx;split at hx
  ·exact h.mem' x hx
  ·rcases List.mem_append.mp hx with hx | hx
   ·exact h.mem' x hx
   ·rw[List.mem_singleton.mp hx];exact hj
 refine⟨?_,fun p hp=>l p.1 (List.mem_map_of_mem hp)⟩;rw[e];split
 ·exact h.nd
 ·rename_i c
  refine List.nodup_append.mpr ⟨h.nd,by simp,fun a ha b hb=>?_⟩;rw[List.mem_singleton.mp hb];obtain⟨p,hp,rfl⟩:=List.mem_map.mp ha;exact fun z=>c (List.any_eq_true.mpr ⟨p,hp,by simp[z]⟩)
theorem KyG.pst{p:List Nat×Rat}:∀ {J:List (List Nat×Rat)} {E:EG},KyG S E->(∀ j∈J,j.1∈S)->KyG S (J.foldl (vC p) E)
 | [],E,h,_=>h
 | j::J,E,h,hj=>KyG.pst (J:=J) (h.put (hj j K1z)) fun i hi=>hj i (W0z _ hi)
theorem KyG.hst{F:GF}:∀ {E E0:EG},KyG S E0->(∀ p∈E,∀ j∈F p.1,j.1∈S)->KyG S (E.foldl (pW F) E0)
 | [],_,h,_=>h
 | p::E,E0,h,hj=>KyG.hst (E:=E) (KyG.pst h (hj p K1z)) fun q hq=>hj q (W0z _ hq)
theorem KyG.nil:KyG S []:=⟨by simp,fun p hp=>by simp at hp⟩
theorem KyG.tail{p:List Nat×Rat}{E:EG}(h:KyG S (p::E)):KyG S E/\∀ q∈E,q.1≠p.1:=by
 have:=K3z.mp h.nd;exact⟨⟨this.2,fun q hq=>h.mem q (W0z _ hq)⟩,fun q hq z=>this.1 (List.mem_map.mpr ⟨q,hq,z⟩)⟩
theorem Ft:∀ {E:EG},KyG S E->∀ p∈E,vG E p.1=p.2
 | p::E,h,q,hq=>by
  obtain⟨h1,h2⟩:=h.tail;rw[lC h2];rcases List.mem_cons.mp hq with rfl | hm
  ·rw[R5z rfl,Ac h2];grind
  ·rw[S5z (h2 q hm),Ft h1 q hm];grind
theorem lM{α:Type}{f g:α->Rat}:∀ l:List α,bB (l.map fun a=>f a+g a)=bB (l.map f)+bB (l.map g)
 | []=>by simp only[U4z,bB];grind
 | a::l=>by simp only[I4z,bB,lM l];grind
theorem rJ{α:Type}{f:α->Rat}:∀ {l:List α},(∀ a∈l,f a=0)->bB (l.map f)=0
 | [],_=>rfl
 | a::l,h=>by simp only[I4z,bB,h a K1z,rJ fun b hb=>h b (W0z _ hb)];grind
theorem qw{x:List Nat}{f:List Nat->Rat}:∀ {l:List (List Nat)},l.Nodup->x∈l->bB (l.map fun c=>if c=x then f c else 0)=f x
 | a::l,h,hx=>by
  obtain⟨h1,h2⟩:=K3z.mp h;simp only[I4z,bB];rcases List.mem_cons.mp hx with rfl | hm
  ·rw[R5z rfl,rJ (f:=fun c=>if c=x then f c else 0) fun c hc=>S5z fun(z:c=x)=>h1 (z▸hc)];grind
  ·rw[S5z fun(z:a=x)=>h1 (z▸hm),qw h2 hm];grind
theorem jK(hS:S.Nodup){f:List Nat->Rat}:∀ {E:EG},KyG S E->bB (E.map fun p=>p.2*f p.1)=bB (S.map fun c=>vG E c*f c)
 | [],_=>by
  rw[rJ (f:=fun c=>vG [] c*f c) fun c _=>by rw[show vG [] c=0 from rfl];grind];rfl
 | p::E,h=>by
  obtain⟨h1,h2⟩:=h.tail
  have e:(S.map fun c=>vG (p::E) c*f c)=S.map fun c=>(if c=p.1 then p.2*f c else 0)+vG E c*f c:=I1z fun c _=>by
   rw[lC h2]
   split<;>grind
  rw[e,lM,qw (f:=fun c=>p.2*f c) hS (h.mem p K1z),<- jK hS h1];rfl
end
theorem jt(n:Nat)(h3:n<=3)(r:Nat):(subs n r).Nodup:=by
 rcases h:subs n r with _ | ⟨a,l⟩
 ·exact List.nodup_nil
 ·rw[<- h]
  exact uG (p:=fun n r _=>(subs n r).Nodup) (by decide +kernel) n h3 r a (by rw[h];exact K1z)
def aB(n:Nat)(L:List Stp):List (D×GF):=L.map fun y=>(ftq n n (stQ y),goG n (stQ y))
theorem jx{L:List (D×GF)}{y:D×GF}{x:List Nat}:gD (L++[y]) x=zj y.2 (gD L x):=by simp[gD]
section
variable {n r:Nat} {a:List Nat} (n3:n<=3) (ha:a∈subs n r)
include n3 ha
theorem iG:∀ L:List Stp,(∀ y∈L,∀ lv∈subs n r,Gk1 n y lv)->KyG (subs n r) (gD (aB n L) a):=by
 intro L
 induction L using lN with
 | h0=>intro _;exact⟨by simp[gD,aB],fun p hp=>by rw[List.mem_singleton.mp hp];exact ha⟩
 | hs L y ih =>
  intro h;have i:=ih fun z hz=>h z (X0z _ hz);rw[show aB n (L++[y])=aB n L++[(ftq n n (stQ y),goG n (stQ y))] by simp[aB],jx];refine KyG.hst KyG.nil fun p hp j hj=>?_;have g:=(h y (by simp) p.1 (i.mem p hp)).up j hj
  rwa [bH n n3 r p.1 (i.mem p hp)] at g
theorem jq:∀ L:List Stp,(∀ y∈L,∀ lv∈subs n r,Gk1 n y lv)->∀ b∈subs n r,vG (gD (aB n L) a) b=mn (mkQ n L) a b:=by
 intro L
 induction L using lN with
 | h0 =>
  intro _ b hb;show vG [(a,1)] b=mn idQ a b;rw[Mu n n3 r a ha b hb,lC (fun q hq=>by simp at hq),show vG [] b=0 from rfl]
  split<;>grind
 | hs L y ih =>
  intro h b hb;have hL:∀ z∈L,∀ lv∈subs n r,Gk1 n z lv:=fun z hz=>h z (X0z _ hz);have ky:=iG n3 ha L hL;rw[show aB n (L++[y])=aB n L++[(ftq n n (stQ y),goG n (stQ y))] by simp[aB],jx,mL,Nr n n3 r a ha b hb];show vG ((gD (aB n L) a).foldl (pW (goG n (stQ y))) []) b=_;rw[rC _ _ fun p hp=>(h y (by simp) p.1 (ky.mem p hp)).nd,jK (jt n n3 r) (f:=fun c=>vG (goG n (stQ y) c) b) ky,show vG [] b=0 from rfl]
  rw[show((subs n r).map fun c=>vG (gD (aB n L) a) c*vG (goG n (stQ y) c) b)=(subs n r).map fun c=>mn (mkQ n L) a c*mn (stQ y) c b from I1z fun c hc=>by
   rw[ih hL c hc,(h y (by simp) c hc).val b (by rw[bH n n3 r c hc];exact hb)]]
  grind
end
theorem rE{α:Type}{f:α->List Rg}{g:Rg->Rat}:∀ l:List α,bB ((l.flatMap f).map g)=bB (l.map fun a=>bB ((f a).map g))
 | []=>rfl
 | a::l=>by simp only[F2z,R3z,lK,I4z,bB,rE l]
theorem jr{α:Type}{c:Rat}{f:α->Rat}:∀ l:List α,bB (l.map fun a=>c*f a)=c*bB (l.map f)
 | []=>by simp only[U4z,bB];grind
 | a::l=>by simp only[I4z,bB,jr l];grind
theorem nP{α:Type}{c:Rat}{f:α->Rat}:∀ l:List α,bB (l.map fun a=>f a*c)=bB (l.map f)*c
 | []=>by simp only[U4z,bB];grind
 | a::l=>by simp only[I4z,bB,nP l];grind
theorem nO{α β:Type}{f:α->β->Rat}{m:List β}:∀ l:List α,bB (l.map fun a=>bB (m.map fun b=>f a b))=bB (m.map fun b=>bB (l.map fun a=>f a b))
 | []=>by simp only[U4z,bB];rw[rJ fun _ _=>rfl]
 | a::l=>by simp only[I4z,bB,nO l,lM]
theorem eY{L:List (D×GF)}{y:D×GF}{x:List Nat}:eZ (L++[y]) x=rsg (eZ L x) y.2:=by simp[eZ]
section
variable {n r:Nat} {a:List Nat} (n3:n<=3) (ha:a∈subs n r)
include n3 ha
theorem Gh:∀ L:List Stp,(∀ y∈L,∀ lv∈subs n r,Gk1 n y lv)->∀ f:List Nat->Rat,bB ((eZ (aB n L) a).map fun q=>q.s*f q.x)=bB ((gD (aB n L) a).map fun p=>p.2*f p.1):=by
 intro L
 induction L using lN with
 | h0=>intro _ f;rfl
 | hs L y ih =>
  intro h f;have hL:∀ z∈L,∀ lv∈subs n r,Gk1 n z lv:=fun z hz=>h z (X0z _ hz);have ky:=iG n3 ha L hL;have ky2:=iG n3 ha (L++[y]) h
  have e:aB n (L++[y])=aB n L++[(ftq n n (stQ y),goG n (stQ y))]:=by simp[aB]
  rw[jK (jt n n3 r) ky2,e,eY,jx];show bB (((eZ (aB n L) a).flatMap (nxG (goG n (stQ y)))).map _)=bB ((subs n r).map fun c=>vG ((gD (aB n L) a).foldl (pW (goG n (stQ y))) []) c*f c);rw[rE]
  have l1:(eZ (aB n L) a).map (fun q=>bB ((nxG (goG n (stQ y)) q).map fun q=>q.s*f q.x))=(eZ (aB n L) a).map fun q=>q.s*bB ((goG n (stQ y) q.x).map fun j=>j.2*f j.1):=I1z fun q _=>by
   unfold nxG;rw[X4z,<- jr];congr 1;refine I1z fun j _=>?_;show q.s*j.2*f j.1=q.s*(j.2*f j.1);grind
  rw[l1,ih hL fun x=>bB ((goG n (stQ y) x).map fun j=>j.2*f j.1)]
  have l2:(subs n r).map (fun c=>vG ((gD (aB n L) a).foldl (pW (goG n (stQ y))) []) c*f c)=(subs n r).map fun c=>bB ((gD (aB n L) a).map fun p=>p.2*vG (goG n (stQ y) p.1) c*f c):=I1z fun c _=>by
   rw[rC _ _ fun p hp=>(h y (by simp) p.1 (ky.mem p hp)).nd,show vG [] c=0 from rfl,nP];grind
  rw[l2,<- nO];congr 1;refine I1z fun p hp=>?_;have g:=h y (by simp) p.1 (ky.mem p hp)
  have kp:KyG (subs n r) (goG n (stQ y) p.1):=⟨g.nd,fun j hj=>by
   have:=g.up j hj
   rwa [bH n n3 r p.1 (ky.mem p hp)] at this⟩
  rw[jK (jt n n3 r) kp,<- jr];congr 1;refine I1z fun c _=>?_;grind
theorem lW{L:List Stp}(h:∀ y∈L,∀ lv∈subs n r,Gk1 n y lv){b:List Nat}(hb:b∈subs n r):bB (((eZ (aB n L) a).filter fun q=>decide (q.x=b)).map fun q=>q.s)=mn (mkQ n L) a b:=by
 rw[<- jq n3 ha L h b hb];have s:=Gh n3 ha L h fun c=>if c=b then 1 else 0;rw[jK (jt n n3 r) (f:=fun c=>if c=b then 1 else 0) (iG n3 ha L h)] at s
 have e1:((subs n r).map fun c=>vG (gD (aB n L) a) c*(if c=b then 1 else 0))=(subs n r).map fun c=>if c=b then vG (gD (aB n L) a) c else 0:=I1z fun c _=>by
  split<;>grind
 rw[e1,qw (f:=fun c=>vG (gD (aB n L) a) c) (jt n n3 r) hb] at s;rw[<- s]
 have go:∀ l:List Rg,bB ((l.filter fun q=>decide (q.x=b)).map fun q=>q.s)=bB (l.map fun q=>q.s*if q.x=b then 1 else 0):=by
  intro l
  induction l with
  | nil=>rfl
  | cons q l ih =>
   by_cases c:q.x=b
   ·rw[U2z,R5z (by simpa using c)]
    simp only[I4z,bB,ih,R5z c];grind
   ·rw[U2z,S5z (by simpa using c)]
    simp only[I4z,bB,ih,S5z c];grind
 exact go _
end
section
variable {n r:Nat} {a:List Nat} (n3:n<=3) (ha:a∈subs n r)
include n3 ha
theorem gH:∀ L:List Stp,(∀ y∈L,(0<=y.s/\Qb 6 30 y.s)/\∀ lv∈subs n r,Gk1 n y lv)->∀ q∈eZ (aB n L) a,(∀ c∈q.pre++[q.x],c∈subs n r)/\q.pre.length=L.length/\Qb (6^L.length) (30^L.length) q.s/\0<=q.s:=by
 intro L
 induction L using lN with
 | h0 =>
  intro _ q hq;rw[List.mem_singleton.mp hq];exact⟨by simpa using ha,rfl,by simpa using Qb.one (D:=1),(by decide:(0:Rat)<=1)⟩
 | hs L y ih =>
  intro h q hq;rw[show aB n (L++[y])=aB n L++[(ftq n n (stQ y),goG n (stQ y))] by simp[aB],eY] at hq;obtain⟨q0,h0,h1⟩:=List.mem_flatMap.mp hq;obtain⟨j,hj,rfl⟩:=List.mem_map.mp h1;obtain⟨a1,a2,a3,a4⟩:=ih (fun z hz=>h z (X0z _ hz)) q0 h0;obtain⟨⟨b1,b2⟩,b3⟩:=h y (by simp);have x0:q0.x∈subs n r:=a1 q0.x (by simp);have g:=b3 q0.x x0;have up:=g.up j hj;rw[bH n n3 r q0.x x0] at up
  have js:Qb 6 30 j.2/\0<=j.2:=by
   rcases g.sh j hj with e | e
   ·rw[e];exact⟨Qb.one.up (by decide),by decide⟩
   ·rw[e];exact⟨b2,b1⟩
  refine⟨fun c hc=>?_,by simp[a2],?_,Rat.mul_nonneg a4 js.2⟩
  ·rcases List.mem_append.mp hc with hc | hc
   ·exact a1 c hc
   ·rw[List.mem_singleton.mp hc];exact up
  ·rw[P1z,T0z,Z4z,Z4z]
   exact a3.mul js.1
def mF(q:Rg):List (List Nat):=q.pre++[q.x]
theorem Km:∀ L:List Stp,(∀ y∈L,(0<=y.s/\Qb 6 30 y.s)/\∀ lv∈subs n r,Gk1 n y lv)->((eZ (aB n L) a).map mF).Nodup:=by
 intro L
 induction L using lN with
 | h0=>intro _;simp[eZ,aB]
 | hs L y ih =>
  intro h;have hL:=fun z hz=>h z (X0z _ hz);have ok:=gH n3 ha L hL;rw[show aB n (L++[y])=aB n L++[(ftq n n (stQ y),goG n (stQ y))] by simp[aB],eY];have i:=ih hL;unfold List.Nodup at i ⊢;rw[G2z] at i ⊢;show((eZ (aB n L) a).flatMap (nxG (goG n (stQ y)))).Pairwise _;rw[List.pairwise_flatMap];refine⟨fun q hq=>?_,i.imp fun {p q} hpq u hu v hv e=>?_⟩
  ·have g:=(h y (by simp)).2 q.x ((ok q hq).1 q.x (by simp))
   have nd:=g.nd;unfold List.Nodup at nd;rw[G2z] at nd;unfold nxG;rw[G2z];refine nd.imp fun {s t} hst e=>hst ?_;have e:(q.pre++[q.x])++[s.1]=(q.pre++[q.x])++[t.1]:=e;simpa using e
  ·obtain⟨s,_,rfl⟩:=List.mem_map.mp hu
   obtain⟨t,_,rfl⟩:=List.mem_map.mp hv;have e:(p.pre++[p.x])++[s.1]=(q.pre++[q.x])++[t.1]:=e;exact hpq ((List.append_inj' e rfl).1)
theorem fX:∀ L:List Stp,(∀ y∈L,(0<=y.s/\Qb 6 30 y.s)/\∀ lv∈subs n r,Gk1 n y lv)->(eZ (aB n L) a).length<=2^L.length:=by
 intro L
 induction L using lN with
 | h0=>intro _;simp[eZ,aB]
 | hs L y ih =>
  intro h;have hL:=fun z hz=>h z (X0z _ hz);have ok:=gH n3 ha L hL;rw[show aB n (L++[y])=aB n L++[(ftq n n (stQ y),goG n (stQ y))] by simp[aB],eY]
  have m:=yJ (l:=eZ (aB n L) a) (f:=nxG (goG n (stQ y))) (b:=2) fun q hq=>by
   unfold nxG;rw[G3z];exact((h y (by simp)).2 q.x ((ok q hq).1 q.x (by simp))).few
  have i:=A1z 2 (ih hL);rw[P1z,T0z,Z4z];exact Q4z m i
theorem V5{L:List Stp}(h:∀ y∈L,(0<=y.s/\Qb 6 30 y.s)/\∀ lv∈subs n r,Gk1 n y lv){b:List Nat}(hb:b∈subs n r):0<=mn (mkQ n L) a b:=by
 rw[<- lW n3 ha (fun y hy=>(h y hy).2) hb];have ok:=gH n3 ha L h
 have go:∀ l:List Rat,(∀ q∈l,0<=q)->0<=bB l:=by
  intro l
  induction l with
  | nil=>intro _;decide
  | cons q l ih =>
   intro hq;have:=ih fun p hp=>hq p (W0z _ hp);have:=hq q K1z;show 0<=q+bB l;grind
 refine go _ fun q hq=>?_;obtain⟨z,hz,rfl⟩:=List.mem_map.mp hq;exact(ok z (List.mem_filter.mp hz).1).2.2.2
end
theorem Wn{n:Nat}{G:Nat->Nat->Rat}(hG:∀ i j,i<n->j<n->Qb 6 30 (G i j))(l:List Nat):(∀ x∈l,x<n)->(l.foldl (gst n G) [([],1)]).length<=n^l.length/\∀ p∈l.foldl (gst n G) [([],1)],p.1.length=l.length/\Qb (6^l.length) (30^l.length) p.2:=by
 induction l using lN with
 | h0 =>
  intro _;refine⟨by simp,fun p hp=>?_⟩;rw[List.mem_singleton.mp hp];exact⟨rfl,by simpa using Qb.one (D:=1)⟩
 | hs l x ih =>
  intro h;obtain⟨a,b⟩:=ih fun y hy=>h y (X0z _ hy);have hx:=h x (by simp);rw[List.foldl_append];show(gst n G (l.foldl (gst n G) [([],1)]) x).length<=_/\∀ p∈gst n G (l.foldl (gst n G) [([],1)]) x,_;refine⟨?_,fun p hp=>?_⟩
  ·have m:=yJ (l:=l.foldl (gst n G) [([],1)]) (f:=fun p=>wom n p.1 p.2 (G x)) (b:=n) fun p _=>qe
   rw[P1z,T0z,Z4z];exact Q4z m (A1z n a)
  ·obtain⟨q,hq,h1⟩:=List.mem_flatMap.mp hp
   obtain⟨j,hj,rfl⟩:=List.mem_map.mp h1;obtain⟨b1,b2⟩:=b q hq;have jl:=List.mem_range.mp (List.mem_filter.mp hj).1;refine⟨by simp[b1],?_⟩;rw[P1z,T0z,Z4z,Z4z];exact b2.mul (hG x j hx jl)
theorem oW(k:Nat){n:Nat}{G:Nat->Nat->Rat}(h3:n<=3)(hG:∀ i j,i<n->j<n->Qb 6 30 (G i j)){l:List Nat}(hl:l.length<=3)(hx:∀ x∈l,x<n):aG T 60 (k+5) "goings" [ftq n n G,niD l]=some (.lst ((goG n G l).map pgD)):=by
 have g:=goings k (n:=n) (G:=G) (by omega) (fun i j hi hj=>(hG i j hi hj).sq (by decide) (by decide) (by decide)) (lvs:=l) hx fun pre x post e=>by
  have pl:pre.length<=3:=by have:=congrArg List.length e;rw[P1z] at this;omega
  obtain⟨a,b⟩:=Wn hG pre fun y hy=>hx y (by rw[<- e];exact X0z _ hy)
  have n27:n^pre.length<=3^3:=Q4z (Nat.pow_le_pow_left h3 _) (B1z (by decide) pl);refine⟨by omega,fun p hp=>?_⟩;obtain⟨b1,b2⟩:=b p hp;obtain⟨c1,c2,c3⟩:6^pre.length<=1000000000000000000/\32*30^pre.length<=1000000000000000000/\0<6^pre.length:=(show ∀ t,t<4->6^t<=1000000000000000000/\32*30^t<=1000000000000000000/\0<6^t by decide +kernel) _ (by omega);exact⟨by omega,b2.sq c3 c1 (by omega)⟩
 rw[g,Qf,Mx]
theorem wg:∀ n,n<=3->∀ r,∀ a∈subs n r,∀ x∈a,x<n:=uG (p:=fun n _ a=>∀ x∈a,x<n) (by decide +kernel)
theorem v9(n:Nat)(h3:n<=3)(r:Nat)(a:List Nat)(h:a∈subs n r):a.length<=3:=by
 have:=wj h3 h;rw[bH n h3 r a h];omega
structure DrG (n:Nat) (L:List Stp):Prop where
 n1:1<=n
 n3:n<=3
 len:L.length<=5
 ok:∀ x∈L,okS n x/\Bq n n 6 30 (stQ x)/\Qb 6 30 x.s/\x.s∈shL
theorem DrG.gk{n r:Nat}{L:List Stp}(H:DrG n L):∀ y∈L,(0<=y.s/\Qb 6 30 y.s)/\∀ lv∈subs n r,Gk1 n y lv:=fun y hy=>by
 obtain⟨o1,o2,o3,o4⟩:=H.ok y hy;refine⟨⟨o1.2,o3⟩,fun lv hl=>Mz n H.n3 y.w (Bj o1.1) y.p o1.1 o4 (fun hw z=>?_) r lv hl⟩;have:=o1.3 hw;rw[z] at this;exact absurd this (by decide)
theorem DrG.pre{n:Nat}{L L1 L2:List Stp}(H:DrG n L)(e:L=L1++L2):DrG n L1:=⟨H.n1,H.n3,by have:=H.len;rw[e,P1z] at this;omega,fun x hx=>H.ok x (by rw[e];exact X0z _ hx)⟩
theorem jw{n:Nat}{L:List Stp}{pre post:List (D×GF)}{y:D×GF}(e:pre++y::post=aB n L):∃ L1 z L2,L=L1++z::L2/\pre=aB n L1/\y=(ftq n n (stQ z),goG n (stQ z)):=by
 obtain⟨L1,L2,rfl,e1,e2⟩:=List.map_eq_append_iff.mp e.symm;obtain⟨z,L3,rfl,e3,_⟩:=List.map_eq_cons_iff.mp e2;exact⟨L1,z,L3,rfl,e1.symm,e3.symm⟩
theorem pz:∀ t,t<6->6^t*6<=1000000000000000000/\6^t<=1000000000000000000/\3*(2^t*30^t*30)<=1000000000000000000/\0<6^t:=by decide +kernel
section
variable {n r:Nat} {L:List Stp} {a:List Nat}
theorem Bl(k:Nat)(H:DrG n L)(ha:a∈subs n r):aG T 60 (k+6) "runs_from" [tbg (aB n L),niD a]=some (.lst ((eZ (aB n L) a).map rgD)):=by
 refine uK k fun pre y post e=>?_;obtain⟨L1,z,L2,rfl,rfl,rfl⟩:=jw e;have l5:=H.len;rw[P1z] at l5;have H1:=H.pre rfl;have gk1:=H1.gk (r:=r);obtain⟨z1,z2,z3,_⟩:=H.ok z (by simp);have gz:=(H.gk (r:=r) z (by simp)).2;have rl:=fX H.n3 ha L1 gk1;have p2:2^L1.length<=2^5:=B1z (by decide) (by omega);refine⟨by omega,fun q hq=>?_⟩;obtain⟨a1,a2,a3,a4⟩:=gH H.n3 ha L1 gk1 q hq;obtain⟨c1,c2,c3,c4⟩:=pz L1.length (by omega);have hqx:q.x∈subs n r:=a1 q.x (by simp);have g:=gz q.x hqx
 have b30:30^L1.length<=1000000000000000000:=by
  have:1<=2^L1.length:=Nat.pow_pos (by decide);have:=A1z (30^L1.length) this;omega
 refine⟨by omega,a3.sq c4 c2 b30,Q4z g.few (by decide),fun j hj=>?_,oW k H.n3 z2 (v9 n H.n3 r q.x hqx) (wg n H.n3 r q.x hqx)⟩;rcases g.sh j hj with e | e
 ·rw[e];exact(Qb.one (D:=1)).sq (by decide) (by decide) (by decide)
 ·rw[e];exact z3.sq (by decide) (by decide) (by decide)
theorem Pn(H:DrG n L)(ha:a∈subs n r):∀ p∈gD (aB n L) a,Qb (6^L.length) (2^L.length*30^L.length) p.2:=fun p hp=>by
 have gk:=H.gk (r:=r);have g2:=fun y hy=>(gk y hy).2;have ky:=iG H.n3 ha L g2;rw[<- Ft ky p hp,jq H.n3 ha L g2 p.1 (ky.mem p hp),<- lW H.n3 ha g2 (ky.mem p hp)]
 have b:=nQ (D:=6^L.length) (B:=30^L.length) (l:=((eZ (aB n L) a).filter fun q=>decide (q.x=p.1)).map fun q=>q.s) fun q hq=>by
  obtain⟨z,hz,rfl⟩:=List.mem_map.mp hq;exact(gH H.n3 ha L gk z (List.mem_filter.mp hz).1).2.2.1
 refine b.up (A1z _ ?_);rw[G3z];exact Q4z (V0z _ _) (fX H.n3 ha L gk)
theorem JX{y:Stp}{lv c:List Nat}(h3:n<=3)(hs:Qb 6 30 y.s)(g:Gk1 n y lv):Qb 6 30 (vG (goG n (stQ y) lv) c):=by
 by_cases m:∃ p∈goG n (stQ y) lv,p.1=c
 ·obtain⟨p,hp,rfl⟩:=m
  have ky:KyG (subs n lv.length) (goG n (stQ y) lv):=⟨g.nd,g.up⟩;rw[Ft ky p hp];rcases g.sh p hp with e | e
  ·rw[e];exact Qb.one.up (by decide)
  ·rw[e];exact hs
 ·rw[Ac fun q hq z=>m ⟨q,hq,z⟩];exact Qb.zero.up (D5z _)
theorem jd(n:Nat)(h3:n<=3)(r:Nat):(subs n r).length<=3:=by
 rcases h:subs n r with _ | ⟨a,l⟩
 ·decide
 ·rw[<- h]
  exact uG (p:=fun n r _=>(subs n r).length<=3) (by decide +kernel) n h3 r a (by rw[h];exact K1z)
end
theorem Dz:∀ (S l:List (List Nat)),l.Nodup->(∀ x∈l,x∈S)->l.length<=S.length
 | [],l,_,h=>by
  cases l with
  | nil=>simp
  | cons a l=>exact absurd (h a K1z) (by simp)
 | s::S,l,nd,h=>by
  have i:=Dz S (l.erase s) (nd.erase s) fun x hx=>by
   have m:=nd.mem_erase_iff.mp hx;rcases List.mem_cons.mp (h x m.2) with e | e
   ·exact absurd e m.1
   ·exact e
  have:=List.length_erase (l:=l) (a:=s);simp only[P2z]
  split at this<;>omega
theorem KyG.len{S:List (List Nat)}{E:EG}(h:KyG S E):E.length<=S.length:=by
 have:=Dz S (E.map (·.1)) h.nd h.mem'
 rwa [G3z] at this
section
variable {n r:Nat} {L:List Stp} {a:List Nat}
theorem kj(k:Nat)(H:DrG n L)(ha:a∈subs n r):aG T 60 (k+6) "shares_from" [tbg (aB n L),niD a]=some (fK ((gD (aB n L) a).map edG)):=by
 refine nZ k fun pre y post e=>?_;obtain⟨L1,z,L2,rfl,rfl,rfl⟩:=jw e;have l5:=H.len;rw[P1z] at l5;have H1:=H.pre rfl;have g1:=fun y hy=>(H1.gk (r:=r) y hy).2;obtain⟨z1,z2,z3,_⟩:=H.ok z (by simp);have gz:=(H.gk (r:=r) z (by simp)).2;have ky:=iG H.n3 ha L1 g1;have sb:=Pn H1 ha;have kl:=ky.len;have s3:=jd n H.n3 r;obtain⟨c1,c2,c3,c4⟩:=pz L1.length (by omega)
 have one:∀ p∈gD (aB n L1) a,∀ j∈goG n (stQ z) p.1,Qb 6 30 j.2:=fun p hp j hj=>by
  rcases(gz p.1 (ky.mem p hp)).sh j hj with e | e
  ·rw[e];exact Qb.one.up (by decide)
  ·rw[e];exact z3
 refine⟨fun p hp=>⟨(sb p hp).sq c4 c2 (by omega),Q4z (gz p.1 (ky.mem p hp)).few (by decide),fun j hj=>⟨(one p hp j hj).sq (by decide) (by decide) (by decide),((sb p hp).mul (one p hp j hj)).sq (by omega) c1 (by omega)⟩,oW k H.n3 z2 (v9 n H.n3 r p.1 (ky.mem p hp)) (wg n H.n3 r p.1 (ky.mem p hp))⟩,fun pr p po e2=>?_⟩
 have sub:∀ q∈pr,q∈gD (aB n L1) a:=fun q hq=>by rw[<- e2];exact X0z _ hq
 have k2:KyG (subs n r) (pr.foldl (pW (goG n (stQ z))) []):=KyG.hst KyG.nil fun q hq j hj=>by
  have:=(gz q.1 (ky.mem q (sub q hq))).up j hj
  rwa [bH n H.n3 r q.1 (ky.mem q (sub q hq))] at this
 have k2l:=k2.len;refine⟨by show(pr.foldl (pW (goG n (stQ z))) []).length<=100;omega,fun pj j pt e3=>?_⟩
 have hp:p∈gD (aB n L1) a:=by rw[<- e2];simp
 have nd:=(gz p.1 (ky.mem p hp)).nd;have e3:pj++j::pt=goG n (stQ z) p.1:=e3;rw[<- e3,R3z,I4z] at nd;obtain⟨n1,n2,n3⟩:=List.nodup_append.mp nd;have no:vG pj j.1=0:=Ac fun q hq e=>n3 q.1 (List.mem_map_of_mem hq) j.1 K1z e;show Sq (vG (pj.foldl (vC p) (pr.foldl (pW (goG n (stQ z))) [])) j.1);rw[vQ _ _ _ n1,no,rC _ _ fun q hq=>(gz q.1 (ky.mem q (sub q hq))).nd,show vG [] j.1=0 from rfl]
 have pl:pr.length<=3:=by
  have:=congrArg List.length e2;rw[P1z] at this;omega
 have b:=nQ (D:=6^L1.length*6) (B:=2^L1.length*30^L1.length*30) (l:=pr.map fun q=>q.2*vG (goG n (stQ z) q.1) j.1) fun q hq=>by
  obtain⟨u,hu,rfl⟩:=List.mem_map.mp hq;exact(sb u (sub u hu)).mul (JX H.n3 z3 (gz u.1 (ky.mem u (sub u hu))))
 rw[G3z] at b;have m3:=A1z (2^L1.length*30^L1.length*30) pl
 have e0:(0:Rat)+bB (pr.map fun q=>q.2*vG (goG n (stQ z) q.1) j.1)+p.2*0=bB (pr.map fun q=>q.2*vG (goG n (stQ z) q.1) j.1):=by grind
 rw[e0];exact b.sq (by omega) c1 (by omega)
end
theorem J2{n:Nat}{L:List Stp}:tbs n L=tbg (aB n L):=by
 show D.lst _=D.lst _;unfold aB;rw[X4z];rfl
section
variable {n r:Nat} {L:List Stp} {a b:List Nat}
theorem DrG.tbl(k:Nat)(H:DrG n L):aG T 60 (k+7) "step_tables" [.int n,ssD L]=some (tbg (aB n L)):=by
 rw[<- J2];exact step_tables k (by have:=H.n3;omega) (fun x hx=>(H.ok x hx).1) (by have:=H.len;omega)
theorem fU(k:Nat)(H:DrG n L)(ha:a∈subs n r):aG T 60 (k+8) "share_between" [.int n,ssD L,niD a,niD b]=some (qD (vG (gD (aB n L) a) b)):=by
 have st:=H.tbl k;have sf:=kj (k+1) H ha;exact bW (fd:=aQ (top 60)) rfl rfl (cQ (Ov rfl (aA rfl (aj (x:=tbg (aB n L)) (aA rfl (aj (xName rfl) (aj (xName rfl) aJ)) st) (aj (x:=niD a) (xName rfl) aJ)) sf) (xName rfl) (cI (aj (ak rfl) (aj (ak rfl) aJ)) rfl) qO))
def gZ(P:List (List Nat))(c:Nat):List Nat:=P.map fun l=>l.getD c 0
theorem Jh(k:Nat){P:List (List Nat)}{c r:Nat}(hP:∀ l∈P,l.length=r)(hc:c<r)(hz:P.length<=60):aG T 60 (k+1) "column_of" [.tup (P.map niD),.int c]=some (niD (gZ P c)):=by
 unfold gZ;show _=some (D.tup ((P.map fun l=>l.getD c 0).map fun(x:Nat)=>D.int x));rw[X4z];refine bW (fd:=aQ (top 34)) rfl rfl (cQ (dB rfl rfl rfl (aj (cD (l:=P.map niD) rfl (Ab rfl (xName rfl)) (iy (by rw[G3z];omega)) (dH fun l hl=>cX rfl ?_)) aJ) Et))
 have hcl:c<l.length:=by rw[hP l hl];exact hc
 refine xIx (x:=niD l) (i:=(c:Int)) (xName rfl) (xName rfl) rfl (nq ?_);rw[List.getElem?_map,List.getElem?_eq_getElem hcl];simp[List.getD,hcl]
theorem Cz(k:Nat){P:List (List Nat)}{l0:List Nat}{r:Nat}(hP:∀ l∈l0::P,l.length=r)(hr:r<=4)(hz:P.length<=50):aG T 60 (k+2) "columns_of" [.tup ((l0::P).map niD)]=some (.tup (Ls r fun c=>niD (gZ (l0::P) c))):=by
 refine bW (fd:=aQ (top 35)) rfl rfl (cQ (dB rfl rfl rfl (aj (cD rfl (Fq (j:=r) rfl (dB (ds:=[niD l0]) rfl rfl rfl (aj (xIx (x:=.tup ((l0::P).map niD)) (i:=0) (xName rfl) (ak rfl) rfl at0) aJ) ?_) (by omega)) (iW (by omega)) (bD (g:=fun c=>niD (gZ (l0::P) c)) fun c hc=>cX rfl ?_)) aJ) Et))
 ·show some (D.int ((l0.map _).length:Int))=_
  rw[G3z,hP l0 K1z]
 ·exact aA rfl (aj (x:=.tup ((l0::P).map niD)) (xName rfl) (aj (x:=.int c) (xName rfl) aJ)) (Jh k hP hc (by simp;omega))
end
theorem JC{l:List Nat}:dep (niD l)<=5:=by
 have:deps (l.map fun(x:Nat)=>D.int x)<=3:=f9 fun z hz=>by
  obtain⟨a,_,rfl⟩:=List.mem_map.mp hz;simp[dep]
 show deps _+1<=5;omega
theorem zu:∀ x y:List Nat,jP (x.map fun(x:Nat)=>D.int x) (y.map fun(x:Nat)=>D.int x)=decide (x=y)
 | [],[]=>rfl
 | [],_::_=>rfl
 | _::_,[]=>rfl
 | a::x,b::y=>by
  show(((a:Int)==(b:Int))&&jP _ _)=_;rw[zu x y]
  by_cases h:a=b
  ·subst h;simp
  ·have e1:((a:Int)==(b:Int))=false:=G1z.mpr (by omega)
   have e2:decide (a::x=b::y)=false:=A3z fun z=>h (by injection z);rw[e1,e2];rfl
theorem Lj{x y:List Nat}:cmpop .Eq (niD x) (niD y)=some (.bl (decide (x=y))):=by
 rw[oEq (by have:=JC (l:=x);omega) (by have:=JC (l:=y);omega)]
 congr 2;exact zu x y
section
variable {n r:Nat} {L:List Stp} {a b:List Nat}
def eU(r:Nat)(q:Rg):D:=.tup [.tup (Ls r fun c=>niD (gZ (q.pre++[q.x]) c)),qD q.s]
theorem gG(k:Nat)(H:DrG n L)(ha:a∈subs n r):aG T 60 (k+8) "runs_between" [.int n,ssD L,niD a,niD b]=some (.lst (((eZ (aB n L) a).filter fun q=>decide (q.x=b)).map (eU r))):=by
 have st:=H.tbl k;have rf:=Bl (k+1) H ha;have gk:=H.gk (r:=r);have rl:=fX H.n3 ha L gk;have ok:=gH H.n3 ha L gk;have l5:=H.len;have p2:2^L.length<=2^5:=B1z (by decide) l5
 have r3:r<=3:=by
  have:=v9 n H.n3 r a ha
  rwa [bH n H.n3 r a ha] at this
 refine bW (fd:=aQ (top 58)) rfl rfl (jg rfl (d:=.lst ((eZ (aB n L) a).map rgD)) (aA rfl (aj (x:=tbg (aB n L)) (aA rfl (aj (xName rfl) (aj (xName rfl) aJ)) st) (aj (x:=niD a) (xName rfl) aJ)) rf) ?_);refine cQ (cD (l:=(eZ (aB n L) a).map rgD) rfl (wSq (x:=.lst ((eZ (aB n L) a).map rgD)) rfl (xName rfl) rfl) (iy (by rw[G3z];omega)) (pB fun q hq=>?_));obtain⟨o1,o2,o3,o4⟩:=ok q hq
 have cl:aG T 60 (k+7) "columns_of" [.tup ((q.pre++[q.x]).map niD)]=some (.tup (Ls r fun c=>niD (gZ (q.pre++[q.x]) c))):=by
  have hP:∀ l∈q.pre++[q.x],l.length=r:=fun l hl=>bH n H.n3 r l (o1 l hl)
  have hz:(q.pre++[q.x]).length<=6:=by simp;omega
  generalize e:q.pre++[q.x]=P at hP hz ⊢
  cases P with
  | nil=>simp at e
  | cons l0 P=>exact Cz (k+5) hP (by omega) (by simp at hz;omega)
 refine m9 rfl (bK (x:=niD q.x) (y:=niD b) (xIx (x:=.tup ((q.pre++[q.x]).map niD)) (i := -1) (xName rfl) (EY (ak rfl)) rfl ?_) (xName rfl) Lj) (cI (aj (aA rfl (aj (x:=.tup ((q.pre++[q.x]).map niD)) (xName rfl) aJ) cl) (aj (x:=qD q.s) (xName rfl) aJ)) rfl);rw[R3z];exact nu
end
theorem fj(k:Nat):∀ n,n<=3->∀ r,∀ a∈subs n r,aG T 60 (k+6) "need_places" [niD a,.int n]=some .non:=by
 intro n hn r a ha;obtain⟨r1,rn⟩:=CW n hn r a ha
 match n,r,ha,hn,r1,rn with
 | 1,1,ha,_,_,_ | 2,1,ha,_,_,_ | 2,2,ha,_,_,_ | 3,1,ha,_,_,_ | 3,2,ha,_,_,_ | 3,3,ha,_,_,_ =>
  simp only[subs,List.mem_cons,List.not_mem_nil,or_false] at ha
  first
   | (subst ha;rfl')
   | (rcases ha with rfl | rfl | rfl<;>rfl')
   | (rcases ha with rfl | rfl<;>rfl')
section
variable {n r:Nat} {L:List Stp} {a b:List Nat}
theorem need_sets(k:Nat)(H:DrG n L)(ha:a∈subs n r)(hb:b∈subs n r):aG T 60 (k+7) "need_sets" [.int n,ssD L,niD a,niD b]=some .non:=by
 have n3:=H.n3;refine um (fd:=aQ (top 62)) rfl rfl (qP rfl (d:=.non) (aA rfl (aj (x:=.int n) (xName rfl) (aj (x:=ssD L) (xName rfl) aJ)) (need_steps k H.n1 (by omega) (fun x hx=>(H.ok x hx).1) (by have:=H.len;omega))) (qP rfl (d:=.non) (aA rfl (aj (x:=niD a) (xName rfl) (aj (x:=.int n) (xName rfl) aJ)) (fj k n n3 r a ha)) (qP rfl (d:=.non) (aA rfl (aj (x:=niD b) (xName rfl) (aj (x:=.int n) (xName rfl) aJ)) (fj k n n3 r b hb)) (pX (bK (x:=.int r) (y:=.int r) (dB (ds:=[niD a]) rfl rfl rfl (aj (xName rfl) aJ) ?_) (dB (ds:=[niD b]) rfl rfl rfl (aj (xName rfl) aJ) ?_) (Hh rfl)) bO))))
 ·show some (D.int ((a.map _).length:Int))=_
  rw[G3z,bH n n3 r a ha]
 ·show some (D.int ((b.map _).length:Int))=_
  rw[G3z,bH n n3 r b hb]
theorem sets_of_ways(k:Nat)(H:DrG n L)(ha:a∈subs n r)(hb:b∈subs n r):aG T 60 (k+9) "sets_of_ways" [.int n,ssD L,niD a,niD b]=some (.lst (((eZ (aB n L) a).filter fun q=>decide (q.x=b)).map (eU r))) :=
 bW (fd:=aQ (top 65)) rfl rfl (qP rfl (d:=.non) (aA rfl (aj (x:=.int n) (xName rfl) (aj (x:=ssD L) (xName rfl) (aj (x:=niD a) (xName rfl) (aj (x:=niD b) (xName rfl) aJ)))) (need_sets (k+1) H ha hb)) (cQ (aA rfl (aj (x:=.int n) (xName rfl) (aj (x:=ssD L) (xName rfl) (aj (x:=niD a) (xName rfl) (aj (x:=niD b) (xName rfl) aJ)))) (gG k H ha))))
theorem share_of_sets(k:Nat)(H:DrG n L)(ha:a∈subs n r)(hb:b∈subs n r):aG T 60 (k+9) "share_of_sets" [.int n,ssD L,niD a,niD b]=some (qD (mn (mkQ n L) a b)):=by
 have s:=fU (b:=b) k H ha;rw[jq H.n3 ha L (fun y hy=>(H.gk y hy).2) b hb] at s;exact bW (fd:=aQ (top 66)) rfl rfl (qP rfl (d:=.non) (aA rfl (aj (x:=.int n) (xName rfl) (aj (x:=ssD L) (xName rfl) (aj (x:=niD a) (xName rfl) (aj (x:=niD b) (xName rfl) aJ)))) (need_sets (k+1) H ha hb)) (cQ (aA rfl (aj (x:=.int n) (xName rfl) (aj (x:=ssD L) (xName rfl) (aj (x:=niD a) (xName rfl) (aj (x:=niD b) (xName rfl) aJ)))) s)))
end
theorem Pk{ns:List Int}{at' n k:Nat}:Qb 6 30 (stV ns at' n k).s:=by
 have hp:=bR (ns:=ns) (k:=at'+1+4*k+1) (many:=8) (by omega);show Qb 6 30 (if wV ns n (at'+1+4*k)=2 then _ else _);split
 ·exact Kh hp
 ·exact Ga hp
theorem Pj{ns:List Int}{at' n k:Nat}:(stV ns at' n k).s∈shL:=by
 have hp:=bR (ns:=ns) (k:=at'+1+4*k+1) (many:=8) (by omega);have m:∀ p,p<8->shQ p∈shL:=fun p h=>W0z _ (List.mem_map.mpr ⟨p,List.mem_range.mpr h,rfl⟩);show(if wV ns n (at'+1+4*k)=2 then scQ _ else shQ _)∈shL;split
 ·unfold scQ
  split
  ·exact K1z
  ·exact m _ hp
 ·exact m _ hp
theorem Nq{ns:List Int}{at' n m:Nat}(h1:1<=n)(h3:n<=3)(hm:m<=5):DrG n (Dc ns at' n m):=by
 refine⟨h1,h3,by simp[Dc];omega,fun x hx=>?_⟩
 obtain⟨k,rfl⟩:=xT hx;exact⟨(rK h1).1,(rK h1).2,Pk,Pj⟩
theorem Ot{cx:Cxt}{F m:Nat}{sc:Scope}{ρ:Rho}{c:Expr}{A r:List Stmt}{p:Pos}{cn:Str}(hc:g8 ρ=true)(h:ev cx F sc ρ c=some (.bl false))(k:zO cx F (m+1) sc r ρ cn):zO cx F (m+1) sc (.If c A [] p::r) ρ cn :=
 tZ (by simp only[st,cR hc,h,bind,Q2z,asB,Q1z,O5z];rfl) k
theorem zT(k:Nat){n:Int}{us:List D}(hz:us.length<=100)(hd:∀ x∈us,dep x<=50/\bdB x=true):ev (cxN T 60 (k+5)) 60 (aQ (top 47)).sc [("many",.sh (.int n)),("steps",.sh (.lst us))] (ifX (cB 47 1))=some (.bl (!us.all (j6 n))):=by
 refine bY (j5 (cL (uw rfl rfl rfl (x:=.lst us) (xName rfl) rfl rfl rfl)) (iw (NQ (dB (ds:=[.lst (us.map fun x=>.bl (j6 n x))]) rfl rfl rfl (aj (cD (l:=us) rfl (wSq (x:=.lst us) rfl (xName rfl) rfl) (iy (by omega)) (cJ (g:=fun x=>.bl (j6 n x)) fun y hy=>?_)) aJ) vh))));exact cX rfl (aA rfl (aj (x:=.int n) (xName rfl) (aj (x:=y) (xName rfl) aJ)) (qM k (hd y hy).1 (hd y hy).2))
theorem uO(k:Nat){n:Nat}{us:List D}(h1:1<=n)(h4:n<=4)(hz:us.length<=100)(hd:∀ x∈us,dep x<=50/\bdB x=true)(hn:us.all (j6 n)=false):u9 T 60 (k+6) "need_steps" [.int n,.lst us]=some "NoStep"/\aG T 60 (k+6) "need_steps" [.int n,.lst us]=none:=by
 have w1:aG T 60 (k+5) "is_whole_within" [.int n,.int 1,.int 4]=some (.bl true):=cN (k+3) (by omega) (by omega);refine pZ (fd:=aQ (top 47)) rfl rfl (Ot (ρ:=[("many",.sh (.int n)),("steps",.sh (.lst us))]) rfl (cL (aA rfl (aj (xName rfl) (aj (ak rfl) (aj (xName rfl) aJ))) w1)) ?_);have a:=zT k (n:=(n:Int)) hz hd;rw[hn] at a;exact rm a rfl
theorem vO(k:Nat):aG T 60 (k+1) "_law_word" [.exc "NoStep"]=some (.str "no step"):=by rfl'
theorem qd(k:Nat):aG T 60 (k+1) "_law_word" [.exc "NoPlace"]=some (.str "no place"):=by rfl'
theorem Er{cx:Cxt}{f:Str}{ds:List D}{ρ:Rho}{sc:Scope}{cn:Str}(hf:isFn cx sc f [.Name "" ⟨0,0,0,0⟩]=true)(h1:cx.callx f ds=some cn)(h2:cx.call f ds=none){q1 q2:Pos}{n:Nat}{es:List Expr}(he:j4 (ev cx n sc ρ) es=some ds)(hp:(es.all aL && !es.isEmpty)=true):evx cx (n+1) sc ρ (.Call (.Name f q1) es [] q2)=some cn/\ev cx (n+1) sc ρ (.Call (.Name f q1) es [] q2)=none:=by
 refine j7 ?_ he h1 h2;rw[K2z] at hp;unfold isFn at hf ⊢;rw[hp.1,hp.2];simpa using hf
def ZK:Stmt->List Stmt
 | .Try b _ _ _ _=>b
 | _=>[]
theorem Fg(k:Nat):aG T 60 (k+1) "_law_word" [.exc "NoFit"]=some (.str "no fit"):=by rfl'
abbrev No(k:Nat)(f:Str)(ds:List D)(c:Str):Prop:=u9 T 60 k f ds=some c/\aG T 60 k f ds=none
noncomputable def od(n:Nat):Nat->D
 | 0=>.tup []
 | 1=>.tup [.int n]
 | 2=>.tup [.int 0,.int 0]
 | 3=>.lst [.int 0]
 | _=>.tup [.int (-1)]
theorem oA(k:Nat):∀ n,1<=n->n<=3->∀ p,p<5->No (k+6) "need_places" [od n p,.int n] "NoPlace":=by
 intro n h1 h3 p hp
 have hn:n=1\/n=2\/n=3:=by omega
 have hp:p=0\/p=1\/p=2\/p=3\/p=4:=by omega
 rcases hn with rfl | rfl | rfl<;>rcases hp with rfl | rfl | rfl | rfl | rfl<;>exact⟨by rfl',by rfl'⟩
theorem w6(k:Nat):No (k+6) "need_places" [niD [0,1],.int 1] "NoPlace":=⟨by rfl',by rfl'⟩
section
variable {n r:Nat} {L:List Stp} {a b:List Nat}
theorem CZ(h3:n<=3){x:Nat}(hx:x<n):[x]∈subs n 1 :=
 (by decide +kernel:∀ n x:Fin 4,x<n->[x.val]∈subs n 1) ⟨n,by omega⟩ ⟨x,by omega⟩ hx
theorem W9(h1:1<=n)(h3:n<=3):[0]∈subs n 1:=CZ h3 h1
theorem Gb(k:Nat){x us y z:D}(h:No k "need_steps" [x,us] "NoStep"):No (k+1) "need_sets" [x,us,y,z] "NoStep" :=
 pZ (fd:=aQ (top 62)) rfl rfl (vM rfl (j7 rfl (aj (x:=x) (xName rfl) (aj (x:=us) (xName rfl) aJ)) h.1 h.2))
theorem wH(k:Nat)(H:DrG n L){x y:D}(q:No (k+6) "need_places" [x,.int n] "NoPlace"):No (k+7) "need_sets" [.int n,ssD L,x,y] "NoPlace":=by
 have n3:=H.n3;exact pZ (fd:=aQ (top 62)) rfl rfl (uq rfl (d:=.non) (aA rfl (aj (x:=.int n) (xName rfl) (aj (x:=ssD L) (xName rfl) aJ)) (need_steps k H.n1 (by omega) (fun x hx=>(H.ok x hx).1) (by have:=H.len;omega))) (vM rfl (j7 rfl (aj (x:=x) (xName rfl) (aj (x:=.int n) (xName rfl) aJ)) q.1 q.2)))
theorem Gd(k:Nat)(H:DrG n L){y:D}(q:No (k+6) "need_places" [y,.int n] "NoPlace"):No (k+7) "need_sets" [.int n,ssD L,niD [0],y] "NoPlace":=by
 have n3:=H.n3;exact pZ (fd:=aQ (top 62)) rfl rfl (uq rfl (d:=.non) (aA rfl (aj (x:=.int n) (xName rfl) (aj (x:=ssD L) (xName rfl) aJ)) (need_steps k H.n1 (by omega) (fun x hx=>(H.ok x hx).1) (by have:=H.len;omega))) (uq rfl (d:=.non) (aA rfl (aj (x:=niD [0]) (xName rfl) (aj (x:=.int n) (xName rfl) aJ)) (fj k n n3 1 _ (W9 H.n1 n3))) (vM rfl (j7 rfl (aj (x:=y) (xName rfl) (aj (x:=.int n) (xName rfl) aJ)) q.1 q.2))))
theorem Pa(h1:2<=n)(h3:n<=3):[0,1]∈subs n 2:=by
 match n,h1,h3 with
 | 2,_,_=>simp[subs]
 | 3,_,_=>simp[subs]
theorem Ge(k:Nat)(H:DrG n L)(h2:2<=n):No (k+7) "need_sets" [.int n,ssD L,niD [0,1],niD [0]] "NoFit":=by
 have n3:=H.n3;exact pZ (fd:=aQ (top 62)) rfl rfl (uq rfl (d:=.non) (aA rfl (aj (x:=.int n) (xName rfl) (aj (x:=ssD L) (xName rfl) aJ)) (need_steps k H.n1 (by omega) (fun x hx=>(H.ok x hx).1) (by have:=H.len;omega))) (uq rfl (d:=.non) (aA rfl (aj (x:=niD [0,1]) (xName rfl) (aj (x:=.int n) (xName rfl) aJ)) (fj k n n3 2 _ (Pa h2 n3))) (uq rfl (d:=.non) (aA rfl (aj (x:=niD [0]) (xName rfl) (aj (x:=.int n) (xName rfl) aJ)) (fj k n n3 1 _ (W9 H.n1 n3))) (rm (bK (x:=.int 2) (y:=.int 1) (dB (ds:=[niD [0,1]]) rfl rfl rfl (aj (xName rfl) aJ) rfl) (dB (ds:=[niD [0]]) rfl rfl rfl (aj (xName rfl) aJ) rfl) rfl) rfl))))
end
section
variable {x us y z:D} {c:Str}
theorem lJ(k:Nat)(h:No k "need_sets" [x,us,y,z] c):No (k+1) "sets_of_ways" [x,us,y,z] c :=
 pZ (fd:=aQ (top 65)) rfl rfl (vM rfl (j7 rfl (aj (x:=x) (xName rfl) (aj (x:=us) (xName rfl) (aj (x:=y) (xName rfl) (aj (x:=z) (xName rfl) aJ)))) h.1 h.2))
theorem ju(k:Nat)(h:No k "need_sets" [x,us,y,z] c):No (k+1) "share_of_sets" [x,us,y,z] c :=
 pZ (fd:=aQ (top 66)) rfl rfl (vM rfl (j7 rfl (aj (x:=x) (xName rfl) (aj (x:=us) (xName rfl) (aj (x:=y) (xName rfl) (aj (x:=z) (xName rfl) aJ)))) h.1 h.2))
end
def rP(w n s a b:D)(kept ans e:Sl):Rho:=[("_law_what",.sh w),("_law_many",.sh n),("_law_steps_here",.sh s),("_law_some_here",.sh a),("_law_others",.sh b),("_law_kept",kept),("_law_answer",ans),("e",e)]
abbrev eDo:Expr:=asV ((ZK (cB 85 2)).getD 0 (.Pass ⟨0,0,0,0⟩))
section
variable {n s a b:D} {c w:Str}
theorem WK(k:Nat)(hw:aG T 60 (k+1) "_law_word" [.exc c]=some (.str w))(h:No (k+1) "sets_of_ways" [n,s,a,b] c)(hc:c="NoStep"\/c="NoPlace"\/c="NoFit"):aG T 60 (k+2) "_law_do" [.int 0,n,s,a,b]=some (.str w):=by
 have go:∀ rs,evx { cxN T 60 (k+1) with rs:=rs } 60 (aQ (top 85)).sc (rP (.int 0) n s a b (.sh .non) (.sh .non) .no) eDo=some c/\ev { cxN T 60 (k+1) with rs:=rs } 60 (aQ (top 85)).sc (rP (.int 0) n s a b (.sh .non) (.sh .non) .no) eDo=none:=fun rs=>Oq (bK (x:=.int 0) (y:=.int 0) (xName rfl) (ak rfl) (Ju rfl)) (Er (cx:={ cxN T 60 (k+1) with rs:=rs }) rfl h.1 h.2 (aj (x:=n) (xName rfl) (aj (x:=s) (xName rfl) (aj (x:=a) (xName rfl) (aj (x:=b) (xName rfl) aJ)))) rfl);refine bW (fd:=aQ (top 85)) rfl rfl (jg rfl (d:=.non) (by nofun) (jg rfl (d:=.non) (by nofun) (MK (ρ:=rP (.int 0) n s a b (.sh .non) (.sh .non) .no) (ρ':=rP (.int 0) n s a b (.sh .non) (.sh .non) .no) (c':=c) rfl (Dg rfl rfl (go true).2 (go false)) (by rcases hc with rfl | rfl | rfl<;>rfl) (pX (bK (x:=.exc c) (y:=.non) (xName rfl) (ak rfl) rfl) (cQ ?_)))));exact aA rfl (aj (x:=.exc c) (xName rfl) aJ) hw
theorem do0(k:Nat){v:D}(h:aG T 60 k "sets_of_ways" [n,s,a,b]=some v):aG T 60 (k+1) "_law_do" [.int 0,n,s,a,b]=some v :=
 bW (fd:=aQ (top 85)) rfl rfl (jg rfl (d:=.non) (by nofun) (jg rfl (d:=.non) (by nofun) (MN rfl (fl1:=.nxt (rP (.int 0) n s a b (.sh .non) (.sh v) .no)) (vd (ρ:=rP (.int 0) n s a b (.sh .non) (.sh .non) .no) rfl rfl rfl (Jq (bK (x:=.int 0) (y:=.int 0) (xName rfl) (ak rfl) (Ju rfl)) (aA rfl (aj (xName rfl) (aj (xName rfl) (aj (xName rfl) (aj (xName rfl) aJ)))) h)) bO) (Oh (ρ:=rP (.int 0) n s a b (.sh .non) (.sh v) .no) (fl1:=.ret v) rfl (bK (x:=.non) (y:=.non) (xName rfl) (ak rfl) rfl) (tY rfl (xName rfl)) rfl))))
theorem WD(k:Nat)(hw:aG T 60 (k+1) "_law_word" [.exc c]=some (.str w))(h:No (k+1) "share_of_sets" [n,s,a,b] c)(hc:c="NoStep"\/c="NoPlace"\/c="NoFit"):aG T 60 (k+2) "_law_do" [.int 1,n,s,a,b]=some (.str w):=by
 have go:∀ rs,evx { cxN T 60 (k+1) with rs:=rs } 60 (aQ (top 85)).sc (rP (.int 1) n s a b (.sh .non) (.sh .non) .no) eDo=some c/\ev { cxN T 60 (k+1) with rs:=rs } 60 (aQ (top 85)).sc (rP (.int 1) n s a b (.sh .non) (.sh .non) .no) eDo=none:=fun rs=>Ou (bK (x:=.int 1) (y:=.int 0) (xName rfl) (ak rfl) (Jv (by decide))) (Er (cx:={ cxN T 60 (k+1) with rs:=rs }) rfl h.1 h.2 (aj (x:=n) (xName rfl) (aj (x:=s) (xName rfl) (aj (x:=a) (xName rfl) (aj (x:=b) (xName rfl) aJ)))) rfl);refine bW (fd:=aQ (top 85)) rfl rfl (jg rfl (d:=.non) (by nofun) (jg rfl (d:=.non) (by nofun) (MK (ρ:=rP (.int 1) n s a b (.sh .non) (.sh .non) .no) (ρ':=rP (.int 1) n s a b (.sh .non) (.sh .non) .no) (c':=c) rfl (Dg rfl rfl (go true).2 (go false)) (by rcases hc with rfl | rfl | rfl<;>rfl) (pX (bK (x:=.exc c) (y:=.non) (xName rfl) (ak rfl) rfl) (cQ ?_)))));exact aA rfl (aj (x:=.exc c) (xName rfl) aJ) hw
theorem do1(k:Nat){v:D}(h:aG T 60 k "share_of_sets" [n,s,a,b]=some v):aG T 60 (k+1) "_law_do" [.int 1,n,s,a,b]=some v :=
 bW (fd:=aQ (top 85)) rfl rfl (jg rfl (d:=.non) (by nofun) (jg rfl (d:=.non) (by nofun) (MN rfl (fl1:=.nxt (rP (.int 1) n s a b (.sh .non) (.sh v) .no)) (vd (ρ:=rP (.int 1) n s a b (.sh .non) (.sh .non) .no) rfl rfl rfl (Jr (bK (x:=.int 1) (y:=.int 0) (xName rfl) (ak rfl) (Jv (by decide))) (aA rfl (aj (xName rfl) (aj (xName rfl) (aj (xName rfl) (aj (xName rfl) aJ)))) h)) bO) (Oh (ρ:=rP (.int 1) n s a b (.sh .non) (.sh v) .no) (fl1:=.ret v) rfl (bK (x:=.non) (y:=.non) (xName rfl) (ak rfl) rfl) (tY rfl (xName rfl)) rfl))))
end
theorem wJ(k:Nat):∀ n:Nat,1<=n->n<=3->∀ r:Nat,1<=r->r<=n->aG T 60 (k+2) "rising_tuples" [.int n,.int r]=some (.lst ((subs n r).map niD)):=by
 intro n h1 h3 r r1 rn
 match n,r,h1,h3,r1,rn with
 | 1,1,_,_,_,_ | 2,1,_,_,_,_ | 2,2,_,_,_,_ | 3,1,_,_,_,_ | 3,2,_,_,_,_ | 3,3,_,_,_,_=>rfl'
theorem sU(k:Nat):∀ n:Nat,1<=n->n<=3->∀ r:Nat,1<=r->r<=n->aG T 60 (k+4) "_law_some" [.int n,.int r]=some (.lst ((subs n r).map niD)):=by
 intro n h1 h3 r r1 rn
 match n,r,h1,h3,r1,rn with
 | 1,1,_,_,_,_ | 2,1,_,_,_,_ | 2,2,_,_,_,_ | 3,1,_,_,_,_ | 3,2,_,_,_,_ | 3,3,_,_,_,_=>rfl'
theorem Wv{cx:Cxt}{F m:Nat}{sc:Scope}{ρ ρ':Rho}{nm:Str}{e:Expr}{r:List Stmt}{fl:Fl}{p:Pos}{px ap cp:Pos}{M:Str}{ds zs:List D}(hf:frz F e ρ=ρ')(hx:ρ'.lookup nm=some (.ow ds))(ho:(ownIn sc nm&&aH nm&&ap.endLine==cp.line)=true)(hM:(M=="append")=false)(hM2:(M=="extend")=true)(hz:szl (ds.length+zs.length)=true)(h:ev cx F sc ρ' e=some (.lst zs))(k:blk cx F (m+1) sc r (cC ρ' nm (.ow (ds++zs)))=some fl):blk cx F (m+1) sc (.Expr (.Call (.Attribute (.Name nm px) M ap) [e] [] cp) p::r) ρ=some fl:=by
 subst hf;exact Zx hx ho hM hM2 hz h k
section
variable {n r:Nat} {L:List Stp}
def Js(n:Nat)(L:List Stp)(a b:List Nat):D:=.tup [niD a,niD b,qD (mn (mkQ n L) a b)]
def qy(n r:Nat)(L:List Stp)(a:List Nat):List D:=(subs n r).map (Js n L a)
def cV(n r:Nat)(L:List Stp)(l:List (List Nat)):List D:=l.flatMap (qy n r L)
def Xd(n r:D)(L tb so pl to sh:Sl):Rho:=[("many",.sh n),("steps",L),("size",.sh r),("tables",tb),("some",so),("places",pl),("told",to),("shares",sh)]
abbrev SA(n r:Nat)(L:List Stp)(so to sh:Sl):Rho:=Xd (.int n) (.int r) (.sh (ssD L)) (.sh (tbg (aB n L))) so (.sh (.lst ((subs n r).map niD))) to sh
abbrev aF:Stmt:=cB 67 4
abbrev aSc:Scope:=(aQ (top 67)).sc
theorem n6{l:List (List Nat)}:(cV n r L l).length=l.length*(subs n r).length:=by
 unfold cV
 induction l with
 | nil=>simp
 | cons a l ih=>rw[F2z,P1z,ih,qy,G3z,P2z,T4z];omega
theorem all_sets(k:Nat)(H:DrG n L)(r1:1<=r)(rn:r<=n):aG T 60 (k+8) "all_sets" [.int n,ssD L,.int r]=some (.lst (cV n r L (subs n r))):=by
 have n3:=H.n3;have rt:=wJ (k+5) n H.n1 n3 r r1 rn;have fw:=jd n n3 r
 obtain⟨ρ',⟨so,sh,hs,hh,rfl⟩,go⟩:=d9 (f:=fF (cxN T 60 (k+7)) 60 59 aSc (cG aF) (aU aF)) (g:=niD) (whole:=subs n r) (P:=fun pre ρ=>∃ so sh,SlK so/\SlK sh/\ρ=SA n r L so (.ow (cV n r L pre)) sh) (fun pre a post ρ e=>fun⟨so,sh,hs,hh,hρ⟩=>by
  subst hρ
  have ha:a∈subs n r:=by rw[<- e];simp
  have ns:=kj (k+1) H ha;refine⟨SA n r L (.sh (niD a)) (.ow (cV n r L (pre++[a]))) (.sh (fK ((gD (aB n L) a).map edG))),⟨_,_,gC,gC,rfl⟩,?_⟩;refine dX (ρ1:=SA n r L (.sh (niD a)) (.ow (cV n r L pre)) sh) rfl ?_;refine dG (ρ':=SA n r L (.sh (niD a)) (.ow (cV n r L pre)) sh) (d:=fK ((gD (aB n L) a).map edG)) (ao rfl (ao rfl (ao rfl (ao rfl (ao rfl (ao rfl (gP rfl (ao (bf hh) cZ)))))))) rfl rfl (aA rfl (aj (x:=tbg (aB n L)) (xName rfl) (aj (x:=niD a) (xName rfl) aJ)) ns) ?_
  have ea:cV n r L (pre++[a])=cV n r L pre++qy n r L a:=by simp[cV]
  rw[ea];refine Wv (ρ:=SA n r L (.sh (niD a)) (.ow (cV n r L pre)) (.sh (fK ((gD (aB n L) a).map edG)))) (ρ':=SA n r L (.sh (niD a)) (.ow (cV n r L pre)) (.sh (fK ((gD (aB n L) a).map edG)))) (zs:=qy n r L a) (ao rfl (ao rfl (ao rfl (ao rfl (ao rfl (ao rfl (gP rfl (ao rfl cZ)))))))) rfl rfl rfl rfl (iy ?_) ?_ bO
  ·have e2:=congrArg List.length e
   simp only[P1z,P2z] at e2;have:pre.length*(subs n r).length<=3*3:=E4z (by omega) fw;rw[n6,qy,G3z];omega
  ·refine cD (l:=(subs n r).map niD) rfl (wSq (x:=.lst ((subs n r).map niD)) rfl (xName rfl) rfl) (iy (by rw[G3z];omega)) (dH fun b hb=>cX rfl ?_)
   have v:=jq n3 ha L (fun y hy=>(H.gk y hy).2) b hb
   exact cI (aj (x:=niD a) (xName rfl) (aj (x:=niD b) (xName rfl) (aj (JM (x:=fK ((gD (aB n L) a).map edG)) (y:=niD b) (z:=qD 0) rfl (xName rfl) (xName rfl) (cI (aj (ak rfl) (aj (ak rfl) aJ)) rfl) (by rw[qO,v])) aJ))) rfl) (pre:=[]) (l:=subs n r) rfl ⟨.no,.no,.inl rfl,.inl rfl,rfl⟩
 refine bW (fd:=aQ (top 67)) rfl rfl (qP rfl (d:=.non) (aA rfl (aj (x:=.int n) (xName rfl) (aj (x:=ssD L) (xName rfl) aJ)) (need_steps (k+1) H.n1 (by omega) (fun x hx=>(H.ok x hx).1) (by have:=H.len;omega))) ?_)
 refine jg rfl (d:=tbg (aB n L)) (aA rfl (aj (x:=.int n) (xName rfl) (aj (x:=ssD L) (xName rfl) aJ)) (H.tbl k)) ?_;refine jg rfl (d:=.lst ((subs n r).map niD)) (cD (l:=(subs n r).map niD) rfl (wSq (x:=.lst ((subs n r).map niD)) rfl (aA rfl (aj (x:=.int n) (xName rfl) (aj (x:=.int r) (xName rfl) aJ)) rt) rfl) (iy (by rw[G3z];omega)) (dH (g:=niD) fun a ha=>(m9 (t:=true) rfl (bK (x:=.int (a.length:Int)) (y:=.int 0) (dB (ds:=[niD a]) rfl rfl rfl (aj (xName rfl) aJ) ?_) (ak rfl) ?_) (xName rfl)).trans rfl)) ?_
 ·show some (D.int ((a.map _).length:Int))=_
  rw[G3z]
 ·have:=bH n n3 r a ha
  exact congrArg (fun b=>some (D.bl b)) (Y3z (by omega))
 refine jg rfl (d:=.lst []) (nC aJ rfl) ?_;refine dJ (ρ:=Xd (.int n) (.int r) (.sh (ssD L)) (.sh (tbg (aB n L))) .no (.ow ((subs n r).map niD)) (.ow []) .no) (ρ':=SA n r L .no (.ow []) .no) ?_ (wSq (x:=.lst ((subs n r).map niD)) rfl (xName rfl) rfl) go ?_
 ·exact ao rfl (ao rfl (ao rfl (ao rfl (ao rfl (tD rfl (gP rfl (ao rfl cZ)))))))
 ·exact gRetE (ρ':=SA n r L so (.sh (.lst (cV n r L (subs n r)))) sh) (ao rfl (ao rfl (ao rfl (ao rfl (ao (bf hs) (ao rfl (tD rfl (ao (bf hh) cZ)))))))) (xName rfl)
end
def S0(n:Nat):Nat->List (List Nat)
 | 0=>[[]]
 | r+1=>subs n (r+1)
theorem Z7:∀ (n:Fin 4) (r:Fin 3),∀ a∈subs n (r+1),(a.length=r.val+1/\a.getD 0 0<n.val/\a.drop 1∈S0 n r)/\∀ i:Fin (r.val+1),a.getD i 0<n.val/\a.eraseIdx i∈S0 n r:=by decide +kernel
theorem Xb{n r:Nat}(hn:n<=3)(hr:r<3){a:List Nat}(ha:a∈subs n (r+1)):(a.length=r+1/\a.getD 0 0<n/\a.drop 1∈S0 n r)/\∀ i,i<r+1->a.getD i 0<n/\a.eraseIdx i∈S0 n r :=
 let h:=Z7 ⟨n,by omega⟩ ⟨r,hr⟩ a ha
 ⟨h.1,fun i hi=>h.2 ⟨i,hi⟩⟩
def sgR(i:Nat):Rat:=if i%2=1 then -1 else 1
def sgI(i:Nat):Int:=if i%2=1 then -1 else 1
def vB(t a b:D)(pa k co re sg:Sl):Rho:=[("_law_table_here",.sh t),("_law_some_here",.sh a),("_law_others",.sh b),("_law_parts",pa),("_law_k",k),("_law_column",co),("_law_rest",re),("_law_sign",sg)]
theorem Zk(b:List Nat):(b.map fun(x:Nat)=>D.int x)=Ls b.length fun i=>.int ((b.getD i 0:Nat):Int):=by
 apply T2z
 ·simp[Ls]
 ·intro i h1 h2
  simp[Ls] at h1 ⊢;simp[List.getD,h1]
abbrev nF:Stmt:=cB 86 2
abbrev nSc:Scope:=(aQ (top 86)).sc
theorem Lw(k:Nat){t b:D}:aG T 60 (k+1) "_law_minor" [t,niD [],b]=some (qD 1) :=
 bW (fd:=aQ (top 86)) rfl rfl (uV (fl1:=.ret (qD 1)) (bK (x:=.tup []) (y:=.tup []) (xName rfl) (cI aJ rfl) rfl) (cQ (cI (aj (ak rfl) (aj (ak rfl) aJ)) rfl)) rfl)
section
variable {n:Nat} {M:Nat->Nat->Rat} {x:Nat} {as b:List Nat} {R:Nat->Rat}
def ptU(M:Nat->Nat->Rat)(x:Nat)(b:List Nat)(R:Nat->Rat)(i:Nat):Int:=sgI i*(M x (b.getD i 0)).num*(R i).num
def ptL(M:Nat->Nat->Rat)(x:Nat)(b:List Nat)(R:Nat->Rat)(i:Nat):Int:=((M x (b.getD i 0)).den:Int)*((R i).den:Int)
theorem Br(k:Nat)(h4:n<=4)(hx:x<n)(hb:∀ i,i<b.length->b.getD i 0<n)(hl:b.length<=4)(ha:as.length<=4)
  (hr:∀ i,i<b.length->aG T 60 (k+2) "_law_minor" [ftq n n M,niD as,niD (b.eraseIdx i)]=some (qD (R i)))
  (hm:∀ i,i<b.length->(M x (b.getD i 0)).num.natAbs<=1000000000/\(M x (b.getD i 0)).den<=1000000000/\(R i).num.natAbs<=1000000000/\(R i).den<=1000000000)
  (hs:∀ i,i<b.length->Sq (dg i fun j=>sgR j*M x (b.getD j 0)*R j)) :
  aG T 60 (k+3) "_law_minor" [ftq n n M,niD (x::as),niD b]=some (qD (dg b.length fun j=>sgR j*M x (b.getD j 0)*R j)):=by
 have q:∀ i,qo (ptU M x b R i) (ptL M x b R i)=sgR i*M x (b.getD i 0)*R i:=fun i=>by
  unfold qo ptU ptL;have e1:=jA (M x (b.getD i 0));have e2:=jA (R i);have d1:=gJ (M x (b.getD i 0));have d2:=gJ (R i)
  have e3:((sgI i:Int):Rat)=sgR i:=by unfold sgI sgR;split<;>rfl
  rw[T3z,T3z,T3z,e3,e1,e2];show sgR i*(M x (b.getD i 0)*((M x (b.getD i 0)).den:Rat))*(R i*((R i).den:Rat)) / (((M x (b.getD i 0)).den:Rat)*((R i).den:Rat))=_;grind
 have sg1:∀ i,(sgI i).natAbs=1:=fun i=>by unfold sgI;split<;>rfl
 have sm:=Hw k (n:=b.length) (u:=ptU M x b R) (d:=ptL M x b R) (fun i hi=>W3z (tQ _) (tQ _)) (fun i hi=>by
  obtain⟨m1,m2,m3,m4⟩:=hm i hi;constructor
  ·unfold ptU
   rw[D4z,D4z,sg1,Nat.one_mul];exact Q4z (E4z m1 m3) (by decide)
  ·unfold ptL
   rw[D4z]
   exact Q4z (E4z m2 m4) (by decide)) (fun i hi=>by
  have:=hs i hi
  simpa only[q] using this)
 simp only[q] at sm
 obtain⟨ρ',⟨c1,c2,c3,c4,h1,h2,h3,h5,rfl⟩,go⟩:=gQ (f:=fF (cxN T 60 (k+2)) 60 59 nSc (cG nF) (aU nF)) (h:=fun i=>.tup [.int i,.int ((b.getD i 0:Nat):Int)]) (N:=b.length) (P:=fun i ρ=>∃ c1 c2 c3 c4,nOw c1=true/\nOw c2=true/\nOw c3=true/\nOw c4=true/\ρ=vB (ftq n n M) (niD (x::as)) (niD b) (.ow (Ls i fun i=>frD (ptU M x b R i) (ptL M x b R i))) c1 c2 c3 c4) (fun i ρ hi hP=>by
  obtain⟨c1,c2,c3,c4,h1,h2,h3,h5,rfl⟩:=hP;refine⟨vB (ftq n n M) (niD (x::as)) (niD b) (.ow (Ls (i+1) fun i=>frD (ptU M x b R i) (ptL M x b R i))) (.sh (.int i)) (.sh (.int ((b.getD i 0:Nat):Int))) (.sh (qD (R i))) (.sh (.int (sgI i))),⟨_,_,_,_,rfl,rfl,rfl,rfl,rfl⟩,?_⟩;refine dX (ρ1:=vB (ftq n n M) (niD (x::as)) (niD b) (.ow (Ls i fun i=>frD (ptU M x b R i) (ptL M x b R i))) (.sh (.int i)) (.sh (.int ((b.getD i 0:Nat):Int))) c3 c4) rfl ?_;have hr':=hr i hi;obtain⟨m1,m2,m3,m4⟩:=hm i hi
  have bi:i<(b.map fun(x:Nat)=>D.int x).length:=by rw[G3z];exact hi
  refine dG (ρ':=vB (ftq n n M) (niD (x::as)) (niD b) (.ow (Ls i fun i=>frD (ptU M x b R i) (ptL M x b R i))) (.sh (.int i)) (.sh (.int ((b.getD i 0:Nat):Int))) c3 c4) (d:=qD (R i)) (ao rfl (ao rfl (ao rfl (gP rfl (ao rfl (ao rfl (ao h3 (ao h5 cZ)))))))) rfl rfl (aA rfl (aj (x:=ftq n n M) (xName rfl) (aj (x:=niD as) (vN (i:=1) (us:=(x::as).map fun(x:Nat)=>D.int x) (xName rfl) (ak rfl) (by decide) (by simp)) (aj (x:=niD (b.eraseIdx i)) (vp (cj (x:=.tup ((b.map fun(x:Nat)=>D.int x).take i)) (y:=.tup ((b.map fun(x:Nat)=>D.int x).drop (i+1))) (Om (i:=i) (xName rfl) (xName rfl) bi) (vN (i:=i+1) (xName rfl) (cj (x:=.int i) (y:=.int 1) (xName rfl) (ak rfl) rfl) (by omega) bi) (Jl (by simp;omega))) ?_) aJ))) hr') ?_
  ·rw[<- List.map_take,<- List.map_drop,<- R3z,<- List.eraseIdx_eq_take_drop_succ]
  refine dG (ρ:=vB (ftq n n M) (niD (x::as)) (niD b) (.ow (Ls i fun i=>frD (ptU M x b R i) (ptL M x b R i))) (.sh (.int i)) (.sh (.int ((b.getD i 0:Nat):Int))) (.sh (qD (R i))) c4) (ρ':=vB (ftq n n M) (niD (x::as)) (niD b) (.ow (Ls i fun i=>frD (ptU M x b R i) (ptL M x b R i))) (.sh (.int i)) (.sh (.int ((b.getD i 0:Nat):Int))) (.sh (qD (R i))) c4) (d:=.int (sgI i)) (ao rfl (ao rfl (ao rfl (gP rfl (ao rfl (ao rfl (ao rfl (ao h5 cZ)))))))) rfl rfl ?_ ?_
  ·unfold sgI
   by_cases he:i%2=1
   ·rw[R5z he]
    exact Jq (bK (x:=.int ((i:Int)%2)) (y:=.int 1) (cj (x:=.int i) (y:=.int 2) (xName rfl) (ak rfl) rfl) (ak rfl) (Ju (by omega))) (EY (ak rfl))
   ·rw[S5z he]
    exact Jr (bK (x:=.int ((i:Int)%2)) (y:=.int 1) (cj (x:=.int i) (y:=.int 2) (xName rfl) (ak rfl) rfl) (ak rfl) (Jv (by omega))) (ak rfl)
  refine uW (ρ:=vB (ftq n n M) (niD (x::as)) (niD b) (.ow (Ls i fun i=>frD (ptU M x b R i) (ptL M x b R i))) (.sh (.int i)) (.sh (.int ((b.getD i 0:Nat):Int))) (.sh (qD (R i))) (.sh (.int (sgI i)))) (ρ':=vB (ftq n n M) (niD (x::as)) (niD b) (.ow (Ls i fun i=>frD (ptU M x b R i) (ptL M x b R i))) (.sh (.int i)) (.sh (.int ((b.getD i 0:Nat):Int))) (.sh (qD (R i))) (.sh (.int (sgI i)))) (d:=frD (ptU M x b R i) (ptL M x b R i)) (ao rfl (ao rfl (ao rfl (gP rfl (ao rfl (ao rfl (ao rfl (ao rfl cZ)))))))) rfl rfl rfl (iy (by simp[Ls];omega)) ?_ ?_
  ·exact cI (aj (cj (x:=.int (sgI i*(M x (b.getD i 0)).num)) (y:=.int (R i).num) (cj (x:=.int (sgI i)) (y:=.int (M x (b.getD i 0)).num) (xName rfl) (zY (CN (m:=n) (j:=b.getD i 0) (h:=fun j=>qD (M x j)) (CN (m:=n) (j:=x) (h:=fun i=>rwq n (M i)) (xName rfl) (xIx (x:=niD (x::as)) (i:=0) (xName rfl) (ak rfl) rfl at0) hx rfl rfl) (xName rfl) (hb i hi) rfl rfl)) (nj (.inr (smB (by omega))))) (zY (xName rfl)) (nj (.inr (smB (by omega))))) (aj (cj (x:=.int ((M x (b.getD i 0)).den:Int)) (y:=.int ((R i).den:Int)) (JD (CN (m:=n) (j:=b.getD i 0) (h:=fun j=>qD (M x j)) (CN (m:=n) (j:=x) (h:=fun i=>rwq n (M i)) (xName rfl) (xIx (x:=niD (x::as)) (i:=0) (xName rfl) (ak rfl) rfl at0) hx rfl rfl) (xName rfl) (hb i hi) rfl rfl)) (JD (xName rfl)) (nj (.inr (smB (by omega))))) aJ)) rfl
  ·rw[zX];exact bO) (ρ:=vB (ftq n n M) (niD (x::as)) (niD b) (.ow (Ls 0 fun i=>frD (ptU M x b R i) (ptL M x b R i))) .no .no .no .no) ⟨.no,.no,.no,.no,rfl,rfl,rfl,rfl,rfl⟩
 refine bW (fd:=aQ (top 86)) rfl rfl (pX (bK (x:=niD (x::as)) (y:=.tup []) (xName rfl) (cI aJ rfl) ?_) (jg rfl (d:=.lst []) (nC aJ rfl) ?_))
 ·exact(Lj (x:=x::as) (y:=[])).trans (by simp)
 refine dJ (ρ:=vB (ftq n n M) (niD (x::as)) (niD b) (.ow []) .no .no .no .no) (ρ':=vB (ftq n n M) (niD (x::as)) (niD b) (.ow []) .no .no .no .no) (ao rfl (ao rfl (ao rfl (gP rfl (ao rfl (ao rfl (ao rfl (ao rfl cZ)))))))) (O1 (m:=b.length) (h:=fun i=>.int ((b.getD i 0:Nat):Int)) rfl (vp (xName rfl) (congrArg D.tup (Zk b)))) go ?_;exact gRetE (ρ':=vB (ftq n n M) (niD (x::as)) (niD b) (.sh (.lst (Ls b.length fun i=>frD (ptU M x b R i) (ptL M x b R i)))) c1 c2 c3 c4) (ao rfl (ao rfl (ao rfl (tD rfl (ao h1 (ao h2 (ao h3 (ao h5 cZ)))))))) (aA rfl (aj (x:=.lst (Ls b.length fun i=>frD (ptU M x b R i) (ptL M x b R i))) (xName rfl) aJ) sm)
end
section
variable {n:Nat} {M:Nat->Nat->Rat}
theorem Lq{x:Nat}{as b:List Nat}(hb:b.length<=3):mn M (x::as) b=dg b.length fun j=>sgR j*M x (b.getD j 0)*mn M as (b.eraseIdx j):=by
 match b,hb with
 | [],_=>rfl
 | [y],_=>simp[mn,mnS,dg,sgR];grind
 | [y,z],_=>simp[mn,mnS,dg,sgR];grind
 | [y,z,w],_=>simp[mn,mnS,dg,sgR];grind
structure MnB (n:Nat) (M:Nat->Nat->Rat) (D B:Nat):Prop where
 d0:0<D
 d1:D<=1296
 b0:D<=B
 b1:B<=12960000
 h:∀ r,∀ a∈subs n r,∀ b∈subs n r,Qb D B (mn M a b)
theorem MnB.h0{D B:Nat}(H:MnB n M D B):∀ r,∀ a∈S0 n r,∀ b∈S0 n r,Qb D B (mn M a b)
 | 0,a,ha,b,hb=>by
  rw[List.mem_singleton.mp ha];exact Qb.one.up H.b0
 | r+1,a,ha,b,hb=>H.h (r+1) a ha b hb
theorem sumQ_b{D B:Nat}{f:Nat->Rat}:∀ i,(∀ j,j<i->Qb D B (f j))->Qb D (i*B) (dg i f)
 | 0,_=>by rw[Nat.zero_mul];exact Qb.zero
 | i+1,h=>by
  have:=(sumQ_b i fun j hj=>h j (by omega)).add (h i (by omega));rw[T4z];exact this
theorem Z5{D B i:Nat}{q:Rat}(h:Qb D B q):Qb D B (sgR i*q):=by
 unfold sgR;split
 ·obtain⟨x,h1,h2⟩:=h
  exact⟨-x,by rw[Rat.intCast_neg,<- h1];grind,by omega⟩
 ·rw[Rat.one_mul];exact h
theorem DN(h3:n<=3){D B:Nat}(H:MnB n M D B):∀ (k r:Nat),r<=3->∀ a∈S0 n r,∀ b∈S0 n r,aG T 60 (k+3+r) "_law_minor" [ftq n n M,niD a,niD b]=some (qD (mn M a b))
 | k,0,_,a,ha,b,hb=>by
  rw[List.mem_singleton.mp ha];exact Lw (k+2)
 | k,r+1,hr,a,ha,b,hb=>by
  obtain⟨⟨a1,a2,a3⟩,a4⟩:=Xb h3 (by omega) ha;obtain⟨⟨b1,b2,b3⟩,b4⟩:=Xb h3 (by omega) hb
  match a,a1,a2,a3 with
  | x::as,a1,a2,a3 =>
   have hx:x<n:=a2;have has:as∈S0 n r:=a3
   have qm:∀ i,i<b.length->Qb D B (M x (b.getD i 0)):=fun i hi=>by
    have:=H.h 1 [x] (CZ h3 hx) [b.getD i 0] (CZ h3 (b4 i (by omega)).1)
    rwa [mn1] at this
   have qr:∀ i,i<b.length->Qb D B (mn M as (b.eraseIdx i)):=fun i hi=>H.h0 r as has _ (b4 i (by omega)).2;have d0:=H.d0;have d1:=H.d1;have e1:=H.b1;rw[Lq (by omega),show k+3+(r+1)=k+r+1+3 by omega];refine Br (M:=M) (as:=as) (b:=b) (R:=fun j=>mn M as (b.eraseIdx j)) (k+r+1) (by omega) hx (fun i hi=>(b4 i (by omega)).1) (by omega) (by simp at a1;omega) (fun i hi=>?_) (fun i hi=>?_) (fun i hi=>?_)
   ·have:=DN h3 H k r (by omega) as has (b.eraseIdx i) (b4 i (by omega)).2
    rw[show k+r+1+2=k+3+r by omega];exact this
   ·have p1:=(qm i hi).num d0
    have p2:=(qr i hi).num d0;omega
   ·have s:=sumQ_b (D:=D*D) (B:=B*B) (f:=fun j=>sgR j*M x (b.getD j 0)*mn M as (b.eraseIdx j)) i fun j hj=>by
     have:=Z5 (i:=j) ((qm j (by omega)).mul (qr j (by omega)))
     rwa [<- Rat.mul_assoc] at this
    have w1:D*D<=1296*1296:=E4z d1 d1;have w2:B*B<=12960000*12960000:=E4z e1 e1;have w3:i*(B*B)<=3*(12960000*12960000):=E4z (by omega) w2;exact s.sq (Nat.mul_pos d0 d0) (by omega) (by omega)
theorem Lr{L:List Stp}(H:DrG n L)(hl:L.length<=4):MnB n (mkQ n L) (6^L.length) (2^L.length*30^L.length):=by
 have key:∀ t,t<5->0<6^t/\6^t<=1296/\6^t<=2^t*30^t/\2^t*30^t<=12960000:=by decide +kernel
 obtain⟨k1,k2,k3,k4⟩:=key L.length (by omega);refine⟨k1,k2,k3,k4,fun r a ha b hb=>?_⟩;have gk:=H.gk (r:=r);rw[<- lW H.n3 ha (fun y hy=>(gk y hy).2) hb]
 have s:=nQ (D:=6^L.length) (B:=30^L.length) (l:=((eZ (aB n L) a).filter fun q=>decide (q.x=b)).map fun q=>q.s) fun q hq=>by
  obtain⟨z,hz,rfl⟩:=List.mem_map.mp hq;exact(gH H.n3 ha L gk z (List.mem_filter.mp hz).1).2.2.1
 refine s.up (A1z _ ?_);rw[G3z];exact Q4z (V0z _ _) (fX H.n3 ha L gk)
end
theorem Ko{a:List Nat}:∀ L:List Stp,∀ n,∀ q∈eZ (aB n L) a,(q.pre++[q.x]).getD 0 []=a:=by
 intro L
 induction L using lN with
 | h0 =>
  intro n q hq;rw[List.mem_singleton.mp hq];rfl
 | hs L y ih =>
  intro n q hq;rw[show aB n (L++[y])=aB n L++[(ftq n n (stQ y),goG n (stQ y))] by simp[aB],eY] at hq;obtain⟨q0,h0,h1⟩:=List.mem_flatMap.mp hq;obtain⟨j,hj,rfl⟩:=List.mem_map.mp h1;have:=ih n q0 h0;show((q0.pre++[q0.x])++[j.1]).getD 0 []=a;rw[<- this]
  cases q0.pre<;>rfl
theorem WL:∀ (n r:Fin 4),∀ a∈subs n r,(ddp (a.map fun(x:Nat)=>(x:Int))).length=a.length:=by decide +kernel
theorem Ew:∀ l:List Nat,iU (l.map fun(x:Nat)=>D.int x)=some (l.map fun(x:Nat)=>(x:Int))
 | []=>rfl
 | x::l=>by
  show(iU (l.map _)).map _=_;rw[Ew l];rfl
abbrev liN(l:List Nat):D:=.lst (l.map fun(x:Nat)=>D.int x)
theorem zB{l:List Nat}:dep (liN l)<=50:=by
 have:=JC (l:=l);show deps _+1<=50;simp only[dep] at this;omega
abbrev wyS(r:Nat)(P:List (List Nat)):D:=.tup (Ls r fun c=>niD (gZ P c))
def wL(w a b:D)(at' lv:Sl):Rho:=[("_law_some_ways",.sh w),("_law_some_here",.sh a),("_law_others",.sh b),("_law_at",at'),("_law_levels",lv)]
theorem xY{r:Nat}{l:List Nat}(h:l.length=r):(Ls r fun c=>D.int ((l.getD c 0:Nat):Int))=l.map fun(x:Nat)=>D.int x:=by rw[Zk,h]
theorem Em{P:List (List Nat)}{t c:Nat}(ht:t<P.length):atD ((gZ P c).map fun(x:Nat)=>D.int x) (t:Int)=some (.int (((P.getD t []).getD c 0:Nat):Int)):=by
 refine nq ?_;unfold gZ;rw[X4z,List.getElem?_map,List.getElem?_eq_getElem ht];simp[List.getD,ht]
theorem Jj{P:List (List Nat)}{b:List Nat}{c:Nat}:atD ((gZ (P++[b]) c).map fun(x:Nat)=>D.int x) (-1)=some (.int ((b.getD c 0:Nat):Int)):=by
 unfold gZ;rw[R3z,R3z];exact nu
abbrev eSc:Scope:=(aQ (top 87)).sc
abbrev eF:Stmt:=cB 87 1
section
variable {n r:Nat} {P:List (List Nat)} {a b:List Nat}
theorem Mq(k:Nat)(h3:n<=3)(r1:1<=r)(rn:r<=n)(hP:∀ l∈P++[b],l∈subs n r)(ha:(P++[b]).getD 0 []=a)(hz:P.length<=10):aG T 60 (k+1) "_law_is_set" [wyS r (P++[b]),niD a,niD b]=some (.bl true):=by
 have gl:∀ t,t<(P++[b]).length->(P++[b]).getD t []∈subs n r:=fun t ht=>hP _ (by rw[List.getD,List.getElem?_eq_getElem ht];exact Z2z ht)
 have le:∀ t,t<(P++[b]).length->((P++[b]).getD t []).length=r:=fun t ht=>bH n h3 r _ (gl t ht)
 have l0:0<(P++[b]).length:=by simp
 have bl:b.length=r:=bH n h3 r b (hP b (by simp));have e0:=le 0 l0;rw[ha] at e0;have lvs:∀ t,t<(P++[b]).length->(Ls r fun c=>D.int ((((P++[b]).getD t []).getD c 0:Nat):Int))=((P++[b]).getD t []).map fun(x:Nat)=>D.int x:=fun t ht=>xY (le t ht)
 obtain⟨ρ',⟨c1,c2,h1,h2,rfl⟩,go⟩:=gQ (f:=fF (cxN T 60 k) 60 59 eSc (cG eF) (aU eF)) (h:=fun t=>.int t) (N:=(P++[b]).length) (P:=fun _ ρ=>∃ c1 c2,nOw c1=true/\(c2=.no\/∃ ds,c2=.ow ds)/\ρ=wL (wyS r (P++[b])) (niD a) (niD b) c1 c2) (fun t ρ ht hP'=>by
  obtain⟨c1,c2,h1,h2,rfl⟩:=hP';have dd:(ddp (((P++[b]).getD t []).map fun(x:Nat)=>(x:Int))).length=r:=(WL ⟨n,by omega⟩ ⟨r,by omega⟩ _ (gl t ht)).trans (le t ht)
  have ev1:ev (cxN T 60 k) 60 eSc (wL (wyS r (P++[b])) (niD a) (niD b) (.sh (.int t)) c2) (asV ((aU eF).getD 0 (.Pass ⟨0,0,0,0⟩)))=some (liN ((P++[b]).getD t [])):=by
   rw[show liN ((P++[b]).getD t [])=.lst (Ls r fun c=>D.int ((((P++[b]).getD t []).getD c 0:Nat):Int)) from congrArg D.lst (lvs t ht).symm];exact cD (l:=Ls r fun c=>niD (gZ (P++[b]) c)) rfl (Ab rfl (xName rfl)) (iW (by omega)) (bD (g:=fun c=>D.int ((((P++[b]).getD t []).getD c 0:Nat):Int)) fun c hc=>cX rfl (xIx (x:=niD (gZ (P++[b]) c)) (i:=(t:Int)) (xName rfl) (xName rfl) rfl (Em ht)))
  refine⟨wL (wyS r (P++[b])) (niD a) (niD b) (.sh (.int t)) (.ow (((P++[b]).getD t []).map fun(x:Nat)=>D.int x)),⟨_,_,rfl,.inr ⟨_,rfl⟩,rfl⟩,?_⟩;refine dX (ρ1:=wL (wyS r (P++[b])) (niD a) (niD b) (.sh (.int t)) c2) rfl ?_
  have fz:∀ e:Expr,dh 60 "_law_levels" e=false->frz 60 e (wL (wyS r (P++[b])) (niD a) (niD b) (.sh (.int t)) c2)=wL (wyS r (P++[b])) (niD a) (niD b) (.sh (.int t)) c2:=fun e he=>by
   rcases h2 with rfl | ⟨ds,rfl⟩
   ·exact ao rfl (ao rfl (ao rfl (ao rfl (ao rfl cZ))))
   ·exact ao rfl (ao rfl (ao rfl (ao rfl (gP he cZ))))
  refine jg rfl (d:=liN ((P++[b]).getD t [])) (by rw[fz _ rfl];exact ev1) ?_ (by rw[fz _ rfl];rfl) (by rw[fz _ rfl];rcases h2 with rfl | ⟨ds,rfl⟩<;>rfl)
  rw[fz _ rfl];refine vI (ρ:=wL (wyS r (P++[b])) (niD a) (niD b) (.sh (.int t)) (.ow (((P++[b]).getD t []).map fun(x:Nat)=>D.int x))) (ρ':=wL (wyS r (P++[b])) (niD a) (niD b) (.sh (.int t)) (.sh (liN ((P++[b]).getD t [])))) (ao rfl (ao rfl (ao rfl (ao rfl (tD rfl cZ))))) (bK (x:=.int ((ddp (((P++[b]).getD t []).map fun(x:Nat)=>(x:Int))).length:Nat)) (y:=.int r) (xLs rfl rfl (xName rfl) (Ew _) (by rw[G3z,le t ht];omega)) (dB (ds:=[liN ((P++[b]).getD t [])]) rfl rfl rfl (aj (xName rfl) aJ) ?_) (Hh (by rw[dd]))) bO;show some (D.int ((((P++[b]).getD t []).map _).length:Int))=_
  rw[G3z,le t ht]) (ρ:=wL (wyS r (P++[b])) (niD a) (niD b) .no .no) ⟨.no,.no,rfl,.inl rfl,rfl⟩
 have dw:dep (.lst (Ls r fun c=>D.int ((a.getD c 0:Nat):Int)))<=50:=by rw[xY e0];exact zB
 refine bW (fd:=aQ (top 87)) rfl rfl (pX (bY (j5 (bK (x:=liN a) (y:=liN a) ?_ (dB (ds:=[niD a]) rfl rfl rfl (aj (xName rfl) aJ) rfl) (Jt zB)) (iw (bK (x:=liN b) (y:=liN b) ?_ (dB (ds:=[niD b]) rfl rfl rfl (aj (xName rfl) aJ) rfl) (Jt zB))))) ?_)
 ·rw[show liN a=.lst (Ls r fun c=>D.int ((((P++[b]).getD 0 []).getD c 0:Nat):Int)) by rw[lvs 0 l0,ha]]
  exact cD (l:=Ls r fun c=>niD (gZ (P++[b]) c)) rfl (Ab rfl (xName rfl)) (iW (by omega)) (bD (g:=fun c=>D.int ((((P++[b]).getD 0 []).getD c 0:Nat):Int)) fun c hc=>cX rfl (xIx (x:=niD (gZ (P++[b]) c)) (i:=0) (xName rfl) (ak rfl) rfl (Em (t:=0) l0)))
 ·rw[show liN b=.lst (Ls r fun c=>D.int ((b.getD c 0:Nat):Int)) by rw[xY bl]]
  exact cD (l:=Ls r fun c=>niD (gZ (P++[b]) c)) rfl (Ab rfl (xName rfl)) (iW (by omega)) (bD (g:=fun c=>D.int ((b.getD c 0:Nat):Int)) fun c hc=>cX rfl (xIx (x:=niD (gZ (P++[b]) c)) (i := -1) (xName rfl) (EY (ak rfl)) rfl Jj))
 refine dJ (ρ:=wL (wyS r (P++[b])) (niD a) (niD b) .no .no) (ρ':=wL (wyS r (P++[b])) (niD a) (niD b) .no .no) rfl (Fq (j:=(P++[b]).length) rfl (dB (ds:=[niD (gZ (P++[b]) 0)]) rfl rfl rfl (aj (CN (m:=r) (j:=0) (h:=fun c=>niD (gZ (P++[b]) c)) (xName rfl) (ak rfl) r1 rfl rfl) aJ) ?_) (by simp;omega)) go ?_
 ·show some (D.int (((gZ (P++[b]) 0).map _).length:Int))=_
  rw[G3z,gZ,G3z]
 ·exact cQ (ak rfl)
end
theorem zy{r:Nat}{q:Rg}:dep (eU r q)<=20:=by
 have:deps (Ls r fun c=>niD (gZ (q.pre++[q.x]) c))<=5:=f9 fun z hz=>by
  obtain⟨c,_,rfl⟩:=List.mem_map.mp hz;exact JC
 simp only[eU,dep,deps,qD,frD];omega
theorem zx:∀ {us vs:List D} {i:Nat} {x y:D},jP us vs=true->us[i]?=some x->vs[i]?=some y->deq x y=true
 | x::us,y::vs,0,_,_,h,h1,h2=>by
  simp only[jP,K2z] at h;simp at h1 h2;rw[<- h1,<- h2];exact h.1
 | x::us,y::vs,i+1,_,_,h,h1,h2=>by
  simp only[jP,K2z] at h;exact zx h.2 (by simpa using h1) (by simpa using h2)
theorem Ji{r:Nat}{P P':List (List Nat)}(r1:1<=r)(h:∀ l∈P,l.length=r)(h':∀ l∈P',l.length=r)(e:∀ c,c<r->gZ P c=gZ P' c):P=P':=by
 have el:P.length=P'.length:=by
  have:=congrArg List.length (e 0 (by omega));simpa[gZ] using this
 refine T2z el fun t h1 h2=>?_;refine T2z ((h _ (Z2z h1)).trans (h' _ (Z2z h2)).symm) fun c h3 h4=>?_
 have hc:c<r:=by rw[<- h _ (Z2z h1)];exact h3
 have:=congrArg (fun l=>l[t]?) (e c hc);simp only[gZ,List.getElem?_map,List.getElem?_eq_getElem h1,List.getElem?_eq_getElem h2,L3z,E2z,List.getD,List.getElem?_eq_getElem h3,List.getElem?_eq_getElem h4,S2z] at this;exact this
theorem Gf{r:Nat}{q q':Rg}(r1:1<=r)(h:∀ l∈mF q,l.length=r)(h':∀ l∈mF q',l.length=r)(e:deq (eU r q) (eU r q')=true):mF q=mF q':=by
 simp only[eU,deq,jP,K2z] at e;refine Ji r1 h h' fun c hc=>?_;have:=zx e.1 (iV hc) (iV hc);exact of_decide_eq_true ((zu _ _).symm.trans this)
section
variable {r:Nat} {Q:List Rg}
theorem Wg(r1:1<=r)(h:∀ q∈Q,∀ l∈mF q,l.length=r)(nd:(Q.map mF).Nodup){i:Nat}{q:Rg}(hi:Q[i]?=some q):cmpop .In (eU r q) (.lst (nD (Q.map (eU r)) none (some (i:Int))))=some (.bl false):=by
 have hil:i<Q.length:=by
  rcases Nat.lt_or_ge i Q.length with h | h
  ·exact h
  ·rw[List.getElem?_eq_none h] at hi;cases hi
 have hq:q∈Q:=List.mem_of_getElem? hi
 have ec:nD (Q.map (eU r)) none (some (i:Int))=(Q.take i).map (eU r):=by
  unfold nD;simp only[lV,G3z,List.drop_zero,List.map_take];rw[S5z (by omega)];congr 1;omega
 rw[ec]
 have ds:deps ((Q.take i).map (eU r))<=20:=f9 fun z hz=>by
  obtain⟨c,_,rfl⟩:=List.mem_map.mp hz;exact zy
 have dq:=zy (r:=r) (q:=q)
 have an:(((Q.take i).map (eU r)).any fun y=>deq y (eU r q))=false:=by
  rw[List.any_eq_false];intro y hy e;obtain⟨q',hq',rfl⟩:=List.mem_map.mp hy;obtain⟨j,hj,ej⟩:=List.mem_take_iff_getElem.mp hq'
  have jl:j<Q.length:=by omega
  have:=Gf r1 (h q' (List.mem_of_mem_take hq')) (h q hq) e;have n2:=(List.pairwise_iff_getElem.mp nd) j i (by simpa using jl) (by simpa using hil) (by omega);simp only[V2z] at n2;rw[List.getElem?_eq_getElem hil] at hi;cases hi;rw[<- ej] at this;exact n2 this
 show(if decide (dep (eU r q)<=50)&&decide (deps ((Q.take i).map (eU r))<=50) then some (D.bl (((Q.take i).map (eU r)).any fun y=>deq y (eU r q))) else none)=_;rw[an,Y3z (by omega),Y3z (by omega)];rfl
end
abbrev lSc:Scope:=(aQ (top 88)).sc
abbrev bdy(i:Nat):List Stmt:=(aQ (top 88)).body.drop i
def Kq(ns:List Int)(m s md sz rw so ot du se st en od bd to:Sl):Rho:=[("_law_script",.sh (scr ns)),("_law_many",m),("_law_steps_here",s),("_law_made_here",md),("_law_size_here",sz),("_law_rows",rw),("_law_some_here",so),("_law_others",ot),("_law_due",du),("_law_sets",se),("_law_start",st),("_law_end",en),("_law_odd",od),("_law_bad",bd),("_law_told",to)]
abbrev SL(ns:List Int)(n:Nat)(L:List Stp)(sz rw so ot du se:Sl):Rho:=Kq ns (.sh (.int n)) (.sh (ssD L)) (.sh (ftq n n (mkQ n L))) sz rw so ot du se .no .no .no .no .no
abbrev lF:Stmt:=cB 88 3
abbrev lG:Stmt:=(aU lF).getD 1 (.Pass ⟨0,0,0,0⟩)
abbrev lH:Stmt:=(aU lG).getD 0 (.Pass ⟨0,0,0,0⟩)
theorem jV{f:D->Option (Option D)}:∀ {l:List D},(∀ x∈l,f x=some none)->bG f l=some []
 | [],_=>rfl
 | x::l,h=>by
  simp only[bG,h x K1z,jV fun y hy=>h y (W0z _ hy),bind,Q2z]
section
variable {ns:List Int} {n r:Nat} {L:List Stp} {a b:List Nat}
theorem frL{R:List D}{sz so ot du se:Sl}{e:Expr}(h0:nOw sz=true)(h1:nOw so=true)(h2:nOw ot=true)(h3:nOw du=true)(h4:nOw se=true)(he:dh 60 "_law_rows" e=false):frz 60 e (SL ns n L sz (.ow R) so ot du se)=SL ns n L sz (.ow R) so ot du se :=
 ao rfl (ao rfl (ao rfl (ao rfl (ao h0 (gP he (ao h1 (ao h2 (ao h3 (ao h4 (ao rfl (ao rfl (ao rfl (ao rfl (ao rfl cZ))))))))))))))
theorem Bs(H:DrG n L)(hl:L.length<=4)(r1:1<=r)(rn:r<=n)(ha:a∈subs n r)(hb:b∈subs n r):aG T 60 39 "_law_minor" [ftq n n (mkQ n L),niD a,niD b]=some (qD (mn (mkQ n L) a b)):=by
 have n3:=H.n3
 match r,r1,rn,ha,hb with
 | r+1,r1,rn,ha,hb =>
  have:=DN n3 (Lr H hl) (35-r) (r+1) (by omega) a ha b hb;rw[show 35-r+3+(r+1)=39 by omega] at this;exact this
abbrev QR(n:Nat)(L:List Stp)(a b:List Nat):List Rg:=(eZ (aB n L) a).filter fun q=>decide (q.x=b)
theorem J9(H:DrG n L)(hl:L.length<=4)(ha:a∈subs n r)(hb:b∈subs n r):aG T 60 39 "_law_sum" [.lst ((QR n L a b).map fun q=>qD q.s)]=some (qD (mn (mkQ n L) a b)):=by
 have gk:=H.gk (r:=r);have ok:=gH H.n3 ha L gk;have rl:=fX H.n3 ha L gk
 have key:∀ t,t<5->0<6^t/\6^t<=1000000000000000000/\16*30^t<=1000000000000000000/\2^t<=16:=by decide +kernel
 obtain⟨k1,k2,k3,k4⟩:=key L.length (by omega);have fl:(QR n L a b).length<=(eZ (aB n L) a).length:=V0z (fun q:Rg=>decide (q.x=b)) (eZ (aB n L) a)
 have qb:∀ q∈(QR n L a b).map fun q=>q.s,Qb (6^L.length) (30^L.length) q:=fun q hq=>by
  obtain⟨z,hz,rfl⟩:=List.mem_map.mp hq;exact(ok z (List.mem_filter.mp hz).1).2.2.1
 have s:=Bt 37 (l:=(QR n L a b).map fun q=>q.s) (fun q hq=>(qb q hq).sq k1 k2 (by omega)) fun pre post e=>by
  have sb:=nQ (l:=pre) fun q hq=>qb q (by rw[<- e];exact X0z _ hq)
  have pl:pre.length<=16:=by
   have:=congrArg List.length e;rw[P1z,G3z] at this;omega
  have:=A1z (30^L.length) pl;exact sb.sq k1 k2 (by omega)
 rw[X4z,lW H.n3 ha (fun y hy=>(gk y hy).2) hb] at s;exact s
theorem q_nn{q:Rat}(h:0<=q):¬ q.num<0:=by
 have:=Rat.num_nonneg.mpr h;omega
theorem IK{us:List D}{x:D}(h:x∈enD us):∃ (i:Nat) (d:D),us[i]?=some d/\x=.tup [.int i,d]:=by
 obtain⟨⟨d,i⟩,h1,rfl⟩:=List.mem_map.mp h;exact⟨i,d,List.mk_mem_zipIdx_iff_getElem?.mp h1,rfl⟩
theorem l_in(H:DrG n L)(hl:L.length<=4)(r1:1<=r)(rn:r<=n)(ha:a∈subs n r)(hb:b∈subs n r){R:List D}{ot du se:Sl}(h2:nOw ot=true)(h3:nOw du=true)(h4:nOw se=true)(hR:R.length<=100):fF (cxN T 60 39) 60 57 lSc (cG lH) (aU lH) (niD b) (SL ns n L (.sh (.int r)) (.ow R) (.sh (niD a)) ot du se)=some (.nxt (SL ns n L (.sh (.int r)) (.ow (R++[Js n L a b])) (.sh (niD a)) (.sh (niD b)) (.sh (qD (mn (mkQ n L) a b))) (.sh (.lst ((QR n L a b).map (eU r)))))):=by
 have n3:=H.n3;have gk:=H.gk (r:=r);have ok:=gH n3 ha L gk;have rl:=fX n3 ha L gk;have p2:2^L.length<=2^4:=B1z (by decide) hl;have fl:(QR n L a b).length<=(eZ (aB n L) a).length:=V0z (fun q:Rg=>decide (q.x=b)) (eZ (aB n L) a);have mi:=Bs H hl r1 rn ha hb;have d0:=do0 38 (sets_of_ways 29 H ha hb);have d1:=do1 38 (share_of_sets 29 H ha hb);have sm:=J9 H hl ha hb
 have dq:dep (qD (mn (mkQ n L) a b))<=50:=by simp[qD,frD,dep,deps]
 have len:∀ q∈QR n L a b,∀ l∈mF q,l.length=r:=fun q hq l hl'=>bH n n3 r l ((ok q (List.mem_filter.mp hq).1).1 l hl')
 have nd:((QR n L a b).map mF).Nodup:=by
  have:=Km n3 ha L gk;exact this.sublist (List.Sublist.map _ (List.filter_sublist))
 refine dX (ρ1:=SL ns n L (.sh (.int r)) (.ow R) (.sh (niD a)) (.sh (niD b)) du se) rfl ?_;refine dG (ρ':=SL ns n L (.sh (.int r)) (.ow R) (.sh (niD a)) (.sh (niD b)) du se) (d:=qD (mn (mkQ n L) a b)) (frL rfl rfl rfl h3 h4 rfl) rfl rfl (aA rfl (aj (x:=ftq n n (mkQ n L)) (xName rfl) (aj (x:=niD a) (xName rfl) (aj (x:=niD b) (xName rfl) aJ))) mi) ?_;refine dG (ρ:=SL ns n L (.sh (.int r)) (.ow R) (.sh (niD a)) (.sh (niD b)) (.sh (qD (mn (mkQ n L) a b))) se) (ρ':=SL ns n L (.sh (.int r)) (.ow R) (.sh (niD a)) (.sh (niD b)) (.sh (qD (mn (mkQ n L) a b))) se) (d:=.lst ((QR n L a b).map (eU r))) (frL rfl rfl rfl rfl h4 rfl) rfl rfl (aA rfl (aj (ak rfl) (aj (x:=.int n) (xName rfl) (aj (x:=ssD L) (xName rfl) (aj (x:=niD a) (xName rfl) (aj (x:=niD b) (xName rfl) aJ))))) d0) ?_;refine vI (ρ:=SL ns n L (.sh (.int r)) (.ow R) (.sh (niD a)) (.sh (niD b)) (.sh (qD (mn (mkQ n L) a b))) (.sh (.lst ((QR n L a b).map (eU r))))) (ρ':=SL ns n L (.sh (.int r)) (.ow R) (.sh (niD a)) (.sh (niD b)) (.sh (qD (mn (mkQ n L) a b))) (.sh (.lst ((QR n L a b).map (eU r))))) (frL rfl rfl rfl rfl rfl rfl) (bY (j5 (bK (x:=.int (mn (mkQ n L) a b).num) (y:=.int 0) (zY (xName rfl)) (ak rfl) (Ob (q_nn (V5 n3 ha gk hb)))) (iw (bK (x:=qD (mn (mkQ n L) a b)) (y:=qD (mn (mkQ n L) a b)) (aA rfl (aj (ak rfl) (aj (x:=.int n) (xName rfl) (aj (x:=ssD L) (xName rfl) (aj (x:=niD a) (xName rfl) (aj (x:=niD b) (xName rfl) aJ))))) d1) (xName rfl) (Jt dq))))) ?_;refine vI (ρ':=SL ns n L (.sh (.int r)) (.ow R) (.sh (niD a)) (.sh (niD b)) (.sh (qD (mn (mkQ n L) a b))) (.sh (.lst ((QR n L a b).map (eU r))))) (frL rfl rfl rfl rfl rfl rfl) (bK (x:=qD (mn (mkQ n L) a b)) (y:=qD (mn (mkQ n L) a b)) (aA rfl (aj (x:=.lst ((QR n L a b).map fun q=>qD q.s)) (cD (l:=(QR n L a b).map (eU r)) rfl (wSq (x:=.lst ((QR n L a b).map (eU r))) rfl (xName rfl) rfl) (iy (by rw[G3z];omega)) (dH fun q hq=>cX rfl (xIx (x:=eU r q) (i:=1) (xName rfl) (ak rfl) rfl rfl))) aJ) sm) (xName rfl) (Jt dq)) ?_;refine vI (ρ':=SL ns n L (.sh (.int r)) (.ow R) (.sh (niD a)) (.sh (niD b)) (.sh (qD (mn (mkQ n L) a b))) (.sh (.lst ((QR n L a b).map (eU r))))) (frL rfl rfl rfl rfl rfl rfl) (bK (x:=.lst []) (y:=.lst []) (cD (l:=(QR n L a b).map (eU r)) rfl (wSq (x:=.lst ((QR n L a b).map (eU r))) rfl (xName rfl) rfl) (iy (by rw[G3z];omega)) (jV fun x hx=>?_)) (nC aJ rfl) rfl) ?_
 ·obtain⟨q,hq,rfl⟩:=List.mem_map.mp hx
  obtain⟨q1,q2⟩:=List.mem_filter.mp hq;have qx:q.x=b:=of_decide_eq_true q2;obtain⟨o1,o2,_,_⟩:=ok q q1;have hd:=Ko L n q q1;rw[qx] at o1 hd;have is:=Mq 38 (P:=q.pre) n3 r1 rn o1 hd (by omega);refine(m9 (t:=false) rfl (cL (aA rfl (aj (x:=wyS r (q.pre++[b])) (xIx (x:=eU r q) (i:=0) (xName rfl) (ak rfl) rfl ?_) (aj (x:=niD a) (xName rfl) (aj (x:=niD b) (xName rfl) aJ))) is)) (xName rfl)).trans rfl;rw[<- qx];rfl
 refine vI (ρ':=SL ns n L (.sh (.int r)) (.ow R) (.sh (niD a)) (.sh (niD b)) (.sh (qD (mn (mkQ n L) a b))) (.sh (.lst ((QR n L a b).map (eU r))))) (frL rfl rfl rfl rfl rfl rfl) (bK (x:=.int 0) (y:=.int 0) (dB (ds:=[.lst []]) rfl rfl rfl (aj (cD (l:=enD ((QR n L a b).map (eU r))) rfl (OJ rfl (xName rfl)) (iy (by rw[enD,G3z,List.length_zipIdx,G3z];omega)) (jV fun x hx=>?_)) aJ) rfl) (ak rfl) rfl) ?_
 ·obtain⟨i,d,h1,rfl⟩:=IK hx
  rw[List.getElem?_map] at h1;obtain⟨q,hq,rfl⟩:=Q0z.mp h1;exact(m9 (t:=false) rfl (bK (x:=eU r q) (y:=.lst (nD ((QR n L a b).map (eU r)) none (some (i:Int)))) (xName rfl) (ZG (xName rfl) Hg (Hf (xName rfl))) (Wg r1 len nd hq)) (xName rfl)).trans rfl
 exact uW (ρ':=SL ns n L (.sh (.int r)) (.ow R) (.sh (niD a)) (.sh (niD b)) (.sh (qD (mn (mkQ n L) a b))) (.sh (.lst ((QR n L a b).map (eU r))))) (d:=Js n L a b) (frL rfl rfl rfl rfl rfl rfl) rfl rfl rfl (iy (by omega)) (cI (aj (xName rfl) (aj (xName rfl) (aj (xName rfl) aJ))) rfl) bO
end
section
variable {ns:List Int} {n r:Nat} {L:List Stp} {a b:List Nat}
theorem Wb(H:DrG n L)(hl:L.length<=4)(r1:1<=r)(rn:r<=n)(ha:a∈subs n r){R:List D}{so ot du se:Sl}(h1:nOw so=true)(h2:nOw ot=true)(h3:nOw du=true)(h4:nOw se=true)(hR:R.length<=50):∃ ot' du' se',nOw ot'=true/\nOw du'=true/\nOw se'=true/\fF (cxN T 60 39) 60 58 lSc (cG lG) (aU lG) (niD a) (SL ns n L (.sh (.int r)) (.ow R) so ot du se)=some (.nxt (SL ns n L (.sh (.int r)) (.ow (R++qy n r L a)) (.sh (niD a)) ot' du' se')):=by
 have n3:=H.n3;have fw:=jd n n3 r;have ls:=sU 35 n H.n1 n3 r r1 rn
 obtain⟨ρ',⟨ot',du',se',q2,q3,q4,rfl⟩,go⟩:=d9 (f:=fF (cxN T 60 39) 60 57 lSc (cG lH) (aU lH)) (g:=niD) (whole:=subs n r) (P:=fun pre ρ=>∃ ot du se,nOw ot=true/\nOw du=true/\nOw se=true/\ρ=SL ns n L (.sh (.int r)) (.ow (R++pre.map (Js n L a))) (.sh (niD a)) ot du se) (fun pre b post ρ e=>fun⟨ot,du,se,q2,q3,q4,hρ⟩=>by
  subst hρ
  have hb:b∈subs n r:=by rw[<- e];simp
  have el:=congrArg List.length e;simp only[P1z,P2z] at el;have:=l_in (ns:=ns) H hl r1 rn ha hb (R:=R++pre.map (Js n L a)) q2 q3 q4 (by rw[P1z,G3z];omega)
  exact⟨_,⟨_,_,_,rfl,rfl,rfl,by rw[R3z,<- X1z];rfl⟩,this⟩) (pre:=[]) (l:=subs n r) rfl ⟨ot,du,se,h2,h3,h4,by rw[U4z,E3z]⟩
 refine⟨ot',du',se',q2,q3,q4,?_⟩;refine dX (ρ1:=SL ns n L (.sh (.int r)) (.ow R) (.sh (niD a)) ot du se) rfl ?_;exact dJ (ρ:=SL ns n L (.sh (.int r)) (.ow R) (.sh (niD a)) ot du se) (ρ':=SL ns n L (.sh (.int r)) (.ow R) (.sh (niD a)) ot du se) (frL rfl rfl h2 h3 h4 rfl) (wSq (x:=.lst ((subs n r).map niD)) rfl (aA rfl (aj (x:=.int n) (xName rfl) (aj (x:=.int r) (xName rfl) aJ)) ls) rfl) go bO
theorem Cv{l:List (List Nat)}:dep (.lst (cV n r L l))<=50:=by
 have:deps (cV n r L l)<=20:=f9 fun z hz=>by
  obtain⟨a,_,hz⟩:=List.mem_flatMap.mp hz;obtain⟨b,_,rfl⟩:=List.mem_map.mp hz;have h1:=JC (l:=a);have h2:=JC (l:=b);simp only[Js,dep,deps,qD,frD] at h1 h2 ⊢;omega
 show deps _+1<=50;omega
def RwS(s:Sl):Prop:=s=.no\/∃ R,s=.ow R
theorem frR{rw' sz so ot du se:Sl}{e:Expr}(h:RwS rw')(h0:nOw sz=true)(h1:nOw so=true)(h2:nOw ot=true)(h3:nOw du=true)(h4:nOw se=true)(he:dh 60 "_law_rows" e=false):frz 60 e (SL ns n L sz rw' so ot du se)=SL ns n L sz rw' so ot du se:=by
 rcases h with rfl | ⟨R,rfl⟩
 ·exact ao rfl (ao rfl (ao rfl (ao rfl (ao h0 (ao rfl (ao h1 (ao h2 (ao h3 (ao h4 (ao rfl (ao rfl (ao rfl (ao rfl (ao rfl cZ))))))))))))))
 ·exact frL h0 h1 h2 h3 h4 he
theorem noo{s:Sl}(h:nOw s=true):JB s=false:=by cases s<;>first | rfl | simp[nOw] at h
theorem noR{rw' sz so ot du se:Sl}{x:Str}(h:RwS rw')(h0:nOw sz=true)(h1:nOw so=true)(h2:nOw ot=true)(h3:nOw du=true)(h4:nOw se=true):qF (SL ns n L sz rw' so ot du se) x=true :=
 gj rfl (gj rfl (gj rfl (gj rfl (gj (noo h0) (gj (by rcases h with rfl | ⟨R,rfl⟩<;>rfl) (gj (noo h1) (gj (noo h2) (gj (noo h3) (gj (noo h4) (gj rfl (gj rfl (gj rfl (gj rfl (gj rfl Zm))))))))))))))
theorem l_out(H:DrG n L)(hl:L.length<=4)(r1:1<=r)(rn:r<=n){sz rw' so ot du se:Sl}(h:RwS rw')(h0:nOw sz=true)(h1:nOw so=true)(h2:nOw ot=true)(h3:nOw du=true)(h4:nOw se=true):∃ R so' ot' du' se',nOw so'=true/\nOw ot'=true/\nOw du'=true/\nOw se'=true/\fF (cxN T 60 39) 60 59 lSc (cG lF) (aU lF) (.int r) (SL ns n L sz rw' so ot du se)=some (.nxt (SL ns n L (.sh (.int r)) (.ow R) so' ot' du' se')):=by
 have n3:=H.n3;have fw:=jd n n3 r;have ls:=sU 35 n H.n1 n3 r r1 rn;have al:=all_sets 31 H r1 rn
 obtain⟨ρ',⟨so',ot',du',se',q1,q2,q3,q4,rfl⟩,go⟩:=d9 (f:=fF (cxN T 60 39) 60 58 lSc (cG lG) (aU lG)) (g:=niD) (whole:=subs n r) (P:=fun pre ρ=>∃ so ot du se,nOw so=true/\nOw ot=true/\nOw du=true/\nOw se=true/\ρ=SL ns n L (.sh (.int r)) (.ow (cV n r L pre)) so ot du se) (fun pre a post ρ e=>fun⟨so,ot,du,se,q1,q2,q3,q4,hρ⟩=>by
  subst hρ
  have ha:a∈subs n r:=by rw[<- e];simp
  have el:=congrArg List.length e;simp only[P1z,P2z] at el;have pl:pre.length*(subs n r).length<=3*3:=E4z (by omega) fw;obtain⟨ot',du',se',p2,p3,p4,go⟩:=Wb (ns:=ns) H hl r1 rn ha (R:=cV n r L pre) q1 q2 q3 q4 (by rw[n6];omega)
  exact⟨_,⟨_,_,_,_,rfl,p2,p3,p4,by rw[show cV n r L (pre++[a])=cV n r L pre++qy n r L a by simp[cV]]⟩,go⟩) (pre:=[]) (l:=subs n r) rfl ⟨so,ot,du,se,h1,h2,h3,h4,rfl⟩
 refine⟨cV n r L (subs n r),so',ot',du',se',q1,q2,q3,q4,?_⟩;refine dX (ρ1:=SL ns n L (.sh (.int r)) rw' so ot du se) rfl ?_;refine jg rfl (d:=.lst []) (nC aJ rfl) ?_ (by rw[frR h rfl h1 h2 h3 h4 rfl];rfl) (by rw[frR h rfl h1 h2 h3 h4 rfl,noR h rfl h1 h2 h3 h4];rfl);rw[frR h rfl h1 h2 h3 h4 rfl];refine dJ (ρ:=SL ns n L (.sh (.int r)) (.ow []) so ot du se) (ρ':=SL ns n L (.sh (.int r)) (.ow []) so ot du se) (frL rfl h1 h2 h3 h4 rfl) (wSq (x:=.lst ((subs n r).map niD)) rfl (aA rfl (aj (x:=.int n) (xName rfl) (aj (x:=.int r) (xName rfl) aJ)) ls) rfl) go ?_;exact vI (ρ:=SL ns n L (.sh (.int r)) (.ow (cV n r L (subs n r))) so' ot' du' se') (ρ':=SL ns n L (.sh (.int r)) (.sh (.lst (cV n r L (subs n r)))) so' ot' du' se') (ao rfl (ao rfl (ao rfl (ao rfl (ao rfl (tD rfl (ao q1 (ao q2 (ao q3 (ao q4 (ao rfl (ao rfl (ao rfl (ao rfl (ao rfl cZ))))))))))))))) (bK (x:=.lst (cV n r L (subs n r))) (y:=.lst (cV n r L (subs n r))) (aA rfl (aj (x:=.int n) (xName rfl) (aj (x:=ssD L) (xName rfl) (aj (x:=.int r) (xName rfl) aJ))) al) (xName rfl) (Jt Cv)) bO
end
section
variable {n x y:Nat} {L:List Stp}
theorem Lk(k:Nat)(H:DrG n L)(hx:x<n)(hy:y<n):aG T 60 (k+7) "need_levels" [.int n,ssD L,.int x,.int y]=some .non:=by
 have n3:=H.n3;exact um (fd:=aQ (top 61)) rfl rfl (qP rfl (d:=.non) (aA rfl (aj (xName rfl) (aj (xName rfl) aJ)) (need_steps k H.n1 (by omega) (fun x hx=>(H.ok x hx).1) (by have:=H.len;omega))) (qP rfl (d:=.non) (aA rfl (aj (xName rfl) (aj (xName rfl) aJ)) (need_place (k+2) hx)) (qP rfl (d:=.non) (aA rfl (aj (xName rfl) (aj (xName rfl) aJ)) (need_place (k+2) hy)) bO)))
theorem Oz(k:Nat)(H:DrG n L)(hl:L.length<=4)(hx:x<n)(hy:y<n):aG T 60 (k+9) "ways" [.int n,ssD L,.int x,.int y]=some (.lst ((QR n L [x] [y]).map fun q=>.tup [niD (gZ (q.pre++[q.x]) 0),qD q.s])):=by
 have ha:=CZ H.n3 hx;have rb:=gG (b:=[y]) k H ha;have rl:=fX H.n3 ha L (H.gk (r:=1));have p2:2^L.length<=2^4:=B1z (by decide) hl;have fl:(QR n L [x] [y]).length<=(eZ (aB n L) [x]).length:=V0z _ _;refine bW (fd:=aQ (top 63)) rfl rfl (qP rfl (d:=.non) (aA rfl (aj (xName rfl) (aj (xName rfl) (aj (xName rfl) (aj (xName rfl) aJ)))) (Lk (k+1) H hx hy)) (cQ (cD (l:=(QR n L [x] [y]).map (eU 1)) rfl (wSq (x:=.lst ((QR n L [x] [y]).map (eU 1))) rfl (aA rfl (aj (xName rfl) (aj (xName rfl) (aj (x:=niD [x]) (cI (aj (xName rfl) aJ) rfl) (aj (x:=niD [y]) (cI (aj (xName rfl) aJ) rfl) aJ)))) rb) rfl) (iy (by rw[G3z];omega)) (dH fun q hq=>cX rfl ?_))));exact cI (aj (xIx (x:=.tup [niD (gZ (q.pre++[q.x]) 0)]) (i:=0) (xName rfl) (ak rfl) rfl at0) (aj (x:=qD q.s) (xName rfl) aJ)) rfl
theorem Ai(k:Nat)(H:DrG n L)(hx:x<n)(hy:y<n):aG T 60 (k+9) "share_of_ways" [.int n,ssD L,.int x,.int y]=some (qD (mn (mkQ n L) [x] [y])):=by
 have ha:=CZ H.n3 hx;have s:=fU (b:=[y]) k H ha;rw[jq H.n3 ha L (fun y hy=>(H.gk y hy).2) [y] (CZ H.n3 hy)] at s;exact bW (fd:=aQ (top 64)) rfl rfl (qP rfl (d:=.non) (aA rfl (aj (xName rfl) (aj (xName rfl) (aj (xName rfl) (aj (xName rfl) aJ)))) (Lk (k+1) H hx hy)) (cQ (aA rfl (aj (x:=.int n) (xName rfl) (aj (x:=ssD L) (xName rfl) (aj (x:=niD [x]) (cI (aj (xName rfl) aJ) rfl) (aj (x:=niD [y]) (cI (aj (xName rfl) aJ) rfl) aJ)))) s)))
def bdL(n:Nat)(L:List Stp):List D:=L.map stD++[.tup [.str "scale",.int n,frD 1 1]]
theorem ok_b{x:Stp}(h:okS n x):dep (stD x)<=50/\bdB (stD x)=true:=by
 refine⟨by simp[stD,dep,deps],?_⟩;show(decide (x.s.num.natAbs<=1000000000000000000)&&decide (((x.s.den:Nat):Int).natAbs<=1000000000000000000))=true;rw[Y3z h.sq.1,Y3z (by simpa using h.sq.2)];rfl
theorem Nt(k:Nat)(H:DrG n L){a b:D}:No (k+7) "need_sets" [.int n,.lst (bdL n L),a,b] "NoStep":=by
 have n1:=H.n1;have n3:=H.n3;have l5:=H.len;refine Gb (k+6) (uO k n1 (by omega) (by simp[bdL];omega) (fun x hx=>?_) ?_)
 ·rcases List.mem_append.mp hx with hx | hx
  ·obtain⟨y,hy,rfl⟩:=List.mem_map.mp hx
   exact ok_b (H.ok y hy).1
  ·rw[List.mem_singleton.mp hx]
   exact⟨by simp[frD,dep,deps],rfl⟩
 ·unfold bdL
  rw[List.all_append]
  have:([.tup [.str "scale",.int n,frD 1 1]]:List D).all (j6 (n:Int))=false:=by
   have:n=1\/n=2\/n=3:=by omega
   rcases this with rfl | rfl | rfl<;>rfl
  rw[this,C4z]
theorem WT(k:Nat)(H:DrG n L){a b:D}:aG T 60 (k+9) "_law_do" [.int 0,.int n,.lst (bdL n L),a,b]=some (.str "no step"):=WK (k+7) (vO (k+7)) (lJ (k+7) (Nt k H)) (.inl rfl)
theorem WR(k:Nat)(H:DrG n L){a b:D}:aG T 60 (k+9) "_law_do" [.int 1,.int n,.lst (bdL n L),a,b]=some (.str "no step"):=WD (k+7) (vO (k+7)) (ju (k+7) (Nt k H)) (.inl rfl)
theorem Qp(k:Nat)(H:DrG n L){p:Nat}(hp:p<5){b:D}:aG T 60 (k+9) "_law_do" [.int 0,.int n,ssD L,od n p,b]=some (.str "no place"):=WK (k+7) (qd (k+7)) (lJ (k+7) (wH k H (oA k n H.n1 H.n3 p hp))) (.inr (.inl rfl))
theorem Qo(k:Nat)(H:DrG n L){p:Nat}(hp:p<5):aG T 60 (k+9) "_law_do" [.int 1,.int n,ssD L,niD [0],od n p]=some (.str "no place"):=WD (k+7) (qd (k+7)) (ju (k+7) (Gd k H (oA k n H.n1 H.n3 p hp))) (.inr (.inl rfl))
def wd(n:Nat):Str:=if n=1 then "no place" else "no fit"
theorem M8(k:Nat)(H:DrG n L):∃ c:Str,(c="NoStep"\/c="NoPlace"\/c="NoFit")/\No (k+7) "need_sets" [.int n,ssD L,niD [0,1],niD [0]] c/\aG T 60 (k+8) "_law_word" [.exc c]=some (.str (wd n)):=by
 by_cases h:n=1
 ·subst h
  exact⟨"NoPlace",.inr (.inl rfl),wH k H (w6 k),qd (k+7)⟩
 ·have:=H.n1
  refine⟨"NoFit",.inr (.inr rfl),Ge k H (by omega),?_⟩;rw[wd,S5z h];exact Fg (k+7)
theorem Wz(k:Nat)(H:DrG n L):aG T 60 (k+9) "_law_do" [.int 0,.int n,ssD L,niD [0,1],niD [0]]=some (.str (wd n)):=by
 obtain⟨c,hc,h1,h2⟩:=M8 k H;exact WK (k+7) h2 (lJ (k+7) h1) hc
theorem Wy(k:Nat)(H:DrG n L):aG T 60 (k+9) "_law_do" [.int 1,.int n,ssD L,niD [0,1],niD [0]]=some (.str (wd n)):=by
 obtain⟨c,hc,h1,h2⟩:=M8 k H;exact WD (k+7) h2 (ju (k+7) h1) hc
end
theorem WX{us vs:List D}(h:us.length+vs.length<=100000):binop .Add (.lst us) (.lst vs)=some (.lst (us++vs)):=by
 show(if szl (us.length+vs.length)=true then some (D.lst (us++vs)) else none)=_;rw[R5z (iy h)]
theorem Wo{cx:Cxt}{F m:Nat}{sc:Scope}{ρ ρ1 ρ':Rho}{e:Expr}{d:D}{p q:Pos}{r:List Stmt}{fl:Fl}{es:List Expr}{j:Nat}{l:List D}(hf:frz F e ρ=ρ1)(hs:(swp sc es e).isSome=true)(h:ev cx F sc ρ1 e=some d)(hl:items d=some l)(hb:bindNames sc es l ρ1=some ρ')(k:blk cx F (m+1) sc r ρ'=some fl):blk cx F (m+1) sc (.Assign [.Tuple es j q] e p::r) ρ=some fl:=by
 subst hf;exact gTup hs h hl hb k
section
variable {ns:List Int} {n:Nat} {L:List Stp} {sz so ot du se:Sl} {R:List D}
abbrev TL(ns:List Int)(n:Nat)(L:List Stp)(sz rw so ot du se st en od bd to:Sl):Rho:=Kq ns (.sh (.int n)) (.sh (ssD L)) (.sh (ftq n n (mkQ n L))) sz rw so ot du se st en od bd to
structure CmL (sz so ot du se:Sl):Prop where
 h0:nOw sz=true
 h1:nOw so=true
 h2:nOw ot=true
 h3:nOw du=true
 h4:nOw se=true
theorem frT{st en od bd to:Sl}{e:Expr}(C:CmL sz so ot du se)(g1:nOw st=true)(g2:nOw en=true)(g3:nOw od=true)(g4:nOw bd=true)(g5:nOw to=true)(he:dh 60 "_law_rows" e=false):frz 60 e (TL ns n L sz (.ow R) so ot du se st en od bd to)=TL ns n L sz (.ow R) so ot du se st en od bd to :=
 ao rfl (ao rfl (ao rfl (ao rfl (ao C.h0 (gP he (ao C.h1 (ao C.h2 (ao C.h3 (ao C.h4 (ao g1 (ao g2 (ao g3 (ao g4 (ao g5 cZ))))))))))))))
theorem noT{st en od bd to:Sl}{x:Str}(C:CmL sz so ot du se)(g1:nOw st=true)(g2:nOw en=true)(g3:nOw od=true)(g4:nOw bd=true)(g5:nOw to=true):qF (TL ns n L sz (.ow R) so ot du se st en od bd to) x=true :=
 gj rfl (gj rfl (gj rfl (gj rfl (gj (noo C.h0) (gj rfl (gj (noo C.h1) (gj (noo C.h2) (gj (noo C.h3) (gj (noo C.h4) (gj (noo g1) (gj (noo g2) (gj (noo g3) (gj (noo g4) (gj (noo g5) Zm))))))))))))))
theorem t7(H:DrG n L)(C:CmL sz so ot du se){x y:Nat}:blk (cxN T 60 39) 60 60 lSc (bdy 7) (TL ns n L sz (.ow R) so ot du se (.sh (.int x)) (.sh (.int y)) .no .no .no)=some (.ret (.bl true)):=by
 have n1:=H.n1;have n3:=H.n3;have l5:=H.len;have hp:=bR (ns:=ns) (k:=3) (many:=5) (by omega);have pk:=pick 37 ns 3 (many:=5) (by omega);generalize pickN ns 3 5=p at hp pk;refine dG (ρ':=TL ns n L sz (.ow R) so ot du se (.sh (.int x)) (.sh (.int y)) .no .no .no) (d:=od n p) (frT C rfl rfl rfl rfl rfl rfl) rfl rfl (xIx (x:=.lst [.tup [],.tup [.int n],.tup [.int 0,.int 0],.lst [.int 0],.tup [.int (-1)]]) (i:=(p:Int)) (nC (aj (cI aJ rfl) (aj (cI (aj (xName rfl) aJ) rfl) (aj (cI (aj (ak rfl) (aj (ak rfl) aJ)) rfl) (aj (nC (aj (ak rfl) aJ) rfl) (aj (cI (aj (EY (ak rfl)) aJ) rfl) aJ))))) rfl) (aA rfl (aj (x:=scr ns) (xName rfl) (aj (ak rfl) (aj (ak rfl) aJ))) pk) rfl ?_) ?_
 ·match p,hp with
  | 0,_=>rfl
  | 1,_=>rfl
  | 2,_=>rfl
  | 3,_=>rfl
  | 4,_=>rfl
 refine vI (ρ:=TL ns n L sz (.ow R) so ot du se (.sh (.int x)) (.sh (.int y)) (.sh (od n p)) .no .no) (ρ':=TL ns n L sz (.ow R) so ot du se (.sh (.int x)) (.sh (.int y)) (.sh (od n p)) .no .no) (frT C rfl rfl rfl rfl rfl rfl) (bY (j5 (bK (x:=.str "no place") (y:=.str "no place") (aA rfl (aj (ak rfl) (aj (x:=.int n) (xName rfl) (aj (x:=ssD L) (xName rfl) (aj (x:=od n p) (xName rfl) (aj (x:=niD [0]) (cI (aj (ak rfl) aJ) rfl) aJ))))) (Qp 30 H hp)) (ak rfl) rfl) (iw (bK (x:=.str "no place") (y:=.str "no place") (aA rfl (aj (ak rfl) (aj (x:=.int n) (xName rfl) (aj (x:=ssD L) (xName rfl) (aj (x:=niD [0]) (cI (aj (ak rfl) aJ) rfl) (aj (x:=od n p) (xName rfl) aJ))))) (Qo 30 H hp)) (ak rfl) rfl)))) ?_;refine dG (ρ':=TL ns n L sz (.ow R) so ot du se (.sh (.int x)) (.sh (.int y)) (.sh (od n p)) .no .no) (d:=.lst (bdL n L)) (frT C rfl rfl rfl rfl rfl rfl) rfl rfl (cj (x:=ssD L) (y:=.lst [.tup [.str "scale",.int n,frD 1 1]]) (xName rfl) (nC (aj (cI (aj (ak rfl) (aj (x:=.int n) (xName rfl) (aj (cI (aj (ak rfl) (aj (ak rfl) aJ)) rfl) aJ))) rfl) aJ) rfl) (WX (by simp;omega))) ?_;refine vI (ρ:=TL ns n L sz (.ow R) so ot du se (.sh (.int x)) (.sh (.int y)) (.sh (od n p)) (.sh (.lst (bdL n L))) .no) (ρ':=TL ns n L sz (.ow R) so ot du se (.sh (.int x)) (.sh (.int y)) (.sh (od n p)) (.sh (.lst (bdL n L))) .no) (frT C rfl rfl rfl rfl rfl rfl) (bK (x:=.lst [.str "no step",.str "no step"]) (y:=.lst [.str "no step",.str "no step"]) (cD (l:=Ls 2 fun i=>.int i) (out:=[.str "no step",.str "no step"]) rfl (Fq (j:=2) rfl (ak rfl) (by omega)) rfl (bD (g:=fun _=>.str "no step") fun i hi=>cX rfl ?_)) (cj (x:=.lst [.str "no step"]) (y:=.int 2) (nC (aj (ak rfl) aJ) rfl) (ak rfl) rfl) rfl) ?_
 ·refine aA rfl (aj (x:=.int i) (xName rfl) (aj (x:=.int n) (xName rfl) (aj (x:=.lst (bdL n L)) (xName rfl) (aj (x:=od n p) (xName rfl) (aj (x:=od n p) (xName rfl) aJ))))) ?_
  match i,hi with
  | 0,_=>exact WT 30 H
  | 1,_=>exact WR 30 H
 refine jg rfl (d:=.lst [.str (wd n),.str (wd n)]) (by
  rw[frT C rfl rfl rfl rfl rfl rfl];refine cD (l:=Ls 2 fun i=>.int i) (out:=[.str (wd n),.str (wd n)]) rfl (Fq (j:=2) rfl (ak rfl) (by omega)) rfl (bD (g:=fun _=>.str (wd n)) fun i hi=>cX rfl ?_);refine aA rfl (aj (x:=.int i) (xName rfl) (aj (x:=.int n) (xName rfl) (aj (x:=ssD L) (xName rfl) (aj (x:=niD [0,1]) (cI (aj (ak rfl) (aj (ak rfl) aJ)) rfl) (aj (x:=niD [0]) (cI (aj (ak rfl) aJ) rfl) aJ))))) ?_
  match i,hi with
  | 0,_=>exact Wz 30 H
  | 1,_=>exact Wy 30 H) ?_ (by rw[frT C rfl rfl rfl rfl rfl rfl];rfl) (by rw[frT C rfl rfl rfl rfl rfl rfl,noT C rfl rfl rfl rfl rfl];rfl)
 rw[frT C rfl rfl rfl rfl rfl rfl];refine gRetE (ρ':=TL ns n L sz (.ow R) so ot du se (.sh (.int x)) (.sh (.int y)) (.sh (od n p)) (.sh (.lst (bdL n L))) (.sh (.lst [.str (wd n),.str (wd n)]))) (ao rfl (ao rfl (ao rfl (ao rfl (ao C.h0 (gP rfl (ao C.h1 (ao C.h2 (ao C.h3 (ao C.h4 (ao rfl (ao rfl (ao rfl (ao rfl (tD rfl cZ))))))))))))))) ?_
 by_cases h:n=1
 ·exact bY (JH (bK (x:=.int n) (y:=.int 1) (xName rfl) (ak rfl) (Ju (by omega))))
 ·refine bY (j5 (bK (x:=.int n) (y:=.int 1) (xName rfl) (ak rfl) (Jv (by omega))) (iw (bK (x:=.lst [.str (wd n),.str (wd n)]) (y:=.lst [.str "no fit",.str "no fit"]) (xName rfl) (cj (x:=.lst [.str "no fit"]) (y:=.int 2) (nC (aj (ak rfl) aJ) rfl) (ak rfl) rfl) ?_)))
  rw[wd,S5z h];rfl
theorem t4(H:DrG n L)(hl:L.length<=4)(C:CmL sz so ot du se):blk (cxN T 60 39) 60 60 lSc (bdy 4) (TL ns n L sz (.ow R) so ot du se .no .no .no .no .no)=some (.ret (.bl true)):=by
 have n1:=H.n1;have n3:=H.n3;have p1:=pick 37 ns 1 (many:=n) n1;have p2:=pick 37 ns 2 (many:=n) n1;have hx:=bR (ns:=ns) (k:=1) (many:=n) n1;have hy:=bR (ns:=ns) (k:=2) (many:=n) n1;generalize pickN ns 1 n=x at p1 hx;generalize pickN ns 2 n=y at p2 hy;have sx:=CZ n3 hx;have sy:=CZ n3 hy;have s1:=share_of_sets 30 H sx sy;have s2:=Ai 30 H hx hy;have w1:=sets_of_ways 30 H sx sy;have w2:=Oz 30 H hl hx hy;refine Wo (ρ1:=TL ns n L sz (.ow R) so ot du se .no .no .no .no .no) (ρ':=TL ns n L sz (.ow R) so ot du se (.sh (.int x)) (.sh (.int y)) .no .no .no) (d:=.tup [.int x,.int y]) (frT C rfl rfl rfl rfl rfl rfl) rfl (cI (aj (aA rfl (aj (x:=scr ns) (xName rfl) (aj (ak rfl) (aj (x:=.int n) (xName rfl) aJ))) p1) (aj (aA rfl (aj (x:=scr ns) (xName rfl) (aj (ak rfl) (aj (x:=.int n) (xName rfl) aJ))) p2) aJ)) rfl) rfl rfl ?_;refine vI (ρ:=TL ns n L sz (.ow R) so ot du se (.sh (.int x)) (.sh (.int y)) .no .no .no) (ρ':=TL ns n L sz (.ow R) so ot du se (.sh (.int x)) (.sh (.int y)) .no .no .no) (frT C rfl rfl rfl rfl rfl rfl) (bK (x:=qD (mn (mkQ n L) [x] [y])) (y:=qD (mn (mkQ n L) [x] [y])) (aA rfl (aj (x:=.int n) (xName rfl) (aj (x:=ssD L) (xName rfl) (aj (x:=niD [x]) (cI (aj (xName rfl) aJ) rfl) (aj (x:=niD [y]) (cI (aj (xName rfl) aJ) rfl) aJ)))) s1) (aA rfl (aj (x:=.int n) (xName rfl) (aj (x:=ssD L) (xName rfl) (aj (x:=.int x) (xName rfl) (aj (x:=.int y) (xName rfl) aJ)))) s2) (Jt (by simp[qD,frD,dep,deps]))) ?_;refine vI (ρ':=TL ns n L sz (.ow R) so ot du se (.sh (.int x)) (.sh (.int y)) .no .no .no) (frT C rfl rfl rfl rfl rfl rfl) (bK (x:=.int ((QR n L [x] [y]).length:Int)) (y:=.int ((QR n L [x] [y]).length:Int)) (dB (ds:=[.lst ((QR n L [x] [y]).map (eU 1))]) rfl rfl rfl (aj (aA rfl (aj (x:=.int n) (xName rfl) (aj (x:=ssD L) (xName rfl) (aj (x:=niD [x]) (cI (aj (xName rfl) aJ) rfl) (aj (x:=niD [y]) (cI (aj (xName rfl) aJ) rfl) aJ)))) w1) aJ) ?_) (dB (ds:=[.lst ((QR n L [x] [y]).map fun q=>.tup [niD (gZ (q.pre++[q.x]) 0),qD q.s])]) rfl rfl rfl (aj (aA rfl (aj (x:=.int n) (xName rfl) (aj (x:=ssD L) (xName rfl) (aj (x:=.int x) (xName rfl) (aj (x:=.int y) (xName rfl) aJ)))) w2) aJ) ?_) (Hh rfl)) (t7 H C)
 ·show some (D.int (((QR n L [x] [y]).map _).length:Int))=_
  rw[G3z]
 ·show some (D.int (((QR n L [x] [y]).map _).length:Int))=_
  rw[G3z]
end
theorem law_true(ns:List Int)(_h:ns.length<=63):aG T 60 40 "law" [.lst (ns.map D.int)]=some (.bl true):=by
 have p3:=bR (ns:=ns) (k:=0) (many:=3) (by omega);have p5:=bR (ns:=ns) (k:=10) (many:=4+1) (by omega);have pk:=pick 37 ns 0 (many:=3) (by omega);generalize hn:1+pickN ns 0 3=n
 have n1:1<=n:=by omega
 have n3:n<=3:=by omega
 have ls:=xZ 35 ns 10 (n:=n) (mo:=4) n1 (by omega) (by omega);have H0:=Nq (ns:=ns) (at':=10) (n:=n) (m:=pickN ns 10 (4+1)) n1 n3 (by omega);generalize hL:Dc ns 10 n (pickN ns 10 (4+1))=L at ls H0
 have hl:L.length<=4:=by rw[<- hL,Dc,G3z,List.length_range];omega
 have H:DrG n L:=H0;have mem:∀ x∈L,∃ k,x=stV ns 10 n k:=fun x hx=>xT (hL▸hx)
 have mb:=made_by 31 (n:=n) (l:=L) n1 (by omega) (Ke (l:=L) n1 (by omega) fun x hx=>by
  obtain⟨k,e⟩:=mem x hx
  exact⟨ns,10,k,e⟩) (by omega)
 obtain⟨ρ',⟨sz,rw',so,ot,du,se,q,q0,q1,q2,q3,q4,rfl⟩,go⟩:=gQ (f:=fF (cxN T 60 39) 60 59 lSc (cG lF) (aU lF)) (h:=fun y=>D.int (1+(y:Int))) (N:=n) (P:=fun i ρ=>∃ sz rw' so ot du se,((i=0/\rw'=.no)\/∃ R,rw'=.ow R)/\nOw sz=true/\nOw so=true/\nOw ot=true/\nOw du=true/\nOw se=true/\ρ=SL ns n L sz rw' so ot du se) (fun i ρ hi hP=>by
  obtain⟨sz,rw',so,ot,du,se,q,q0,q1,q2,q3,q4,rfl⟩:=hP;obtain⟨R,so',ot',du',se',r1,r2,r3,r4,go⟩:=l_out (ns:=ns) (r:=i+1) H hl (by omega) (by omega) (rw':=rw') (by rcases q with⟨_,h⟩ | h;exact .inl h;exact .inr h) q0 q1 q2 q3 q4;rw[show((i+1:Nat):Int)=1+(i:Int) by omega] at go
  exact⟨_,⟨_,_,so',ot',du',se',.inr ⟨R,rfl⟩,rfl,r1,r2,r3,r4,rfl⟩,go⟩) (ρ:=SL ns n L .no .no .no .no .no .no) ⟨.no,.no,.no,.no,.no,.no,.inl ⟨rfl,rfl⟩,rfl,rfl,rfl,rfl,rfl,rfl⟩
 rcases q with⟨q,_⟩ | ⟨R,rfl⟩
 ·omega
 refine bW (fd:=aQ (top 88)) rfl rfl ?_;refine vd (ρ:=Kq ns .no .no .no .no .no .no .no .no .no .no .no .no .no .no) (d:=.int n) rfl rfl rfl (vp (cj (x:=.int 1) (y:=.int ((pickN ns 0 3:Nat):Int)) (ak rfl) (aA rfl (aj (x:=scr ns) (xName rfl) (aj (ak rfl) (aj (ak rfl) aJ))) pk) rfl) (congrArg D.int (by omega))) ?_;refine vd (ρ:=Kq ns (.sh (.int n)) .no .no .no .no .no .no .no .no .no .no .no .no .no) (d:=ssD L) rfl rfl rfl (aA rfl (aj (x:=scr ns) (xName rfl) (aj (ak rfl) (aj (x:=.int n) (xName rfl) (aj (ak rfl) aJ)))) ls) ?_;refine vd (ρ:=Kq ns (.sh (.int n)) (.sh (ssD L)) .no .no .no .no .no .no .no .no .no .no .no .no) (d:=ftq n n (mkQ n L)) rfl rfl rfl (aA rfl (aj (x:=.int n) (xName rfl) (aj (x:=ssD L) (xName rfl) aJ)) mb) ?_;refine dJ (ρ:=SL ns n L .no .no .no .no .no .no) (ρ':=SL ns n L .no .no .no .no .no .no) (l:=Ls n fun y=>D.int (1+(y:Int))) (cR rfl) ?_ go (t4 H hl ⟨q0,q1,q2,q3,q4⟩);rw[wR2 (i:=1) (j:=(n:Int)+1) rfl (ak rfl) (cj (x:=.int n) (y:=.int 1) (xName rfl) (ak rfl) rfl) ?_,wM,show((n:Int)+1-1).toNat=n by omega]
 have:n=1\/n=2\/n=3:=by omega
 rcases this with h | h | h<;>rw[h]<;>rfl
end M41
noncomputable section
namespace HS
open PySem PySem.W
theorem goT{p:Program}{w:World}{m:Nat}{a:Option Value}{n:Nat}{x y:Shared}{u:Thread}{c:Code}{o:Pos}{l:List Frame}(h:Fast.tw15667345088766844465 Fast.tw14364793385576792824 p w m a n x u=some (y,⟨Fast.tw11892475500146522536 Fast.tw14364793385576792824 c,c,o,l⟩)):topGo treeTable p w m a n x u=some (y,⟨denote treeTable c,c,o,l⟩):=by
 rw[Fast.te15667345088766844465,E0z,Fast.te11892475500146522536];exact h
theorem Z6{p:Program}{w:World}{m:Nat}{a:Option Value}{k n:Nat}{x:Shared}{u:Thread}{y:Option (Flow×Shared×Code×Pos)}(h:Fast.tw14374325043358763698 Fast.tw14364793385576792824 p w m a k n x u=y):segRun treeTable p w m a k n x u=y:=by
 rw[Fast.te14374325043358763698,E0z];exact h
theorem uJ{p:Program}{w:World}{m:Nat}{a:Option Value}{k n:Nat}{x:SharedT}{u:Thread}{y:Option (Flow×SharedT×Code×Pos)}(h:Fast.tw10110043849684766642 Fast.tw14364793385576792824 p w m a k n x u=y):segRunT treeTable p w m a k n x u=y:=by
 rw[Fast.te10110043849684766642,E0z];exact h
theorem ZL{p:Program}{w:World}{m:Nat}{a:Option Value}{n:Nat}{x:Shared}{u:Thread}{y:Option Shared}(h:Fast.tw14082659384304107361 Fast.tw14364793385576792824 p w m a n x u=y):topRun treeTable p w m a n x u=y:=by
 rw[Fast.te14082659384304107361,E0z];exact h
theorem Px{p:Program}{w:World}{m:Nat}{a:Option Value}{n:Nat}{x:Shared}{b l:List Stmt}{E:Env}{c:Code}{o:Pos}{B:List Frame}{y:Option Shared}(e:b=l)(h:topRun treeTable p w m a n x (restOf l E c o B)=y):topRun treeTable p w m a n x (restOf b E c o B)=y:=by
 rw[e];exact h
end HS
namespace H41
open PySem PySem.W HS
noncomputable abbrev p:Program:=PySem.Challenge.pw_minortables_k41_whole_sets_of_ways
abbrev q:Program:=PySem.W.view p [1,2,3,4,5,6,7,9,10,11,12,13,14,15,16,17,18,19,20,21,23,24,25,26,27,28,29,30,31,32,34,35,36,37,39,40,42,43,44,45,46,47,48,49,50,51,52,54,55,56,57,58,59,60,61,62,63,64,65,66,67,69,70,71,72,73,74,75,76,77,78,79,80,81,82,83,84,85,86,87,88]
abbrev N:Nat:=7404
abbrev lo:List Str:=[]
abbrev z:Value:=.none
noncomputable abbrev r(a:Nat):Value:=.ref a
noncomputable abbrev i(a:Int)(n:Nat):Value:=.int a n
abbrev s(x:Str)(n:Nat):Value:=.str x n
abbrev t(x:String):Value:=.type x
abbrev b(x:String):Value:=.builtin x
abbrev e(P:Params)(x:Str)(n:Nat)(v:Value):DictEntry:=⟨PyData.keyHash P x,.str x n,v⟩
def d(j:Nat):Stmt:=p.main.body.getD j (.Pass ⟨0,0,0,0⟩)
def m(j k:Nat):Stmt:=match d j with | .ClassDef _ _ _ l .. =>l.getD k (.Pass ⟨0,0,0,0⟩) | x=>x
def f(x:Stmt)(qn:Str)(g:Nat)(dV kV dc pm cd ct:Value):FuncData:=match x with | .FunctionDef n a l _ _ _ sc .. =>⟨n,qn,a,.stmts l,sc,g,[],dV,kV,dc,pm,none,cd,ct,0⟩ | _=>default
def y:Obj:=⟨.type "tuple",none,.seq #[] 0,#[]⟩
noncomputable def x:Obj:=⟨.none,none,.fields #[],#[]⟩
noncomputable def tnV:List Str->Nat->List Value | [],_=>[] | a::l,k=>.str a k::tnV l (k+1)
def tn(l:List Str)(k:Nat):Obj:=⟨.type "tuple",none,.seq (tnV l k).toArray 0,#[]⟩
def g(a:Stmt)(n:Str):Obj:=⟨.none,none,.func (f a n 0 z z z z z z),#[]⟩
def u(a:Stmt)(n:Str)(pm:Value)(c:Nat):Obj:=⟨.type "function",none,.func (f a n 3 z z z pm (r c) z),#[]⟩
def c(n:Str)(k:Nat)(l a fl:Int)(q:Nat)(bb:Bool)(h:Int)(q':Nat)(v w v':Value)(k':Nat):Obj:=⟨.type "code",none,.fields #[s n k,s n (k+1),s "/claim/cut.py" (k+2),i l 0,i a 0,i 0 0,i 0 0,i fl 0,r q,.bool bb,i h 0,r q',z,v,w,v',i k' 0,i l 0,s "/claim/cut.py" (k'+1)],#[]⟩
def I(t:BT):Nat->List Obj->BT | _,[]=>t | n,o::l=>I (t.ins n o) (n+1) l
def es(P:Params):List DictEntry:=[e P "__doc__" 166 z,
 e P "__package__" 167 z,
 e P "__loader__" 168 (b "__main__.__loader__#opaque"),
 e P "__spec__" 169 z,
 e P "__annotations__" 170 (r 6),
 e P "__builtins__" 171 (r 4),
 e P "__file__" 173 (s "/claim/cut.py" 172),
 e P "__cached__" 174 z,
 e P "MinorError" 206 (r 24),
 e P "NoTable" 222 (r 37),
 e P "NoFit" 238 (r 49),
 e P "NoPlace" 254 (r 61),
 e P "NoStep" 270 (r 73),
 e P "NoSteps" 286 (r 85),
 e P "NoText" 302 (r 97),
 e P "MOST_LINES" 306 (i 4 305),
 e P "is_whole" 313 (r 106),
 e P "is_whole_within" 322 (r 113),
 e P "is_short_tuple" 329 (r 120),
 e P "has_lines" 335 (r 125),
 e P "numbers_of" 344 (r 132),
 e P "has_table_form" 350 (r 137),
 e P "is_place" 358 (r 144),
 e P "are_rising_places" 364 (r 149),
 e P "need_table" 371 (r 156),
 e P "need_place" 379 (r 163),
 e P "need_places" 387 (r 170),
 e P "need_size" 395 (r 177),
 e P "common_measure" 406 (r 184),
 e P "lowest" 415 (r 191),
 e P "has_fraction_form" 422 (r 198),
 e P "is_fraction" 429 (r 205),
 e P "sum_of" 437 (r 212),
 e P "times_of" 445 (r 219),
 e P "all_sum" 454 (r 226),
 e P "need_fraction_table" 460 (r 231),
 e P "row_as_fractions" 466 (r 236),
 e P "as_fractions" 472 (r 241),
 e P "column_of" 480 (r 246),
 e P "columns_of" 486 (r 251),
 e P "plain_row" 492 (r 256),
 e P "plain" 498 (r 261),
 e P "with_behind" 506 (r 266),
 e P "rising_tuples" 518 (r 273),
 e P "UP" 522 (s "up" 521),
 e P "DOWN" 524 (s "down" 523),
 e P "SCALE" 526 (s "scale" 525),
 e P "is_step_of" 536 (r 280),
 e P "is_step" 544 (r 287),
 e P "need_steps" 550 (r 292),
 e P "row_by_column" 556 (r 297),
 e P "row_by_columns" 562 (r 302),
 e P "product_of" 568 (r 307),
 e P "table_of_step" 574 (r 312),
 e P "made_by" 586 (r 319),
 e P "step_tables" 594 (r 324),
 e P "with_one_more" 606 (r 331),
 e P "goings" 619 (r 338),
 e P "runs_from" 634 (r 345),
 e P "runs_between" 640 (r 350),
 e P "shares_from" 655 (r 357),
 e P "share_between" 665 (r 364),
 e P "need_levels" 675 (r 371),
 e P "need_sets" 685 (r 378),
 e P "ways" 691 (r 383),
 e P "share_of_ways" 701 (r 390),
 e P "sets_of_ways" 711 (r 397),
 e P "share_of_sets" 721 (r 404),
 e P "all_sets" 727 (r 409),
 e P "_law_cell" 737 (r 416),
 e P "_law_pick" 747 (r 423),
 e P "_law_table" 753 (r 428),
 e P "_law_size" 761 (r 435),
 e P "_law_times" 775 (r 442),
 e P "_law_worth" 781 (r 447),
 e P "_law_some" 787 (r 452),
 e P "_law_part" 793 (r 457),
 e P "_law_minors" 804 (r 464),
 e P "_law_share" 812 (r 471),
 e P "_law_steps" 827 (r 478),
 e P "_law_lowest" 837 (r 485),
 e P "_law_sum" 847 (r 492),
 e P "_law_step_table" 853 (r 497),
 e P "_law_made" 859 (r 502),
 e P "_law_word" 867 (r 509),
 e P "_law_do" 881 (r 516),
 e P "_law_minor" 895 (r 523),
 e P "_law_is_set" 901 (r 528),
 e P "law" 907 (r 533)]
def og(k n:Nat)(v:Value)(P:Params):Obj:=⟨.type "dict",none,.dict ((e P "__name__" 165 v::es P).take k).toArray n,#[]⟩
def fv:List Value:=[(i 2 0),(i 0 0),(r 20),(i 4 0),(i 0 0),(r 33),(i 6 0),(i 0 0),(r 45),(i 8 0),(i 0 0),(r 57),(i 10 0),(i 0 0),(r 69),(i 12 0),(i 0 0),(r 81),(i 14 0),(i 0 0),(r 93),(i 18 0),(i 0 0),(r 105),(i 20 0),(i 0 0),(r 112),(i 22 0),(i 0 0),(r 119),(i 24 0),(i 0 0),(r 124),(i 28 0),(i 0 0),(r 131),(i 33 0),(i 0 0),(r 136),(i 35 0),(i 0 0),(r 143),(i 37 0),(i 0 0),(r 148),(i 43 0),(i 0 0),(r 155),(i 46 0),(i 0 0),(r 162),(i 49 0),(i 0 0),(r 169),(i 52 0),(i 0 0),(r 176),(i 56 0),(i 0 0),(r 183),(i 62 0),(i 0 0),(r 190),(i 67 0),(i 0 0),(r 197),(i 73 0),(i 0 0),(r 204),(i 75 0),(i 0 0),(r 211),(i 77 0),(i 0 0),(r 218),(i 79 0),(i 0 0),(r 225),(i 84 0),(i 0 0),(r 230),(i 87 0),(i 0 0),(r 235),(i 89 0),(i 0 0),(r 240),(i 93 0),(i 0 0),(r 245),(i 95 0),(i 0 0),(r 250),(i 97 0),(i 0 0),(r 255),(i 99 0),(i 0 0),(r 260),(i 103 0),(i 0 0),(r 265),(i 106 0),(i 0 0),(r 272),(i 118 0),(i 0 0),(r 279),(i 122 0),(i 0 0),(r 286),(i 126 0),(i 0 0),(r 291),(i 131 0),(i 0 0),(r 296),(i 133 0),(i 0 0),(r 301),(i 135 0),(i 0 0),(r 306),(i 142 0),(i 0 0),(r 311),(i 148 0),(i 0 0),(r 318),(i 155 0),(i 0 0),(r 323),(i 157 0),(i 0 0),(r 330),(i 163 0),(i 0 0),(r 337),(i 171 0),(i 0 0),(r 344),(i 180 0),(i 0 0),(r 349),(i 183 0),(i 0 0),(r 356),(i 192 0),(i 0 0),(r 363),(i 194 0),(i 0 0),(r 370),(i 198 0),(i 0 0),(r 377),(i 204 0),(i 0 0),(r 382),(i 207 0),(i 0 0),(r 389),(i 210 0),(i 0 0),(r 396),(i 213 0),(i 0 0),(r 403),(i 216 0),(i 0 0),(r 408),(i 226 0),(i 0 0),(r 415),(i 232 0),(i 0 0),(r 422),(i 235 0),(i 0 0),(r 427),(i 241 0),(i 0 0),(r 434),(i 243 0),(i 0 0),(r 441),(i 254 0),(i 0 0),(r 446),(i 264 0),(i 0 0),(r 451),(i 272 0),(i 0 0),(r 456),(i 274 0),(i 0 0),(r 463),(i 281 0),(i 0 0),(r 470),(i 283 0),(i 0 0),(r 477),(i 294 0),(i 0 0),(r 484),(i 299 0),(i 0 0),(r 491),(i 304 0),(i 0 0),(r 496),(i 311 0),(i 0 0),(r 501),(i 324 0),(i 0 0),(r 508),(i 330 0),(i 0 0),(r 515),(i 340 0),(i 0 0),(r 522),(i 349 0),(i 0 0),(r 527),(i 357 0),(i 0 0),(r 532)]
def o12:Obj:=⟨z,none,.fields (fv.take 0).toArray,#[]⟩
def o13:=c "<module>" 182 1 0 0 11 false 181 12 z z z 185
def o14:Obj:=⟨(t "frame"),none,.plain,#[some (r 13),some (r 3),some (r 3),none,some (s "__main__" 164),none,some (r 0)]⟩
def o3_1(P:Params):=og 10 10 (s "minortables.errors" 187) P
def VD:Obj:=⟨z,none,.fields (fv.take 3).toArray,#[]⟩
def o15:Obj:=⟨(t "tuple"),none,(.seq #[(t "ValueError")] 0),#[]⟩
def o16:Obj:=⟨(t "builtin_function_or_method"),none,(.fields #[(b "type.__prepare__"),(t "type")]),#[]⟩
def o17(P:Params):Obj:=⟨(t "dict"),none,(.dict #[e P "__module__" 196 (s "minortables.errors" 187),e P "__qualname__" 198 (s "MinorError" 197),e P "__firstlineno__" 200 (i 2 199),e P "__static_attributes__" 201 (r 22)] 4),#[]⟩
def o20:=c "MinorError" 191 2 0 0 18 false 181 19 z z z 194
def o21:Obj:=⟨(t "frame"),none,.plain,#[some (r 20),some (r 3),some (r 17),none,some (s "minortables.errors" 187),none,some (r 0)]⟩
def o23(P:Params):Obj:=⟨(t "dict"),none,(.dict #[e P "__module__" 196 (s "minortables.errors" 187),e P "__firstlineno__" 200 (i 2 199),e P "__static_attributes__" 201 (r 22),e P "__weakref__" 203 (r 25),e P "__doc__" 204 z] 3),#[]⟩
def o24:Obj:=⟨(t "type"),none,(.cls ⟨"MinorError",[(t "ValueError")],[(r 24),(t "ValueError"),(t "Exception"),(t "BaseException"),(t "object")],23,"MinorError",true,[],[],false,none,false⟩),#[some (r 15),none,some (s "MinorError" 189),some (s "MinorError" 197),some (b "ValueError.__new__"),some (.bool true)]⟩
def o25:Obj:=⟨(t "getset_descriptor"),none,(.fields #[(s "__weakref__" 202),(r 24),(b "ExceptionGroup.__weakref__"),z]),#[]⟩
def o26:Obj:=⟨(t "super"),none,(.fields #[(r 24),(r 24),(r 24)]),#[]⟩
def o27:Obj:=⟨(t "builtin_function_or_method"),none,(.fields #[(b "object.__init_subclass__"),(r 24)]),#[]⟩
def o3_2(P:Params):=og 11 11 (s "minortables.errors" 187) P
def VB:Obj:=⟨z,none,.fields (fv.take 6).toArray,#[]⟩
def TY:Obj:=⟨(t "type"),none,(.cls ⟨"MinorError",[(t "ValueError")],[(r 24),(t "ValueError"),(t "Exception"),(t "BaseException"),(t "object")],23,"MinorError",true,[],[(r 37)],false,none,false⟩),#[some (r 15),none,some (s "MinorError" 189),some (s "MinorError" 197),some (b "ValueError.__new__"),some (.bool true)]⟩
def o28:Obj:=⟨(t "tuple"),none,(.seq #[(r 24)] 0),#[]⟩
def o29:Obj:=⟨(t "builtin_function_or_method"),none,(.fields #[(b "type.__prepare__"),(t "type")]),#[]⟩
def o30(P:Params):Obj:=⟨(t "dict"),none,(.dict #[e P "__module__" 214 (s "minortables.errors" 187),e P "__qualname__" 216 (s "NoTable" 215),e P "__firstlineno__" 218 (i 4 217),e P "__static_attributes__" 219 (r 35)] 4),#[]⟩
def o33:=c "NoTable" 209 4 0 0 31 false 181 32 z z z 212
def o34:Obj:=⟨(t "frame"),none,.plain,#[some (r 33),some (r 3),some (r 30),none,some (s "minortables.errors" 187),none,some (r 0)]⟩
def o36(P:Params):Obj:=⟨(t "dict"),none,(.dict #[e P "__module__" 214 (s "minortables.errors" 187),e P "__firstlineno__" 218 (i 4 217),e P "__static_attributes__" 219 (r 35),e P "__doc__" 220 z] 2),#[]⟩
def o37:Obj:=⟨(t "type"),none,(.cls ⟨"NoTable",[(r 24)],[(r 37),(r 24),(t "ValueError"),(t "Exception"),(t "BaseException"),(t "object")],36,"NoTable",true,[],[],false,none,false⟩),#[some (r 28),none,some (s "NoTable" 207),some (s "NoTable" 215),some (b "ValueError.__new__"),some (.bool true)]⟩
def o38:Obj:=⟨(t "super"),none,(.fields #[(r 37),(r 37),(r 37)]),#[]⟩
def o39:Obj:=⟨(t "builtin_function_or_method"),none,(.fields #[(b "object.__init_subclass__"),(r 37)]),#[]⟩
def o3_3(P:Params):=og 12 12 (s "minortables.errors" 187) P
def Vz:Obj:=⟨z,none,.fields (fv.take 9).toArray,#[]⟩
def TV:Obj:=⟨(t "type"),none,(.cls ⟨"MinorError",[(t "ValueError")],[(r 24),(t "ValueError"),(t "Exception"),(t "BaseException"),(t "object")],23,"MinorError",true,[],[(r 37),(r 49)],false,none,false⟩),#[some (r 15),none,some (s "MinorError" 189),some (s "MinorError" 197),some (b "ValueError.__new__"),some (.bool true)]⟩
def o40:Obj:=⟨(t "tuple"),none,(.seq #[(r 24)] 0),#[]⟩
def o41:Obj:=⟨(t "builtin_function_or_method"),none,(.fields #[(b "type.__prepare__"),(t "type")]),#[]⟩
def o42(P:Params):Obj:=⟨(t "dict"),none,(.dict #[e P "__module__" 230 (s "minortables.errors" 187),e P "__qualname__" 232 (s "NoFit" 231),e P "__firstlineno__" 234 (i 6 233),e P "__static_attributes__" 235 (r 47)] 4),#[]⟩
def o45:=c "NoFit" 225 6 0 0 43 false 181 44 z z z 228
def o46:Obj:=⟨(t "frame"),none,.plain,#[some (r 45),some (r 3),some (r 42),none,some (s "minortables.errors" 187),none,some (r 0)]⟩
def o48(P:Params):Obj:=⟨(t "dict"),none,(.dict #[e P "__module__" 230 (s "minortables.errors" 187),e P "__firstlineno__" 234 (i 6 233),e P "__static_attributes__" 235 (r 47),e P "__doc__" 236 z] 2),#[]⟩
def o49:Obj:=⟨(t "type"),none,(.cls ⟨"NoFit",[(r 24)],[(r 49),(r 24),(t "ValueError"),(t "Exception"),(t "BaseException"),(t "object")],48,"NoFit",true,[],[],false,none,false⟩),#[some (r 40),none,some (s "NoFit" 223),some (s "NoFit" 231),some (b "ValueError.__new__"),some (.bool true)]⟩
def o50:Obj:=⟨(t "super"),none,(.fields #[(r 49),(r 49),(r 49)]),#[]⟩
def o51:Obj:=⟨(t "builtin_function_or_method"),none,(.fields #[(b "object.__init_subclass__"),(r 49)]),#[]⟩
def o3_4(P:Params):=og 13 13 (s "minortables.errors" 187) P
def Vy:Obj:=⟨z,none,.fields (fv.take 12).toArray,#[]⟩
def TQ:Obj:=⟨(t "type"),none,(.cls ⟨"MinorError",[(t "ValueError")],[(r 24),(t "ValueError"),(t "Exception"),(t "BaseException"),(t "object")],23,"MinorError",true,[],[(r 37),(r 49),(r 61)],false,none,false⟩),#[some (r 15),none,some (s "MinorError" 189),some (s "MinorError" 197),some (b "ValueError.__new__"),some (.bool true)]⟩
def o52:Obj:=⟨(t "tuple"),none,(.seq #[(r 24)] 0),#[]⟩
def o53:Obj:=⟨(t "builtin_function_or_method"),none,(.fields #[(b "type.__prepare__"),(t "type")]),#[]⟩
def o54(P:Params):Obj:=⟨(t "dict"),none,(.dict #[e P "__module__" 246 (s "minortables.errors" 187),e P "__qualname__" 248 (s "NoPlace" 247),e P "__firstlineno__" 250 (i 8 249),e P "__static_attributes__" 251 (r 59)] 4),#[]⟩
def o57:=c "NoPlace" 241 8 0 0 55 false 181 56 z z z 244
def o58:Obj:=⟨(t "frame"),none,.plain,#[some (r 57),some (r 3),some (r 54),none,some (s "minortables.errors" 187),none,some (r 0)]⟩
def o60(P:Params):Obj:=⟨(t "dict"),none,(.dict #[e P "__module__" 246 (s "minortables.errors" 187),e P "__firstlineno__" 250 (i 8 249),e P "__static_attributes__" 251 (r 59),e P "__doc__" 252 z] 2),#[]⟩
def o61:Obj:=⟨(t "type"),none,(.cls ⟨"NoPlace",[(r 24)],[(r 61),(r 24),(t "ValueError"),(t "Exception"),(t "BaseException"),(t "object")],60,"NoPlace",true,[],[],false,none,false⟩),#[some (r 52),none,some (s "NoPlace" 239),some (s "NoPlace" 247),some (b "ValueError.__new__"),some (.bool true)]⟩
def o62:Obj:=⟨(t "super"),none,(.fields #[(r 61),(r 61),(r 61)]),#[]⟩
def o63:Obj:=⟨(t "builtin_function_or_method"),none,(.fields #[(b "object.__init_subclass__"),(r 61)]),#[]⟩
def o3_5(P:Params):=og 14 14 (s "minortables.errors" 187) P
def Vx:Obj:=⟨z,none,.fields (fv.take 15).toArray,#[]⟩
def TJ:Obj:=⟨(t "type"),none,(.cls ⟨"MinorError",[(t "ValueError")],[(r 24),(t "ValueError"),(t "Exception"),(t "BaseException"),(t "object")],23,"MinorError",true,[],[(r 37),(r 49),(r 61),(r 73)],false,none,false⟩),#[some (r 15),none,some (s "MinorError" 189),some (s "MinorError" 197),some (b "ValueError.__new__"),some (.bool true)]⟩
def o64:Obj:=⟨(t "tuple"),none,(.seq #[(r 24)] 0),#[]⟩
def o65:Obj:=⟨(t "builtin_function_or_method"),none,(.fields #[(b "type.__prepare__"),(t "type")]),#[]⟩
def o66(P:Params):Obj:=⟨(t "dict"),none,(.dict #[e P "__module__" 262 (s "minortables.errors" 187),e P "__qualname__" 264 (s "NoStep" 263),e P "__firstlineno__" 266 (i 10 265),e P "__static_attributes__" 267 (r 71)] 4),#[]⟩
def o69:=c "NoStep" 257 10 0 0 67 false 181 68 z z z 260
def o70:Obj:=⟨(t "frame"),none,.plain,#[some (r 69),some (r 3),some (r 66),none,some (s "minortables.errors" 187),none,some (r 0)]⟩
def o72(P:Params):Obj:=⟨(t "dict"),none,(.dict #[e P "__module__" 262 (s "minortables.errors" 187),e P "__firstlineno__" 266 (i 10 265),e P "__static_attributes__" 267 (r 71),e P "__doc__" 268 z] 2),#[]⟩
def o73:Obj:=⟨(t "type"),none,(.cls ⟨"NoStep",[(r 24)],[(r 73),(r 24),(t "ValueError"),(t "Exception"),(t "BaseException"),(t "object")],72,"NoStep",true,[],[],false,none,false⟩),#[some (r 64),none,some (s "NoStep" 255),some (s "NoStep" 263),some (b "ValueError.__new__"),some (.bool true)]⟩
def o74:Obj:=⟨(t "super"),none,(.fields #[(r 73),(r 73),(r 73)]),#[]⟩
def o75:Obj:=⟨(t "builtin_function_or_method"),none,(.fields #[(b "object.__init_subclass__"),(r 73)]),#[]⟩
def o3_6(P:Params):=og 15 15 (s "minortables.errors" 187) P
def Vv:Obj:=⟨z,none,.fields (fv.take 18).toArray,#[]⟩
def TF:Obj:=⟨(t "type"),none,(.cls ⟨"MinorError",[(t "ValueError")],[(r 24),(t "ValueError"),(t "Exception"),(t "BaseException"),(t "object")],23,"MinorError",true,[],[(r 37),(r 49),(r 61),(r 73),(r 85)],false,none,false⟩),#[some (r 15),none,some (s "MinorError" 189),some (s "MinorError" 197),some (b "ValueError.__new__"),some (.bool true)]⟩
def o76:Obj:=⟨(t "tuple"),none,(.seq #[(r 24)] 0),#[]⟩
def o77:Obj:=⟨(t "builtin_function_or_method"),none,(.fields #[(b "type.__prepare__"),(t "type")]),#[]⟩
def o78(P:Params):Obj:=⟨(t "dict"),none,(.dict #[e P "__module__" 278 (s "minortables.errors" 187),e P "__qualname__" 280 (s "NoSteps" 279),e P "__firstlineno__" 282 (i 12 281),e P "__static_attributes__" 283 (r 83)] 4),#[]⟩
def o81:=c "NoSteps" 273 12 0 0 79 false 181 80 z z z 276
def o82:Obj:=⟨(t "frame"),none,.plain,#[some (r 81),some (r 3),some (r 78),none,some (s "minortables.errors" 187),none,some (r 0)]⟩
def o84(P:Params):Obj:=⟨(t "dict"),none,(.dict #[e P "__module__" 278 (s "minortables.errors" 187),e P "__firstlineno__" 282 (i 12 281),e P "__static_attributes__" 283 (r 83),e P "__doc__" 284 z] 2),#[]⟩
def o85:Obj:=⟨(t "type"),none,(.cls ⟨"NoSteps",[(r 24)],[(r 85),(r 24),(t "ValueError"),(t "Exception"),(t "BaseException"),(t "object")],84,"NoSteps",true,[],[],false,none,false⟩),#[some (r 76),none,some (s "NoSteps" 271),some (s "NoSteps" 279),some (b "ValueError.__new__"),some (.bool true)]⟩
def o86:Obj:=⟨(t "super"),none,(.fields #[(r 85),(r 85),(r 85)]),#[]⟩
def o87:Obj:=⟨(t "builtin_function_or_method"),none,(.fields #[(b "object.__init_subclass__"),(r 85)]),#[]⟩
def o3_7(P:Params):=og 22 22 (s "minortables.checks" 303) P
def Vu:Obj:=⟨z,none,.fields (fv.take 36).toArray,#[]⟩
def Hl:Obj:=⟨(t "type"),none,(.cls ⟨"MinorError",[(t "ValueError")],[(r 24),(t "ValueError"),(t "Exception"),(t "BaseException"),(t "object")],23,"MinorError",true,[],[(r 37),(r 49),(r 61),(r 73),(r 85),(r 97)],false,none,false⟩),#[some (r 15),none,some (s "MinorError" 189),some (s "MinorError" 197),some (b "ValueError.__new__"),some (.bool true)]⟩
def o88:Obj:=⟨(t "tuple"),none,(.seq #[(r 24)] 0),#[]⟩
def o89:Obj:=⟨(t "builtin_function_or_method"),none,(.fields #[(b "type.__prepare__"),(t "type")]),#[]⟩
def o90(P:Params):Obj:=⟨(t "dict"),none,(.dict #[e P "__module__" 294 (s "minortables.errors" 187),e P "__qualname__" 296 (s "NoText" 295),e P "__firstlineno__" 298 (i 14 297),e P "__static_attributes__" 299 (r 95)] 4),#[]⟩
def o93:=c "NoText" 289 14 0 0 91 false 181 92 z z z 292
def o94:Obj:=⟨(t "frame"),none,.plain,#[some (r 93),some (r 3),some (r 90),none,some (s "minortables.errors" 187),none,some (r 0)]⟩
def o96(P:Params):Obj:=⟨(t "dict"),none,(.dict #[e P "__module__" 294 (s "minortables.errors" 187),e P "__firstlineno__" 298 (i 14 297),e P "__static_attributes__" 299 (r 95),e P "__doc__" 300 z] 2),#[]⟩
def o97:Obj:=⟨(t "type"),none,(.cls ⟨"NoText",[(r 24)],[(r 97),(r 24),(t "ValueError"),(t "Exception"),(t "BaseException"),(t "object")],96,"NoText",true,[],[],false,none,false⟩),#[some (r 88),none,some (s "NoText" 287),some (s "NoText" 295),some (b "ValueError.__new__"),some (.bool true)]⟩
def o98:Obj:=⟨(t "super"),none,(.fields #[(r 97),(r 97),(r 97)]),#[]⟩
def o99:Obj:=⟨(t "builtin_function_or_method"),none,(.fields #[(b "object.__init_subclass__"),(r 97)]),#[]⟩
def V3:Obj:=tn ["thing"] 310
def Zj:Obj:=g (d 10) "is_whole"
def V2:Obj:=c "is_whole" 307 18 1 3 100 true 181 101 (r 102) (r 103) (r 104) 311
def V1:Obj:=u (d 10) "is_whole" (s "minortables.checks" 303) 105
def V0:Obj:=tn ["thing","least","most"] 317
def o111:=g (d 11) "is_whole_within"
def VR:Obj:=c "is_whole_within" 314 20 3 3 107 true 181 108 (r 109) (r 110) (r 111) 320
def VP:Obj:=u (d 11) "is_whole_within" (s "minortables.checks" 303) 112
def VN:Obj:=tn ["thing"] 326
def Zi:Obj:=g (d 12) "is_short_tuple"
def VL:Obj:=c "is_short_tuple" 323 22 1 3 114 true 181 115 (r 116) (r 117) (r 118) 327
def VJ:Obj:=u (d 12) "is_short_tuple" (s "minortables.checks" 303) 119
def Zh:Obj:=g (d 13) "has_lines"
def VH:Obj:=c "has_lines" 330 24 1 3 121 true 181 122 z z (r 123) 333
def VG:Obj:=u (d 13) "has_lines" (s "minortables.checks" 303) 124
def VF:Obj:=tn ["table","told","row"] 339
def Zg:Obj:=g (d 14) "numbers_of"
def Vr:Obj:=c "numbers_of" 336 28 1 3 126 true 181 127 (r 128) (r 129) (r 130) 342
def Vq:Obj:=u (d 14) "numbers_of" (s "minortables.checks" 303) 131
def o3_8(P:Params):=og 35 35 (s "minortables.fractions" 396) P
def Vt:Obj:=⟨z,none,.fields (fv.take 75).toArray,#[]⟩
def Zf:Obj:=g (d 15) "has_table_form"
def Vp:Obj:=c "has_table_form" 345 33 1 3 133 true 181 134 z z (r 135) 348
def Vo:Obj:=u (d 15) "has_table_form" (s "minortables.checks" 303) 136
def Vn:Obj:=tn ["thing","many"] 354
def Ze:Obj:=g (d 16) "is_place"
def Vm:Obj:=c "is_place" 351 35 2 3 138 true 181 139 (r 140) (r 141) (r 142) 356
def Vl:Obj:=u (d 16) "is_place" (s "minortables.checks" 303) 143
def Zd:Obj:=g (d 17) "are_rising_places"
def Vk:Obj:=c "are_rising_places" 359 37 2 3 145 true 181 146 z z (r 147) 362
def Vj:Obj:=u (d 17) "are_rising_places" (s "minortables.checks" 303) 148
def Vi:Obj:=tn ["thing"] 368
def Zc:Obj:=g (d 18) "need_table"
def Vh:Obj:=c "need_table" 365 43 1 3 150 true 181 151 (r 152) (r 153) (r 154) 369
def Vg:Obj:=u (d 18) "need_table" (s "minortables.checks" 303) 155
def Vf:Obj:=tn ["thing","many"] 375
def Zb:Obj:=g (d 19) "need_place"
def Ve:Obj:=c "need_place" 372 46 2 3 157 true 181 158 (r 159) (r 160) (r 161) 377
def Vd:Obj:=u (d 19) "need_place" (s "minortables.checks" 303) 162
def Vc:Obj:=tn ["thing","many"] 383
def Za:Obj:=g (d 20) "need_places"
def Vb:Obj:=c "need_places" 380 49 2 3 164 true 181 165 (r 166) (r 167) (r 168) 385
def Va:Obj:=u (d 20) "need_places" (s "minortables.checks" 303) 169
def U9:Obj:=tn ["thing","most"] 391
def Y9:Obj:=g (d 21) "need_size"
def U8:Obj:=c "need_size" 388 52 2 3 171 true 181 172 (r 173) (r 174) (r 175) 393
def U7:Obj:=u (d 21) "need_size" (s "minortables.checks" 303) 176
def U4:Obj:=tn ["one","other","rest"] 401
def Y8:Obj:=g (d 23) "common_measure"
def U3:Obj:=c "common_measure" 398 56 2 3 178 true 181 179 (r 180) (r 181) (r 182) 404
def UW:Obj:=u (d 23) "common_measure" (s "minortables.fractions" 396) 183
def UL:Obj:=tn ["up","down","measure"] 410
def Y7:Obj:=g (d 24) "lowest"
def UJ:Obj:=c "lowest" 407 62 2 3 185 true 181 186 (r 187) (r 188) (r 189) 413
def UG:Obj:=u (d 24) "lowest" (s "minortables.fractions" 396) 190
def Uz:Obj:=tn ["thing"] 419
def Y6:Obj:=g (d 25) "has_fraction_form"
def Uy:Obj:=c "has_fraction_form" 416 67 1 3 192 true 181 193 (r 194) (r 195) (r 196) 420
def Ux:Obj:=u (d 25) "has_fraction_form" (s "minortables.fractions" 396) 197
def Uw:Obj:=tn ["thing"] 426
def Y5:Obj:=g (d 26) "is_fraction"
def Uv:Obj:=c "is_fraction" 423 73 1 3 199 true 181 200 (r 201) (r 202) (r 203) 427
def Uu:Obj:=u (d 26) "is_fraction" (s "minortables.fractions" 396) 204
def Ut:Obj:=tn ["one","other"] 433
def Y4:Obj:=g (d 27) "sum_of"
def Us:Obj:=c "sum_of" 430 75 2 3 206 true 181 207 (r 208) (r 209) (r 210) 435
def Ur:Obj:=u (d 27) "sum_of" (s "minortables.fractions" 396) 211
def Uq:Obj:=tn ["one","other"] 441
def Y0:Obj:=g (d 28) "times_of"
def Uo:Obj:=c "times_of" 438 77 2 3 213 true 181 214 (r 215) (r 216) (r 217) 443
def Um:Obj:=u (d 28) "times_of" (s "minortables.fractions" 396) 218
def o3_9(P:Params):=og 50 50 (s "minortables.steps" 519) P
def Vs:Obj:=⟨z,none,.fields (fv.take 111).toArray,#[]⟩
def Ul:Obj:=tn ["some","told","fraction"] 449
def YZ:Obj:=g (d 29) "all_sum"
def Uk:Obj:=c "all_sum" 446 79 1 3 220 true 181 221 (r 222) (r 223) (r 224) 452
def Uj:Obj:=u (d 29) "all_sum" (s "minortables.fractions" 396) 225
def YX:Obj:=g (d 30) "need_fraction_table"
def Ui:Obj:=c "need_fraction_table" 455 84 1 3 227 true 181 228 z z (r 229) 458
def Uh:Obj:=u (d 30) "need_fraction_table" (s "minortables.fractions" 396) 230
def YW:Obj:=g (d 31) "row_as_fractions"
def Ug:Obj:=c "row_as_fractions" 461 87 1 3 232 true 181 233 z z (r 234) 464
def Ue:Obj:=u (d 31) "row_as_fractions" (s "minortables.fractions" 396) 235
def YT:Obj:=g (d 32) "as_fractions"
def Ud:Obj:=c "as_fractions" 467 89 1 3 237 true 181 238 z z (r 239) 470
def Uc:Obj:=u (d 32) "as_fractions" (s "minortables.fractions" 396) 240
def YS:Obj:=g (d 34) "column_of"
def Ub:Obj:=c "column_of" 475 93 2 3 242 true 181 243 z z (r 244) 478
def Ua:Obj:=u (d 34) "column_of" (s "minortables.tables" 473) 245
def YQ:Obj:=g (d 35) "columns_of"
def Tz:Obj:=c "columns_of" 481 95 1 3 247 true 181 248 z z (r 249) 484
def Tw:Obj:=u (d 35) "columns_of" (s "minortables.tables" 473) 250
def YM:Obj:=g (d 36) "plain_row"
def Tv:Obj:=c "plain_row" 487 97 2 3 252 true 181 253 z z (r 254) 490
def Tt:Obj:=u (d 36) "plain_row" (s "minortables.tables" 473) 255
def YL:Obj:=g (d 37) "plain"
def Tr:Obj:=c "plain" 493 99 1 3 257 true 181 258 z z (r 259) 496
def Tq:Obj:=u (d 37) "plain" (s "minortables.tables" 473) 260
def YK:Obj:=g (d 39) "with_behind"
def Tp:Obj:=c "with_behind" 501 103 2 3 262 true 181 263 z z (r 264) 504
def Tn:Obj:=u (d 39) "with_behind" (s "minortables.minors" 499) 265
def Tj:Obj:=tn ["many","size","told","length","longer","places"] 510
def YJ:Obj:=g (d 40) "rising_tuples"
def Ti:Obj:=c "rising_tuples" 507 106 2 3 267 true 181 268 (r 269) (r 270) (r 271) 516
def Tg:Obj:=u (d 40) "rising_tuples" (s "minortables.minors" 499) 272
def Tf:Obj:=tn ["many","word","place","share"] 530
def YH:Obj:=g (d 45) "is_step_of"
def Te:Obj:=c "is_step_of" 527 118 4 3 274 true 181 275 (r 276) (r 277) (r 278) 534
def Td:Obj:=u (d 45) "is_step_of" (s "minortables.steps" 519) 279
def Tc:Obj:=tn ["many","thing"] 540
def YG:Obj:=g (d 46) "is_step"
def SX:Obj:=c "is_step" 537 122 2 3 281 true 181 282 (r 283) (r 284) (r 285) 542
def SQ:Obj:=u (d 46) "is_step" (s "minortables.steps" 519) 286
def Rm(P:Params):Obj:=og 63 63 (s "minortables.nets" 587) P
def Lh:Obj:=⟨z,none,.fields (fv.take 150).toArray,#[]⟩
def YF:Obj:=g (d 47) "need_steps"
def SN:Obj:=c "need_steps" 545 126 2 3 288 true 181 289 z z (r 290) 548
def SM:Obj:=u (d 47) "need_steps" (s "minortables.steps" 519) 291
def YD:Obj:=g (d 48) "row_by_column"
def SJ:Obj:=c "row_by_column" 551 131 2 3 293 true 181 294 z z (r 295) 554
def Sy:Obj:=u (d 48) "row_by_column" (s "minortables.steps" 519) 296
def o300:=g (d 49) "row_by_columns"
def Sx:Obj:=c "row_by_columns" 557 133 2 3 298 true 181 299 z z (r 300) 560
def Sw:Obj:=u (d 49) "row_by_columns" (s "minortables.steps" 519) 301
def YC:Obj:=g (d 50) "product_of"
def Sv:Obj:=c "product_of" 563 135 2 3 303 true 181 304 z z (r 305) 566
def Ss:Obj:=u (d 50) "product_of" (s "minortables.steps" 519) 306
def YB:Obj:=g (d 51) "table_of_step"
def Sh:Obj:=c "table_of_step" 569 142 4 3 308 true 181 309 z z (r 310) 572
def Sg:Obj:=u (d 51) "table_of_step" (s "minortables.steps" 519) 311
def Sd:Obj:=tn ["many","steps","made","word","place","share"] 578
def Yz:Obj:=g (d 52) "made_by"
def R9:Obj:=c "made_by" 575 148 2 3 313 true 181 314 (r 315) (r 316) (r 317) 584
def R8:Obj:=u (d 52) "made_by" (s "minortables.steps" 519) 318
def Yy:Obj:=g (d 54) "step_tables"
def R7:Obj:=c "step_tables" 589 155 2 3 320 true 181 321 z z (r 322) 592
def R6:Obj:=u (d 54) "step_tables" (s "minortables.nets" 587) 323
def R5:Obj:=tn ["behind","share","row","told","level","more"] 598
def Yx:Obj:=g (d 55) "with_one_more"
def R4:Obj:=c "with_one_more" 595 157 3 3 325 true 181 326 (r 327) (r 328) (r 329) 604
def R3:Obj:=u (d 55) "with_one_more" (s "minortables.nets" 587) 330
def R0:Obj:=tn ["table","levels","told","level","longer","behind","share"] 610
def Yw:Obj:=g (d 56) "goings"
def RZ:Obj:=c "goings" 607 163 2 3 332 true 181 333 (r 334) (r 335) (r 336) 617
def RX:Obj:=u (d 56) "goings" (s "minortables.nets" 587) 337
def RW:Obj:=tn ["tables","some","told","table","longer","run","share","behind","more"] 623
def Yv:Obj:=g (d 57) "runs_from"
def RV:Obj:=c "runs_from" 620 171 2 3 339 true 181 340 (r 341) (r 342) (r 343) 632
def RT:Obj:=u (d 57) "runs_from" (s "minortables.nets" 587) 344
def Yu:Obj:=g (d 58) "runs_between"
def RQ:Obj:=c "runs_between" 635 180 4 3 346 true 181 347 z z (r 348) 638
def RP:Obj:=u (d 58) "runs_between" (s "minortables.nets" 587) 349
def RN:Obj:=tn ["tables","some","shares","table","later","levels","share","behind","more"] 644
def Yt:Obj:=g (d 59) "shares_from"
def RM:Obj:=c "shares_from" 641 183 2 3 351 true 181 352 (r 353) (r 354) (r 355) 653
def RL:Obj:=u (d 59) "shares_from" (s "minortables.nets" 587) 356
def RK:Obj:=tn ["many","steps","some","others"] 659
def Ys:Obj:=g (d 60) "share_between"
def RJ:Obj:=c "share_between" 656 192 4 3 358 true 181 359 (r 360) (r 361) (r 362) 663
def RG:Obj:=u (d 60) "share_between" (s "minortables.nets" 587) 363
def Rk(P:Params):Obj:=og 75 75 (s "law_minortables_k41_whole_sets_of_ways" 728) P
def Lg:Obj:=⟨z,none,.fields (fv.take 186).toArray,#[]⟩
def RD:Obj:=tn ["many","steps","start","end"] 669
def Yr:Obj:=g (d 61) "need_levels"
def RB:Obj:=c "need_levels" 666 194 4 3 365 true 181 366 (r 367) (r 368) (r 369) 673
def Rz:Obj:=u (d 61) "need_levels" (s "minortables.nets" 587) 370
def Ry:Obj:=tn ["many","steps","some","others"] 679
def Yq:Obj:=g (d 62) "need_sets"
def o377:=c "need_sets" 676 198 4 3 372 true 181 373 (r 374) (r 375) (r 376) 683
def Rx:Obj:=u (d 62) "need_sets" (s "minortables.nets" 587) 377
def Yp:Obj:=g (d 63) "ways"
def Rw:Obj:=c "ways" 686 204 4 3 379 true 181 380 z z (r 381) 689
def Rv:Obj:=u (d 63) "ways" (s "minortables.nets" 587) 382
def Ru:Obj:=tn ["many","steps","start","end"] 695
def Yo:Obj:=g (d 64) "share_of_ways"
def Rt:Obj:=c "share_of_ways" 692 207 4 3 384 true 181 385 (r 386) (r 387) (r 388) 699
def Rr:Obj:=u (d 64) "share_of_ways" (s "minortables.nets" 587) 389
def Rq:Obj:=tn ["many","steps","some","others"] 705
def Yn:Obj:=g (d 65) "sets_of_ways"
def Rp:Obj:=c "sets_of_ways" 702 210 4 3 391 true 181 392 (r 393) (r 394) (r 395) 709
def Ro:Obj:=u (d 65) "sets_of_ways" (s "minortables.nets" 587) 396
def o400:=tn ["many","steps","some","others"] 715
def Ym:Obj:=g (d 66) "share_of_sets"
def Ri:Obj:=c "share_of_sets" 712 213 4 3 398 true 181 399 (r 400) (r 401) (r 402) 719
def Rh:Obj:=u (d 66) "share_of_sets" (s "minortables.nets" 587) 403
def Yl:Obj:=g (d 67) "all_sets"
def Rf:Obj:=c "all_sets" 722 216 3 3 405 true 181 406 z z (r 407) 725
def Rc:Obj:=u (d 67) "all_sets" (s "minortables.nets" 587) 408
def Rb:Obj:=tn ["_law_script","_law_k"] 733
def Yk:Obj:=g (d 69) "_law_cell"
def Ra:Obj:=c "_law_cell" 730 226 2 3 410 true 181 411 (r 412) (r 413) (r 414) 735
def Q9:Obj:=u (d 69) "_law_cell" (s "law_minortables_k41_whole_sets_of_ways" 728) 415
def Q8:Obj:=tn ["_law_script","_law_k","_law_many","_law_drawn"] 741
def Yj:Obj:=g (d 70) "_law_pick"
def Q7:Obj:=c "_law_pick" 738 232 3 3 417 true 181 418 (r 419) (r 420) (r 421) 745
def Q6:Obj:=u (d 70) "_law_pick" (s "law_minortables_k41_whole_sets_of_ways" 728) 422
def Yi:Obj:=g (d 71) "_law_table"
def Yh:Obj:=c "_law_table" 748 235 4 3 424 true 181 425 z z (r 426) 751
def Yg:Obj:=u (d 71) "_law_table" (s "law_minortables_k41_whole_sets_of_ways" 728) 427
def Ye:Obj:=tn ["_law_script","_law_at"] 757
def Yd:Obj:=g (d 72) "_law_size"
def Yc:Obj:=c "_law_size" 754 241 2 3 429 true 181 430 (r 431) (r 432) (r 433) 759
def Yb:Obj:=u (d 72) "_law_size" (s "law_minortables_k41_whole_sets_of_ways" 728) 434
def X8:Obj:=tn ["_law_one","_law_other","_law_made_here","_law_row","_law_line","_law_column","_law_total","_law_k"] 765
def X7:Obj:=g (d 73) "_law_times"
def X6:Obj:=c "_law_times" 762 243 2 3 436 true 181 437 (r 438) (r 439) (r 440) 773
def X5:Obj:=u (d 73) "_law_times" (s "law_minortables_k41_whole_sets_of_ways" 728) 441
def Rj(P:Params):Obj:=og 88 88 (s "law_minortables_k41_whole_sets_of_ways" 728) P
def Lf:Obj:=⟨z,none,.fields (fv.take 225).toArray,#[]⟩
def X4:Obj:=g (d 74) "_law_worth"
def X3:Obj:=c "_law_worth" 776 254 1 3 443 true 181 444 z z (r 445) 779
def XS:Obj:=u (d 74) "_law_worth" (s "law_minortables_k41_whole_sets_of_ways" 728) 446
def XR:Obj:=g (d 75) "_law_some"
def Q5:Obj:=c "_law_some" 782 264 2 3 448 true 181 449 z z (r 450) 785
def Q0:Obj:=u (d 75) "_law_some" (s "law_minortables_k41_whole_sets_of_ways" 728) 451
def XQ:Obj:=g (d 76) "_law_part"
def XM:Obj:=c "_law_part" 788 272 3 3 453 true 181 454 z z (r 455) 791
def XJ:Obj:=u (d 76) "_law_part" (s "law_minortables_k41_whole_sets_of_ways" 728) 456
def XH:Obj:=tn ["_law_table_here","_law_made_here","_law_size_here","_law_some_here","_law_others"] 797
def XF:Obj:=g (d 77) "_law_minors"
def XD:Obj:=c "_law_minors" 794 274 1 3 458 true 181 459 (r 460) (r 461) (r 462) 802
def XC:Obj:=u (d 77) "_law_minors" (s "law_minortables_k41_whole_sets_of_ways" 728) 463
def QZ:Obj:=tn ["_law_script","_law_at"] 808
def Xz:Obj:=g (d 78) "_law_share"
def QX:Obj:=c "_law_share" 805 281 2 3 465 true 181 466 (r 467) (r 468) (r 469) 810
def QW:Obj:=u (d 78) "_law_share" (s "law_minortables_k41_whole_sets_of_ways" 728) 470
def QV:Obj:=tn ["_law_script","_law_at","_law_many","_law_most","_law_made_here","_law_k","_law_base","_law_word_here","_law_share_here"] 816
def Xy:Obj:=g (d 79) "_law_steps"
def QT:Obj:=c "_law_steps" 813 283 4 3 472 true 181 473 (r 474) (r 475) (r 476) 825
def QS:Obj:=u (d 79) "_law_steps" (s "law_minortables_k41_whole_sets_of_ways" 728) 477
def QM:Obj:=tn ["_law_up","_law_down","_law_one","_law_other"] 831
def Xx:Obj:=g (d 80) "_law_lowest"
def QL:Obj:=c "_law_lowest" 828 294 2 3 479 true 181 480 (r 481) (r 482) (r 483) 835
def QK:Obj:=u (d 80) "_law_lowest" (s "law_minortables_k41_whole_sets_of_ways" 728) 484
def QJ:Obj:=tn ["_law_some_here","_law_up","_law_down","_law_one"] 841
def Xw:Obj:=g (d 81) "_law_sum"
def QH:Obj:=c "_law_sum" 838 299 1 3 486 true 181 487 (r 488) (r 489) (r 490) 845
def QG:Obj:=u (d 81) "_law_sum" (s "law_minortables_k41_whole_sets_of_ways" 728) 491
def Xv:Obj:=g (d 82) "_law_step_table"
def Xu:Obj:=c "_law_step_table" 848 304 2 3 493 true 181 494 z z (r 495) 851
def Xr:Obj:=u (d 82) "_law_step_table" (s "law_minortables_k41_whole_sets_of_ways" 728) 496
def Xq:Obj:=g (d 83) "_law_made"
def Xp:Obj:=c "_law_made" 854 311 2 3 498 true 181 499 z z (r 500) 857
def Xo:Obj:=u (d 83) "_law_made" (s "law_minortables_k41_whole_sets_of_ways" 728) 501
def QF:Obj:=tn ["_law_kept","_law_kinds"] 863
def Xn:Obj:=g (d 84) "_law_word"
def QD:Obj:=c "_law_word" 860 324 1 3 503 true 181 504 (r 505) (r 506) (r 507) 865
def QC:Obj:=u (d 84) "_law_word" (s "law_minortables_k41_whole_sets_of_ways" 728) 508
def QB:Obj:=tn ["_law_what","_law_many","_law_steps_here","_law_some_here","_law_others","_law_kept","_law_answer","e"] 871
def Xm:Obj:=g (d 85) "_law_do"
def Qz:Obj:=c "_law_do" 868 330 5 3 510 true 181 511 (r 512) (r 513) (r 514) 879
def Qy:Obj:=u (d 85) "_law_do" (s "law_minortables_k41_whole_sets_of_ways" 728) 515
def Qx:Obj:=tn ["_law_table_here","_law_some_here","_law_others","_law_parts","_law_k","_law_column","_law_rest","_law_sign"] 885
def Xl:Obj:=g (d 86) "_law_minor"
def Qw:Obj:=c "_law_minor" 882 340 3 3 517 true 181 518 (r 519) (r 520) (r 521) 893
def Qv:Obj:=u (d 86) "_law_minor" (s "law_minortables_k41_whole_sets_of_ways" 728) 522
def Hj(P:Params):Obj:=og 90 90 (s "law_minortables_k41_whole_sets_of_ways" 728) P
def Du:Obj:=⟨z,none,.fields (fv.take 231).toArray,#[]⟩
def Xk:Obj:=g (d 87) "_law_is_set"
def Qu:Obj:=c "_law_is_set" 896 349 3 3 524 true 181 525 z z (r 526) 899
def Qt:Obj:=u (d 87) "_law_is_set" (s "law_minortables_k41_whole_sets_of_ways" 728) 527
def Xj:Obj:=g (d 88) "law"
def Qs:Obj:=c "law" 902 357 1 3 529 true 181 530 z z (r 531) 905
def Qq:Obj:=u (d 88) "law" (s "law_minortables_k41_whole_sets_of_ways" 728) 532
def Ha(P:Params):Heap:=⟨⟨[boot_o_0 P,boot_o_1 P,boot_o_2 P,boot_o_3 P,boot_o_4 P,boot_o_5 P,boot_o_6 P,boot_o_7 P,boot_o_8 P,boot_o_9 P,boot_o_10 P,y,o12,o13,o14]⟩,{}⟩
def T0(P:Params):BT:=I .nil 0 [boot_o_0 P,boot_o_1 P,boot_o_2 P,boot_o_3 P,boot_o_4 P,boot_o_5 P,boot_o_6 P,boot_o_7 P,boot_o_8 P,boot_o_9 P,boot_o_10 P,y,o12,o13,o14]
def T1(P:Params):BT:=I (T0 P) 15 [o15,o16,o17 P,y,x,o20,o21,y,o23 P,o24,o25,o26,o27] |>.set 3 (fun _=>o3_1 P) |>.set 12 (fun _=>VD)
def T2(P:Params):BT:=I (T1 P) 28 [o28,o29,o30 P,y,x,o33,o34,y,o36 P,o37,o38,o39] |>.set 3 (fun _=>o3_2 P) |>.set 12 (fun _=>VB) |>.set 24 (fun _=>TY)
def T3(P:Params):BT:=I (T2 P) 40 [o40,o41,o42 P,y,x,o45,o46,y,o48 P,o49,o50,o51] |>.set 3 (fun _=>o3_3 P) |>.set 12 (fun _=>Vz) |>.set 24 (fun _=>TV)
def T4(P:Params):BT:=I (T3 P) 52 [o52,o53,o54 P,y,x,o57,o58,y,o60 P,o61,o62,o63] |>.set 3 (fun _=>o3_4 P) |>.set 12 (fun _=>Vy) |>.set 24 (fun _=>TQ)
def T5(P:Params):BT:=I (T4 P) 64 [o64,o65,o66 P,y,x,o69,o70,y,o72 P,o73,o74,o75] |>.set 3 (fun _=>o3_5 P) |>.set 12 (fun _=>Vx) |>.set 24 (fun _=>TJ)
def T6(P:Params):BT:=I (T5 P) 76 [o76,o77,o78 P,y,x,o81,o82,y,o84 P,o85,o86,o87] |>.set 3 (fun _=>o3_6 P) |>.set 12 (fun _=>Vv) |>.set 24 (fun _=>TF)
def T7(P:Params):BT:=I (T6 P) 88 [o88,o89,o90 P,y,x,o93,o94,y,o96 P,o97,o98,o99,y,x,V3,y,Zj,V2,V1,y,x,V0,y,o111,VR,VP,y,x,VN,y,Zi,VL,VJ,y,x,Zh,VH,VG,y,x,VF,y,Zg,Vr,Vq] |>.set 3 (fun _=>o3_7 P) |>.set 12 (fun _=>Vu) |>.set 24 (fun _=>Hl)
def T8(P:Params):BT:=I (T7 P) 133 [y,x,Zf,Vp,Vo,y,x,Vn,y,Ze,Vm,Vl,y,x,Zd,Vk,Vj,y,x,Vi,y,Zc,Vh,Vg,y,x,Vf,y,Zb,Ve,Vd,y,x,Vc,y,Za,Vb,Va,y,x,U9,y,Y9,U8,U7,y,x,U4,y,Y8,U3,UW,y,x,UL,y,Y7,UJ,UG,y,x,Uz,y,Y6,Uy,Ux,y,x,Uw,y,Y5,Uv,Uu,y,x,Ut,y,Y4,Us,Ur,y,x,Uq,y,Y0,Uo,Um] |>.set 3 (fun _=>o3_8 P) |>.set 12 (fun _=>Vt)
def T9(P:Params):BT:=I (T8 P) 220 [y,x,Ul,y,YZ,Uk,Uj,y,x,YX,Ui,Uh,y,x,YW,Ug,Ue,y,x,YT,Ud,Uc,y,x,YS,Ub,Ua,y,x,YQ,Tz,Tw,y,x,YM,Tv,Tt,y,x,YL,Tr,Tq,y,x,YK,Tp,Tn,y,x,Tj,y,YJ,Ti,Tg,y,x,Tf,y,YH,Te,Td,y,x,Tc,y,YG,SX,SQ] |>.set 3 (fun _=>o3_9 P) |>.set 12 (fun _=>Vs)
def T10(P:Params):BT:=I (T9 P) 288 [y,x,YF,SN,SM,y,x,YD,SJ,Sy,y,x,o300,Sx,Sw,y,x,YC,Sv,Ss,y,x,YB,Sh,Sg,y,x,Sd,y,Yz,R9,R8,y,x,Yy,R7,R6,y,x,R5,y,Yx,R4,R3,y,x,R0,y,Yw,RZ,RX,y,x,RW,y,Yv,RV,RT,y,x,Yu,RQ,RP,y,x,RN,y,Yt,RM,RL,y,x,RK,y,Ys,RJ,RG] |>.set 3 (fun _=>Rm P) |>.set 12 (fun _=>Lh)
def T11(P:Params):BT:=I (T10 P) 365 [y,x,RD,y,Yr,RB,Rz,y,x,Ry,y,Yq,o377,Rx,y,x,Yp,Rw,Rv,y,x,Ru,y,Yo,Rt,Rr,y,x,Rq,y,Yn,Rp,Ro,y,x,o400,y,Ym,Ri,Rh,y,x,Yl,Rf,Rc,y,x,Rb,y,Yk,Ra,Q9,y,x,Q8,y,Yj,Q7,Q6,y,x,Yi,Yh,Yg,y,x,Ye,y,Yd,Yc,Yb,y,x,X8,y,X7,X6,X5] |>.set 3 (fun _=>Rk P) |>.set 12 (fun _=>Lg)
def T12(P:Params):BT:=I (T11 P) 443 [y,x,X4,X3,XS,y,x,XR,Q5,Q0,y,x,XQ,XM,XJ,y,x,XH,y,XF,XD,XC,y,x,QZ,y,Xz,QX,QW,y,x,QV,y,Xy,QT,QS,y,x,QM,y,Xx,QL,QK,y,x,QJ,y,Xw,QH,QG,y,x,Xv,Xu,Xr,y,x,Xq,Xp,Xo,y,x,QF,y,Xn,QD,QC,y,x,QB,y,Xm,Qz,Qy,y,x,Qx,y,Xl,Qw,Qv] |>.set 3 (fun _=>Rj P) |>.set 12 (fun _=>Lf)
def T13(P:Params):BT:=I (T12 P) 524 [y,x,Xk,Qu,Qt,y,x,Xj,Qs,Qq] |>.set 3 (fun _=>Hj P) |>.set 12 (fun _=>Du)
def H1(P:Params):Heap:=⟨⟨[boot_o_0 P,boot_o_1 P,boot_o_2 P,Hj P,boot_o_4 P,boot_o_5 P,boot_o_6 P,boot_o_7 P,boot_o_8 P,boot_o_9 P,boot_o_10 P,y,Du,o13,o14,o15,o16,o17 P,y,x,o20,o21,y,o23 P,Hl,o25,o26,o27,o28,o29,o30 P,y,x,o33,o34,y,o36 P,o37,o38,o39,o40,o41,o42 P,y,x,o45,o46,y,o48 P,o49,o50,o51,o52,o53,o54 P,y,x,o57,o58,y,o60 P,o61,o62,o63,o64,o65,o66 P,y,x,o69,o70,y,o72 P,o73,o74,o75,o76,o77,o78 P,y,x,o81,o82,y,o84 P,o85,o86,o87,o88,o89,o90 P,y,x,o93,o94,y,o96 P,o97,o98,o99,y,x,V3,y,Zj,V2,V1,y,x,V0,y,o111,VR,VP,y,x,VN,y,Zi,VL,VJ,y,x,Zh,VH,VG,y,x,VF,y,Zg,Vr,Vq,y,x,Zf,Vp,Vo,y,x,Vn,y,Ze,Vm,Vl,y,x,Zd,Vk,Vj,y,x,Vi,y,Zc,Vh,Vg,y,x,Vf,y,Zb,Ve,Vd,y,x,Vc,y,Za,Vb,Va,y,x,U9,y,Y9,U8,U7,y,x,U4,y,Y8,U3,UW,y,x,UL,y,Y7,UJ,UG,y,x,Uz,y,Y6,Uy,Ux,y,x,Uw,y,Y5,Uv,Uu,y,x,Ut,y,Y4,Us,Ur,y,x,Uq,y,Y0,Uo,Um,y,x,Ul,y,YZ,Uk,Uj,y,x,YX,Ui,Uh,y,x,YW,Ug,Ue,y,x,YT,Ud,Uc,y,x,YS,Ub,Ua,y,x,YQ,Tz,Tw,y,x,YM,Tv,Tt,y,x,YL,Tr,Tq,y,x,YK,Tp,Tn,y,x,Tj,y,YJ,Ti,Tg,y,x,Tf,y,YH,Te,Td,y,x,Tc,y,YG,SX,SQ,y,x,YF,SN,SM,y,x,YD,SJ,Sy,y,x,o300,Sx,Sw,y,x,YC,Sv,Ss,y,x,YB,Sh,Sg,y,x,Sd,y,Yz,R9,R8,y,x,Yy,R7,R6,y,x,R5,y,Yx,R4,R3,y,x,R0,y,Yw,RZ,RX,y,x,RW,y,Yv,RV,RT,y,x,Yu,RQ,RP,y,x,RN,y,Yt,RM,RL,y,x,RK,y,Ys,RJ,RG,y,x,RD,y,Yr,RB,Rz,y,x,Ry,y,Yq,o377,Rx,y,x,Yp,Rw,Rv,y,x,Ru,y,Yo,Rt,Rr,y,x,Rq,y,Yn,Rp,Ro,y,x,o400,y,Ym,Ri,Rh,y,x,Yl,Rf,Rc,y,x,Rb,y,Yk,Ra,Q9,y,x,Q8,y,Yj,Q7,Q6,y,x,Yi,Yh,Yg,y,x,Ye,y,Yd,Yc,Yb,y,x,X8,y,X7,X6,X5,y,x,X4,X3,XS,y,x,XR,Q5,Q0,y,x,XQ,XM,XJ,y,x,XH,y,XF,XD,XC,y,x,QZ,y,Xz,QX,QW,y,x,QV,y,Xy,QT,QS,y,x,QM,y,Xx,QL,QK,y,x,QJ,y,Xw,QH,QG,y,x,Xv,Xu,Xr,y,x,Xq,Xp,Xo,y,x,QF,y,Xn,QD,QC,y,x,QB,y,Xm,Qz,Qy,y,x,Qx,y,Xl,Qw,Qv,y,x,Xk,Qu,Qt,y,x,Xj,Qs,Qq]⟩,{}⟩
def S0(w:World)(os:OsState):SharedT:=⟨T0 w.params,15,{},⟨[]⟩,{},187,os⟩
def S1(w:World)(os:OsState):SharedT:=⟨T1 w.params,28,{},⟨[]⟩,{},207,os⟩
def S2(w:World)(os:OsState):SharedT:=⟨T2 w.params,40,{},⟨[]⟩,{},223,os⟩
def S3(w:World)(os:OsState):SharedT:=⟨T3 w.params,52,{},⟨[]⟩,{},239,os⟩
def S4(w:World)(os:OsState):SharedT:=⟨T4 w.params,64,{},⟨[]⟩,{},255,os⟩
def S5(w:World)(os:OsState):SharedT:=⟨T5 w.params,76,{},⟨[]⟩,{},271,os⟩
def S6(w:World)(os:OsState):SharedT:=⟨T6 w.params,88,{},⟨[]⟩,{},287,os⟩
def S7(w:World)(os:OsState):SharedT:=⟨T7 w.params,133,{},⟨[]⟩,{},345,os⟩
def S8(w:World)(os:OsState):SharedT:=⟨T8 w.params,220,{},⟨[]⟩,{},446,os⟩
def S9(w:World)(os:OsState):SharedT:=⟨T9 w.params,288,{},⟨[]⟩,{},545,os⟩
def S10(w:World)(os:OsState):SharedT:=⟨T10 w.params,365,{},⟨[]⟩,{},666,os⟩
def S11(w:World)(os:OsState):SharedT:=⟨T11 w.params,443,{},⟨[]⟩,{},776,os⟩
def S12(w:World)(os:OsState):SharedT:=⟨T12 w.params,524,{},⟨[]⟩,{},896,os⟩
def S13(w:World)(os:OsState):SharedT:=⟨T13 w.params,534,{},⟨[]⟩,{},908,os⟩
def S(w:World)(os:OsState):Shared:=⟨H1 w.params,⟨[]⟩,{},908,os⟩
def E:Env:={ scope:=p.main.scope,locals:=mainNs,globals:=mainNs,cells:=[],code:=(r 13),frame:=some 14 }
abbrev C:Code:=.body (behindTheImports p) E
abbrev B:List Frame:=[topFrame ⟨0,0,0,0⟩]
def l1:List Stmt:=((behindTheImports p).drop 0).take 2
def l2:List Stmt:=((behindTheImports p).drop 2).take 1
def l3:List Stmt:=((behindTheImports p).drop 3).take 1
def l4:List Stmt:=((behindTheImports p).drop 4).take 1
def l5:List Stmt:=((behindTheImports p).drop 5).take 1
def l6:List Stmt:=((behindTheImports p).drop 6).take 1
def l7:List Stmt:=((behindTheImports p).drop 7).take 8
def l8:List Stmt:=((behindTheImports p).drop 15).take 14
def l9:List Stmt:=((behindTheImports p).drop 29).take 18
def l10:List Stmt:=((behindTheImports p).drop 47).take 14
def l11:List Stmt:=((behindTheImports p).drop 61).take 13
def l12:List Stmt:=((behindTheImports p).drop 74).take 13
def l13:List Stmt:=((behindTheImports p).drop 87).take 2
theorem pre(w:World)(os:OsState):topGo treeTable p w 11 (some (r 6)) 12 ⟨boot_heap w.params,Array.mk [],boot_drawn,boot_toks,os⟩ (topStub p)=some (⟨Ha w.params,⟨[]⟩,{},187,os⟩,⟨denote treeTable C,C,⟨0,0,0,0⟩,B⟩):=goT (by rfl')
theorem blk(w:World)(os:OsState):segRun treeTable p w 11 (some (r 6)) 1 1 ⟨Ha w.params,⟨[]⟩,{},187,os⟩ (blockOf (behindTheImports p) E C ⟨0,0,0,0⟩ B)=some (.next,(S0 w os).abs,C,⟨0,0,0,0⟩):=Z6 (by rfl')
theorem p1(w:World)(os:OsState):segRun treeTable p w 11 (some (r 6)) 1 196 (S0 w os).abs (piecesOf l1 E C ⟨0,0,0,0⟩ B)=some (.next,(S1 w os).abs,C,⟨2,0,3,8⟩):=M5z (uJ (by rfl'))
theorem p2(w:World)(os:OsState):segRun treeTable p w 11 (some (r 6)) 1 214 (S1 w os).abs (piecesOf l2 E C ⟨2,0,3,8⟩ B)=some (.next,(S2 w os).abs,C,⟨4,0,5,8⟩):=M5z (uJ (by rfl'))
theorem p3(w:World)(os:OsState):segRun treeTable p w 11 (some (r 6)) 1 214 (S2 w os).abs (piecesOf l3 E C ⟨4,0,5,8⟩ B)=some (.next,(S3 w os).abs,C,⟨6,0,7,8⟩):=M5z (uJ (by rfl'))
theorem p4(w:World)(os:OsState):segRun treeTable p w 11 (some (r 6)) 1 214 (S3 w os).abs (piecesOf l4 E C ⟨6,0,7,8⟩ B)=some (.next,(S4 w os).abs,C,⟨8,0,9,8⟩):=M5z (uJ (by rfl'))
theorem p5(w:World)(os:OsState):segRun treeTable p w 11 (some (r 6)) 1 214 (S4 w os).abs (piecesOf l5 E C ⟨8,0,9,8⟩ B)=some (.next,(S5 w os).abs,C,⟨10,0,11,8⟩):=M5z (uJ (by rfl'))
theorem p6(w:World)(os:OsState):segRun treeTable p w 11 (some (r 6)) 1 214 (S5 w os).abs (piecesOf l6 E C ⟨10,0,11,8⟩ B)=some (.next,(S6 w os).abs,C,⟨12,0,13,8⟩):=M5z (uJ (by rfl'))
theorem p7(w:World)(os:OsState):segRun treeTable p w 11 (some (r 6)) 1 378 (S6 w os).abs (piecesOf l7 E C ⟨12,0,13,8⟩ B)=some (.next,(S7 w os).abs,C,⟨28,0,32,15⟩):=M5z (uJ (by rfl'))
theorem p8(w:World)(os:OsState):segRun treeTable p w 11 (some (r 6)) 1 391 (S7 w os).abs (piecesOf l8 E C ⟨28,0,32,15⟩ B)=some (.next,(S8 w os).abs,C,⟨77,0,78,55⟩):=M5z (uJ (by rfl'))
theorem p9(w:World)(os:OsState):segRun treeTable p w 11 (some (r 6)) 1 390 (S8 w os).abs (piecesOf l9 E C ⟨77,0,78,55⟩ B)=some (.next,(S9 w os).abs,C,⟨122,0,125,57⟩):=M5z (uJ (by rfl'))
theorem p10(w:World)(os:OsState):segRun treeTable p w 11 (some (r 6)) 1 401 (S9 w os).abs (piecesOf l10 E C ⟨122,0,125,57⟩ B)=some (.next,(S10 w os).abs,C,⟨192,0,193,74⟩):=M5z (uJ (by rfl'))
theorem p11(w:World)(os:OsState):segRun treeTable p w 11 (some (r 6)) 1 376 (S10 w os).abs (piecesOf l11 E C ⟨192,0,193,74⟩ B)=some (.next,(S11 w os).abs,C,⟨243,0,253,32⟩):=M5z (uJ (by rfl'))
theorem p12(w:World)(os:OsState):segRun treeTable p w 11 (some (r 6)) 1 397 (S11 w os).abs (piecesOf l12 E C ⟨243,0,253,32⟩ B)=some (.next,(S12 w os).abs,C,⟨340,0,348,31⟩):=M5z (uJ (by rfl'))
theorem p13(w:World)(os:OsState):segRun treeTable p w 11 (some (r 6)) 1 53 (S12 w os).abs (piecesOf l13 E C ⟨340,0,348,31⟩ B)=some (.next,(S13 w os).abs,C,⟨357,0,390,56⟩):=M5z (uJ (by rfl'))
theorem fin(w:World)(os:OsState):topRun treeTable p w 11 (some (r 6)) 2 (S13 w os).abs ⟨doneF .next,C,⟨357,0,390,56⟩,B⟩=some (S w os):=ZL (by rfl')
abbrev M:Nat:=(12+(1+(196+(214+(214+(214+(214+(214+(378+(391+(390+(401+(376+(397+(53+2)))))))))))))))
theorem lst:behindTheImports p=(l1++(l2++(l3++(l4++(l5++(l6++(l7++(l8++(l9++(l10++(l11++(l12++(l13++[]))))))))))))):=by rfl'
theorem r13(w:World)(os:OsState):topRun treeTable p w 11 (some (r 6)) 2 (S13 w os).abs (restOf [] E C ⟨357,0,390,56⟩ B)=some (S w os):=fin w os
theorem r12(w:World)(os:OsState):topRun treeTable p w 11 (some (r 6)) (53+2) (S12 w os).abs (restOf (l13++[]) E C ⟨340,0,348,31⟩ B)=some (S w os):=N5z (p13 w os) (r13 w os)
theorem r11(w:World)(os:OsState):topRun treeTable p w 11 (some (r 6)) (397+(53+2)) (S11 w os).abs (restOf (l12++(l13++[])) E C ⟨243,0,253,32⟩ B)=some (S w os):=N5z (p12 w os) (r12 w os)
theorem r10(w:World)(os:OsState):topRun treeTable p w 11 (some (r 6)) (376+(397+(53+2))) (S10 w os).abs (restOf (l11++(l12++(l13++[]))) E C ⟨192,0,193,74⟩ B)=some (S w os):=N5z (p11 w os) (r11 w os)
theorem r9(w:World)(os:OsState):topRun treeTable p w 11 (some (r 6)) (401+(376+(397+(53+2)))) (S9 w os).abs (restOf (l10++(l11++(l12++(l13++[])))) E C ⟨122,0,125,57⟩ B)=some (S w os):=N5z (p10 w os) (r10 w os)
theorem r8(w:World)(os:OsState):topRun treeTable p w 11 (some (r 6)) (390+(401+(376+(397+(53+2))))) (S8 w os).abs (restOf (l9++(l10++(l11++(l12++(l13++[]))))) E C ⟨77,0,78,55⟩ B)=some (S w os):=N5z (p9 w os) (r9 w os)
theorem r7(w:World)(os:OsState):topRun treeTable p w 11 (some (r 6)) (391+(390+(401+(376+(397+(53+2)))))) (S7 w os).abs (restOf (l8++(l9++(l10++(l11++(l12++(l13++[])))))) E C ⟨28,0,32,15⟩ B)=some (S w os):=N5z (p8 w os) (r8 w os)
theorem r6(w:World)(os:OsState):topRun treeTable p w 11 (some (r 6)) (378+(391+(390+(401+(376+(397+(53+2))))))) (S6 w os).abs (restOf (l7++(l8++(l9++(l10++(l11++(l12++(l13++[]))))))) E C ⟨12,0,13,8⟩ B)=some (S w os):=N5z (p7 w os) (r7 w os)
theorem r5(w:World)(os:OsState):topRun treeTable p w 11 (some (r 6)) (214+(378+(391+(390+(401+(376+(397+(53+2)))))))) (S5 w os).abs (restOf (l6++(l7++(l8++(l9++(l10++(l11++(l12++(l13++[])))))))) E C ⟨10,0,11,8⟩ B)=some (S w os):=N5z (p6 w os) (r6 w os)
theorem r4(w:World)(os:OsState):topRun treeTable p w 11 (some (r 6)) (214+(214+(378+(391+(390+(401+(376+(397+(53+2))))))))) (S4 w os).abs (restOf (l5++(l6++(l7++(l8++(l9++(l10++(l11++(l12++(l13++[]))))))))) E C ⟨8,0,9,8⟩ B)=some (S w os):=N5z (p5 w os) (r5 w os)
theorem r3(w:World)(os:OsState):topRun treeTable p w 11 (some (r 6)) (214+(214+(214+(378+(391+(390+(401+(376+(397+(53+2)))))))))) (S3 w os).abs (restOf (l4++(l5++(l6++(l7++(l8++(l9++(l10++(l11++(l12++(l13++[])))))))))) E C ⟨6,0,7,8⟩ B)=some (S w os):=N5z (p4 w os) (r4 w os)
theorem r2(w:World)(os:OsState):topRun treeTable p w 11 (some (r 6)) (214+(214+(214+(214+(378+(391+(390+(401+(376+(397+(53+2))))))))))) (S2 w os).abs (restOf (l3++(l4++(l5++(l6++(l7++(l8++(l9++(l10++(l11++(l12++(l13++[]))))))))))) E C ⟨4,0,5,8⟩ B)=some (S w os):=N5z (p3 w os) (r3 w os)
theorem r1(w:World)(os:OsState):topRun treeTable p w 11 (some (r 6)) (214+(214+(214+(214+(214+(378+(391+(390+(401+(376+(397+(53+2)))))))))))) (S1 w os).abs (restOf (l2++(l3++(l4++(l5++(l6++(l7++(l8++(l9++(l10++(l11++(l12++(l13++[])))))))))))) E C ⟨2,0,3,8⟩ B)=some (S w os):=N5z (p2 w os) (r2 w os)
theorem r0(w:World)(os:OsState):topRun treeTable p w 11 (some (r 6)) (196+(214+(214+(214+(214+(214+(378+(391+(390+(401+(376+(397+(53+2))))))))))))) (S0 w os).abs (restOf (l1++(l2++(l3++(l4++(l5++(l6++(l7++(l8++(l9++(l10++(l11++(l12++(l13++[]))))))))))))) E C ⟨0,0,0,0⟩ B)=some (S w os):=N5z (p1 w os) (r1 w os)
theorem run(w:World)(os:OsState):topRun treeTable p w 11 (some (r 6)) M ⟨boot_heap w.params,Array.mk [],boot_drawn,boot_toks,os⟩ (topStub p)=some (S w os):=go_top (pre w os) (piece_block (blk w os) (Px lst (r0 w os)))
def K(P:Params):Frag:=[(2,boot_o_2 P),(3,Hj P),(15,o15),(22,y),(23,o23 P),(24,Hl),(25,o25),(28,o28),(35,y),(36,o36 P),(37,o37),(40,o40),(47,y),(48,o48 P),(49,o49),(52,o52),(59,y),(60,o60 P),(61,o61),(64,o64),(71,y),(72,o72 P),(73,o73),(76,o76),(83,y),(84,o84 P),(85,o85),(88,o88),(95,y),(96,o96 P),(97,o97),(100,y),(102,V3),(103,y),(105,V2),(106,V1),(107,y),(109,V0),(110,y),(112,VR),(113,VP),(114,y),(116,VN),(117,y),(119,VL),(120,VJ),(121,y),(124,VH),(125,VG),(126,y),(128,VF),(129,y),(131,Vr),(132,Vq),(133,y),(136,Vp),(137,Vo),(138,y),(140,Vn),(141,y),(143,Vm),(144,Vl),(145,y),(148,Vk),(149,Vj),(150,y),(152,Vi),(153,y),(155,Vh),(156,Vg),(157,y),(159,Vf),(160,y),(162,Ve),(163,Vd),(164,y),(166,Vc),(167,y),(169,Vb),(170,Va),(171,y),(173,U9),(174,y),(176,U8),(177,U7),(178,y),(180,U4),(181,y),(183,U3),(184,UW),(185,y),(187,UL),(188,y),(190,UJ),(191,UG),(192,y),(194,Uz),(195,y),(197,Uy),(198,Ux),(199,y),(201,Uw),(202,y),(204,Uv),(205,Uu),(206,y),(208,Ut),(209,y),(211,Us),(212,Ur),(213,y),(215,Uq),(216,y),(218,Uo),(219,Um),(220,y),(222,Ul),(223,y),(225,Uk),(226,Uj),(227,y),(230,Ui),(231,Uh),(232,y),(235,Ug),(236,Ue),(237,y),(240,Ud),(241,Uc),(242,y),(245,Ub),(246,Ua),(247,y),(250,Tz),(251,Tw),(252,y),(255,Tv),(256,Tt),(257,y),(260,Tr),(261,Tq),(262,y),(265,Tp),(266,Tn),(267,y),(269,Tj),(270,y),(272,Ti),(273,Tg),(274,y),(276,Tf),(277,y),(279,Te),(280,Td),(281,y),(283,Tc),(284,y),(286,SX),(287,SQ),(288,y),(291,SN),(292,SM),(293,y),(296,SJ),(297,Sy),(298,y),(301,Sx),(302,Sw),(303,y),(306,Sv),(307,Ss),(308,y),(311,Sh),(312,Sg),(313,y),(315,Sd),(316,y),(318,R9),(319,R8),(320,y),(323,R7),(324,R6),(325,y),(327,R5),(328,y),(330,R4),(331,R3),(332,y),(334,R0),(335,y),(337,RZ),(338,RX),(339,y),(341,RW),(342,y),(344,RV),(345,RT),(346,y),(349,RQ),(350,RP),(351,y),(353,RN),(354,y),(356,RM),(357,RL),(358,y),(360,RK),(361,y),(363,RJ),(364,RG),(365,y),(367,RD),(368,y),(370,RB),(371,Rz),(372,y),(374,Ry),(375,y),(377,o377),(378,Rx),(379,y),(382,Rw),(383,Rv),(384,y),(386,Ru),(387,y),(389,Rt),(390,Rr),(391,y),(393,Rq),(394,y),(396,Rp),(397,Ro),(398,y),(400,o400),(401,y),(403,Ri),(404,Rh),(405,y),(408,Rf),(409,Rc),(410,y),(412,Rb),(413,y),(415,Ra),(416,Q9),(417,y),(419,Q8),(420,y),(422,Q7),(423,Q6),(448,y),(451,Q5),(452,Q0),(465,y),(467,QZ),(468,y),(470,QX),(471,QW),(472,y),(474,QV),(475,y),(477,QT),(478,QS),(479,y),(481,QM),(482,y),(484,QL),(485,QK),(486,y),(488,QJ),(489,y),(491,QH),(492,QG),(503,y),(505,QF),(506,y),(508,QD),(509,QC),(510,y),(512,QB),(513,y),(515,Qz),(516,Qy),(517,y),(519,Qx),(520,y),(522,Qw),(523,Qv),(524,y),(527,Qu),(528,Qt),(529,y),(532,Qs),(533,Qq)]
noncomputable abbrev as:List Addr:=[2,3,15,22,23,24,25,28,35,36,37,40,47,48,49,52,59,60,61,64,71,72,73,76,83,84,85,88,95,96,97,100,102,103,105,106,107,109,110,112,113,114,116,117,119,120,121,124,125,126,128,129,131,132,133,136,137,138,140,141,143,144,145,148,149,150,152,153,155,156,157,159,160,162,163,164,166,167,169,170,171,173,174,176,177,178,180,181,183,184,185,187,188,190,191,192,194,195,197,198,199,201,202,204,205,206,208,209,211,212,213,215,216,218,219,220,222,223,225,226,227,230,231,232,235,236,237,240,241,242,245,246,247,250,251,252,255,256,257,260,261,262,265,266,267,269,270,272,273,274,276,277,279,280,281,283,284,286,287,288,291,292,293,296,297,298,301,302,303,306,307,308,311,312,313,315,316,318,319,320,323,324,325,327,328,330,331,332,334,335,337,338,339,341,342,344,345,346,349,350,351,353,354,356,357,358,360,361,363,364,365,367,368,370,371,372,374,375,377,378,379,382,383,384,386,387,389,390,391,393,394,396,397,398,400,401,403,404,405,408,409,410,412,413,415,416,417,419,420,422,423,448,451,452,465,467,468,470,471,472,474,475,477,478,479,481,482,484,485,486,488,489,491,492,503,505,506,508,509,510,512,513,515,516,517,519,520,522,523,524,527,528,529,532,533]
abbrev m0:Nat:=11
abbrev tk:Nat:=908
abbrev ann:Option Value:=(some (r 6))
def Xt(s:Shared):Bool:=xlAt q [] s&&recOk PySem.Challenge.rw_minortables_k41_whole_sets_of_ways.row.toRowW.records s
theorem lk0(w:World)(os:OsState):(staticsOk (importedModules p.main.body) (boot_heap w.params) (H1 w.params)&&namesBound p (H1 w.params)&&gensDone (S w os)&&laidKept (boot_heap w.params) (H1 w.params))=true:=by
 rw[Fast.te5923862056798008813];rfl'
theorem lk1(w:World)(os:OsState):PyProof.Rows.seen ((PyProof.Rows.recsOf q).map (·.name)) (PyProof.Rows.ownsOf q) [] { S w os with gens := #[] }=PyProof.Rows.expectedOf q:=by
 rw[Fast.te5160383126252970620,Fast.te3399658132070893891,Fast.te5991557255702980513];rfl'
theorem lk2(w:World)(os:OsState):(S w os).heap.bltView=bltViewBooted:=by rfl'
theorem lk3(w:World)(os:OsState):((S w os).heap.keysOk (looseW q lo) ((PyProof.Rows.recsOf q).map (·.name)) ((PyProof.Rows.litsOf q).map (·.1)) ((PyProof.Rows.clssOf q (looseW q lo)).map (·.name))&&(S w os).heap.accountedOkI (importedModules p.main.body)&&(S w os).heap.isNs mainGlobals&&(S w os).heap.isNs builtinsNs&&PyProof.Rows.tablesOk q (S w os).heap&&Xt (S w os)&&(if true then(S w os).gens.size==0 else !leftWithCleanup (S w os).gens))=true:=by
 rw[Fast.te10880121769531294198,Fast.te821141287760084731,Fast.te3399658132070893891,Fast.te7409074990110511671,Fast.te13664370479719496447,Fast.te14722251495701143533,Fast.te5923862056798008813];rfl'
theorem lk4(w:World)(os:OsState):PyProof.Rows.tabsOk q (S w os)=true:=by rw[Fast.te479339242167458305];rfl'
theorem lk5(w:World)(os:OsState):pinSeenD q (PyProof.Rows.drecsOf q) (S w os)=pinGoodD (PyProof.Rows.drecsOf q):=by rw[Fast.te16090120013241838585,Fast.te3247288618530077131];rfl'
theorem lk6(w:World)(os:OsState):PyProof.Rows.plainSeenE q (looseW q lo) (S w os)=PyProof.Rows.plainGoodE q (looseW q lo):=by rw[Fast.te2386780881361962483,Fast.te821141287760084731];rfl'
theorem lk7(w:World)(os:OsState):PyProof.Rows.plainSeenD q lo (S w os)=PyProof.Rows.plainGoodD q lo:=by rw[Fast.te11698064438423848299];rfl'
theorem lk8(w:World)(os:OsState):wideSeen q (S w os)=wideGood q:=by rw[Fast.te7317090234206586261];rfl'
theorem lk9(w:World)(os:OsState):clsSeenW q lo (S w os)=clsGoodW q lo:=by rw[Fast.te7369524293546568484];rfl'
theorem asK(P:Params):as=(K P).map (·.1):=by rfl'
abbrev H:Hook:=kHook K as asK
theorem lkY(w:World)(os:OsState):H.obs (S w os)=H.val w:=by rfl'
theorem looks(w:World):(fun os=>((staticsOk (importedModules p.main.body) (boot_heap w.params) (H1 w.params)&&namesBound p (H1 w.params)&&gensDone (S w os)&&laidKept (boot_heap w.params) (H1 w.params)),openSeen q lo (importedModules p.main.body) Xt true (S w os),H.obs (S w os)))=fun _=>(true,openGood q lo,H.val w) :=
 funext fun os=>L5z (lk0 w os) (L5z (L5z (lk1 w os) (L5z (lk2 w os) (L5z (lk3 w os) (L5z (lk4 w os) (L5z (lk5 w os) (L5z (lk6 w os) (L5z (lk7 w os) (L5z (lk8 w os) (lk9 w os))))))))) (lkY w os))
theorem size(w:World):((boot_heap w.params).isNs mainGlobals&&(Array.mk ([]:List GenState)).size==0,(boot_heap w.params).objs.size,(boot_heap w.params).nsMap mainGlobals "__annotations__")=(true,m0,ann):=by
 rw[Fast.te8920871248978507458];rfl'
theorem bt(w:World):(fencedOpening treeTable p w N).map (fun s=>(s.heap,s.gens,s.drawn,s.toks))=some (boot_heap w.params,Array.mk [],boot_drawn,boot_toks) :=
 boot_open (p:=p) (N:=N) (by rfl') (by rfl') (fun _=>rfl) w
theorem left:LeftO p q lo Xt H.obs H.val N :=
 LeftO.of_pieces (H₀:=boot_heap) (H₁:=H1) (m₀:=m0) (ann:=ann) (M:=M) (gs₀:=Array.mk []) (gs₁:=⟨[]⟩) (d₀:=boot_drawn) (d₁:={}) (k₀:=boot_toks) (k₁:=tk) bt size run (by rfl') looks
abbrev R:OpenLaw:=PySem.Challenge.rw_minortables_k41_whole_sets_of_ways
theorem said:R.wellSaid=true:=by rw[Fast.te9446332074065402090];rfl'
def dr:DefRec:=match d 88 with | .FunctionDef n a l _ _ _ sc _ _ o=>⟨n,a,l,sc,o⟩ | _=>⟨"",default,[],default,⟨0,0,0,0⟩⟩
theorem hdef:defOf q R.row.name=some (dr,[]):=by rfl'
theorem hthe:R.row.prog.theDef R.row.name=some (dr.params,dr.body,dr.scope):=by rfl'
theorem hkw:kwWritten? dr.params.kwonlyargs dr.params.kw_defaults=some []:=by rfl'
theorem hok:(chainsOk q&&opensWell R.row.prog&&(frees R.row.toRowW&&R.row.within.isEmpty))=true:=by rfl'
theorem hbare:R.row.prog.bare:=⟨rfl,rfl,rfl,rfl,rfl,by rfl'⟩
theorem hpro:R.row.toRowW.promised:=⟨[.list []],by rfl',by rfl'⟩
theorem holds(call:WalkO q lo (XL q []) H.says R.row.toRowW dr [] fun f vs=>PySem.call f vs):R.Holds :=
 holds_law said fun k1=>holds_open (r:=R.row) (q:=q) (loose:=lo) (Xt:=Xt) (XP:=XL q []) (Yf:=H.obs) (Ya:=H.val) (YP:=H.says) (N:=N) left H.of H.keeps (fun s e=>xl_of s (Bool.and_eq_true_iff.mp e).1) XL.keeps hdef hthe hkw (fun s e=>recFacts_of (Bool.and_eq_true_iff.mp e).2) rfl k1 hok hbare hpro call
end H41
end
namespace M41
open PySem PySem.W L2 DE
set_option maxHeartbeats 0 in
theorem txt(w:World){mg:Str->Option Value}{h:Heap}(X:(H41.K w.params).In h)(G:h.Ns mainGlobals mg):Text w (H41.K w.params) mg T :=
  ⟨in_of (l:=cs) (Q:=fun(x:Str) (d:D)=>∃ v u,(∀ H',Rep (H41.K w.params) H' d v)/\mg x=some u/\RelV v u) (aC (cA X G 305 (by rfl')) (aC (cS X G 521 (by rfl')) (aC (cS X G 523 (by rfl')) (aC (cS X G 525 (by rfl')) (aN))))),
    in_of (l:=bl) (Q:=fun x b=>mg x=none/\x=Str.ofString b) (aC (bA X G (by rfl') rfl) (aC (bA X G (by rfl') rfl) (aC (bA X G (by rfl') rfl) (aC (bA X G (by rfl') rfl) (aC (bA X G (by rfl') rfl) (aC (bA X G (by rfl') rfl) (aC (bA X G (by rfl') rfl) (aC (bA X G (by rfl') rfl) (aC (bA X G (by rfl') rfl) (aC (bA X G (by rfl') rfl) (aC (bA X G (by rfl') rfl) (aC (bA X G (by rfl') rfl) (aC (bA X G (by rfl') rfl) (aN)))))))))))))),
    in_of (l:=df) (Q:=fun x fd=>FunAt (H41.K w.params) mg x fd) (
     aC (aP X G 106 .none (.str "minortables.checks" 303) (.ref 105) b10 (by rfl') (by rfl') (by rfl')) (
     aC (aP X G 113 .none (.str "minortables.checks" 303) (.ref 112) b11 (by rfl') (by rfl') (by rfl')) (
     aC (aP X G 120 .none (.str "minortables.checks" 303) (.ref 119) b12 (by rfl') (by rfl') (by rfl')) (
     aC (aP X G 125 .none (.str "minortables.checks" 303) (.ref 124) b13 (by rfl') (by rfl') (by rfl')) (
     aC (aP X G 132 .none (.str "minortables.checks" 303) (.ref 131) b14 (by rfl') (by rfl') (by rfl')) (
     aC (aP X G 137 .none (.str "minortables.checks" 303) (.ref 136) b15 (by rfl') (by rfl') (by rfl')) (
     aC (aP X G 144 .none (.str "minortables.checks" 303) (.ref 143) b16 (by rfl') (by rfl') (by rfl')) (
     aC (aP X G 149 .none (.str "minortables.checks" 303) (.ref 148) b17 (by rfl') (by rfl') (by rfl')) (
     aC (aP X G 156 .none (.str "minortables.checks" 303) (.ref 155) b18 (by rfl') (by rfl') (by rfl')) (
     aC (aP X G 163 .none (.str "minortables.checks" 303) (.ref 162) b19 (by rfl') (by rfl') (by rfl')) (
     aC (aP X G 170 .none (.str "minortables.checks" 303) (.ref 169) b20 (by rfl') (by rfl') (by rfl')) (
     aC (aP X G 177 .none (.str "minortables.checks" 303) (.ref 176) b21 (by rfl') (by rfl') (by rfl')) (
     aC (aP X G 184 .none (.str "minortables.fractions" 396) (.ref 183) b23 (by rfl') (by rfl') (by rfl')) (
     aC (aP X G 191 .none (.str "minortables.fractions" 396) (.ref 190) b24 (by rfl') (by rfl') (by rfl')) (
     aC (aP X G 198 .none (.str "minortables.fractions" 396) (.ref 197) b25 (by rfl') (by rfl') (by rfl')) (
     aC (aP X G 205 .none (.str "minortables.fractions" 396) (.ref 204) b26 (by rfl') (by rfl') (by rfl')) (
     aC (aP X G 212 .none (.str "minortables.fractions" 396) (.ref 211) b27 (by rfl') (by rfl') (by rfl')) (
     aC (aP X G 219 .none (.str "minortables.fractions" 396) (.ref 218) b28 (by rfl') (by rfl') (by rfl')) (
     aC (aP X G 226 .none (.str "minortables.fractions" 396) (.ref 225) b29 (by rfl') (by rfl') (by rfl')) (
     aC (aP X G 231 .none (.str "minortables.fractions" 396) (.ref 230) b30 (by rfl') (by rfl') (by rfl')) (
     aC (aP X G 236 .none (.str "minortables.fractions" 396) (.ref 235) b31 (by rfl') (by rfl') (by rfl')) (
     aC (aP X G 241 .none (.str "minortables.fractions" 396) (.ref 240) b32 (by rfl') (by rfl') (by rfl')) (
     aC (aP X G 246 .none (.str "minortables.tables" 473) (.ref 245) b34 (by rfl') (by rfl') (by rfl')) (
     aC (aP X G 251 .none (.str "minortables.tables" 473) (.ref 250) b35 (by rfl') (by rfl') (by rfl')) (
     aC (aP X G 256 .none (.str "minortables.tables" 473) (.ref 255) b36 (by rfl') (by rfl') (by rfl')) (
     aC (aP X G 261 .none (.str "minortables.tables" 473) (.ref 260) b37 (by rfl') (by rfl') (by rfl')) (
     aC (aP X G 266 .none (.str "minortables.minors" 499) (.ref 265) b39 (by rfl') (by rfl') (by rfl')) (
     aC (aP X G 273 .none (.str "minortables.minors" 499) (.ref 272) b40 (by rfl') (by rfl') (by rfl')) (
     aC (aP X G 280 .none (.str "minortables.steps" 519) (.ref 279) b45 (by rfl') (by rfl') (by rfl')) (
     aC (aP X G 287 .none (.str "minortables.steps" 519) (.ref 286) b46 (by rfl') (by rfl') (by rfl')) (
     aC (aP X G 292 .none (.str "minortables.steps" 519) (.ref 291) b47 (by rfl') (by rfl') (by rfl')) (
     aC (aP X G 297 .none (.str "minortables.steps" 519) (.ref 296) b48 (by rfl') (by rfl') (by rfl')) (
     aC (aP X G 302 .none (.str "minortables.steps" 519) (.ref 301) b49 (by rfl') (by rfl') (by rfl')) (
     aC (aP X G 307 .none (.str "minortables.steps" 519) (.ref 306) b50 (by rfl') (by rfl') (by rfl')) (
     aC (aP X G 312 .none (.str "minortables.steps" 519) (.ref 311) b51 (by rfl') (by rfl') (by rfl')) (
     aC (aP X G 319 .none (.str "minortables.steps" 519) (.ref 318) b52 (by rfl') (by rfl') (by rfl')) (
     aC (aP X G 324 .none (.str "minortables.nets" 587) (.ref 323) b54 (by rfl') (by rfl') (by rfl')) (
     aC (aP X G 331 .none (.str "minortables.nets" 587) (.ref 330) b55 (by rfl') (by rfl') (by rfl')) (
     aC (aP X G 338 .none (.str "minortables.nets" 587) (.ref 337) b56 (by rfl') (by rfl') (by rfl')) (
     aC (aP X G 345 .none (.str "minortables.nets" 587) (.ref 344) b57 (by rfl') (by rfl') (by rfl')) (
     aC (aP X G 350 .none (.str "minortables.nets" 587) (.ref 349) b58 (by rfl') (by rfl') (by rfl')) (
     aC (aP X G 357 .none (.str "minortables.nets" 587) (.ref 356) b59 (by rfl') (by rfl') (by rfl')) (
     aC (aP X G 364 .none (.str "minortables.nets" 587) (.ref 363) b60 (by rfl') (by rfl') (by rfl')) (
     aC (aP X G 371 .none (.str "minortables.nets" 587) (.ref 370) b61 (by rfl') (by rfl') (by rfl')) (
     aC (aP X G 378 .none (.str "minortables.nets" 587) (.ref 377) b62 (by rfl') (by rfl') (by rfl')) (
     aC (aP X G 383 .none (.str "minortables.nets" 587) (.ref 382) b63 (by rfl') (by rfl') (by rfl')) (
     aC (aP X G 390 .none (.str "minortables.nets" 587) (.ref 389) b64 (by rfl') (by rfl') (by rfl')) (
     aC (aP X G 397 .none (.str "minortables.nets" 587) (.ref 396) b65 (by rfl') (by rfl') (by rfl')) (
     aC (aP X G 404 .none (.str "minortables.nets" 587) (.ref 403) b66 (by rfl') (by rfl') (by rfl')) (
     aC (aP X G 409 .none (.str "minortables.nets" 587) (.ref 408) b67 (by rfl') (by rfl') (by rfl')) (
     aC (aP X G 416 .none (.str "law_minortables_k41_whole_sets_of_ways" 728) (.ref 415) b69 (by rfl') (by rfl') (by rfl')) (
     aC (aP X G 423 .none (.str "law_minortables_k41_whole_sets_of_ways" 728) (.ref 422) b70 (by rfl') (by rfl') (by rfl')) (
     aC (aP X G 452 .none (.str "law_minortables_k41_whole_sets_of_ways" 728) (.ref 451) b75 (by rfl') (by rfl') (by rfl')) (
     aC (aP X G 471 .none (.str "law_minortables_k41_whole_sets_of_ways" 728) (.ref 470) b78 (by rfl') (by rfl') (by rfl')) (
     aC (aP X G 478 .none (.str "law_minortables_k41_whole_sets_of_ways" 728) (.ref 477) b79 (by rfl') (by rfl') (by rfl')) (
     aC (aP X G 485 .none (.str "law_minortables_k41_whole_sets_of_ways" 728) (.ref 484) b80 (by rfl') (by rfl') (by rfl')) (
     aC (aP X G 492 .none (.str "law_minortables_k41_whole_sets_of_ways" 728) (.ref 491) b81 (by rfl') (by rfl') (by rfl')) (
     aC (aP X G 509 .none (.str "law_minortables_k41_whole_sets_of_ways" 728) (.ref 508) b84 (by rfl') (by rfl') (by rfl')) (
     aC (aP X G 516 .none (.str "law_minortables_k41_whole_sets_of_ways" 728) (.ref 515) b85 (by rfl') (by rfl') (by rfl')) (
     aC (aP X G 523 .none (.str "law_minortables_k41_whole_sets_of_ways" 728) (.ref 522) b86 (by rfl') (by rfl') (by rfl')) (
     aC (aP X G 528 .none (.str "law_minortables_k41_whole_sets_of_ways" 728) (.ref 527) b87 (by rfl') (by rfl') (by rfl')) (
     aC (aP X G 533 .none (.str "law_minortables_k41_whole_sets_of_ways" 728) (.ref 532) b88 (by rfl') (by rfl') (by rfl')) (
     aN))))))))))))))))))))))))))))))))))))))))))))))))))))))))))))))),XText.of (fun x v h=>N4z X G h) (by rfl'),by show List.map _ _=List.map _ _;rfl'⟩
end M41
open PySem PySem.W PyProof.Rows
set_option maxRecDepth 100000 in
set_option maxHeartbeats 0 in
theorem PySem.Challenge.cw_minortables_k41_whole_sets_of_ways_holds : PySem.Challenge.rw_minortables_k41_whole_sets_of_ways.Holds :=
 H41.holds (M41.walk (l := PySem.Challenge.rw_minortables_k41_whole_sets_of_ways) (K := H41.K) rfl (by rfl') (fun w h Y => PySem.W.kIn_of (e := H41.asK) Y) fun w mg fa h KX G hmg => M41.fin M41.law_true (M41.txt w KX G) KX G hmg 533 .none (.str "law_minortables_k41_whole_sets_of_ways" 728) (.ref 532) (by rfl') (by rfl') (by rfl') (by rfl'))
#print axioms PySem.Challenge.cw_minortables_k41_whole_sets_of_ways_holds
