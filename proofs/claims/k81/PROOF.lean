import PyProof.Rows.All
import Wide.All
import OpenK.AllK
import Wide.FinOn
import Lean
import PyProof.EqAt
import PyProof.EqKinds
import PyProof.TupleCall
import PyProof.ListRange
import PySem.Names
import PySem.Builtin.Str.Common
import PyProof.Rows.TmSorted
import PyProof.NeKinds
import PyProof.AttrMiss
import PyProof.FactsAll.list
import KE.KDictOf
import KE.KEqDict
import KE.KItemsList
import PyProof.DictItems
import PyProof.DictStraight
import PyProof.DictWalks
import PySem.Challenge.RW_minortables_k81_whole_cases
set_option Elab.async false
set_option linter.all false
set_option maxRecDepth 100000
noncomputable section
namespace Zz
abbrev Z3:=PySem.W.Frag
open PySem
def A0z:=@PyProof.Rows.callWith_type1
def B0z:=@PySem.W.Fast.te14364793385576792824
def C0z:=@PySem.F.args_tuple_add_2
def D0z:=@PySem.F.entry_tuple_add
def E0z:=@PySem.F.plainAttrs_dict
def F0z:=@PySem.F.plainAttrs_list
def G0z:=@List.filter_cons_of_neg
def H0z:=@List.filter_cons_of_pos
def I0z:=@decide_eq_false_iff_not
def J0z:=@PySem.W.cellsFrom_some
def K0z:=@PySem.F.slot_tuple_add
def L0z:=@PySem.Calls.callWith_builtin
def M0z:=@Option.map_eq_some_iff
def N0z:=@List.mem_append_right
def O0z:=@PySem.builtinLookup_eq_fast
def P0z:=@PySem.F.slot_dict_get
def Q0z:=@PySem.F.typeOf_object_class
def R0z:=@Bool.and_eq_false_iff
def S0z:=@List.mem_cons_of_mem
def T0z:=@List.mem_append_left
def U0z:=@PySem.W.looks_findIn
def V0z:=@PySem.Calls.evalArgs_plain
def W0z:=@PySem.Around.under_plainId
def X0z:=@PySem.W.hideAll_get
def Y0z:=@List.filterMap_cons
def Z0z:=@Array.length_toList
def A1z:=@PySem.W.plainGet_of
def B1z:=@PySem.mem_of_lookup
def C1z:=@beq_eq_false_iff_ne
def D1z:=@List.length_reverse
def E1z:=@List.toList_toArray
def F1z:=@List.map_congr_left
def G1z:=@Nat.lt_of_lt_of_le
def H1z:=@PySem.W.of_hideAll
def I1z:=@List.mem_cons_self
def J1z:=@PySem.wpAny_pyIter_tuple
def K1z:=@Bool.false_ne_true
def L1z:=@PySem.Calls.spliced_cons
def M1z:=@PySem.wpAny_Call_Name_kw
def N1z:=@PySem.W.callWith_K
def O1z:=@List.length_append
def P1z:=@Nat.lt_of_le_of_lt
def Q1z:=@Bool.false_eq_true
def R1z:=@PySem.wpAny_setField_rec
def S1z:=@PySem.tupleKind_room_in1
def T1z:=@List.zip_cons_cons
def U1z:=@PySem.W.kitx_tuple
def V1z:=@decide_eq_true_iff
def W1z:=@of_decide_eq_false
def X1z:=@List.mem_singleton
def Y1z:=@PySem.wpAny_truthy_bool
def Z1z:=@PySem.wpAny_newObj_type
def A2z:=@PySem.Calls.spliced_nil
def B2z:=@List.size_toArray
def C2z:=@List.reverse_cons
def D2z:=@Nat.lt_succ_of_lt
def E2z:=@Nat.le_of_succ_le
def F2z:=@Option.isSome_map
def G2z:=@Bool.not_eq_true'
def H2z:=@decide_eq_true_eq
def I2z:=@Option.some.injEq
def J2z:=@of_decide_eq_true
def K2z:=@PySem.W.kitx_bool
def L2z:=@PySem.W.kitx_list
def M2z:=@List.length_cons
def N2z:=@Nat.lt_succ_self
def O2z:=@List.lookup_cons
def P2z:=@beq_self_eq_true
def Q2z:=@PySem.wpAny_call_entry
def R2z:=@PySem.entryFor_of_tree
def S2z:=@Nat.le_add_right
def T2z:=@List.filter_cons
def U2z:=@Bool.and_eq_true
def V2z:=@List.range'_succ
def W2z:=@List.not_mem_nil
def X2z:=@Option.bind_some
def Y2z:=@PySem.W.kitx_int
def Z2z:=@PySem.W.kitx_str
def A3z:=@List.all_eq_true
def B3z:=@decide_eq_false
def C3z:=@Option.some.inj
def D3z:=@PySem.wpAny_passesOwn
def E3z:=@List.length_map
def F3z:=@List.append_nil
def G3z:=@List.of_mem_zip
def H3z:=@List.nodup_cons
def I3z:=@Option.map_some
def J3z:=@PySem.pushCells_keeps
def K3z:=@PySem.typeLookup_type
def L3z:=@PySem.wpAny_specialOf
def M3z:=@PySem.codeAny_builtin
def N3z:=@Bool.or_eq_true
def O3z:=@List.map_append
def P3z:=@PySem.W.kia_one
def Q3z:=@List.length_zip
def R3z:=@List.length_set
def S3z:=@Int.emod_nonneg
def T3z:=@PySem.Heap.size_push
def U3z:=@decide_eq_true
def V3z:=@PySem.wpAny_seqItems
def W3z:=@PySem.isSubtype_type
def X3z:=@Bool.and_false
def Y3z:=@Nat.lt_irrefl
def Z3z:=@PySem.wpAny_standAt
def A4z:=@List.map_cons
def B4z:=@PySem.wpAny_attempt
def C4z:=@PySem.plainId_quiet
def D4z:=@PySem.wpAny_holding
def E4z:=@List.any_cons
def F4z:=@Bool.and_self
def G4z:=@List.all_cons
def H4z:=@List.mem_cons
def I4z:=@PySem.W.mg_of
def J4z:=@PySem.Heap.lt_size
def K4z:=@Nat.ne_of_lt
def L4z:=@Nat.le_trans
def M4z:=@Nat.le_of_lt
def N4z:=@Nat.ne_of_gt
def O4z:=@PySem.codeAny_mono
def P4z:=@List.map_nil
def Q4z:=@PySem.wpAny_typeOf
def R4z:=@List.map_map
def S4z:=@Sum.inr.inj
def T4z:=@Nat.le_refl
def U4z:=@PySem.sizeLine_eq
def V4z:=@Nat.zero_le
def W4z:=@PySem.wpAny_field
def X4z:=@PySem.wpAny_of_eq
def Y4z:=@List.map_id
def Z4z:=@PySem.wpAny_mono
def A5z:=@PySem.wpAny_bind
def B5z:=@PySem.wpAny_pure
def C5z:=@PySem.wpAny_rule
def D5z:=@PySem.call_meets
def E5z:=@bne_iff_ne
def F5z:=@PySem.W.looks_pair
def G5z:=@PySem.W.segRun_of
def H5z:=@PySem.W.piece_app
def I5z:=@if_false
def J5z:=@Ne.symm
def K5z:=@if_true
def L5z:=@if_pos
def M5z:=@if_neg
end Zz
open Zz
local macro_rules|`(tactic|rfl')=>`(tactic|kernel_rfl)
namespace L2
open PySem PySem.Spec PyProof.Rows
abbrev Key:=Sum Int Str
def rZ:Key->Value->Bool
 | .inl k,v=>Value.isInt k v
 | .inr x,v=>Value.isStrOf x v
def keyH(w:World):Key->Int
 | .inl k=>hashInt k
 | .inr x=>hashStr w x
theorem bD:∀ {k:Key} {v:Value},rZ k v=true->(∃ i t,k=Sum.inl i/\v=Value.int i t)\/(∃ x t,k=Sum.inr x/\v=Value.str x t)
 | .inl i,v,h=>by
  obtain⟨t,e⟩:=Value.isInt_shape (k:=i) (v:=v) h;exact .inl ⟨i,t,rfl,e⟩
 | .inr x,v,h=>by
  obtain⟨t,e⟩:=Value.isStrOf_shape (x:=x) (v:=v) h;exact .inr ⟨x,t,rfl,e⟩
theorem yW(i:Int)(t:Tok):rZ (.inl i) (.int i t)=true:=by simp[rZ,Value.isInt]
theorem yV(x:Str)(t:Tok):rZ (.inr x) (.str x t)=true:=by simp[rZ,Value.isStrOf]
theorem NK(a b:Int):decide ((Sum.inl a:Key)=Sum.inl b)=(a==b):=by
 by_cases e:a=b
 .subst e;simp
 .have h:¬ (Sum.inl a:Key)=Sum.inl b:=fun q=>e (Sum.inl.inj q)
  rw[B3z h];exact(C1z.mpr e).symm
theorem Nx(a b:Str):decide ((Sum.inr a:Key)=Sum.inr b)=decide (a=b):=by
 by_cases e:a=b
 .subst e;simp
 .have h:¬ (Sum.inr a:Key)=Sum.inr b:=fun q=>e (S4z q)
  rw[B3z h,B3z e]
theorem Nz(a:Int)(b:Str):decide ((Sum.inl a:Key)=Sum.inr b)=false:=B3z (fun q=>nomatch q)
theorem Ny(a:Str)(b:Int):decide ((Sum.inr a:Key)=Sum.inl b)=false:=B3z (fun q=>nomatch q)
def aQ(prog:Program)(w:World):PySem.KeyKind prog w Key where
 is:=rZ
 hash:=keyH w
 inj:=fun v a b ha hb=>by
  rcases bD ha with⟨i,t,rfl,rfl⟩ | ⟨x,t,rfl,rfl⟩
  .rcases bD hb with⟨j,u,rfl,e⟩ | ⟨y,u,rfl,e⟩
   .injection e with e1 _;rw[e1]
   .exact nomatch e
  .rcases bD hb with⟨j,u,rfl,e⟩ | ⟨y,u,rfl,e⟩
   .exact nomatch e
   .injection e with e1 _;rw[e1]
 byValue:=fun k v h=>by
  rcases bD h with⟨i,t,rfl,rfl⟩ | ⟨x,t,rfl,rfl⟩<;>rfl
 pyHash:=fun hv h=>by
  rcases bD hv with⟨i,t,rfl,rfl⟩ | ⟨x,t,rfl,rfl⟩
  .exact wpAny_pyHash_int h
  .exact wpAny_pyHash_str h
 eqBool:=fun hu hv h=>by
  rcases bD hu with⟨i,t,rfl,rfl⟩ | ⟨x,t,rfl,rfl⟩
  .rcases bD hv with⟨j,u,rfl,rfl⟩ | ⟨y,u,rfl,rfl⟩
   .rw[NK] at h;exact wpAny_eqBool_int h
   .rw[Nz] at h;exact SeqAt.EqAt.int_str i t y u _ _ _ _ h
  .rcases bD hv with⟨j,u,rfl,rfl⟩ | ⟨y,u,rfl,rfl⟩
   .rw[Ny] at h;exact SeqAt.EqAt.str_int x t j u _ _ _ _ h
   .rw[Nx] at h;exact wpAny_eqBool_str h
 «strs» :=fun k x t v h=>by
  rcases bD h with⟨i,u,rfl,e⟩ | ⟨y,u,rfl,e⟩
  .exact nomatch e
  .injection e with e1 _
   subst e1
   cases v<;>rfl
theorem mF(prog:Program)(w:World)(k:Key)(v:Value):(aQ prog w).is k v=rZ k v:=rfl
theorem rR(prog:Program)(w:World)(i:Int)(t:Tok):(aQ prog w).is (.inl i) (.int i t)=true:=yW i t
theorem rQ(prog:Program)(w:World)(x:Str)(t:Tok):(aQ prog w).is (.inr x) (.str x t)=true:=yV x t
inductive V where
 | non | bl (b:Bool) | int (i:Int) | str (x:Str) | byt (b:Array UInt8) | flt (b:UInt64) | ref (a:Addr) | ty (n:String)
 deriving DecidableEq
def RelV:V->Value->Prop
 | .non,u=>u=Value.none
 | .bl b,u=>u=Value.bool b
 | .int i,u=>∃ t,u=Value.int i t
 | .str x,u=>∃ t,u=Value.str x t
 | .byt b,u=>∃ t,u=Value.bytes b t
 | .flt b,u=>∃ t,u=Value.float b t
 | .ref a,u=>u=Value.ref a
 | .ty n,u=>u=Value.type n
abbrev Vals:List V->List Value->Prop:=Paired RelV
theorem Vals.length{xs:List V}{us:List Value}(r:Vals xs us):xs.length=us.length:=Paired.length r
theorem Vals.get:∀ {xs:List V} {us:List Value} {i:Nat} {x:V},Vals xs us->xs[i]?=some x->∃ u,us[i]?=some u/\RelV x u
 | _,_,_,_,.nil,e=>by simp at e
 | _,_,0,_,.cons r _,e=>by simp at e;subst e;exact⟨_,rfl,r⟩
 | _,_,i+1,x,.cons _ t,e=>by
  obtain⟨u,h1,h2⟩:=Vals.get (i:=i) (x:=x) t (by simpa using e);exact⟨u,by simpa using h1,h2⟩
theorem Vals.append:∀ {xs ys:List V} {us ws:List Value},Vals xs us->Vals ys ws->Vals (xs++ys) (us++ws)
 | _,_,_,_,.nil,s=>s
 | _,_,_,_,.cons r t,s=>.cons r (Vals.append t s)
def mZ:Option V->Option Value->Prop
 | some v,some u=>RelV v u
 | none,none=>True
 | _,_=>False
def KV{κ:Type}:List (κ×V)->List (κ×Value)->Prop:=Paired fun(p:κ×V) (q:κ×Value)=>p.1=q.1/\RelV p.2 q.2
def kV:Key->V
 | .inl i=>.int i
 | .inr x=>.str x
inductive HO where
 | lst (xs:List V)
 | tup (xs:List V)
 | dK (kvs:List (Key×V)) | dT (kvs:List (List Key×V))
 | set (S:Int->Bool) (n:Nat)
 | ins (C dx:Addr) (fs:List (Str×V))
 | own (x:Addr)
 | xd (fs:List (Str×V))
 | met (f x:Addr)
 | rng (lo hi:Int)
 | frz (o:Obj) (u:HO)
 | tbl (ps:Array Value)
 | ext (φ:Heap->Prop)
noncomputable abbrev Hp:=Addr->Option HO
def upd(H:Hp)(a:Addr)(o:HO):Hp:=fun b=>if b=a then some o else H b
theorem aB{H:Hp}{a:Addr}{o:HO}:upd H a o a=some o:=by unfold upd;rw[L5z rfl]
theorem aj{H:Hp}{a b:Addr}{o:HO}(h:b≠a):upd H a o b=H b:=by unfold upd;rw[M5z h]
theorem qb{H:Hp}{a b:Addr}{o u:HO}(h:H a=some o)(h':H b=some u)(d:o≠u):a≠b:=by
 intro e;subst e;rw[h] at h';exact d (C3z h')
theorem ak{H:Hp}{a b:Addr}{o:HO}(h:H a=some o)(h':H b=none):a≠b:=by
 intro e;subst e;rw[h] at h';cases h'
section
variable (P:Program) (w:World)
def cJ(H:Hp)(h:Heap)(a:Addr):HO->Prop
 | .lst xs=>xs.length<=sizeLine/\∃ (its:List Value) (n:Nat),Vals xs its/\h.get? a=some { cls:=.type "list",data:=.seq its.toArray n }
 | .tup xs=>xs.length<=sizeLine/\∃ its:List Value,Vals xs its/\IsTup h a its.toArray
 | .dK kvs=>kvs.length<=sizeLine/\(a==sysModules)=false/\∃ vs,KV kvs vs/\h.DictOf (aQ P w) a vs
 | .dT kvs => kvs.length <= sizeLine /\ (a == sysModules) = false /\ ∃ xs : List (List Key × Addr × Value),
   Paired (fun(p:List Key×V) (q:List Key×Addr×Value)=>p.1=q.1/\H q.2.1=some (.tup (p.1.map kV))/\RelV p.2 q.2.2) kvs xs /\
   ∃ o es ep,h.get? a=some o/\o.ExactDict/\o.data=.dict es ep/\es.toList=xs.map (entryOfKey (tupleKind (aQ P w)))/\(xs.map (·.1)).Nodup
 | .set S n=>h.SetOf (intKind P w) a S n
 | .ins C dx fs => H dx = some (.own a) /\ fs.length <= 1000 /\ dx ≠ a /\ h.get? a = some (W.instObj C dx) /\
   ∃ mA,h.Ns1 dx mA/\(∀ f,mZ (fs.lookup f) (mA f))/\PySem.Within mA (fs.map (·.1))
 | .own _=>∃ o,h.get? a=some o
 | .xd fs=>∃ mA,h.Ns1 a mA/\∀ f,mZ (fs.lookup f) (mA f)
 | .rng lo hi=>∃ t u v,h.get? a=some { cls:=.type "range",data:=.fields #[.int lo t,.int hi u,.int 1 v] }
 | .frz o u=>h.get? a=some o/\cJ H h a u
 | .tbl ps=>h.get? a=some { cls:=.none,data:=.fields ps }
 | .met f x=>h.get? a=some (W.methodObj (.ref f) (.ref x))
 | .ext φ=>φ h/\(∃ o,h.get? a=some o)/\∀ h1 h2:Heap,φ h1->(∀ o,h1.get? a=some o->h2.get? a=some o)->φ h2
def HOk(H:Hp)(h:Heap):Prop:=∀ a o,H a=some o->cJ P w H h a o
end
section
variable {P:Program} {w:World} {H H':Hp} {h h':Heap} {a:Addr} {o:HO}
theorem cJ.lt(x:cJ P w H h a o):a<h.objs.size:=by
 cases o with
 | lst xs=>obtain⟨_,_,_,_,e⟩:=x;exact J4z e
 | tup xs=>obtain⟨_,_,_,p⟩:=x;exact p.lt
 | dK kvs=>obtain⟨_,_,_,_,o,_,_,e,_⟩:=x;exact J4z e
 | dT kvs=>obtain⟨_,_,_,_,o,_,_,e,_⟩:=x;exact J4z e
 | set S n=>obtain⟨o,_,_,_,e,_⟩:=x;exact J4z e
 | ins C dx fs=>obtain⟨_,_,_,e,_⟩:=x;exact J4z e
 | own y=>obtain⟨_,e⟩:=x;exact J4z e
 | xd fs=>obtain⟨_,⟨_,_,_,e,_⟩,_⟩:=x;exact J4z e
 | rng lo hi=>obtain⟨_,_,_,e⟩:=x;exact J4z e
 | frz ob u=>obtain⟨e,_⟩:=x;exact J4z e
 | tbl ps=>exact J4z (show h.get? a=some _ from x)
 | met f y=>exact J4z (show h.get? a=some _ from x)
 | ext φ=>obtain⟨_,⟨_,e⟩,_⟩:=x;exact J4z e
theorem Paired.mapP{α β:Type}{F G:α->β->Prop}:∀ {l₁:List α} {l₂:List β},Paired F l₁ l₂->(∀ a b,F a b->G a b)->Paired G l₁ l₂
 | _,_,.nil,_=>.nil
 | _,_,.cons r t,f=>.cons (f _ _ r) (Paired.mapP t f)
theorem cJ.stay(x:cJ P w H h a o)(k:∀ b u,(b=a\/H b=some (.own a))->h.get? b=some u->h'.get? b=some u)
  (ho:∀ b,H b=some (.own a)->H' b=some (.own a)) (ht:∀ b xs,H b=some (.tup xs)->H' b=some (.tup xs)):cJ P w H' h' a o:=by
 induction o with
 | lst xs=>obtain⟨z,its,n,r,e⟩:=x;exact⟨z,its,n,r,k _ _ (.inl rfl) e⟩
 | tup xs=>obtain⟨z,its,r,ob,e,c⟩:=x;exact⟨z,its,r,ob,k _ _ (.inl rfl) e,c⟩
 | dK kvs=>obtain⟨z,y,vs,r,ob,es,ep,e,c⟩:=x;exact⟨z,y,vs,r,ob,es,ep,k _ _ (.inl rfl) e,c⟩
 | dT kvs =>
  obtain⟨z,y,xs,r,ob,es,ep,e,c⟩:=x;exact⟨z,y,xs,Paired.mapP r fun p q z=>⟨z.1,ht _ _ z.2.1,z.2.2⟩,ob,es,ep,k _ _ (.inl rfl) e,c⟩
 | set S n=>obtain⟨ob,es,ep,t,e,c⟩:=x;exact⟨ob,es,ep,t,k _ _ (.inl rfl) e,c⟩
 | ins C dx fs =>
  obtain⟨d,z,ne,e,mA,⟨od,es,ep,e2,c⟩,r⟩:=x;exact⟨ho _ d,z,ne,k _ _ (.inl rfl) e,mA,⟨od,es,ep,k _ _ (.inr d) e2,c⟩,r⟩
 | own y=>obtain⟨ob,e⟩:=x;exact⟨ob,k _ _ (.inl rfl) e⟩
 | xd fs=>obtain⟨mA,⟨od,es,ep,e,c⟩,r⟩:=x;exact⟨mA,⟨od,es,ep,k _ _ (.inl rfl) e,c⟩,r⟩
 | rng lo hi=>obtain⟨t,u,v,e⟩:=x;exact⟨t,u,v,k _ _ (.inl rfl) e⟩
 | frz ob u ih=>obtain⟨e,q⟩:=x;exact⟨k _ _ (.inl rfl) e,ih q⟩
 | tbl ps =>
  have e:h.get? a=some { cls:=.none,data:=.fields ps }:=x;show h'.get? a=some { cls:=.none,data:=.fields ps };exact k a _ (.inl rfl) e
 | met f y =>
  have e:h.get? a=some (W.methodObj (.ref f) (.ref y)):=x;show h'.get? a=some (W.methodObj (.ref f) (.ref y));exact k a _ (.inl rfl) e
 | ext φ=>obtain⟨p,⟨o,e⟩,st⟩:=x;exact⟨st _ _ p fun o q=>k _ _ (.inl rfl) q,⟨o,k _ _ (.inl rfl) e⟩,st⟩
theorem HOk.lt(x:HOk P w H h)(e:H a=some o):a<h.objs.size:=(x a o e).lt
theorem HOk.fresh(x:HOk P w H h)(e:h.objs.size<=a):H a=none:=by
 cases q:H a with
 | none=>rfl
 | some u=>exact absurd (G1z (x.lt q) e) (Y3z _)
theorem HOk.kept(x:HOk P w H h)(k:∀ b u,h.get? b=some u->h'.get? b=some u):HOk P w H h':=fun a o e =>
 (x a o e).stay (fun b u _ q=>k b u q) (fun _ q=>q) fun _ _ q=>q
theorem HOk.laid(x:HOk P w H h)(k:∀ b u,h.get? b=some u->h'.get? b=some u)(hp:h.objs.size<=a)(new:cJ P w (upd H a o) h' a o):HOk P w (upd H a o) h':=fun b u e=>by
 have hn:=x.fresh hp
 by_cases hb:b=a
 .subst hb;rw[aB] at e;cases e;exact new
 .rw[aj hb] at e
  exact(x b u e).stay (fun c v _ q=>k c v q) (fun c q=>by rw[aj (ak q hn)];exact q) fun c xs q=>by rw[aj (ak q hn)];exact q
end
def Rd(H:Hp)(a:Addr)(u:HO):Prop:=H a=some u\/∃ o,H a=some (.frz o u)
theorem Rd.ok{P:Program}{w:World}{H:Hp}{h:Heap}{a:Addr}{u:HO}(r:Rd H a u)(x:HOk P w H h):cJ P w H h a u:=by
 rcases r with r | ⟨o,r⟩
 .exact x a u r
 .obtain⟨_,q⟩:=x a _ r
  exact q
def Mut:Option HO->Prop
 | some (.lst _)=>True
 | some (.dK _)=>True
 | some (.dT _)=>True
 | some (.set _ _)=>True
 | some (.ins _ _ _)=>True
 | some (.ext _)=>True
 | _=>False
section
variable {P:Program} {w:World} {H:Hp} {h h':Heap} {x e:Addr} {o':HO}
theorem HOk.write(ok:HOk P w H h)(mu:Mut (H x))(he:e=x\/H e=some (.own x))(k:∀ b u,b≠e->h.get? b=some u->h'.get? b=some u)(heo:∃ u,h'.get? e=some u)
  (new:cJ P w (upd H x o') h' x o'):HOk P w (upd H x o') h':=fun b u q=>by
 have nown:∀ c y,H c=some (.own y)->c≠x:=fun c y r z=>by subst z;rw[r] at mu;exact mu
 have ntup:∀ c xs,H c=some (.tup xs)->c≠x:=fun c xs r z=>by subst z;rw[r] at mu;exact mu
 by_cases hb:b=x
 .subst hb;rw[aB] at q;cases q;exact new
 .rw[aj hb] at q
  by_cases hbe:b=e
  .have q':H b=some (.own x):=by
    rcases he with z | z
    .exact absurd (hbe.trans z) hb
    .rw[hbe];exact z
   rw[q] at q';cases q'
   obtain⟨v,hv⟩:=heo;exact⟨v,by rw[hbe];exact hv⟩
  .refine(ok b u q).stay (fun c v hc r=>k c v ?_ r) (fun c r=>by rw[aj (nown c b r)];exact r) fun c xs r=>by rw[aj (ntup c xs r)];exact r
   rcases hc with rfl | hc
   .exact hbe
   .rintro rfl
    rcases he with z | z
    .exact nown c b hc z
    .rw[hc] at z;cases z;exact hb rfl
end
structure Un (fs ex:List Addr) (H H':Hp) (h h':Heap):Prop where
 keep:∀ b o,h.get? b=some o->H b=none->b∉fs->b∉ex->h'.get? b=some o
 slot:∀ b o,h.get? b=some o->H b=none->b∈fs->b∉ex->∃ sl,h'.get? b=some { o with slots:=sl }
 free:∀ b o,h.get? b=some o->H b=none->b∉ex->H' b=none
 there:∀ b o,h.get? b=some o->b∉ex->∃ o',h'.get? b=some o'
 tups:∀ b xs,H b=some (.tup xs)->H' b=some (.tup xs)
 frzs:∀ b o u,H b=some (.frz o u)->H' b=some (.frz o u)
 tbls:∀ b ps,H b=some (.tbl ps)->∃ more,H' b=some (.tbl (ps++more))
section
variable {fs fs' ex ex':List Addr} {H H1 H2:Hp} {h h1 h2 h':Heap} {a x e:Addr} {o:HO}
theorem Un.any(u:Un fs ex H H1 h h1){b:Addr}{ob:Obj}(q:h.get? b=some ob)(n:H b=none)(hx:b∉ex):∃ sl,h1.get? b=some { ob with slots:=sl }:=by
 by_cases hb:b∈fs
 .exact u.slot b ob q n hb hx
 .exact⟨ob.slots,u.keep b ob q n hb hx⟩
theorem Un.trans(a:Un fs ex H H1 h h1)(b:Un fs ex H1 H2 h1 h2):Un fs ex H H2 h h2 where
 keep:=fun c ob q n hc hx=>b.keep c ob (a.keep c ob q n hc hx) (a.free c ob q n hx) hc hx
 slot:=fun c ob q n hc hx=>by
  obtain⟨sl,e1⟩:=a.slot c ob q n hc hx;obtain⟨sl',e2⟩:=b.slot c _ e1 (a.free c ob q n hx) hc hx;exact⟨sl',e2⟩
 free:=fun c ob q n hx=>by
  obtain⟨o',e1⟩:=a.there c ob q hx;exact b.free c o' e1 (a.free c ob q n hx) hx
 there:=fun c ob q hx=>by
  obtain⟨o',e1⟩:=a.there c ob q hx;exact b.there c o' e1 hx
 tups:=fun c xs q=>b.tups c xs (a.tups c xs q)
 frzs:=fun c ob xs q=>b.frzs c ob xs (a.frzs c ob xs q)
 tbls:=fun c ps q=>by
  obtain⟨m1,e1⟩:=a.tbls c ps q;obtain⟨m2,e2⟩:=b.tbls c _ e1;exact⟨m1++m2,by rw[e2,Array.append_assoc]⟩
theorem Un.kept(k:∀ b u,h.get? b=some u->h'.get? b=some u):Un fs ex H H h h' :=
 ⟨fun b ob q _ _ _=>k b ob q,fun b ob q _ _ _=>⟨ob.slots,k b ob q⟩,fun _ _ _ n _=>n,fun b ob q _=>⟨ob,k b ob q⟩,fun _ _ q=>q,fun _ _ _ q=>q,fun _ ps q=>⟨#[],by rw[q];simp⟩⟩
theorem Un.refl:Un fs ex H H h h:=Un.kept fun _ _ q=>q
theorem Un.laid(k:∀ b u,h.get? b=some u->h'.get? b=some u)(hp:h.objs.size<=a)(hn:H a=none):Un fs ex H (upd H a o) h h' where
 keep:=fun b u q _ _ _=>k b u q
 slot:=fun b u q _ _ _=>⟨u.slots,k b u q⟩
 free:=fun b u q n _=>by rw[aj (K4z (G1z (J4z q) hp))];exact n
 there:=fun b u q _=>⟨u,k b u q⟩
 tups:=fun b xs q=>by rw[aj (ak q hn)];exact q
 frzs:=fun b u xs q=>by rw[aj (ak q hn)];exact q
 tbls:=fun b ps q=>⟨#[],by rw[aj (ak q hn),q];simp⟩
theorem Un.write(mu:Mut (H x))(he:e=x\/H e=some (.own x))(k:∀ b u,b≠e->h.get? b=some u->h'.get? b=some u)(heo:∃ u,h'.get? e=some u):Un fs ex H (upd H x o) h h':=by
 have hx:∀ b,H b=none->b≠x:=fun b n z=>by subst z;rw[n] at mu;exact mu
 have hb:∀ b,H b=none->b≠e:=fun b n z=>by
  subst z;rcases he with r | r
  .exact hx b n r
  .rw[n] at r;cases r
 have hm:∀ b u,H b=some u->¬ Mut (some u)->b≠x:=fun b u q nm z=>by subst z;rw[q] at mu;exact nm mu
 refine⟨fun b u q n _ _=>k b u (hb b n) q,fun b u q n _ _=>⟨u.slots,k b u (hb b n) q⟩,fun b u q n _=>by rw[aj (hx b n)];exact n,fun b u q _=>?_,
  fun b xs q=>by rw[aj (hm b _ q fun z=>z)];exact q,fun b u xs q=>by rw[aj (hm b _ q fun z=>z)];exact q,fun b ps q=>⟨#[],by rw[aj (hm b _ q fun z=>z),q];simp⟩⟩
 by_cases hbe:b=e
 .subst hbe;exact heo
 .exact⟨u,k b u hbe q⟩
theorem Un.mono(u:Un fs ex H H1 h h1)(hs:∀ b∈fs,b∈fs')(hx:∀ b∈ex,b∈ex'):Un fs' ex' H H1 h h1 :=
 ⟨fun b ob q n hb he=>u.keep b ob q n (fun z=>hb (hs b z)) fun z=>he (hx b z),fun _ _ q n _ he=>u.any q n fun z=>he (hx _ z),fun b ob q n he=>u.free b ob q n fun z=>he (hx b z),fun b ob q he=>u.there b ob q fun z=>he (hx b z),u.tups,u.frzs,u.tbls⟩
end
def trk(h:Heap)(H:Hp):List Addr:=(List.range h.objs.size).filter fun a=>(H a).isSome
def wz(h:Heap)(H:Hp):Heap:=W.hideAll h (trk h H)
theorem qp(h:Heap)(H:Hp):(wz h H).objs.size=h.objs.size:=W.hideAll_size _ _
theorem uJ{h:Heap}{H:Hp}{b:Addr}{o:Obj}(e:h.get? b=some o)(n:H b=none):(wz h H).get? b=some o :=
 X0z _ e fun hm=>by
  have q:(H b).isSome=true:=(List.mem_filter.mp hm).2;rw[n] at q;simp at q
theorem yE{h:Heap}{H:Hp}{b:Addr}{o:Obj}(e:(wz h H).get? b=some o):h.get? b=some o/\H b=none:=by
 have e':h.get? b=some o:=H1z (trk h H) e;refine⟨e',?_⟩
 cases q:H b with
 | none=>rfl
 | some x =>
  have hm:b∈trk h H:=List.mem_filter.mpr ⟨List.mem_range.mpr (J4z e'),by simp[q]⟩;have z:(wz h H).get? b=none:=W.hideAll_none (trk h H) hm;rw[z] at e;cases e
def Kh(g h:Heap)(L:Addr):List (Addr×Obj):=(List.range h.objs.size).filterMap fun a=>if a=L\/(g.get? a).isSome=true then none else(h.get? a).map fun o=>(a,o)
def rest(g h:Heap)(L d:Addr):List (Addr×Obj):=(Kh g h L).filter fun p=>decide (p.1≠d)
structure Mod (K:Z3) (mg:Str->Option Value) (base:Heap):Prop where
 kin:K.In base
 glob:base.Ns mainGlobals mg
 blt:∃ mb,base.Ns builtinsNs mb/\∀ x:Str,x≠"__name__"->mb x=bootBuiltins x
 nolimit:base.NoLimit
structure Cx where
 prog:Program
 w:World
 K:Z3
 mg:Str->Option Value
 base:Heap
 A:Around
 N:List Str
 s₀:Shared
 H₀:Hp
 env:Env
 outer:List Env
 stack:List Env
 ex:List Addr
 fn:Str->Bool
 calm:Bool
 pn:List (Addr×Obj)
 xe:Value->Shared->Prop
 lm:Option (Addr×Str):=none
def frs(l:List Env):List Addr:=l.filterMap (·.frame)
abbrev Cx.fs(X:Cx):List Addr:=frs X.outer
def Vis(sc:Scope)(x:Str):Prop:=sc.names.lookup x=some .local\/sc.names.lookup x=some .cell\/sc.names.lookup x=some .free
def Loc(sc:Scope)(x:Str):Prop:=sc.names.lookup x=some .local\/sc.names.lookup x=some .cell
def Look(env:Env)(h:Heap)(m:Str->Option Value)(x:Str)(u:Value):Prop :=
 (env.kindOf x=some .local/\m x=some u)\/((env.kindOf x=some .cell\/env.kindOf x=some .free)/\∃ c,env.cells.lookup x=some c/\h.IsCell c (some u))
structure Cx.Ok (X:Cx):Prop where
 mod:Mod X.K X.mg X.base
 kind:X.env.scope.kind=.function
 glob:X.env.globals=mainGlobals
 blt:X.env.builtins=builtinsNs
 above:X.s₀.heap.objs.size<=X.env.locals
 inj:∀ x y c,X.env.cells.lookup x=some c->X.env.cells.lookup y=some c->x=y
 has:∀ x,(X.env.kindOf x=some .cell\/X.env.kindOf x=some .free)->∃ c,X.env.cells.lookup x=some c
 cab:∀ x c,X.fn x=true->X.env.cells.lookup x=some c->X.s₀.heap.objs.size<=c
 hd:X.calm=true->X.A.handled=none
 frames:X.A.frames=some X.stack
 stk:X.stack=X.outer\/(X.stack=X.env::X.outer/\X.env.frame=some X.env.locals)
 exf:∀ b∈X.ex,b≠X.env.locals/\∀ x c,X.env.cells.lookup x=some c->c≠b
 bs:∀ b o,X.base.get? b=some o->X.s₀.heap.get? b=some o/\X.H₀ b=none
 bsz:X.base.objs.size<=X.s₀.heap.objs.size
 noex:∀ b o,X.base.get? b=some o->b∉X.ex
 exfs:∀ b∈X.ex,b∉X.fs
 funs:X.s₀.heap.FunFrames X.base X.outer
 frf:∀ b∈X.fs,X.H₀ b=none
structure Inv (X:Cx) (z0:List (Addr×Obj)) (Y:List (Option V)) (H:Hp) (s:Shared):Prop where
 ok:X.Ok
 os:s.os=X.s₀.os
 bare:AllBare s.gens
 base:Un X.fs X.ex X.H₀ H X.s₀.heap s.heap
 loc:∃ m,s.heap.Ns X.env.locals m/\∀ (i:Nat) (x:Str) (v:V),X.N[i]?=some x->Y[i]?=some (some v)->Vis X.env.scope x->∃ u,RelV v u/\Look X.env s.heap m x u
 cell:∀ x c,X.env.cells.lookup x=some c->∃ v,s.heap.IsCell c v
 free:H X.env.locals=none
 freeC:∀ x c,X.env.cells.lookup x=some c->H c=none
 pin:∀ p∈X.pn++z0,s.heap.get? p.1=some p.2/\H p.1=none/\p.1≠X.env.locals/\p.1∉X.fs/\∀ v,p.2.data≠.cell v
 hok:HOk X.prog X.w H s.heap
 len:Y.length=X.N.length
section
variable {X:Cx} {z0:List (Addr×Obj)} {Y:List (Option V)} {H H':Hp} {s:Shared} {h':Heap}
theorem Cx.Ok.nofr(ok:X.Ok){b:Addr}{o:Obj}(e:X.base.get? b=some o):b∉X.fs:=fun hb=>by
 have:=(ok.funs.mem hb).1;rw[e] at this;cases this
theorem Inv.bs(I:Inv X z0 Y H s):∀ b o,X.base.get? b=some o->s.heap.get? b=some o/\H b=none:=fun b o e =>
 ⟨I.base.keep b o (I.ok.bs b o e).1 (I.ok.bs b o e).2 (I.ok.nofr e) (I.ok.noex b o e),I.base.free b o (I.ok.bs b o e).1 (I.ok.bs b o e).2 (I.ok.noex b o e)⟩
theorem Inv.bk(I:Inv X z0 Y H s):∀ b o,X.base.get? b=some o->s.heap.get? b=some o:=fun b o e=>(I.bs b o e).1
theorem Inv.mod(I:Inv X z0 Y H s):Mod X.K X.mg X.base:=I.ok.mod
theorem Inv.kIn(I:Inv X z0 Y H s):X.K.In s.heap:=I.ok.mod.kin.keeps I.bk
theorem Inv.lt(I:Inv X z0 Y H s):X.env.locals<s.heap.objs.size:=let ⟨_,hn,_⟩:=I.loc;hn.lt
theorem Inv.sz(I:Inv X z0 Y H s):X.s₀.heap.objs.size<=s.heap.objs.size:=L4z I.ok.above (M4z I.lt)
theorem Inv.nofs(I:Inv X z0 Y H s){a:Addr}(h:s.heap.objs.size<=a):a∉X.fs:=fun hb=>by
 obtain⟨_,o,ho,_⟩:=I.ok.funs.mem hb;exact absurd (G1z (J4z ho) (L4z I.sz h)) (Y3z _)
theorem Inv.cne(I:Inv X z0 Y H s):∀ x c,X.env.cells.lookup x=some c->c≠X.env.locals:=fun x c e z=>by
 obtain⟨v,o,ho,hd⟩:=I.cell x c e;obtain⟨m,⟨o',es,ep,ho',hd',_⟩,_⟩:=I.loc;rw[z,ho'] at ho;cases ho;rw[hd'] at hd;cases hd
theorem Inv.funs(I:Inv X z0 Y H s):s.heap.FunFrames X.base X.outer:=by
 have all:∀ (l:List Env),(∀ b∈frs l,b∈X.fs)->X.s₀.heap.FunFrames X.base l->s.heap.FunFrames X.base l:=by
  intro l
  induction l with
  | nil=>intro _ _;trivial
  | cons env r ih =>
   intro hs hl;obtain⟨hk,⟨L,o,hf,hn,ho,hd⟩,hr⟩:=hl;have hL:L∈X.fs:=hs L (by unfold frs;rw[Y0z,hf];exact I1z);obtain⟨sl,e⟩:=I.base.slot L o ho (I.ok.frf L hL) hL fun z=>I.ok.exfs L z hL;exact⟨hk,⟨L,_,hf,hn,e,hd⟩,ih (fun b hb=>hs b (by unfold frs;rw[Y0z,hf];exact S0z _ hb)) hr⟩
 exact all X.outer (fun _ hb=>hb) I.ok.funs
theorem Inv.stack(I:Inv X z0 Y H s):s.heap.FunFrames X.base X.stack:=by
 rcases I.ok.stk with e | ⟨e,hf⟩
 .rw[e];exact I.funs
 .rw[e]
  obtain⟨m,hn,_⟩:=I.loc;refine .cons (by rw[I.ok.kind];decide) hf hn ?_ I.funs;exact Heap.get?_none_of_le (L4z I.ok.bsz I.ok.above)
theorem Inv.stkSub(I:Inv X z0 Y H s):∀ b∈frs X.stack,b∈X.env.locals::X.fs:=fun b hb=>by
 rcases I.ok.stk with e | ⟨e,hf⟩
 .rw[e] at hb;exact S0z _ hb
 .rw[e] at hb
  unfold frs at hb;rw[Y0z,hf] at hb;exact hb
theorem Inv.stkFree(I:Inv X z0 Y H s):∀ b∈frs X.stack,H b=none:=fun b hb=>by
 rcases H4z.mp (I.stkSub b hb) with e | hb
 .rw[e];exact I.free
 .obtain⟨_,o,ho,_⟩:=I.ok.funs.mem hb
  exact I.base.free b o ho (I.ok.frf b hb) fun z=>I.ok.exfs b z hb
theorem Inv.step{g':Array GenState}{t':Nat}{d':Drawn}{ch:List Addr}(I:Inv X z0 Y H s)
  (hch:∀ b∈ch,(b∈X.ex\/X.s₀.heap.objs.size<=b)/\b≠X.env.locals/\(∀ x c,X.env.cells.lookup x=some c->c≠b)/\∀ p∈X.pn++z0,p.1≠b)
  (keep:∀ b o,b≠X.env.locals->b∉X.fs->b∉ch->s.heap.get? b=some o->H b=none->h'.get? b=some o)
  (slot:∀ b o,b≠X.env.locals->b∈X.fs->b∉ch->s.heap.get? b=some o->H b=none->∃ sl,h'.get? b=some { o with slots:=sl }) (free:∀ b o,b∉ch->s.heap.get? b=some o->H b=none->H' b=none)
  (there:∀ b o,b∉ch->s.heap.get? b=some o->∃ o',h'.get? b=some o')
  (tups:∀ b xs,H b=some (.tup xs)->H' b=some (.tup xs)) (frzs:∀ b o u,H b=some (.frz o u)->H' b=some (.frz o u)) (tbls:∀ b ps,H b=some (.tbl ps)->∃ more,H' b=some (.tbl (ps++more)))
  (ns:∀ m,s.heap.Ns X.env.locals m->h'.Ns X.env.locals m) (hok:HOk X.prog X.w H' h') (hg:AllBare g') :
  Inv X z0 Y H' { s with heap:=h',gens:=g',drawn:=d',toks:=t' }:=by
 have neL:∀ b o,X.s₀.heap.get? b=some o->b≠X.env.locals:=fun b o e=>K4z (G1z (J4z e) I.ok.above)
 have neC:∀ b o,X.s₀.heap.get? b=some o->b∉X.ex->b∉ch:=fun b o e hx hb=>by
  rcases(hch b hb).1 with z | z
  .exact hx z
  .exact absurd (G1z (J4z e) z) (Y3z _)
 have cellK:∀ x c,X.env.cells.lookup x=some c->∀ v,s.heap.IsCell c v->h'.IsCell c v:=fun x c e v ⟨o,ho,hd⟩=>by
  have nch:c∉ch:=fun z=>(hch c z).2.2.1 x c e rfl
  by_cases hc:c∈X.fs
  .obtain⟨sl,q⟩:=slot c o (I.cne x c e) hc nch ho (I.freeC x c e)
   exact⟨_,q,hd⟩
  .exact⟨o,keep c o (I.cne x c e) hc nch ho (I.freeC x c e),hd⟩
 refine⟨I.ok,I.os,hg,⟨fun b o e n hb hx=>?_,fun b o e n hb hx=>?_,fun b o e n hx=>?_,fun b o e hx=>?_,fun b xs e=>tups b xs (I.base.tups b xs e),fun b o xs e=>frzs b o xs (I.base.frzs b o xs e),fun b ps e=>?_⟩,?_,fun x c e=>?_,?_,fun x c e=>?_,fun p hp=>?_,hok,I.len⟩
 .exact keep b o (neL b o e) hb (neC b o e hx) (I.base.keep b o e n hb hx) (I.base.free b o e n hx)
 .obtain⟨sl,e1⟩:=I.base.slot b o e n hb hx
  obtain⟨sl',e2⟩:=slot b _ (neL b o e) hb (neC b o e hx) e1 (I.base.free b o e n hx);exact⟨sl',e2⟩
 .obtain⟨o',e1⟩:=I.base.there b o e hx
  exact free b o' (neC b o e hx) e1 (I.base.free b o e n hx)
 .obtain⟨o',e1⟩:=I.base.there b o e hx
  exact there b o' (neC b o e hx) e1
 .obtain⟨m1,e1⟩:=I.base.tbls b ps e
  obtain⟨m2,e2⟩:=tbls b _ e1;exact⟨m1++m2,by rw[e2,Array.append_assoc]⟩
 .obtain⟨m,hn,hl⟩:=I.loc
  refine⟨m,ns m hn,fun i x v e1 e2 e3=>?_⟩;obtain⟨u,r,l⟩:=hl i x v e1 e2 e3;refine⟨u,r,?_⟩;rcases l with l | ⟨k,c,e,z⟩
  .exact .inl l
  .exact .inr ⟨k,c,e,cellK x c e _ z⟩
 .obtain⟨v,z⟩:=I.cell x c e
  exact⟨v,cellK x c e v z⟩
 .obtain⟨m,⟨o,_,_,ho,_⟩,_⟩:=I.loc
  exact free _ o (fun z=>(hch _ z).2.1 rfl) ho I.free
 .obtain⟨v,o,ho,hd⟩:=I.cell x c e
  exact free c o (fun z=>(hch c z).2.2.1 x c e rfl) ho (I.freeC x c e)
 .obtain⟨e,n,ne,nf,d⟩:=I.pin p hp
  have nch:p.1∉ch:=fun z=>(hch p.1 z).2.2.2 p hp rfl;exact⟨keep p.1 p.2 ne nf nch e n,free p.1 p.2 nch e n,ne,nf,d⟩
theorem Inv.un{t':Nat}(I:Inv X z0 Y H s)(u:Un X.fs [] H H' s.heap h')(hok:HOk X.prog X.w H' h'):Inv X z0 Y H' { s with heap:=h',toks:=t' }:=by
 obtain⟨m,⟨o,es,ep,ho,r⟩,_⟩:=id I.loc;obtain⟨sl,hL⟩:=u.any ho I.free (by simp)
 exact I.step (g':=s.gens) (d':=s.drawn) (ch:=[]) (fun _ z=>nomatch z) (fun b o _ hb _ e n=>u.keep b o e n hb (by simp)) (fun b o _ hb _ e n=>u.slot b o e n hb (by simp)) (fun b o _ e n=>u.free b o e n (by simp)) (fun b o _ e=>u.there b o e (by simp)) u.tups u.frzs u.tbls (fun m' hm=>by
  obtain⟨o',es',ep',ho',r'⟩:=hm;rw[ho] at ho';cases ho'
  exact⟨_,es',ep',hL,r'⟩) hok I.bare
theorem Inv.call{g':Array GenState}{t':Nat}{d':Drawn}{ch:List Addr}(I:Inv X z0 Y H s)(u:Un (frs X.stack) ch H H' s.heap h')(hok:HOk X.prog X.w H' h')(hg:AllBare g')
  (hch:∀ b∈ch,(b∈X.ex\/X.s₀.heap.objs.size<=b)/\b≠X.env.locals/\(∀ x c,X.env.cells.lookup x=some c->c≠b)/\∀ p∈X.pn++z0,p.1≠b) :
  Inv X z0 Y H' { s with heap:=h',gens:=g',drawn:=d',toks:=t' }:=by
 obtain⟨m,⟨o,es,ep,ho,r⟩,_⟩:=id I.loc;obtain⟨sl,hL⟩:=u.any ho I.free fun z=>(hch _ z).2.1 rfl
 exact I.step (ch:=ch) hch (fun b o hL hb hc e n=>u.keep b o e n (fun z=>(H4z.mp (I.stkSub b z)).elim hL hb) hc) (fun b o _ _ hc e n=>u.any e n hc) (fun b o hc e n=>u.free b o e n hc) (fun b o hc e=>u.there b o e hc) u.tups u.frzs u.tbls (fun m' hm=>by
  obtain⟨o',es',ep',ho',r'⟩:=hm;rw[ho] at ho';cases ho'
  exact⟨_,es',ep',hL,r'⟩) hok hg
theorem Inv.turned{t':Nat}{it:Addr}(I:Inv X z0 Y H s)(k:∀ b o,b≠it->s.heap.get? b=some o->h'.get? b=some o)(hn:H it=none)(hL:it≠X.env.locals)
  (h1:it∈X.ex\/X.s₀.heap.objs.size<=it) (h2:∀ x c,X.env.cells.lookup x=some c->c≠it) (h3:∀ p∈X.pn++z0,p.1≠it):Inv X z0 Y H { s with heap:=h',toks:=t' }:=by
 have nit:∀ b u,H b=some u->b≠it:=fun b u e z=>by rw[z,hn] at e;cases e
 refine I.step (g':=s.gens) (d':=s.drawn) (ch:=[it]) (fun b hb=>?_) (fun b o _ _ hc e _=>k b o (fun z=>hc (by simp[z])) e) (fun b o _ _ hc e _=>⟨o.slots,k b o (fun z=>hc (by simp[z])) e⟩) (fun _ _ _ _ n=>n)
  (fun b o hc e=>⟨o,k b o (fun z=>hc (by simp[z])) e⟩) (fun _ _ e=>e) (fun _ _ _ e=>e) (fun b ps e=>⟨#[],by rw[e];simp⟩) (fun m hm=>?_) (fun b u e=>?_) I.bare
 .have e:b=it:=by simpa using hb
  subst e;exact⟨h1,hL,h2,h3⟩
 .obtain⟨o,es,ep,ho,r⟩:=hm
  exact⟨o,es,ep,k _ o (J5z hL) ho,r⟩
 .refine(I.hok b u e).stay (fun c v hc q=>k c v ?_ q) (fun _ q=>q) fun _ _ q=>q
  rcases hc with z | z
  .rw[z];exact nit b u e
  .exact nit c _ z
theorem Inv.tok(I:Inv X z0 Y H s)(t:Nat):Inv X z0 Y H { s with toks:=t }:=I.un (h':=s.heap) (t':=t) Un.refl I.hok
theorem Inv.kept{t':Nat}(I:Inv X z0 Y H s)(k:∀ b u,s.heap.get? b=some u->h'.get? b=some u):Inv X z0 Y H { s with heap:=h',toks:=t' }:=I.un (Un.kept k) (I.hok.kept k)
theorem Inv.laid{a:Addr}{o:HO}{t':Nat}(I:Inv X z0 Y H s)(k:∀ b u,s.heap.get? b=some u->h'.get? b=some u)(hp:s.heap.objs.size<=a)(new:cJ X.prog X.w (upd H a o) h' a o) :
  Inv X z0 Y (upd H a o) { s with heap:=h',toks:=t' }:=I.un (Un.laid k hp (I.hok.fresh hp)) (I.hok.laid k hp new)
theorem Inv.write{x e:Addr}{o:HO}{t':Nat}(I:Inv X z0 Y H s)(mu:Mut (H x))(he:e=x\/H e=some (.own x))(k:∀ b u,b≠e->s.heap.get? b=some u->h'.get? b=some u)(heo:∃ u,h'.get? e=some u)
  (new:cJ X.prog X.w (upd H x o) h' x o):Inv X z0 Y (upd H x o) { s with heap:=h',toks:=t' }:=I.un (Un.write mu he k heo) (I.hok.write mu he k heo new)
theorem Inv.pins_of{pins':List (Addr×Obj)}(I:Inv X z0 Y H s)(h:∀ p∈pins',s.heap.get? p.1=some p.2/\H p.1=none/\p.1≠X.env.locals/\p.1∉X.fs/\∀ v,p.2.data≠.cell v):Inv X pins' Y H s :=
 ⟨I.ok,I.os,I.bare,I.base,I.loc,I.cell,I.free,I.freeC,fun p hp=>(List.mem_append.mp hp).elim (fun z=>I.pin p (T0z _ z)) (h p),I.hok,I.len⟩
theorem nP{N:List Str}(hN:N.Nodup){i j:Nat}{x:Str}(a:N[i]?=some x)(b:N[j]?=some x):i=j:=by
 obtain⟨h1,e1⟩:=List.getElem?_eq_some_iff.mp a;obtain⟨h2,e2⟩:=List.getElem?_eq_some_iff.mp b;exact(List.getElem_inj hN).mp (e1.trans e2.symm)
theorem xu{M:Model}{A:Around}{E:Value->Shared->Prop}{i:Nat}{x:Str}{v:V}{u:Value}{Q:Unit->Shared->Prop}(I:Inv X z0 Y H s)(hN:X.N.Nodup)(hi:X.N[i]?=some x)(hx:Loc X.env.scope x)(r:RelV v u)
  (h:∀ s',Inv X z0 (Y.set i (some v)) H s'->(∃ a,Heap.SameBut a s.heap s'.heap/\(a=X.env.locals\/X.env.cells.lookup x=some a))->Q () s') (hf:X.fn x=true\/X.env.scope.names.lookup x=some .local:=by first | exact .inl rfl | exact .inr rfl | assumption):wpAny M A (storeName X.env x u) Q E s:=by
 obtain⟨m,hn,hl⟩:=id I.loc
 have hcls:(X.env.scope.kind==.class||(X.env.scope.kind==.module&&X.env.locals !=X.env.globals))=false:=by rw[I.ok.kind];rfl
 have hiY:i<Y.length:=by rw[I.len];exact(List.getElem?_eq_some_iff.mp hi).1
 have cne:=I.cne
 have tracked:∀ {a:Addr} {h':Heap},(∃ o,s.heap.get? a=some o/\H a=none)->Heap.SameBut a s.heap h'->HOk X.prog X.w H h':=fun {a h'} ha hs b ob e=>by
  obtain⟨_,_,hfree⟩:=ha;refine(I.hok b ob e).stay (fun c w' hc q=>(hs.2 c ?_).trans q) (fun _ q=>q) fun _ _ q=>q;rintro rfl;rcases hc with rfl | hc
  .rw[hfree] at e;cases e
  .rw[hfree] at hc;cases hc
 rcases hx with hk | hk
 .refine wpAny_storeName_local hk hn (fun h' hn' hs=>?_) hcls
  obtain⟨oL,_,_,hoL,_⟩:=id hn;refine h _ ⟨I.ok,I.os,I.bare,⟨fun b o e n hb hx=>?_,fun b o e n hb hx=>?_,I.base.free,fun b o e hx=>?_,I.base.tups,I.base.frzs,I.base.tbls⟩,⟨_,hn',fun j y v' e1 e2 e3=>?_⟩,fun y c e=>?_,I.free,I.freeC,fun p hp=>?_,tracked ⟨oL,hoL,I.free⟩ hs,by simpa using I.len⟩ ⟨_,hs,.inl rfl⟩
  .exact(hs.2 b (K4z (G1z (J4z e) I.ok.above))).trans (I.base.keep b o e n hb hx)
  .obtain⟨sl,e1⟩:=I.base.slot b o e n hb hx
   exact⟨sl,(hs.2 b (K4z (G1z (J4z e) I.ok.above))).trans e1⟩
  .obtain⟨o',e1⟩:=I.base.there b o e hx
   exact⟨o',(hs.2 b (K4z (G1z (J4z e) I.ok.above))).trans e1⟩
  .by_cases hj:j=i
   .subst hj
    rw[hi] at e1;cases e1
    rw[List.getElem?_set_self hiY] at e2;cases e2;exact⟨u,r,.inl ⟨hk,by simp⟩⟩
   .rw[List.getElem?_set_ne (J5z hj)] at e2
    obtain⟨u',r',q⟩:=hl j y v' e1 e2 e3;refine⟨u',r',?_⟩;rcases q with⟨k,e⟩ | ⟨k,c,e,z⟩
    .refine .inl ⟨k,?_⟩
     have:y≠x:=fun e=>hj (nP hN e1 (e▸hi));simp[this,e]
    .exact .inr ⟨k,c,e,z.sameBut hs (cne y c e)⟩
  .obtain⟨w',z⟩:=I.cell y c e
   exact⟨w',z.sameBut hs (cne y c e)⟩
  .obtain⟨e,n,ne,nf,d⟩:=I.pin p hp
   exact⟨(hs.2 p.1 ne).trans e,n,ne,nf,d⟩
 .have hfn:X.fn x=true:=by
   rcases hf with z | z
   .exact z
   .rw[z] at hk;cases hk
  obtain⟨c,hc⟩:=I.ok.has x (.inl hk);obtain⟨w',z⟩:=I.cell x c hc;refine wpAny_storeName_cell I.ok.kind hk hc z (fun h' hc' hs=>?_);obtain⟨oc,hoc,hocd⟩:=id z;refine h { s with heap:=h' } ⟨I.ok,I.os,I.bare,⟨fun b o e n hb hx=>?_,fun b o e n hb hx=>?_,I.base.free,fun b o e hx=>?_,I.base.tups,I.base.frzs,I.base.tbls⟩,⟨m,hn.sameBut hs (J5z (cne x c hc)),fun j y v' e1 e2 e3=>?_⟩,fun y c' e=>?_,I.free,I.freeC,fun p hp=>?_,tracked ⟨oc,hoc,I.freeC x c hc⟩ hs,by simpa using I.len⟩ ⟨c,hs,.inr hc⟩
  .exact(hs.2 b (K4z (G1z (J4z e) (I.ok.cab x c hfn hc)))).trans (I.base.keep b o e n hb hx)
  .obtain⟨sl,e1⟩:=I.base.slot b o e n hb hx
   exact⟨sl,(hs.2 b (K4z (G1z (J4z e) (I.ok.cab x c hfn hc)))).trans e1⟩
  .obtain⟨o',e1⟩:=I.base.there b o e hx
   exact⟨o',(hs.2 b (K4z (G1z (J4z e) (I.ok.cab x c hfn hc)))).trans e1⟩
  .by_cases hj:j=i
   .subst hj
    rw[hi] at e1;cases e1
    rw[List.getElem?_set_self hiY] at e2;cases e2;exact⟨u,r,.inr ⟨.inl hk,c,hc,hc'⟩⟩
   .rw[List.getElem?_set_ne (J5z hj)] at e2
    obtain⟨u',r',q⟩:=hl j y v' e1 e2 e3;refine⟨u',r',?_⟩;rcases q with q | ⟨k,c',e,z'⟩
    .exact .inl q
    .refine .inr ⟨k,c',e,z'.sameBut hs ?_⟩
     rintro rfl;exact hj (nP hN e1 (I.ok.inj _ _ _ e hc▸hi))
  .by_cases hcc:c'=c
   .subst hcc;exact⟨_,hc'⟩
   .obtain⟨w2,z2⟩:=I.cell y c' e
    exact⟨w2,z2.sameBut hs hcc⟩
  .obtain⟨e,n,ne,nf,d⟩:=I.pin p hp
   refine⟨(hs.2 p.1 ?_).trans e,n,ne,nf,d⟩;intro q;rw[q,hoc] at e;have q':oc=p.2:=C3z e;exact d w' (by rw[<- q'];exact hocd)
theorem iD{M:Model}{A:Around}{E:Value->Shared->Prop}{i:Nat}{x:Str}{v:V}{u:Value}{Q:Unit->Shared->Prop}(I:Inv X z0 Y H s)(hN:X.N.Nodup)(hi:X.N[i]?=some x)(hx:Loc X.env.scope x)(r:RelV v u)
  (h:∀ s',Inv X z0 (Y.set i (some v)) H s'->Q () s') (hf:X.fn x=true\/X.env.scope.names.lookup x=some .local:=by first | exact .inl rfl | exact .inr rfl | assumption):wpAny M A (storeName X.env x u) Q E s :=
 xu I hN hi hx r (fun s' I' _=>h s' I') hf
theorem Inv.call'{s':Shared}{ch:List Addr}(I:Inv X z0 Y H s)(ho:s'.os=s.os)(u:Un (frs X.stack) ch H H' s.heap s'.heap)(hok:HOk X.prog X.w H' s'.heap)(hg:AllBare s'.gens)
  (hch:∀ b∈ch,(b∈X.ex\/X.s₀.heap.objs.size<=b)/\b≠X.env.locals/\(∀ x c,X.env.cells.lookup x=some c->c≠b)/\∀ p∈X.pn++z0,p.1≠b):Inv X z0 Y H' s':=by
 obtain⟨h',g',d',t',o'⟩:=s';have e:o'=s.os:=ho;subst e;exact I.call (g':=g') (t':=t') (d':=d') u hok hg hch
end
abbrev XK:=Value->Option Addr->Hp->Prop
abbrev St:=List (Option V)
abbrev VK:=V->Hp->Prop
abbrev TE:=St->Hp->VK->Prop
abbrev TT:=St->Hp->(Bool->Hp->Prop)->Prop
abbrev TA:=St->Hp->(List V->Hp->Prop)->Prop
structure Ends where
 nx:St->Hp->Prop
 rt:VK
 bk:St->Hp->Prop:=fun _ _=>False
 ct:St->Hp->Prop:=fun _ _=>False
abbrev TS:=Ends->St->Hp->Prop
def EP(X:Cx)(z0:List (Addr×Obj))(Y:St)(Q:VK)(u:Value)(s':Shared):Prop:=∃ v H',Inv X z0 Y H' s'/\RelV v u/\Q v H'
def TP(X:Cx)(z0:List (Addr×Obj))(Y:St)(Q:Bool->Hp->Prop)(b:Bool)(s':Shared):Prop:=∃ H',Inv X z0 Y H' s'/\Q b H'
def AP(X:Cx)(z0:List (Addr×Obj))(Y:St)(Q:List V->Hp->Prop)(us:List Value)(s':Shared):Prop:=∃ vs H',Inv X z0 Y H' s'/\Vals vs us/\Q vs H'
def SP(X:Cx)(z0:List (Addr×Obj))(D:Ends)(f:Flow)(s':Shared):Prop :=
 match f with
 | .next=>∃ Y' H',Inv X z0 Y' H' s'/\D.nx Y' H'
 | .brk=>∃ Y' H',Inv X z0 Y' H' s'/\D.bk Y' H'
 | .cont=>∃ Y' H',Inv X z0 Y' H' s'/\D.ct Y' H'
 | .ret u=>∃ v Y' H',Inv X z0 Y' H' s'/\RelV v u/\D.rt v H'
def PE(X:Cx)(e:Expr)(t:TE):Prop :=
 ∀ (z0:List (Addr×Obj)) (s:Shared) (Y:St) (H:Hp) (Q:VK),Inv X z0 Y H s->t Y H Q->wpAny (model X.prog X.w) X.A (eval e X.env) (EP X z0 Y Q) X.xe s
def PT(X:Cx)(e:Expr)(t:TT):Prop :=
 ∀ (z0:List (Addr×Obj)) (s:Shared) (Y:St) (H:Hp) (Q:Bool->Hp->Prop),Inv X z0 Y H s->t Y H Q->wpAny (model X.prog X.w) X.A (isTrue e X.env (eval e X.env)) (TP X z0 Y Q) X.xe s
def PW(X:Cx)(e:Expr)(t:TT):Prop :=
 ∀ (whole:Sem Value) (z0:List (Addr×Obj)) (s:Shared) (Y:St) (H:Hp) (Q:Bool->Hp->Prop),Inv X z0 Y H s->t Y H Q->wpAny (model X.prog X.w) X.A (isTrue e X.env whole) (TP X z0 Y Q) X.xe s
theorem PW.pt{X:Cx}{e:Expr}{t:TT}(h:PW X e t):PT X e t:=h _
def PA(X:Cx)(es:List Expr)(t:TA):Prop :=
 ∀ (pos:Pos) (z0:List (Addr×Obj)) (s:Shared) (Y:St) (H:Hp) (Q:List V->Hp->Prop),Inv X z0 Y H s->t Y H Q->wpAny (model X.prog X.w) X.A (spliced (backTo pos (starEach es X.env))) (AP X z0 Y Q) X.xe s
def PS(X:Cx)(st:Stmt)(t:TS):Prop :=
 ∀ (z0:List (Addr×Obj)) (s:Shared) (Y:St) (H:Hp) (D:Ends),Inv X z0 Y H s->t D Y H->wpAny (model X.prog X.w) X.A (exec st X.env) (SP X z0 D) X.xe s
def PSs(X:Cx)(st:List Stmt)(t:TS):Prop :=
 ∀ (z0:List (Addr×Obj)) (s:Shared) (Y:St) (H:Hp) (D:Ends),Inv X z0 Y H s->t D Y H->wpAny (model X.prog X.w) X.A (execs st X.env) (SP X z0 D) X.xe s
theorem thn{α:Type}{t:Sem α}{Q Q':α->Shared->Prop}{M:Model}{A:Around}{E:Value->Shared->Prop}{s:Shared}(h:wpAny M A t Q E s)(hQ:∀ a s,Q a s->Q' a s):wpAny M A t Q' E s:=Z4z h hQ fun _ _ x=>x
section
variable {X:Cx}
def Qn(i:Nat):TE:=fun Y H Q=>∃ v,Y[i]?=some (some v)/\Q v H
def tC(v:V):TE:=fun _ H Q=>Q v H
theorem mD{i:Nat}{x:Str}{pos:Pos}(hN:X.N[i]?=some x)(hv:Vis X.env.scope x)(hd:(x==("__debug__":Str))=false:=by decide)(hcd:(x==("__classdict__":Str))=false:=by decide):PE X (.Name x pos) (Qn i):=by
 intro z0 s Y H Q I h;obtain⟨v,e,h⟩:=h;obtain⟨m,hn,hl⟩:=I.loc;obtain⟨u,r,l⟩:=hl i x v hN e hv;have fin:EP X z0 Y Q u s:=⟨v,H,I,r,h⟩;rcases l with⟨hk,hm⟩ | ⟨hk,c,hc,hcell⟩
 .exact wpAny_Name (wpAny_loadName_local I.ok.kind hk hn hm fin) hd
 .rcases hk with hk | hk
  .exact wpAny_Name (wpAny_loadName_cell I.ok.kind hk hc hcell fin) hd
  .exact wpAny_Name (wpAny_loadName_free I.ok.kind hk hc hcell fin hcd) hd
theorem Mj{i j pos}:PE X (.Constant (.int i) j pos) (tC (.int i)):=fun _ _ _ H _ I h=>wpAny_Constant_int ⟨.int i,H,I.tok _,⟨_,rfl⟩,h⟩
theorem QT{b j pos}:PE X (.Constant (.bool b) j pos) (tC (.bl b)):=fun _ _ _ H _ I h=>Constant_bool ⟨.bl b,H,I,rfl,h⟩
theorem Fb{j pos}:PE X (.Constant .none j pos) (tC .non):=fun _ _ _ H _ I h=>Constant_none ⟨.non,H,I,rfl,h⟩
theorem kW{x j pos}:PE X (.Constant (.str x) j pos) (tC (.str x)):=fun _ _ _ H _ I h=>Calls.Constant_str ⟨.str x,H,I.tok _,⟨_,rfl⟩,h⟩
def Gl(X:Cx)(x:Str):Prop:=X.env.kindOf x=some .globalImplicit
theorem fQ{E:Value->Shared->Prop}{z0:List (Addr×Obj)}{s:Shared}{Y:St}{H:Hp}{x:Str}{u:Value}{pos:Pos}{Q:Value->Shared->Prop}(I:Inv X z0 Y H s)(hg:Gl X x)(hm:X.mg x=some u)(h:Q u s)
  (hd:(x==("__debug__":Str))=false:=by decide):wpAny (model X.prog X.w) X.A (eval (.Name x pos) X.env) Q E s :=
 Calls.Name_function_global I.ok.kind hg (Calls.loadGlobal_global (by rw[I.ok.glob];exact I.mod.glob.keeps I.bk) hm h) hd
theorem jx{E:Value->Shared->Prop}{z0:List (Addr×Obj)}{s:Shared}{Y:St}{H:Hp}{x:Str}{u:Value}{pos:Pos}{Q:Value->Shared->Prop}(I:Inv X z0 Y H s)(hg:Gl X x)(hm:X.mg x=none)(hv:bootBuiltins x=some u)(h:Q u s)
  (hn:x≠"__name__":=by decide) (hd:(x==("__debug__":Str))=false:=by decide):wpAny (model X.prog X.w) X.A (eval (.Name x pos) X.env) Q E s:=by
 obtain⟨mb,h1,h2⟩:=I.mod.blt;exact Calls.Name_function_global I.ok.kind hg (Calls.loadGlobal_builtin (by rw[I.ok.glob];exact I.mod.glob.keeps I.bk) hm (by rw[I.ok.blt];exact h1.keeps I.bk) ((h2 x hn).trans hv) h) hd
theorem kY{x:Str}{v:V}{u:Value}{pos:Pos}(hg:Gl X x)(hm:X.mg x=some u)(r:RelV v u)(hd:(x==("__debug__":Str))=false:=by decide):PE X (.Name x pos) (tC v) :=
 fun _ _ _ H _ I h=>fQ I hg hm ⟨v,H,I,r,h⟩ hd
theorem rN{x:Str}{v:V}{u:Value}{pos:Pos}(hg:Gl X x)(hm:X.mg x=none)(hv:bootBuiltins x=some u)(r:RelV v u)(hn:x≠"__name__":=by decide)(hd:(x==("__debug__":Str))=false:=by decide):PE X (.Name x pos) (tC v) :=
 fun _ _ _ H _ I h=>jx I hg hm hv ⟨v,H,I,r,h⟩ hn hd
variable {a b:Expr} {ta tb:TE} {pos:Pos}
def PC(X:Cx)(op:CmpOp)(a b:Expr)(t:TE):Prop :=
  ∀ (z0 : List (Addr × Obj)) (s : Shared) (Y : St) (H : Hp) (Q : VK), Inv X z0 Y H s -> t Y H Q ->
    wpAny (model X.prog X.w) X.A (eval a X.env) (fun v s₁=>wpAny (model X.prog X.w) X.A (eval b X.env) (fun u s₂=>wpAny (model X.prog X.w) X.A (compareOp op v u) (EP X z0 Y Q) X.xe s₂) X.xe s₁) X.xe s
theorem ux(b:Expr){op:CmpOp}(h:op≠.In)(h2:op≠.NotIn):behindInMarks op b=false:=by
 have e1:(op==CmpOp.In)=false:=by cases op<;>first | rfl | exact absurd rfl h
 have e2:(op==CmpOp.NotIn)=false:=by cases op<;>first | rfl | exact absurd rfl h2
 cases b<;>simp[behindInMarks,e1,e2]
def ZR(ta:TE):TE:=fun Y H Q=>ta Y H fun x H1=>Q (.bl (decide (x=.non))) H1
theorem RelV.none_iff{x:V}{v:Value}(r:RelV x v):(v==Value.none)=decide (x=.non):=by
 cases x with
 | non=>cases r;rfl
 | bl _=>cases r;rfl
 | int _=>obtain⟨t,rfl⟩:=r;rfl
 | str _=>obtain⟨t,rfl⟩:=r;rfl
 | byt _=>obtain⟨t,rfl⟩:=r;rfl
 | flt _=>obtain⟨t,rfl⟩:=r;rfl
 | ref _=>cases r;rfl
 | ty _=>cases r;rfl
theorem Mp{j pos'}(ha:PE X a ta):PC X .Is a (.Constant .none j pos') (ZR ta):=by
 intro z0 s Y H Q I h;refine thn (ha z0 s Y H _ I h) fun v s1 ⟨x,H1,I1,r1,q1⟩=>?_;exact Constant_none (is_none_gen ⟨.bl _,H1,I1,by rw[r1.none_iff];rfl,q1⟩)
def tB(t:TE):TT:=fun Y H Q=>t Y H fun x H1=>∃ c,x=.bl c/\Q c H1
theorem Ml{op:CmpOp}{t:TE}(h:PC X op a b t)(h1:behindInMarks op b=false:=by first | exact ux _ (by decide) (by decide) | rfl):PE X (.Compare a [op] [b] pos) t:=fun z0 s Y H Q I hw=>wpAny_Compare1 (h z0 s Y H Q I hw) h1
theorem Eu{op:CmpOp}{t:TE}(h:PC X op a b t)(h1:behindInMarks op b=false:=by first | exact ux _ (by decide) (by decide) | rfl):PT X (.Compare a [op] [b] pos) (tB t):=by
 intro z0 s Y H Q I hw;refine wpAny_isTrue_Compare1 (thn (h z0 s Y H _ I hw) fun v s1 h1=>thn h1 fun u s2 h2=>thn h2 fun c s3 ⟨x,H1,I1,r1,q1⟩=>?_) h1;obtain⟨d,rfl,q⟩:=q1;cases r1;exact Y1z ⟨H1,I1,q⟩
theorem yc{e:Expr}{t:TE}(h:PE X e t)(he:∀ whole,isTrue e X.env whole=(do let v <- whole;standAt e.pos;holding [v] (truthy v)):=by intro _;rfl):PT X e (tB t):=by
 intro z0 s Y H Q I hw;refine isTrue_plain (thn (h z0 s Y H _ I hw) fun v s1 ⟨x,H1,I1,r1,q1⟩=>?_) (he _);obtain⟨d,rfl,q⟩:=q1;cases r1;exact Y1z ⟨H1,I1,q⟩
variable {tA tB':TT} {rest:List Expr}
def Z0(t u:TT):TT:=fun Y H Q=>t Y H fun c H1=>if c=true then u Y H1 Q else Q false H1
def tOr(t u:TT):TT:=fun Y H Q=>t Y H fun c H1=>if c=true then Q true H1 else u Y H1 Q
def ZP(t:TT):TT:=fun Y H Q=>t Y H fun c H1=>Q (!c) H1
theorem Hw(ha:PT X a tA):PW X (.BoolOp .And [a] pos) tA:=by
 intro wh z0 s Y H Q I h;refine isTrue_and (thn (ha z0 s Y H Q I h) fun c s1 e=>?_)
 cases c with
 | true=>exact isTrue_and_nil e
 | false=>exact e
theorem Es(ha:PT X a tA):PW X (.BoolOp .Or [a] pos) tA:=by
 intro wh z0 s Y H Q I h;refine isTrue_or (thn (ha z0 s Y H Q I h) fun c s1 e=>?_)
 cases c with
 | false=>exact isTrue_or_nil e
 | true=>exact e
theorem Et(ha:PT X a tA)(hb:PW X (.BoolOp .And (b::rest) pos) tB'):PW X (.BoolOp .And (a::b::rest) pos) (Z0 tA tB'):=by
 intro wh z0 s Y H Q I h;refine isTrue_and (thn (ha z0 s Y H _ I h) fun c s1 ⟨H1,I1,q1⟩=>?_)
 cases c with
 | true=>exact hb wh z0 s1 Y H1 Q I1 q1
 | false=>exact⟨H1,I1,q1⟩
theorem BZ(ha:PT X a tA)(hb:PW X (.BoolOp .Or (b::rest) pos) tB'):PW X (.BoolOp .Or (a::b::rest) pos) (tOr tA tB'):=by
 intro wh z0 s Y H Q I h;refine isTrue_or (thn (ha z0 s Y H _ I h) fun c s1 ⟨H1,I1,q1⟩=>?_)
 cases c with
 | true=>exact⟨H1,I1,q1⟩
 | false=>exact hb wh z0 s1 Y H1 Q I1 q1
theorem yd(ha:PT X a tA):PT X (.UnaryOp .Not a pos) (ZP tA):=by
 intro z0 s Y H Q I h;exact isTrue_not (ha z0 s Y H (fun c H1=>Q (!c) H1) I h)
def Qw(ta tb:TE):TE:=fun Y H Q=>ta Y H fun x H1=>∃ c,x=.bl c/\if c=true then tb Y H1 Q else Q (.bl false) H1
def ZM(ta tb:TE):TE:=fun Y H Q=>ta Y H fun x H1=>∃ c,x=.bl c/\if c=true then Q (.bl true) H1 else tb Y H1 Q
def Qp(ta:TE):TE:=fun Y H Q=>ta Y H fun x H1=>∃ c,x=.bl c/\Q (.bl (!c)) H1
theorem Mh{op}{t:TE}(h:PE X a t):PE X (.BoolOp op [a] pos) t:=fun z0 s Y H Q I hw=>BoolOp_one (h z0 s Y H Q I hw)
theorem Fe(ha:PE X a ta)(hb:PE X (.BoolOp .And (b::rest) pos) tb):PE X (.BoolOp .And (a::b::rest) pos) (Qw ta tb):=by
 intro z0 s Y H Q I h;refine BoolOp_and (thn (ha z0 s Y H _ I h) fun v s1 ⟨x,H1,I1,r1,q1⟩=>?_);obtain⟨c,rfl,q1⟩:=q1;cases r1;refine Y1z ?_
 cases c with
 | true=>exact hb z0 s1 Y H1 Q I1 q1
 | false=>exact⟨.bl false,H1,I1,rfl,q1⟩
theorem Mg(ha:PE X a ta)(hb:PE X (.BoolOp .Or (b::rest) pos) tb):PE X (.BoolOp .Or (a::b::rest) pos) (ZM ta tb):=by
 intro z0 s Y H Q I h;refine BoolOp_or (thn (ha z0 s Y H _ I h) fun v s1 ⟨x,H1,I1,r1,q1⟩=>?_);obtain⟨c,rfl,q1⟩:=q1;cases r1;refine Y1z ?_
 cases c with
 | false=>exact hb z0 s1 Y H1 Q I1 q1
 | true=>exact⟨.bl true,H1,I1,rfl,q1⟩
theorem Mi(ha:PE X a ta):PE X (.UnaryOp .Not a pos) (Qp ta):=by
 intro z0 s Y H Q I h;refine UnaryOp_ (thn (ha z0 s Y H _ I h) fun v s1 ⟨x,H1,I1,r1,q1⟩=>?_);obtain⟨c,rfl,q1⟩:=q1;cases r1;exact not_of (Y1z ⟨.bl (!c),H1,I1,rfl,q1⟩)
def tIf(t:TT)(ta tb:TE):TE:=fun Y H Q=>t Y H fun c H1=>if c=true then ta Y H1 Q else tb Y H1 Q
theorem ur{c:Expr}(hc:PT X c tA)(ha:PE X a ta)(hb:PE X b tb):PE X (.IfExp c a b pos) (tIf tA ta tb):=by
 intro z0 s Y H Q I h;refine wpAny_IfExp (thn (hc z0 s Y H _ I h) fun d s1 ⟨H1,I1,q1⟩=>?_)
 cases d with
 | true=>exact ha z0 s1 Y H1 Q I1 q1
 | false=>exact hb z0 s1 Y H1 Q I1 q1
end
def SqL(K:Z3)(H:Hp)(a:Addr)(xs:List V):Prop :=
 Rd H a (.lst xs) \/
  ∃ (o:Obj) (its:Array Value) (n:Nat),K.lookup a=some o/\o.cls=.type "list"/\o.dict=none/\o.data=.seq its n/\its.size<=sizeLine/\Vals xs its.toList
def SqT(K:Z3)(H:Hp)(a:Addr)(xs:List V):Prop :=
 Rd H a (.tup xs) \/
  ∃ (o:Obj) (its:Array Value) (n:Nat),K.lookup a=some o/\o.cls=.type "tuple"/\o.data=.seq its n/\its.size<=sizeLine/\Vals xs its.toList
def absV:Value->Option V
 | .none=>some .non
 | .bool b=>some (.bl b)
 | .int i _=>some (.int i)
 | .str x _=>some (.str x)
 | .bytes b _=>some (.byt b)
 | .float b _=>some (.flt b)
 | .ref a=>some (.ref a)
 | .type n=>some (.ty n)
 | _=>none
theorem RelV.abs{x:V}{u:Value}(r:RelV x u):absV u=some x:=by
 cases x with
 | non=>cases r;rfl
 | bl _=>cases r;rfl
 | int _=>obtain⟨t,rfl⟩:=r;rfl
 | str _=>obtain⟨t,rfl⟩:=r;rfl
 | byt _=>obtain⟨t,rfl⟩:=r;rfl
 | flt _=>obtain⟨t,rfl⟩:=r;rfl
 | ref _=>cases r;rfl
 | ty _=>cases r;rfl
theorem RelV.inj{x y:V}{u:Value}(r:RelV x u)(q:RelV y u):x=y:=C3z (r.abs.symm.trans q.abs)
theorem Vals.inj:∀ {xs ys:List V} {us:List Value},Vals xs us->Vals ys us->xs=ys
 | _,_,_,.nil,.nil=>rfl
 | _,_,_,.cons r t,.cons r' t'=>by rw[r.inj r',Vals.inj t t']
section
variable {X:Cx} {z0:List (Addr×Obj)} {Y:St} {H:Hp} {s:Shared} {a:Addr} {xs ys:List V}
theorem SqL.of{K:Z3}(h:H a=some (.lst xs)):SqL K H a xs:=.inl (.inl h)
theorem SqT.of{K:Z3}(h:H a=some (.tup xs)):SqT K H a xs:=.inl (.inl h)
theorem Inv.list(I:Inv X z0 Y H s)(h:SqL X.K H a xs):∃ its:List Value,Vals xs its/\PlainL s.heap a its.toArray/\xs.length<=sizeLine:=by
 rcases h with h | ⟨o,its,n,hk,hc,hd,hs,hz,r⟩
 .obtain⟨z,its,n,r,e⟩:=h.ok I.hok
  exact⟨its,r,⟨_,n,e,rfl,rfl,rfl⟩,z⟩
 .refine⟨its.toList,r,⟨o,n,I.kIn a o hk,hc,hd,by simpa using hs⟩,?_⟩
  have e:=r.length;simp only[Z0z] at e;omega
theorem Inv.tuple(I:Inv X z0 Y H s)(h:SqT X.K H a xs):∃ its:List Value,Vals xs its/\IsTup s.heap a its.toArray/\xs.length<=sizeLine:=by
 rcases h with h | ⟨o,its,n,hk,hc,hs,hz,r⟩
 .obtain⟨z,its,r,p⟩:=h.ok I.hok
  exact⟨its,r,p,z⟩
 .refine⟨its.toList,r,⟨o,I.kIn a o hk,hc,n,by simpa using hs⟩,?_⟩
  have e:=r.length;simp only[Z0z] at e;omega
theorem Inv.list_inj(I:Inv X z0 Y H s)(h:SqL X.K H a xs)(h':SqL X.K H a ys):xs=ys:=by
 obtain⟨its,r,⟨o,n,e,_,_,d⟩,_⟩:=I.list h;obtain⟨its',r',⟨o',n',e',_,_,d'⟩,_⟩:=I.list h';rw[e] at e';cases e';rw[d] at d';injection d' with d1 _
 have:its=its':=by simpa using congrArg Array.toList d1
 subst this;exact r.inj r'
theorem Inv.tuple_inj(I:Inv X z0 Y H s)(h:SqT X.K H a xs)(h':SqT X.K H a ys):xs=ys:=by
 obtain⟨its,r,⟨o,e,_,n,d⟩,_⟩:=I.tuple h;obtain⟨its',r',⟨o',e',_,n',d'⟩,_⟩:=I.tuple h';rw[e] at e';cases e';rw[d] at d';injection d' with d1 _
 have:its=its':=by simpa using congrArg Array.toList d1
 subst this;exact r.inj r'
end
abbrev Cx.wish(X:Cx)(E:Value->Shared->Prop):Cx:={ X with xe:=E }
abbrev Cx.nox(X:Cx):Cx:=X.wish fun _ _=>False
theorem Cx.Ok.wish{X:Cx}(ok:X.Ok)(E:Value->Shared->Prop):(X.wish E).Ok :=
 ⟨ok.mod,ok.kind,ok.glob,ok.blt,ok.above,ok.inj,ok.has,ok.cab,ok.hd,ok.frames,ok.stk,ok.exf,ok.bs,ok.bsz,ok.noex,ok.exfs,ok.funs,ok.frf⟩
theorem Cx.Ok.unwish{X:Cx}{E:Value->Shared->Prop}(ok:(X.wish E).Ok):X.Ok :=
 ⟨ok.mod,ok.kind,ok.glob,ok.blt,ok.above,ok.inj,ok.has,ok.cab,ok.hd,ok.frames,ok.stk,ok.exf,ok.bs,ok.bsz,ok.noex,ok.exfs,ok.funs,ok.frf⟩
section
variable {X:Cx} {z0:List (Addr×Obj)} {Y:St} {H:Hp} {s:Shared} {E:Value->Shared->Prop}
theorem Inv.wish(I:Inv X z0 Y H s)(E:Value->Shared->Prop):Inv (X.wish E) z0 Y H s:=⟨I.ok.wish E,I.os,I.bare,I.base,I.loc,I.cell,I.free,I.freeC,I.pin,I.hok,I.len⟩
theorem Inv.unwish(I:Inv (X.wish E) z0 Y H s):Inv X z0 Y H s:=⟨I.ok.unwish,I.os,I.bare,I.base,I.loc,I.cell,I.free,I.freeC,I.pin,I.hok,I.len⟩
theorem SP.unwish{D:Ends}{f:Flow}{s':Shared}(h:SP (X.wish E) z0 D f s'):SP X z0 D f s':=by
 cases f with
 | next=>obtain⟨Y',H',I,q⟩:=h;exact⟨Y',H',I.unwish,q⟩
 | brk=>obtain⟨Y',H',I,q⟩:=h;exact⟨Y',H',I.unwish,q⟩
 | cont=>obtain⟨Y',H',I,q⟩:=h;exact⟨Y',H',I.unwish,q⟩
 | ret u=>obtain⟨v,Y',H',I,r,q⟩:=h;exact⟨v,Y',H',I.unwish,r,q⟩
end
section
variable {X:Cx} {st:Stmt} {rest:List Stmt} {t u:TS} {e:Expr} {te:TE} {pos:Pos}
def K8:TS:=fun D Y H=>D.nx Y H
def ZJ(t u:TS):TS:=fun D Y H=>t { D with nx:=u D } Y H
theorem gR:PSs X [] K8:=fun _ _ Y H _ I h=>wpAny_execs_nil ⟨Y,H,I,h⟩
theorem aM(h1:PS X st t)(h2:PSs X rest u):PSs X (st::rest) (ZJ t u):=by
 intro z0 s Y H D I h;refine wpAny_execs_cons (thn (h1 z0 s Y H { D with nx:=u D } I h) fun f s1 q=>?_)
 cases f with
 | next =>
  obtain⟨Y',H',I',q⟩:=q;exact h2 z0 s1 Y' H' D I' q
 | ret v=>exact q
 | brk=>exact q
 | cont=>exact q
theorem bx(h1:PS X st t):PSs X [st] t:=by
 intro z0 s Y H D I h;refine wpAny_execs_cons (thn (h1 z0 s Y H D I h) fun f s1 q=>?_)
 cases f with
 | next=>exact wpAny_execs_nil q
 | ret v=>exact q
 | brk=>exact q
 | cont=>exact q
theorem Hz:PS X (.Pass pos) K8:=fun _ _ Y H _ I h=>wpAny_Pass ⟨Y,H,I,h⟩
theorem Inv.quiet{z0:List (Addr×Obj)}{Y:St}{H:Hp}{s:Shared}(I:Inv X z0 Y H s):interactive X.env=false:=by simp[interactive,I.ok.kind]
def Qt(te:TE):TS:=fun D Y H=>te Y H fun _ H1=>D.nx Y H1
theorem cP(he:PE X e te)(hs:swapsWith e none pos.line X.env=pure false:=by rfl):PS X (.Expr e pos) (Qt te):=by
 intro z0 s Y H D I h;exact wpAny_Expr_any (thn (he z0 s Y H _ I h) fun v s1 ⟨x,H1,I1,r1,q1⟩=>⟨Y,H1,I1,q1⟩) I.quiet hs
def ZK(te:TE):TS:=fun D Y H=>te Y H D.rt
theorem cU(he:PE X e te):PS X (.Return (some e) pos) (ZK te):=by
 intro z0 s Y H D I h;exact wpAny_Return_some (thn (he z0 s Y H _ I h) fun v s1 ⟨x,H1,I1,r1,q1⟩=>⟨x,Y,H1,I1,r1,q1⟩)
def Qo:TS:=fun D _ H=>D.rt .non H
theorem Hy:PS X (.Return none pos) Qo:=fun _ _ Y H _ I h=>wpAny_Return_none ⟨.non,Y,H,I,rfl,h⟩
def ZS(c:TT)(t u:TS):TS:=fun D Y H=>c Y H fun b H1=>if b=true then t D Y H1 else u D Y H1
theorem nM{c:Expr}{a b:List Stmt}{tc:TT}(hc:PT X c tc)(ha:PSs X a t)(hb:PSs X b u):PS X (.If c a b pos) (ZS tc t u):=by
 intro z0 s Y H D I h;refine wpAny_If (thn (hc z0 s Y H _ I h) fun d s1 ⟨H1,I1,q1⟩=>?_)
 cases d with
 | true=>exact ha z0 s1 Y H1 D I1 q1
 | false=>exact hb z0 s1 Y H1 D I1 q1
end
abbrev TG:=V->St->Hp->(St->Hp->Prop)->Prop
abbrev TGs:=List V->St->Hp->(St->Hp->Prop)->Prop
def PG(X:Cx)(target:Expr)(t:TG):Prop :=
  ∀ (z0 : List (Addr × Obj)) (s : Shared) (Y : St) (H : Hp) (v : V) (u : Value) (Q : St -> Hp -> Prop), Inv X z0 Y H s -> RelV v u -> t v Y H Q ->
    wpAny (model X.prog X.w) X.A (assign target X.env u) (fun _ s'=>∃ Y' H',Inv X z0 Y' H' s'/\Q Y' H') X.xe s
def PGs(X:Cx)(ts:List Expr)(t:TGs):Prop :=
  ∀ (z0 : List (Addr × Obj)) (s : Shared) (Y : St) (H : Hp) (vs : List V) (us : List Value) (Q : St -> Hp -> Prop), Inv X z0 Y H s -> Vals vs us -> t vs Y H Q ->
    wpAny (model X.prog X.w) X.A (assignInOrder ((assignEach ts X.env).map (·.2)) us) (fun _ s'=>∃ Y' H',Inv X z0 Y' H' s'/\Q Y' H') X.xe s
section
variable {X:Cx} {pos:Pos}
def NT(i:Nat):TG:=fun v Y H Q=>Q (Y.set i (some v)) H
theorem HN{i:Nat}{x:Str}(hN:X.N.Nodup)(hi:X.N[i]?=some x)(hx:Loc X.env.scope x)(hf:X.fn x=true\/X.env.scope.names.lookup x=some .local:=by first | exact .inl rfl | exact .inr rfl | assumption):PG X (.Name x pos) (NT i):=by
 intro z0 s Y H v u Q I r h;exact wpAny_assign_Name (iD I hN hi hx r (fun s' I'=>⟨_,H,I',h⟩) hf)
def gNil:TGs:=fun vs Y H Q=>vs=[]/\Q Y H
def WQ(t:TG)(u:TGs):TGs:=fun vs Y H Q=>∃ v r,vs=v::r/\t v Y H fun Y' H'=>u r Y' H' Q
theorem HJ:PGs X [] gNil:=by
 intro z0 s Y H vs us Q I r h;obtain⟨e,h⟩:=h;subst e;cases r;exact assignInOrder_nil ⟨Y,H,I,h⟩
theorem Cg{e:Expr}{es:List Expr}{t:TG}{u:TGs}(h1:PG X e t)(h2:PGs X es u)
  (hs:(assignEach (e::es) X.env).map (·.2)=assign e X.env::(assignEach es X.env).map (·.2):=by rfl):PGs X (e::es) (WQ t u):=by
 intro z0 s Y H vs us Q I r h;obtain⟨v,vr,e1,h⟩:=h;subst e1
 cases r with
 | cons r rr =>
  rw[hs];refine assignInOrder_cons (thn (h1 z0 s Y H _ _ _ I r h) fun _ s1 ⟨Y1,H1,I1,q1⟩=>?_);exact h2 z0 s1 Y1 H1 _ _ Q I1 rr q1
def gTup(K:Z3)(n:Nat)(t:TGs):TG:=fun v Y H Q=>∃ a xs,v=.ref a/\SqT K H a xs/\xs.length=n/\t xs Y H Q
theorem EY{es:List Expr}{k:Nat}{t:TGs}{n:Nat}(hc:X.calm=true)(h:PGs X es t)
  (hn:(assignEach es X.env).length=n:=by rfl) (hst:(assignEach es X.env).findIdx? (·.1)=none:=by rfl):PG X (.Tuple es k pos) (gTup X.K n t):=by
 intro z0 s Y H v u Q I r hw;obtain⟨a,xs,e1,hq,hl,hw⟩:=hw;subst e1;cases r;obtain⟨its,rv,ht,hz⟩:=I.tuple hq;refine assign_Tuple_tuple (I.ok.hd hc) ht (by simp[hn,<- hl,rv.length]) hst fun h' hx=>?_;have I1:Inv X z0 Y H { s with heap:=h' }:=I.kept (t':=s.toks) fun b o e=>hx b o (K4z (J4z e)) e;exact h z0 _ Y H xs _ Q I1 (by simpa using rv) hw
def Xi(te:TE)(g:TG):TS:=fun D Y H=>te Y H fun x H1=>g x Y H1 D.nx
theorem LK{tg e:Expr}{te:TE}{g:TG}(he:PE X e te)(hg:PG X tg g)(hs:swapsWithSole [tg] e pos.line X.env=pure false:=by rfl)(hw:swappedStores [tg] e X.env=pure none:=by rfl)
  (h1:(assignEach [tg] X.env).map (·.2)=[assign tg X.env]:=by rfl):PS X (.Assign [tg] e pos) (Xi te g):=by
 intro z0 s Y H D I h;refine wpAny_Assign_stores (thn (he z0 s Y H _ I h) fun v s1 ⟨x,H1,I1,r1,q1⟩=>?_) hs hw;rw[h1];exact thn (hg z0 s1 Y H1 x v _ I1 r1 q1) fun _ s2 q=>q
theorem jr{i:Nat}{x:Str}{e:Expr}{te:TE}{pos':Pos}(hN:X.N.Nodup)(hi:X.N[i]?=some x)(hx:Loc X.env.scope x)(he:PE X e te)(hs:swapsWith e (some (.Name x pos')) pos.line X.env=pure false:=by rfl)(hf:X.fn x=true\/X.env.scope.names.lookup x=some .local:=by first | exact .inl rfl | exact .inr rfl | assumption) :
  PS X (.Assign [.Name x pos'] e pos) (Xi te (NT i)):=by
 intro z0 s Y H D I h;refine wpAny_Assign_Name (thn (he z0 s Y H _ I h) fun v s1 ⟨y,H1,I1,r1,q1⟩=>?_) hs;exact iD I1 hN hi hx r1 (fun s2 I2=>⟨_,H1,I2,q1⟩) hf
def ZL(i j:Nat)(ta:TA):TS:=fun D Y H=>ta Y H fun vs H1=>∃ v w,vs=[v,w]/\D.nx ((Y.set i (some v)).set j (some w)) H1
theorem Ew{i j:Nat}{x y:Str}{a b:Expr}{ta:TA}{px py pt:Pos}{kt k2 pt2}(hc:X.calm=true)(hN:X.N.Nodup)(hi:X.N[i]?=some x)(hj:X.N[j]?=some y)(hij:i≠j)
  (hx:X.env.scope.names.lookup x=some .local) (hy:X.env.scope.names.lookup y=some .local) (ha:PA X [a,b] ta)
  (hw:swappedStores [.Tuple [.Name x px,.Name y py] kt pt] (.Tuple [a,b] k2 pt2) X.env=pure (some [x,y]))
  (hs:swapsWithSole [.Tuple [.Name x px,.Name y py] kt pt] (.Tuple [a,b] k2 pt2) pos.line X.env=pure false:=by rfl) :
  PS X (.Assign [.Tuple [.Name x px,.Name y py] kt pt] (.Tuple [a,b] k2 pt2) pos) (ZL i j ta):=by
 intro z0 s Y H D I h;rw[exec_Assign_arm];refine A5z (Z3z ?_);rw[hs];refine A5z (B5z ?_);rw[M5z (by decide)];refine A5z (Tuple_ (thn (ha _ z0 s Y H _ I h) fun us s1 ⟨vs,H1,I1,r1,q1⟩=>?_));obtain⟨v,w,e1,q1⟩:=q1;subst e1
 obtain⟨u1,u2,rfl,rv,rw'⟩:∃ u1 u2,us=[u1,u2]/\RelV v u1/\RelV w u2:=by
  cases r1 with
  | cons p q =>
   cases q with
   | cons p' q' =>
    cases q';exact⟨_,_,rfl,p,p'⟩
 refine Z1z ?_ (by show 2<=sizeLine;decide)
 have I2:Inv X z0 Y H1 { s1 with heap:=s1.heap.push { cls:=.type "tuple",data:=.seq [u1,u2].toArray } }:=I1.kept (t':=s1.toks) fun b o e=>Heap.get?_push_of_some _ e;rw[hw];refine A5z (B5z ?_);show wpAny (model X.prog X.w) X.A (do rule "assign.swapped-stores";let items <- unpackItems (.ref s1.heap.objs.size) 2 none;assignInOrder [fun v=>bindName X.env y v,fun v=>bindName X.env x v] items.reverse;pure Flow.next) _ _ _;refine A5z (C5z (A5z (unpackItems_tuple (items := #[u1,u2]) (I.ok.hd hc) (IsTup.new s1.heap _) fun h' hx'=>?_)));have I3:=I2.kept (h':=h') (t':=s1.toks) fun b o e=>hx' b o (K4z (J4z e)) e;show wpAny _ _ (assignInOrder [fun v=>bindName X.env y v,fun v=>bindName X.env x v] [u2,u1] >>=fun _=>pure Flow.next) _ _ _;refine A5z (assignInOrder_cons (wpAny_bindName (iD I3 hN hj (.inl hy) rw' (fun s2 I4=>?_) (.inr hy))));refine assignInOrder_cons (wpAny_bindName (iD I4 hN hi (.inl hx) rv (fun s3 I5=>assignInOrder_nil (B5z ?_)) (.inr hx)));rw[List.set_comm _ _ (J5z hij)] at I5;exact⟨_,H1,I5,q1⟩
end
section
variable {X:Cx} {pos:Pos}
end
structure It where
 go:Nat->Hp->Prop
 yld:Nat->Hp->V->Hp->Prop
 stop:Nat->Hp->Prop
def u9(X:Cx)(z0:List (Addr×Obj))(H:Hp)(b:Addr):Prop :=
 H b=none/\b≠X.env.locals/\b∉X.fs/\(b∈X.ex\/X.s₀.heap.objs.size<=b)/\(∀ x c,X.env.cells.lookup x=some c->c≠b)/\∀ p∈X.pn++z0,p.1≠b
theorem Inv.fpOk{X:Cx}{z0:List (Addr×Obj)}{Y:St}{H H':Hp}{s:Shared}{b:Addr}(I:Inv X z0 Y H s)(hb:s.heap.objs.size<=b)(hn:H' b=none):u9 X z0 H' b:=by
 refine⟨hn,N4z (G1z I.lt hb),I.nofs hb,.inr (L4z I.sz hb),fun x c e z=>?_,fun p hp z=>?_⟩
 .obtain⟨v,q⟩:=I.cell x c e
  exact absurd (G1z q.lt (by rw[z];exact hb)) (Y3z _)
 .exact absurd (G1z (J4z (I.pin p hp).1) (by rw[z];exact hb)) (Y3z _)
structure Turn (P:Program) (w:World) (K:Z3) (tg:Expr) (J:It) (fp:List Addr) (it:Addr) (tn:Nat->Heap->Prop):Prop where
 mem:it∈fp
 obj:∀ i h,tn i h->∀ b∈fp,∃ o,h.get? b=some o/\∀ v,o.data≠.cell v
 keep:∀ i h h',tn i h->(∀ b∈fp,∀ o,h.get? b=some o->h'.get? b=some o)->tn i h'
 item:∀ (X:Cx),X.prog=P->X.w=w->X.K=K->X.calm=true->∀ (i:Nat) (z0:List (Addr×Obj)) (s:Shared) (Y:St) (H:Hp) (E:Value->Shared->Prop),Inv X z0 Y H s->(∀ b∈fp,u9 X z0 H b)->tn i s.heap->J.go i H ->
  wpAny (model P w) X.A (pyNext (.ref it)) (fun r s1=>∃ u,r=some u /\
   wpAny (model P w) X.A (letOwnedTupleGo tg (.ref it) u) (fun _ s2=>∃ x H',Inv X z0 Y H' s2/\RelV x u/\J.yld i H x H'/\tn (i+1) s2.heap/\∀ b∈fp,H' b=none) E s1) E s
 done:∀ (X:Cx),X.prog=P->X.w=w->X.K=K->X.calm=true->∀ (i:Nat) (z0:List (Addr×Obj)) (s:Shared) (Y:St) (H:Hp) (E:Value->Shared->Prop),Inv X z0 Y H s->(∀ b∈fp,u9 X z0 H b)->tn i s.heap->J.stop i H ->
  wpAny (model P w) X.A (pyNext (.ref it)) (fun r s1=>r=none/\Inv X z0 Y H s1) E s
 self:∀ (A:Around) (i:Nat) (s:Shared) (Q:Value->Shared->Prop) (E:Value->Shared->Prop),tn i s.heap->Q (.ref it) s->wpAny (model P w) A (pyIter (.ref it)) Q E s
abbrev TI:=St->Hp->(It->Hp->Prop)->Prop
def PIE(X:Cx)(z0:List (Addr×Obj))(Y:St)(tg:Expr)(R:It->Hp->Prop)(itv:Value)(s2:Shared):Prop :=
 ∃ (it:Addr) (fp:List Addr) (tn:Nat->Heap->Prop) (J:It) (H':Hp),itv=.ref it/\Inv X z0 Y H' s2/\Turn X.prog X.w X.K tg J fp it tn/\tn 0 s2.heap/\(∀ b∈fp,u9 X z0 H' b)/\R J H'
def PI(X:Cx)(tg iter:Expr)(wi:TI):Prop :=
  ∀ (z0 : List (Addr × Obj)) (s : Shared) (Y : St) (H : Hp) (R : It -> Hp -> Prop), Inv X z0 Y H s -> wi Y H R ->
    wpAny (model X.prog X.w) X.A (eval iter X.env) (fun v s1=>wpAny (model X.prog X.w) X.A (pyIter v) (PIE X z0 Y tg R) X.xe s1) X.xe s
theorem vN{M:Model}{A:Around}{E:Value->Shared->Prop}{s:Shared}{tg:Expr}{it:Addr}{u:Value}{o:Obj}{n:String}{vs:Array Value}{Q:Unit->Shared->Prop}(ho:s.heap.get? it=some o)(hc:o.cls=.type n)(hd:o.data=.fields vs)
    (hn:["enumerate","zip","dict_itemiterator","dict_reverseitemiterator","odict_iterator","itertools.zip_longest","itertools.pairwise"].contains n=false) (hQ:Q () s):wpAny M A (letOwnedTupleGo tg (.ref it) u) Q E s:=by
  unfold letOwnedTupleGo
  cases tg<;>first
    | exact B5z hQ
    | (cases u<;>first
        | exact B5z hQ
        | (refine A5z (wpAny_load ho ?_)
           rw[hc,hd]
           show wpAny M A (if(["enumerate","zip","dict_itemiterator","dict_reverseitemiterator","odict_iterator","itertools.zip_longest","itertools.pairwise"].contains n&&vs[0]?==some (rawInt _))=true then _ else _) Q E s
           rw[M5z (by intro h;rw[hn,Bool.false_and] at h;cases h)]
           exact B5z hQ))
def Itl(K:Z3)(a:Addr):It :=
 ⟨fun i H=>∃ xs x,SqL K H a xs/\xs[i]?=some x,fun i H x H'=>H'=H/\∀ xs,SqL K H a xs->xs[i]?=some x,fun i H=>∃ xs,SqL K H a xs/\xs.length<=i⟩
def Itt(K:Z3)(a:Addr):It :=
 ⟨fun i H=>∃ xs x,SqT K H a xs/\xs[i]?=some x,fun i H x H'=>H'=H/\∀ xs,SqT K H a xs->xs[i]?=some x,fun i H=>∃ xs,SqT K H a xs/\xs.length<=i⟩
def Itr(lo:Int)(n:Nat):It:=⟨fun i _=>i<n,fun i H x H'=>H'=H/\x=.int (lo+i),fun i _=>n<=i⟩
theorem wL{P:Program}{w:World}{K:Z3}{tg:Expr}(a it:Addr):Turn P w K tg (Itl K a) [it] it (fun i h=>h.IsListIter it a i) where
 mem:=by simp
 obj:=fun i h st b hb=>by
  have e:b=it:=by simpa using hb
  subst e;obtain⟨o,e,c,d⟩:=st;exact⟨o,e,fun v z=>by rw[d] at z;cases z⟩
 keep:=fun i h h' st k=>st.at fun o e=>k it (by simp) o e
 item:=by
  intro X hP hw hK hc i z0 s Y H E I hf st hg;subst hP hw hK;obtain⟨xs,x,hq,hx⟩:=hg;obtain⟨its,rv,p,hz⟩:=I.list hq;obtain⟨u,hu,ru⟩:=rv.get hx;obtain⟨f0,f1,f2,f3,f4,f5⟩:=hf it (by simp);refine wpAny_pyNext_list_item st p.isList (x:=u) (by simpa using hu) fun h' st' sb=>?_;have I1:Inv X z0 Y H { s with heap:=h' }:=I.turned (t':=s.toks) (fun b o hb e=>(sb.2 b hb).trans e) f0 f1 f3 f4 f5;obtain⟨o,e,c,d⟩:=id st';exact⟨u,rfl,vN (s:={ s with heap:=h' }) e c d (by decide) ⟨x,H,I1,ru,⟨rfl,fun ys hy=>by rw[I.list_inj hy hq];exact hx⟩,st',fun b hb=>(hf b hb).1⟩⟩
 done:=by
  intro X hP hw hK hc i z0 s Y H E I hf st hg;subst hP hw hK;obtain⟨xs,hq,hx⟩:=hg;obtain⟨its,rv,p,hz⟩:=I.list hq;obtain⟨f0,f1,f2,f3,f4,f5⟩:=hf it (by simp);have hl:=rv.length;exact wpAny_pyNext_list_end (I.ok.hd hc) st p.isList (by simp;omega) fun h' eb=>⟨rfl,I.turned (t':=s.toks) (fun b o hb e=>eb b o hb e) f0 f1 f3 f4 f5⟩
 self:=fun _ _ _ _ _ st h=>wpAny_pyIter_listiter st h
theorem vm{P:Program}{w:World}{K:Z3}{tg:Expr}(a it:Addr):Turn P w K tg (Itt K a) [it] it (fun i h=>h.IsTupleIter it a i) where
 mem:=by simp
 obj:=fun i h st b hb=>by
  have e:b=it:=by simpa using hb
  subst e;obtain⟨o,e,c,d⟩:=st;exact⟨o,e,fun v z=>by rw[d] at z;cases z⟩
 keep:=fun i h h' st k=>st.at fun o e=>k it (by simp) o e
 item:=by
  intro X hP hw hK hc i z0 s Y H E I hf st hg;subst hP hw hK;obtain⟨xs,x,hq,hx⟩:=hg;obtain⟨its,rv,p,hz⟩:=I.tuple hq;obtain⟨u,hu,ru⟩:=rv.get hx;obtain⟨f0,f1,f2,f3,f4,f5⟩:=hf it (by simp);refine wpAny_pyNext_tuple_item st (show s.heap.IsTuple a its.toArray from p) (x:=u) (by simpa using hu) fun h' st' sb=>?_;have I1:Inv X z0 Y H { s with heap:=h' }:=I.turned (t':=s.toks) (fun b o hb e=>(sb.2 b hb).trans e) f0 f1 f3 f4 f5;obtain⟨o,e,c,d⟩:=id st';exact⟨u,rfl,vN (s:={ s with heap:=h' }) e c d (by decide) ⟨x,H,I1,ru,⟨rfl,fun ys hy=>by rw[I.tuple_inj hy hq];exact hx⟩,st',fun b hb=>(hf b hb).1⟩⟩
 done:=by
  intro X hP hw hK hc i z0 s Y H E I hf st hg;subst hP hw hK;obtain⟨xs,hq,hx⟩:=hg;obtain⟨its,rv,p,hz⟩:=I.tuple hq;obtain⟨f0,f1,f2,f3,f4,f5⟩:=hf it (by simp);have hl:=rv.length;exact wpAny_pyNext_tuple_end (I.ok.hd hc) st (show s.heap.IsTuple a its.toArray from p) (by simp;omega) fun h' eb=>⟨rfl,I.turned (t':=s.toks) (fun b o hb e=>eb b o hb e) f0 f1 f3 f4 f5⟩
 self:=fun _ _ _ _ _ st h=>wpAny_pyIter_tupleiter st h
theorem vo{P:Program}{w:World}{K:Z3}{tg:Expr}(it:Addr)(lo:Int)(n:Nat):Turn P w K tg (Itr lo n) [it] it (fun i h=>IsRangeIter h it (lo+(i:Nat)*1) ((n:Int)-(i:Nat)) 1) where
 mem:=by simp
 obj:=fun i h st b hb=>by
  have e:b=it:=by simpa using hb
  subst e
  exact⟨_,st,fun v z=>by
   have z':Data.fields _=Data.cell v:=z
   cases z'⟩
 keep:=fun i h h' st k=>k it (by simp) _ st
 item:=by
  intro X hP hw hK hc i z0 s Y H E I hf st hg;subst hP hw hK;obtain⟨f0,f1,f2,f3,f4,f5⟩:=hf it (by simp);have W:=Walks.range (prog:=X.prog) (w:=X.w) (I.ok.hd hc) it lo 1 n;refine W.item i s _ _ hg st fun v h' tk hv st' kk=>?_;obtain⟨t,rfl⟩:=hv;have I1:Inv X z0 Y H { s with heap:=h',toks:=tk }:=I.turned (fun b o hb e=>kk b o (by simpa using hb) e) f0 f1 f3 f4 f5;refine⟨_,rfl,vN (s:={ s with heap:=h',toks:=tk }) (n:="range_iterator") st' rfl rfl (by decide) ⟨.int (lo+i),H,I1,⟨t,?_⟩,⟨rfl,rfl⟩,st',fun b hb=>(hf b hb).1⟩⟩;rw[Int.mul_one]
 done:=by
  intro X hP hw hK hc i z0 s Y H E I hf st hg;subst hP hw hK;obtain⟨f0,f1,f2,f3,f4,f5⟩:=hf it (by simp);exact wpAny_pyNext_range_end (I.ok.hd hc) st (by have:n<=i:=hg;omega) fun h' eb=>⟨rfl,I.turned (t':=s.toks) (fun b o hb e=>eb b o hb e) f0 f1 f3 f4 f5⟩
 self:=fun _ _ _ _ _ st h=>wpAny_pyIter_rangeiter st h
section
variable {X:Cx} {tg:Expr}
def Wy(K:Z3)(tl:TE):TI:=fun Y H R=>tl Y H fun x H1=>∃ a,x=.ref a/\(∃ xs,SqL K H1 a xs)/\R (Itl K a) H1
def iTup(K:Z3)(tl:TE):TI:=fun Y H R=>tl Y H fun x H1=>∃ a,x=.ref a/\(∃ xs,SqT K H1 a xs)/\R (Itt K a) H1
theorem yq{l:Expr}{tl:TE}(hl:PE X l tl):PI X tg l (Wy X.K tl):=by
 intro z0 s Y H R I h;refine thn (hl z0 s Y H _ I h) fun v s1 ⟨x,H1,I1,r1,q1⟩=>?_;obtain⟨a,e,⟨xs,hq⟩,q⟩:=q1;subst e;cases r1;obtain⟨its,rv,p,hz⟩:=I1.list hq;refine wpAny_pyIter_list p.isList ?_;refine⟨s1.heap.objs.size,[s1.heap.objs.size],_,_,H1,rfl,I1.kept (t':=s1.toks) fun b o e=>Heap.get?_push_of_some _ e,wL a _,⟨_,Heap.get?_push_size _ rfl,rfl,rfl⟩,fun b hb=>?_,q⟩
 have e:b=s1.heap.objs.size:=by simpa using hb
 subst e;exact I1.fpOk (T4z _) (I1.hok.fresh (T4z _))
theorem LR{l:Expr}{tl:TE}(hl:PE X l tl):PI X tg l (iTup X.K tl):=by
 intro z0 s Y H R I h;refine thn (hl z0 s Y H _ I h) fun v s1 ⟨x,H1,I1,r1,q1⟩=>?_;obtain⟨a,e,⟨xs,hq⟩,q⟩:=q1;subst e;cases r1;obtain⟨its,rv,p,hz⟩:=I1.tuple hq;refine J1z (show s1.heap.IsTuple a its.toArray from p) ?_;refine⟨s1.heap.objs.size,[s1.heap.objs.size],_,_,H1,rfl,I1.kept (t':=s1.toks) fun b o e=>Heap.get?_push_of_some _ e,vm a _,⟨_,Heap.get?_push_size _ rfl,rfl,rfl⟩,fun b hb=>?_,q⟩
 have e:b=s1.heap.objs.size:=by simpa using hb
 subst e;exact I1.fpOk (T4z _) (I1.hok.fresh (T4z _))
theorem BX{z0:List (Addr×Obj)}{Y:St}{H:Hp}{s:Shared}{R:It->Hp->Prop}{E:Value->Shared->Prop}{lo hi:Int}{t u v:Tok}{tk:Nat}(I:Inv X z0 Y H s)(h1:-(2^62)<=lo)(h2:lo<2^62)(h3:-(2^62)<=hi)(h4:hi<2^62)
  (q:R (Itr lo (hi-lo).toNat) H):wpAny (model X.prog X.w) X.A (pyIter (.ref s.heap.objs.size)) (PIE X z0 Y tg R) E { s with heap:=s.heap.push { cls:=.type "range",data:=.fields #[.int lo t,.int hi u,.int 1 v] },toks:=tk }:=by
 refine wpAny_pyIter_range (IsRange.new ..) (small_one h1 h2 h3 h4) ?_;have I1:Inv X z0 Y H { s with heap:=s.heap.push { cls:=.type "range",data:=.fields #[.int lo t,.int hi u,.int 1 v] },toks:=tk }:=I.kept fun b o e=>Heap.get?_push_of_some _ e
 refine⟨(s.heap.push { cls:=.type "range",data:=.fields #[.int lo t,.int hi u,.int 1 v] }).objs.size,[(s.heap.push { cls:=.type "range",data:=.fields #[.int lo t,.int hi u,.int 1 v] }).objs.size],_,_,H,rfl,
  I1.kept (t':=tk) fun b o e=>Heap.get?_push_of_some _ e,vo _ lo (hi-lo).toNat,?_,fun b hb=>?_,q⟩
 .have e1:lo+((0:Nat):Int)*1=lo:=by simp
  have e2:(((hi-lo).toNat:Nat):Int)-((0:Nat):Int)=Builtin.Range.rangeSize lo hi 1:=by rw[rangeSize_one];split<;>omega
  show IsRangeIter _ _ (lo+((0:Nat):Int)*1) ((((hi-lo).toNat:Nat):Int)-((0:Nat):Int)) 1;rw[e1,e2];exact Heap.get?_push_size _ rfl
 .have e:b=(s.heap.push { cls:=.type "range",data:=.fields #[.int lo t,.int hi u,.int 1 v] }).objs.size:=by simpa using hb
  subst e;exact I1.fpOk (T4z _) (I1.hok.fresh (T4z _))
def Wx(ta:TA):TI:=fun Y H R=>ta Y H fun vs H1=>∃ j:Int,vs=[.int j] /\ -(2^62)<=j/\j<2^62/\R (Itr 0 j.toNat) H1
theorem yp{a:Expr}{ta:TA}{p pos:Pos}(hg:Gl X "range")(hm:X.mg "range"=none)(ha:PA X [a] ta)(hs:starEach [a] X.env=[(false,eval a X.env)]:=by rfl):PI X tg (.Call (.Name "range" p) [a] [] pos) (Wx ta):=by
 intro z0 s Y H R I h;refine Call_ (jx I hg hm boot_range (A0z (thn (ha pos z0 s Y H _ I h) fun us s1 ⟨vs,H1,I1,r1,q1⟩=>?_) hs rfl));obtain⟨j,e,q1,q2,q⟩:=q1;subst e
 cases r1 with
 | cons r rr =>
  cases rr;obtain⟨t,rfl⟩:=r;exact call_range_1 (BX I1 (by omega) (by omega) q1 q2 (by simpa using q))
def ZV(wi:TI)(g:TG)(tb:TS):TS:=fun D Y H=>wi Y H fun J H1=>∃ W:Nat->Nat->St->Hp->Prop,(∃ m,W 0 m Y H1)/\∀ i m Y H,W i m Y H ->
 (J.stop i H/\D.nx Y H)\/(J.go i H/\∃ N:St->Hp->Prop,(∀ Y' H',N Y' H'->∃ m',m'<m/\W (i+1) m' Y' H')/\∀ x H',J.yld i H x H'->g x Y H' fun Y2 H2=>tb { D with nx:=N,ct:=N,bk:=D.nx } Y2 H2)
def pU(fp:List Addr)(h:Heap):List (Addr×Obj):=fp.filterMap fun b=>(h.get? b).map fun o=>(b,o)
theorem gk{fp:List Addr}{h:Heap}{b:Addr}{o:Obj}(hb:b∈fp)(e:h.get? b=some o):(b,o)∈pU fp h:=List.mem_filterMap.mpr ⟨b,hb,by rw[e];rfl⟩
theorem yD{fp:List Addr}{h:Heap}{p:Addr×Obj}(hp:p∈pU fp h):p.1∈fp/\h.get? p.1=some p.2:=by
 obtain⟨b,hb,e⟩:=List.mem_filterMap.mp hp
 cases q:h.get? b with
 | none=>rw[q] at e;cases e
 | some o =>
  rw[q] at e;have e':(b,o)=p:=C3z e;subst e';exact⟨hb,q⟩
theorem Inv.pinned{z0:List (Addr×Obj)}{Y:St}{H:Hp}{s:Shared}{fp:List Addr}(I:Inv X z0 Y H s)(hf:∀ b∈fp,u9 X z0 H b)(ho:∀ b∈fp,∃ o,s.heap.get? b=some o/\∀ v,o.data≠.cell v):Inv X (z0++pU fp s.heap) Y H s :=
 I.pins_of fun p hp=>(List.mem_append.mp hp).elim (fun z=>I.pin p (N0z _ z)) fun z=>by
  obtain⟨hb,e⟩:=yD z;obtain⟨f0,f1,f2,_⟩:=hf p.1 hb;obtain⟨o,e',d⟩:=ho p.1 hb;rw[e] at e';cases e';exact⟨e,f0,f1,f2,d⟩
theorem Inv.unpinned{z0 pl:List (Addr×Obj)}{Y:St}{H:Hp}{s:Shared}(I:Inv X (z0++pl) Y H s):Inv X z0 Y H s:=I.pins_of fun p hp=>I.pin p (N0z _ (T0z _ hp))
theorem Ey{iter:Expr}{body:List Stmt}{wi:TI}{g:TG}{tb:TS}{pos:Pos}(hp:PassesOwn (model X.prog X.w) X.A X.env X.xe)(hc:X.calm=true)(hi:PI X tg iter wi)(hg:PG X tg g)(hb:PSs X body tb)
  (hs:∀ x,foldedSetIterable iter X.env x=pure x:=by intro _;rfl):PS X (.For tg iter body [] pos) (ZV wi g tb):=by
 intro z0 s Y H D I h;refine wpAny_For (thn (hi z0 s Y H _ I h) fun v s1 h1=>thn h1 fun itv s2 h2=>?_) hs;obtain⟨it,fp,tn,J,H2,e,I2,T,st2,f2,W,⟨m0,w0⟩,turn⟩:=h2;subst e;have stat:∀ {H':Hp},(∀ b∈fp,H' b=none)->∀ b∈fp,u9 X z0 H' b:=fun hn b hb=>⟨hn b hb,(f2 b hb).2⟩;refine codeAny_forLoop_any (fun n s'=>∃ i Y' H',Inv X z0 Y' H' s'/\tn i s'.heap/\(∀ b∈fp,H' b=none)/\W i n Y' H') ?_ m0 ⟨0,Y,H2,I2,st2,fun b hb=>(f2 b hb).1,w0⟩;rintro n s3 ⟨i,Y3,H3,I3,st3,fr3,w3⟩;rcases turn i n Y3 H3 w3 with⟨stop,qn⟩ | ⟨go,N,hN,step⟩
 .refine D3z hp (thn (T.done X rfl rfl rfl hc i z0 s3 Y3 H3 X.xe I3 (stat fr3) st3 stop) fun r s4 ⟨hr,I4⟩=>?_)
  subst hr;exact wpAny_execs_nil ⟨Y3,H3,I4,qn⟩
 .refine D3z hp (thn (T.item X rfl rfl rfl hc i z0 s3 Y3 H3 X.xe I3 (stat fr3) st3 go) fun r s4 ⟨u,hr,h4⟩=>?_)
  subst hr;refine D3z hp (thn h4 fun _ s5 ⟨x,H5,I5,r5,y5,st5,fr5⟩=>?_);have I5':=I5.pinned (stat fr5) (T.obj _ _ st5);refine D3z hp (thn (hg _ s5 Y3 H5 x u _ I5' r5 (step x H5 y5)) fun _ s6 ⟨Y6,H6,I6,q6⟩=>?_);refine D3z hp (thn (hb _ s6 Y6 H6 _ I6 q6) fun f s7 q7=>?_)
  have again:∀ {Y7:St} {H7:Hp},Inv X (z0++pU fp s5.heap) Y7 H7 s7->N Y7 H7->∃ m,m<n/\∃ i Y' H',Inv X z0 Y' H' s7/\tn i s7.heap/\(∀ b∈fp,H' b=none)/\W i m Y' H':=fun {Y7 H7} I7 n7=>by
   obtain⟨m',hm,w7⟩:=hN Y7 H7 n7;refine⟨m',hm,i+1,Y7,H7,I7.unpinned,T.keep _ _ _ st5 fun b hb o e=>(I7.pin (b,o) (N0z _ (N0z _ (gk hb e)))).1,fun b hb=>?_,w7⟩;obtain⟨o,e,d⟩:=T.obj _ _ st5 b hb;exact(I7.pin (b,o) (N0z _ (N0z _ (gk hb e)))).2.1
  cases f with
  | next=>obtain⟨Y7,H7,I7,n7⟩:=q7;exact again I7 n7
  | cont=>obtain⟨Y7,H7,I7,n7⟩:=q7;exact again I7 n7
  | brk=>obtain⟨Y7,H7,I7,q7⟩:=q7;exact⟨Y7,H7,I7.unpinned,q7⟩
  | ret v=>obtain⟨x7,Y7,H7,I7,r7,q7⟩:=q7;exact⟨x7,Y7,H7,I7.unpinned,r7,q7⟩
end
abbrev R2:=V->V->Hp->VK->Prop
def OpR(X:Cx)(f:Value->Value->Sem Value)(r:R2):Prop :=
  ∀ (z0 : List (Addr × Obj)) (s : Shared) (Y : St) (H : Hp) (x y : V) (v u : Value) (Q : VK), Inv X z0 Y H s -> RelV x v -> RelV y u -> r x y H Q ->
    wpAny (model X.prog X.w) X.A (f v u) (EP X z0 Y Q) X.xe s
def UnR(X:Cx)(f:Value->Sem Value)(r:V->Hp->VK->Prop):Prop :=
  ∀ (z0 : List (Addr × Obj)) (s : Shared) (Y : St) (H : Hp) (x : V) (v : Value) (Q : VK), Inv X z0 Y H s -> RelV x v -> r x H Q ->
    wpAny (model X.prog X.w) X.A (f v) (EP X z0 Y Q) X.xe s
def dw(X:Cx)(f:Value)(r:List V->Hp->VK->Prop):Prop :=
  ∀ (z0 : List (Addr × Obj)) (s : Shared) (Y : St) (H : Hp) (xs : List V) (us : List Value) (Q : VK), Inv X z0 Y H s -> Vals xs us -> r xs H Q ->
    wpAny (model X.prog X.w) X.A (call f us) (EP X z0 Y Q) X.xe s
def tOp(r:R2)(ta tb:TE):TE:=fun Y H Q=>ta Y H fun x H1=>tb Y H1 fun y H2=>r x y H2 Q
def tUn(r:V->Hp->VK->Prop)(ta:TE):TE:=fun Y H Q=>ta Y H fun x H1=>r x H1 Q
def rI(C:Int->Int->Prop)(g:Int->Int->V):R2:=fun x y H Q=>∃ i j,x=.int i/\y=.int j/\C i j/\Q (g i j) H
def rI0(g:Int->Int->V):R2:=fun x y H Q=>∃ i j,x=.int i/\y=.int j/\Q (g i j) H
def rU(g:Int->V):V->Hp->VK->Prop:=fun x H Q=>∃ i,x=.int i/\Q (g i) H
section
variable {X:Cx} {a b c:Expr} {ta tb tc:TE} {pos:Pos}
theorem W2(ha:PE X a ta)(hb:PE X b tb){z0:List (Addr×Obj)}{s:Shared}{Y:St}{H:Hp}{R:V->V->Hp->Prop}(I:Inv X z0 Y H s)
  (h:ta Y H fun x H1=>tb Y H1 fun y H2=>R x y H2) {Q:Value->Shared->Prop} {f:Value->Value->Sem Value}
  (hf:∀ v u s2 x y H2,Inv X z0 Y H2 s2->RelV x v->RelV y u->R x y H2->wpAny (model X.prog X.w) X.A (f v u) Q X.xe s2) :
  wpAny (model X.prog X.w) X.A (eval a X.env) (fun v s₁=>wpAny (model X.prog X.w) X.A (eval b X.env) (fun u s₂=>wpAny (model X.prog X.w) X.A (f v u) Q X.xe s₂) X.xe s₁) X.xe s:=by
 refine thn (ha z0 s Y H _ I h) fun v s1 ⟨x,H1,I1,r1,q1⟩=>?_;refine thn (hb z0 s1 Y H1 _ I1 q1) fun u s2 ⟨y,H2,I2,r2,q2⟩=>?_;exact hf v u s2 x y H2 I2 r1 r2 q2
theorem rJ{op:Operator}{r:R2}(ho:OpR X (binaryOp op) r)(ha:PE X a ta)(hb:PE X b tb):PE X (.BinOp a op b pos) (tOp r ta tb):=by
 intro z0 s Y H Q I h;exact wpAny_BinOp (W2 ha hb I h fun v u s2 x y H2 I2 rx ry q=>ho z0 s2 Y H2 x y v u Q I2 rx ry q)
theorem QS{op:UnaryOp}{r:V->Hp->VK->Prop}(ho:UnR X (unaryOp op) r)(ha:PE X a ta):PE X (.UnaryOp op a pos) (tUn r ta):=by
 intro z0 s Y H Q I h;exact UnaryOp_ (thn (ha z0 s Y H _ I h) fun v s1 ⟨x,H1,I1,r1,q1⟩=>ho z0 s1 Y H1 x v Q I1 r1 q1)
theorem opI{f:Value->Value->Sem Value}{C:Int->Int->Prop}{g:Int->Int->Int}
  (rule:∀ (i j:Int) (t u:Tok) (s:Shared) (Q:Value->Shared->Prop) (E:Value->Shared->Prop),C i j->Q (.int (g i j) s.toks) { s with toks:=s.toks+1 }->wpAny (model X.prog X.w) X.A (f (.int i t) (.int j u)) Q E s) :
  OpR X f (rI C fun i j=>.int (g i j)):=by
 intro z0 s Y H x y v u Q I rx ry h;obtain⟨i,j,rfl,rfl,hc,q⟩:=h;obtain⟨t,rfl⟩:=rx;obtain⟨t',rfl⟩:=ry;exact rule i j t t' s _ _ hc ⟨.int (g i j),H,I.tok _,⟨_,rfl⟩,q⟩
theorem Xl{f:Value->Value->Sem Value}{g:Int->Int->Int}
  (rule:∀ (i j:Int) (t u:Tok) (s:Shared) (Q:Value->Shared->Prop) (E:Value->Shared->Prop),Q (.int (g i j) s.toks) { s with toks:=s.toks+1 }->wpAny (model X.prog X.w) X.A (f (.int i t) (.int j u)) Q E s) :
  OpR X f (rI0 fun i j=>.int (g i j)):=by
 intro z0 s Y H x y v u Q I rx ry h;obtain⟨i,j,rfl,rfl,q⟩:=h;obtain⟨t,rfl⟩:=rx;obtain⟨t',rfl⟩:=ry;exact rule i j t t' s _ _ ⟨.int (g i j),H,I.tok _,⟨_,rfl⟩,q⟩
theorem Xm{f:Value->Value->Sem Value}{g:Int->Int->Bool}
  (rule:∀ (i j:Int) (t u:Tok) (s:Shared) (Q:Value->Shared->Prop) (E:Value->Shared->Prop),Q (.bool (g i j)) s->wpAny (model X.prog X.w) X.A (f (.int i t) (.int j u)) Q E s) :
  OpR X f (rI0 fun i j=>.bl (g i j)):=by
 intro z0 s Y H x y v u Q I rx ry h;obtain⟨i,j,rfl,rfl,q⟩:=h;obtain⟨t,rfl⟩:=rx;obtain⟨t',rfl⟩:=ry;exact rule i j t t' s _ _ ⟨.bl (g i j),H,I,rfl,q⟩
def CDiv(i j:Int):Prop:=0<j/\j<1073741824
def Xa(i j:Int):Prop:=(-(2^64)<i/\i<2^64)\/(-(2^64)<j/\j<2^64)
theorem Xa.ok{i j:Int}(h:Xa i j):IntMulOk i j:=by
 rcases h with⟨h1,h2⟩ | ⟨h1,h2⟩
 .exact .of_left (intBits_le_64 h1 h2)
 .exact .of_right (intBits_le_64 h1 h2)
theorem Mv:OpR X (binaryOp .Add) (rI0 fun i j=>.int (i+j)):=Xl fun _ _ _ _ _ _ _ q=>add_int q
theorem Mr:OpR X (binaryOp .Sub) (rI0 fun i j=>.int (i-j)):=Xl fun _ _ _ _ _ _ _ q=>sub_int q
theorem Ii:OpR X (binaryOp .FloorDiv) (rI CDiv fun i j=>.int (i / j)):=opI fun i j _ _ _ _ _ hc q=>by
 have h1:(0:Int)<j:=hc.1;have h2:j<1073741824:=hc.2;exact floordiv_int (by omega) (by rw[Int.fdiv_eq_ediv_of_nonneg i (by omega)];exact q) (.inl (PyProof.noPylong_small (by omega)))
theorem Mt:OpR X (binaryOp .Mod) (rI (fun _ j=>0<j) fun i j=>.int (i%j)):=opI fun i j _ _ _ _ _ hc q=>by
 have h1:(0:Int)<j:=hc;exact mod_int' (by omega) (by rw[Int.fmod_eq_emod_of_nonneg i (by omega)];exact q)
theorem unI{f:Value->Sem Value}{g:Int->Int}
  (rule:∀ (i:Int) (t:Tok) (s:Shared) (Q:Value->Shared->Prop) (E:Value->Shared->Prop),Q (.int (g i) s.toks) { s with toks:=s.toks+1 }->wpAny (model X.prog X.w) X.A (f (.int i t)) Q E s) :
  UnR X f (rU fun i=>.int (g i)):=by
 intro z0 s Y H x v Q I rx h;obtain⟨i,rfl,q⟩:=h;obtain⟨t,rfl⟩:=rx;exact rule i t s _ _ ⟨.int (g i),H,I.tok _,⟨_,rfl⟩,q⟩
theorem KY:UnR X (unaryOp .USub) (rU fun i=>.int (-i)):=unI fun _ _ _ _ _ q=>neg_int q
end
section
variable {X:Cx} {a b c:Expr} {ta tb tc:TE} {pos:Pos}
theorem FJ{z0:List (Addr×Obj)}{Y:St}{H:Hp}{s:Shared}{Q:VK}{k k':Bool}(I:Inv X z0 Y H s)(q:Q (.bl k) H)(e:k=k'):EP X z0 Y Q (.bool k') s:=by
 subst e;exact⟨.bl k,H,I,rfl,q⟩
theorem QV:OpR X (compareOp .Lt) (rI0 fun i j=>.bl (decide (i<j))):=Xm fun _ _ _ _ _ _ _ q=>lt_int q
theorem QW:OpR X (compareOp .LtE) (rI0 fun i j=>.bl (decide (i<=j))):=Xm fun _ _ _ _ _ _ _ q=>le_int q
theorem yx:OpR X (compareOp .In) (fun x y H Q=>∃ i j,x=.str i/\y=.str j/\Q (.bl (!(Builtin.Str.occurrences j i 0 j.length 1).isEmpty)) H):=by
 intro z0 s Y H x y v u Q I rx ry h;obtain⟨i,j,rfl,rfl,q⟩:=h;obtain⟨t,rfl⟩:=rx;obtain⟨t',rfl⟩:=ry;exact in_str (FJ I q rfl)
theorem Ig:OpR X (compareOp .IsNot) (fun x y H Q=>y=.non/\Q (.bl (!decide (x=.non))) H):=by
 intro z0 s Y H x y v u Q I rx ry h;obtain⟨rfl,q⟩:=h;cases ry;refine isnot_none_gen (FJ I q ?_)
 cases x<;>first
  | (cases rx;rfl)
  | (obtain⟨t,rfl⟩:=rx;rfl)
theorem rK{op:CmpOp}{r:R2}(ho:OpR X (compareOp op) r)(ha:PE X a ta)(hb:PE X b tb)(hm:behindInMarks op b=false):PE X (.Compare a [op] [b] pos) (tOp r ta tb):=by
 intro z0 s Y H Q I h;exact wpAny_Compare1 (W2 ha hb I h fun v u s2 x y H2 I2 rx ry q=>ho z0 s2 Y H2 x y v u Q I2 rx ry q) hm
def K6(t:TE):TT:=fun Y H Q=>t Y H fun x H'=>∃ k,x=.bl k/\Q k H'
theorem kO{op:CmpOp}{r:R2}(ho:OpR X (compareOp op) r)(ha:PE X a ta)(hb:PE X b tb)(hm:behindInMarks op b=false):PT X (.Compare a [op] [b] pos) (K6 (tOp r ta tb)):=by
 intro z0 s Y H Q I h
 refine wpAny_isTrue_Compare1 (thn (ha z0 s Y H _ I h) fun v s1 ⟨x,H1,I1,r1,q1⟩=>thn (hb z0 s1 Y H1 _ I1 q1) fun u s2 ⟨y,H2,I2,r2,q2⟩ =>
  thn (ho z0 s2 Y H2 x y v u _ I2 r1 r2 q2) fun c s3 ⟨z,H3,I3,r3,k,e,q3⟩=>?_) hm
 subst e;cases r3;exact Y1z ⟨H3,I3,q3⟩
def wZ(r r':R2)(ta tb tc:TE):TE:=fun Y H Q=>ta Y H fun x H1=>tb Y H1 fun y H2=>r x y H2 fun z H3=>∃ k,z=.bl k /\
 (if k=true then tc Y H3 fun w' H4=>r' y w' H4 Q else Q (.bl false) H3)
theorem Cr{op op':CmpOp}{r r':R2}(ho:OpR X (compareOp op) r)(ho':OpR X (compareOp op') r')(ha:PE X a ta)(hb:PE X b tb)(hc:PE X c tc)
  (hm:lastMarks [op,op'] [b,c]=false:=by with_unfolding_all rfl):PE X (.Compare a [op,op'] [b,c] pos) (wZ r r' ta tb tc):=by
 intro z0 s Y H Q I h
 refine Compare_chain (thn (ha z0 s Y H _ I h) fun v s1 ⟨x,H1,I1,r1,q1⟩=>chain_link (thn (hb z0 s1 Y H1 _ I1 q1) fun u s2 ⟨y,H2,I2,r2,q2⟩ =>
  thn (ho z0 s2 Y H2 x y v u _ I2 r1 r2 q2) fun d s3 ⟨z,H3,I3,r3,k,e,q3⟩=>?_)) hm
 subst e;cases r3;refine Y1z ?_
 cases k with
 | false=>exact ite_ff ⟨.bl false,H3,I3,rfl,q3⟩
 | true=>exact ite_tt (chain_last (thn (hc z0 s3 Y H3 _ I3 q3) fun w' s4 ⟨z',H4,I4,r4,q4⟩=>ho' z0 s4 Y H4 y z' u w' Q I4 r2 r4 q4))
theorem Ca{op op':CmpOp}{r r':R2}(ho:OpR X (compareOp op) r)(ho':OpR X (compareOp op') r')(ha:PE X a ta)(hb:PE X b tb)(hc:PE X c tc)
  (hm:lastMarks [op,op'] [b,c]=false:=by with_unfolding_all rfl):PT X (.Compare a [op,op'] [b,c] pos) (K6 (wZ r r' ta tb tc)):=by
 intro z0 s Y H Q I h
 refine isTrue_chain (thn (ha z0 s Y H _ I h) fun v s1 ⟨x,H1,I1,r1,q1⟩=>test_link (thn (hb z0 s1 Y H1 _ I1 q1) fun u s2 ⟨y,H2,I2,r2,q2⟩ =>
  thn (ho z0 s2 Y H2 x y v u _ I2 r1 r2 q2) fun d s3 ⟨z,H3,I3,r3,k,e,q3⟩=>?_)) hm
 subst e;cases r3;refine Y1z ?_
 cases k with
 | false =>
  obtain⟨k',e',q'⟩:=q3;cases e';exact ite_ff ⟨H3,I3,q'⟩
 | true =>
  refine ite_tt (test_last (thn (hc z0 s3 Y H3 _ I3 q3) fun w' s4 ⟨z',H4,I4,r4,q4⟩=>thn (ho' z0 s4 Y H4 y z' u w' _ I4 r2 r4 q4) fun d' s5 ⟨z2,H5,I5,r5,k2,e2,q5⟩=>?_));subst e2;cases r5;exact Y1z ⟨H5,I5,q5⟩
theorem qe:(sizeLine:Nat)<2^63:=by rw[U4z];decide
theorem vals1{x:V}{us:List Value}(r:Vals [x] us):∃ u,us=[u]/\RelV x u:=by
 cases r with
 | cons r1 r2=>cases r2;exact⟨_,rfl,r1⟩
end
structure ObjM (h:Heap) (x dx C:Addr) (mA:Str->Option Value):Prop where
 obj:h.get? x=some (W.instObj C dx)
 ns:h.Ns1 dx mA
 ne:dx≠x
theorem yN{h:Heap}{dx:Addr}{mA:Str->Option Value}(n:h.Ns1 dx mA):∃ od,h.get? dx=some od/\∀ name,W.lookIn name od=some (mA name):=by
 obtain⟨o,es,ep,ho,hd,hk,_,hm⟩:=n;refine⟨o,ho,fun name=>?_⟩;have e:=hm name;unfold nsFind findBy at e;rw[<- Array.find?_toList] at e;unfold W.lookIn;rw[hd];dsimp only;split
 .rename_i y q
  rw[q] at e;exact congrArg some e
 .rename_i q
  rw[q] at e
  have a:es.toList.any (·.refKey)=false:=by
   rw[List.any_eq_false];intro y hy;obtain⟨z,t,hkey⟩:=hk y (Array.mem_toList_iff.mp hy);simp[DictEntry.refKey,hkey]
  have a':¬ es.toList.any (·.refKey)=true:=by rw[a];exact K1z
  rw[M5z a'];exact congrArg some e
theorem ObjM.look{h:Heap}{x dx C:Addr}{mA:Str->Option Value}(I:ObjM h x dx C mA):∃ od,W.InstAt h x (W.instObj C dx) C (some od)/\∀ name,W.lookIn name od=some (mA name) :=
 let ⟨od,ho,hl⟩:=yN I.ns
 ⟨od,⟨I.obj,rfl,rfl,ho⟩,hl⟩
section
variable {prog:Program} {w:World} {A:Around} {E:Value->Shared->Prop} {s:Shared} {K:Z3} {x dx C f:Addr} {mA:Str->Option Value} {name:Str} {v:Value}
theorem get_map{expr:Bool}{Q:Value->Shared->Prop}(X:K.In s.heap)(I:ObjM s.heap x dx C mA)(hg:W.plainGet K C name=true)(hh:W.hasDictIn K C=true)
  (ha:W.findIn K (.ref C) name=some none) (hv:mA name=some v) (hv':W.handedIn v=true) (h:Q v { s with toks:=s.toks+1 }) :
  wpAny (model prog w) A (getAttr (.ref x) name expr) Q E s:=by
 obtain⟨od,J,hl⟩:=I.look;exact W.get_value X J (A1z hg).1 (W.findObj_own hh ha rfl (by rw[hl,hv])) hv' h
theorem Dl{pl:Sem Bool}{Q:Value×List Value->Shared->Prop}(X:K.In s.heap)(I:ObjM s.heap x dx C mA)(hg:W.plainGet K C name=true)
  (hf:W.findIn K (.ref C) name=some (some (.ref f))) (ht:W.isFn K (.ref f)=true) (hv:mA name=none) (h:Q (.ref f,[.ref x]) s) :
  wpAny (model prog w) A (getMethod (.ref x) name pl) Q E s:=by
 obtain⟨od,J,hl⟩:=I.look;exact W.method_fn X J (A1z hg).1 (A1z hg).2 hf (beq_iff_eq.mp ht) (by show(W.lookIn name od).map (·.isSome)=some false;rw[hl,hv];rfl) h
theorem G3{ns:List Str}{Q:Unit->Shared->Prop}(X:K.In s.heap)(I:ObjM s.heap x dx C mA)
  (hs:W.findIn K (.ref C) "__setattr__"=some (some (.builtin "object.__setattr__"))) (hp:W.plainOver K C=true) (ht:W.takerIn K C name=some none) (hh:W.hasDictIn K C=true)
  (hw:PySem.Within mA ns) (hsz:ns.length<=sizeLine)
  (h:∀ h',ObjM h' x dx C (fun y=>if y=name then some v else mA y)->Heap.SameBut dx s.heap h'->Q () { s with heap:=h',toks:=s.toks+2 }) :
  wpAny (model prog w) A (setAttr (.ref x) name v) Q E s:=by
 obtain⟨od,J,hl⟩:=I.look;refine W.set_plain X J hs (W.osa_open (s:={ s with toks:=s.toks+1 }) (r:=none) X J hp ht fun b=>?_);obtain⟨cd,hc,hd'⟩:=W.any_some hh;have hx:s.heap.get? x=some ⟨.ref C,some dx,.plain,#[]⟩:=I.obj;refine A5z (B5z (A5z (A5z (wpAny_loadPart hx (A5z (W.Looks.here (s:={ s with toks:=s.toks+1 }) (W.looks_clsIn X hc) ?_))))));rw[hd'];refine B5z (a:=some dx) (A5z (B5z (A5z ?_)));refine wpAny_nsSet1 (s:={ s with toks:=s.toks+1 }) I.ns fun h' hn2 hs2=>?_;obtain⟨oD,esD,epD,hoD,hdD,hcD⟩:=hn2.count (PySem.Within.cons name v hw);refine A5z (wpAny_lookBehind hoD (by rw[hdD];exact pastItsLine_dict (L4z hcD (by rw[M2z];omega))) ?_);exact B5z (h _ ⟨(hs2.2 _ (J5z I.ne)).trans I.obj,hn2,I.ne⟩ hs2)
theorem CZ{R:Result->Shared->Prop}{vs:List Value}{kw:List (Str×Value)}(X:K.In s.heap)(hm:W.makesIn K C=true)
  (hi:W.findIn K (.ref C) "__init__"=some (some (.ref f))) (hf:W.typeIn K (.ref f)=some (.type "function"))
  (h : codeAny (model prog w) (A.under (.builtin "type.__call__" ⟨.ref C :: vs, kw⟩)) (.call (.ref f) ⟨.ref (s.heap.objs.size + 1) :: vs, kw⟩) (W.InitBack (s.heap.objs.size + 1) R)
   { s with heap:=(s.heap.push W.emptyDict).push (W.instObj C s.heap.objs.size) }) :
  codeAny (model prog w) A (.call (.ref C) ⟨vs,kw⟩) R s:=by
 obtain⟨hh,g,d,t,os⟩:=s;exact W.make_core (W.makes_of X hm) (U0z X hi) (fun self=>W.bind_fn X self hf) (.inl rfl) h
end
def nH(f:Str)(v:V):List (Str×V)->List (Str×V)
 | []=>[(f,v)]
 | (g,x)::r=>if g=f then(g,v)::r else(g,x)::nH f v r
theorem lA(f g:Str)(v:V):∀ fs:List (Str×V),(nH f v fs).lookup g=if g=f then some v else fs.lookup g
 | []=>by
  show List.lookup g [(f,v)]=_
  by_cases h:g=f
  .have hb:(g==f)=true:=beq_iff_eq.mpr h
   simp only[List.lookup,hb,L5z h]
  .have hb:(g==f)=false:=C1z.mpr h
   simp only[List.lookup,hb,M5z h]
 | (k,x)::r=>by
  have ih:=lA f g v r;rw[show nH f v ((k,x)::r)=(if k=f then(k,v)::r else(k,x)::nH f v r) from rfl]
  by_cases hk:k=f
  .rw[L5z hk]
   by_cases h:g=k
   .have hb:(g==k)=true:=beq_iff_eq.mpr h
    simp only[List.lookup,hb,L5z (h.trans hk)]
   .have hb:(g==k)=false:=C1z.mpr h
    simp only[List.lookup,hb,M5z (fun e:g=f=>h (e.trans hk.symm))]
  .rw[M5z hk]
   by_cases h:g=k
   .have hb:(g==k)=true:=beq_iff_eq.mpr h
    simp only[List.lookup,hb,M5z (fun e:g=f=>hk (h.symm.trans e))]
   .have hb:(g==k)=false:=C1z.mpr h
    simp only[List.lookup,hb];exact ih
theorem lC(f:Str)(v:V):∀ fs:List (Str×V),f∈(nH f v fs).map (·.1)/\∀ g,g∈fs.map (·.1)->g∈(nH f v fs).map (·.1)
 | []=>⟨by simp[nH],fun g h=>by simp at h⟩
 | (k,x)::r=>by
  obtain⟨i1,i2⟩:=lC f v r;rw[show nH f v ((k,x)::r)=(if k=f then(k,v)::r else(k,x)::nH f v r) from rfl]
  by_cases hk:k=f
  .rw[L5z hk]
   subst hk;exact⟨by simp,fun g h=>by simpa using h⟩
  .rw[M5z hk]
   refine⟨?_,fun g h=>?_⟩
   .rw[A4z]
    exact S0z _ i1
   .rw[A4z] at h ⊢
    rcases H4z.mp h with e | e
    .exact H4z.mpr (.inl e)
    .exact S0z _ (i2 g e)
theorem lB(f:Str)(v:V):∀ fs:List (Str×V),(nH f v fs).length<=fs.length+1
 | []=>by simp[nH]
 | (k,x)::r=>by
  have ih:=lB f v r;rw[show nH f v ((k,x)::r)=(if k=f then(k,v)::r else(k,x)::nH f v r) from rfl]
  by_cases hk:k=f
  .rw[L5z hk,M2z,M2z];omega
  .rw[M5z hk,M2z,M2z];omega
theorem mZ.some_of{v:V}{o:Option Value}(r:mZ (some v) o):∃ u,o=some u/\RelV v u:=by
 cases o with
 | none=>exact(show False from r).elim
 | some u=>exact⟨u,rfl,r⟩
theorem mZ.none_of{o:Option Value}(r:mZ none o):o=none:=by
 cases o with
 | none=>rfl
 | some u=>exact(show False from r).elim
theorem zE{v:V}{u:Value}(r:RelV v u):W.handedIn u=true:=by
 cases v with
 | non=>cases (show u=Value.none from r);rfl
 | bl b=>cases (show u=Value.bool b from r);rfl
 | int i=>obtain⟨t,e⟩:=(show ∃ t,u=Value.int i t from r);cases e;rfl
 | str x=>obtain⟨t,e⟩:=(show ∃ t,u=Value.str x t from r);cases e;rfl
 | byt b=>obtain⟨t,e⟩:=(show ∃ t,u=Value.bytes b t from r);cases e;rfl
 | flt b=>obtain⟨t,e⟩:=(show ∃ t,u=Value.float b t from r);cases e;rfl
 | ref a=>cases (show u=Value.ref a from r);rfl
 | ty n=>cases (show u=Value.type n from r);rfl
section
variable {P:Program} {w:World} {H H':Hp} {h h':Heap} {a C dx:Addr} {fs fs':List (Str×V)}
theorem sE(hok:HOk P w H h)(e:H a=some (.ins C dx fs)):∃ mA,ObjM h a dx C mA/\(∀ f,mZ (fs.lookup f) (mA f))/\PySem.Within mA (fs.map (·.1))/\fs.length<=1000/\H dx=some (.own a):=by
 obtain⟨d,z,ne,ob,mA,n,r,q⟩:=(show cJ P w H h a (.ins C dx fs) from hok a _ e);exact⟨mA,⟨ob,n,ne⟩,r,q,z,d⟩
end
structure Cls (K:Z3) (C:Addr):Prop where
 pg:W.plainGet K C Str.empty=true
 hd:W.hasDictIn K C=true
 po:W.plainOver K C=true
 sa:W.findIn K (.ref C) "__setattr__"=some (some (.builtin "object.__setattr__"))
theorem Cls.get{K:Z3}{C:Addr}(c:Cls K C)(f:Str):W.plainGet K C f=true:=c.pg
def je(K:Z3)(C:Addr)(f:Str):Prop:=W.findIn K (.ref C) f=some none
theorem je.taker{K:Z3}{C:Addr}{f:Str}(n:je K C f):W.takerIn K C f=some none:=by
 unfold W.takerIn;rw[show W.findIn K (.ref C) f=some none from n];rfl
structure Meth (K:Z3) (C:Addr) (m:Str) (f:Addr):Prop where
 at_:W.findIn K (.ref C) m=some (some (.ref f))
 fn:W.isFn K (.ref f)=true
 kp:W.keepIn K (.ref f)=true
section
variable {X:Cx} {z0:List (Addr×Obj)} {Y:St} {H:Hp} {s:Shared} {a C dx:Addr} {fs:List (Str×V)} {f:Str} {v:V} {A:Around} {E:Value->Shared->Prop}
theorem vO{b:Bool}{Q:Value->Shared->Prop}(I:Inv X z0 Y H s)(e:H a=some (.ins C dx fs))(c:Cls X.K C)(n:je X.K C f)(l:fs.lookup f=some v)
  (h:∀ u s',Inv X z0 Y H s'->RelV v u->Q u s'):wpAny (model X.prog X.w) A (getAttr (.ref a) f b) Q E s:=by
 obtain⟨mA,O,r,_,_,_⟩:=sE I.hok e;obtain⟨u,hu,ru⟩:=mZ.some_of (v:=v) (o:=mA f) (by rw[<- l];exact r f);exact get_map I.kIn O (c.get f) c.hd n hu (zE ru) (h u _ (I.tok _) ru)
theorem mQ{m:Str}{g:Addr}{pl:Sem Bool}{Q:Value×List Value->Shared->Prop}(I:Inv X z0 Y H s)(e:H a=some (.ins C dx fs))(c:Cls X.K C)(k:Meth X.K C m g)(l:fs.lookup m=none)
  (h:Q (.ref g,[.ref a]) s):wpAny (model X.prog X.w) A (getMethod (.ref a) m pl) Q E s:=by
 obtain⟨mA,O,r,_,_,_⟩:=sE I.hok e;have hn:mA m=none:=mZ.none_of (by rw[<- l];exact r m);exact Dl I.kIn O (c.get m) k.at_ k.fn hn h
theorem vB{y:V}{u:Value}{Q:Unit->Shared->Prop}(I:Inv X z0 Y H s)(e:H a=some (.ins C dx fs))(c:Cls X.K C)(n:je X.K C f)(hl:fs.length<1000)(ry:RelV y u)
  (h:∀ s',Inv X z0 Y (upd H a (.ins C dx (nH f y fs))) s'->Q () s'):wpAny (model X.prog X.w) A (setAttr (.ref a) f u) Q E s:=by
 obtain⟨mA,O,r,wi,_,ho⟩:=sE I.hok e
 have hz:(fs.map (·.1)).length<=sizeLine:=by rw[E3z,U4z];omega
 refine G3 I.kIn O c.sa c.po n.taker c.hd wi hz fun h' O' sb=>h _ ?_;have hd:∃ o,h'.get? dx=some o:=let ⟨o,_,_,e',_⟩:=O'.ns;⟨o,e'⟩;refine I.write (x:=a) (e:=dx) (by rw[e];exact True.intro) (.inr ho) (fun b q hb z=>(sb.2 b hb).trans z) hd ?_;refine⟨by rw[aj O.ne];exact ho,?_,O.ne,O'.obj,_,O'.ns,fun g=>?_,fun g hg=>?_⟩
 .have:=lB f y fs;omega
 .show mZ ((nH f y fs).lookup g) (if g=f then some u else mA g)
  rw[lA]
  by_cases q:g=f
  .rw[L5z q,L5z q];exact ry
  .rw[M5z q,M5z q];exact r g
 .by_cases q:g=f
  .rw[q];exact(lC f y fs).1
  .refine(lC f y fs).2 g (wi g fun z=>hg ?_)
   show(if g=f then some u else mA g)=none;rw[M5z q];exact z
theorem Inv.made(I:Inv X z0 Y H s):Inv X z0 Y (upd (upd H s.heap.objs.size (.own (s.heap.objs.size+1))) (s.heap.objs.size+1) (.ins C s.heap.objs.size []))
  { s with heap:=(s.heap.push W.emptyDict).push (W.instObj C s.heap.objs.size) }:=by
 have e1:(s.heap.push W.emptyDict).get? s.heap.objs.size=some W.emptyDict:=Heap.get?_push_size s.heap rfl
 have e2:((s.heap.push W.emptyDict).push (W.instObj C s.heap.objs.size)).get? (s.heap.objs.size+1)=some (W.instObj C s.heap.objs.size):=by
  have:=Heap.get?_push_size (s.heap.push W.emptyDict) (o:=W.instObj C s.heap.objs.size) rfl
  rwa [T3z] at this
 have e3:(s.heap.push W.emptyDict).Ns s.heap.objs.size (fun _=>none):=⟨W.emptyDict,#[],_,e1,rfl,(fun e he=>absurd he (by simp)),fun _=>rfl⟩;have I1:=I.laid (a:=s.heap.objs.size) (o:=.own (s.heap.objs.size+1)) (h':=s.heap.push W.emptyDict) (t':=s.toks) (fun b u q=>Heap.get?_push_of_some _ q) (T4z _) ⟨_,e1⟩;refine I1.laid (a:=s.heap.objs.size+1) (o:=.ins C s.heap.objs.size []) (t':=s.toks) (fun b u q=>Heap.get?_push_of_some _ q) (Nat.le_of_eq (T3z _ _)) ?_;have ne:s.heap.objs.size≠s.heap.objs.size+1:=K4z (N2z _);refine⟨by rw[aj ne,aB],V4z _,ne,e2,fun _=>none,(Heap.Ns1.of_empty e3).at fun o q=>Heap.get?_push_of_some _ q,fun _=>True.intro,fun y hy=>absurd rfl hy⟩
theorem Ke{prog:Program}{w:World}{env:Env}{e:Expr}{f:Str}{pos:Pos}{s:Shared}{Q:Value->Shared->Prop}(hb:attributeBase e f env (eval e env)=eval e env)
  (h:wpAny (model prog w) A (eval e env) (fun o s₁=>wpAny (model prog w) A (getAttr o f true) Q E s₁) E s):wpAny (model prog w) A (eval (.Attribute e f pos) env) Q E s :=
 Attribute_any_ h (by rw[arm_eval_Attribute,hb])
end
def ZW(K:Z3)(ta:TE)(f:Str):TE:=fun Y H Q=>ta Y H fun x H1=>∃ a C dx fs v,x=.ref a/\H1 a=some (.ins C dx fs)/\Cls K C/\je K C f/\fs.lookup f=some v/\Q v H1
def Z4(K:Z3)(ta tv:TE)(f:Str):TS:=fun D Y H=>tv Y H fun y H1=>ta Y H1 fun x H2=>∃ a C dx fs,x=.ref a/\H2 a=some (.ins C dx fs)/\Cls K C/\je K C f/\fs.length<1000 /\
 D.nx Y (upd H2 a (.ins C dx (nH f y fs)))
section
variable {X:Cx} {o e value:Expr} {f:Str} {pos pos' tpos:Pos} {ta tv:TE}
theorem gK(he:PE X e ta)(hb:attributeBase e f X.env (eval e X.env)=eval e X.env):PE X (.Attribute e f pos) (ZW X.K ta f):=by
 intro z0 s Y H Q I h;refine Ke hb (thn (he z0 s Y H _ I h) fun u s1 ⟨x,H1,I1,rx,a,C,dx,fs,v,ex,ea,c,n,l,q⟩=>?_);subst ex;obtain rfl:u=Value.ref a:=rx;exact vO I1 ea c n l fun u' s2 I2 ru=>⟨v,H1,I2,ru,q⟩
theorem uh(ha:PE X o ta)(hv:PE X value tv)(hs:swapsWith value (some (.Attribute o f pos')) pos.line X.env=pure false):PS X (.Assign [.Attribute o f pos'] value pos) (Z4 X.K ta tv f):=by
 intro z0 s Y H D I h;refine plainObj_wpAny_Assign_Attribute (thn (hv z0 s Y H _ I h) fun u s1 ⟨y,H1,I1,ry,q⟩=>thn (ha z0 s1 Y H1 _ I1 q) fun ov s2 ⟨x,H2,I2,rx,a,C,dx,fs,ex,ea,c,n,l,q2⟩=>?_) hs;subst ex;obtain rfl:ov=Value.ref a:=rx;exact vB I2 ea c n l ry fun s3 I3=>⟨Y,_,I3,q2⟩
end
section
variable {X:Cx} {z0:List (Addr×Obj)} {Y:St} {H:Hp} {s:Shared} {A:Around} {E:Value->Shared->Prop} {Q:Value->Shared->Prop} {c:Value} {b:Bool}
end
structure Room (k:Nat) (A:Around):Prop where
 hd:A.handled=none
 dp:A.depth+3*k+5<recursionLimit
 un:A.units+16*k+200<cLine
theorem Room.mono{j k:Nat}{A:Around}(r:Room k A)(h:j<=k):Room j A:=⟨r.hd,by have:=r.dp;omega,by have:=r.un;omega⟩
theorem Room.deeper{k:Nat}{A:Around}(r:Room (k+1) A)(env:Env):Room k (A.deeper env) :=
 ⟨r.hd,by have:=r.dp;show A.depth+1+3*k+5<_;omega,by have:=r.un;show A.units+3+16*k+200<_;omega⟩
theorem vL{A:Around}{C:Addr}{us:List Value}{kw:List (Str×Value)}:(A.under (.builtin "type.__call__" ⟨.ref C::us,kw⟩)).depth=A.depth+1:=by
 first | rfl | simp[Around.under,Code.weight,Code.isCreation,Code.isGuard,Code.isCaller,Code.frames,Code.isFrame,guardIds]
theorem vK{A:Around}{C:Addr}{us:List Value}{kw:List (Str×Value)}:(A.under (.builtin "type.__call__" ⟨.ref C::us,kw⟩)).units=A.units+1:=by
 first | rfl | simp[Around.under,Code.cUnits,Code.frames,Code.isFrame]
theorem Room.make{k:Nat}{A:Around}(r:Room (k+1) A)(C:Addr)(us:List Value)(kw:List (Str×Value)):Room k (A.under (.builtin "type.__call__" ⟨.ref C::us,kw⟩)) :=
 ⟨r.hd,by have:=r.dp;rw[vL];omega,by have:=r.un;rw[vK];omega⟩
theorem Room.depth{k:Nat}{A:Around}(r:Room k A):A.depth<recursionLimit:=by have:=r.dp;omega
theorem Room.units{k:Nat}{A:Around}(r:Room k A):A.units+64<cLine:=by have:=r.un;omega
def K7:TA:=fun _ H Q=>Q [] H
def Gw(ta:TE)(tr:TA):TA:=fun Y H Q=>ta Y H fun x H1=>tr Y H1 fun xs H2=>Q (x::xs) H2
section
variable {X:Cx} {e:Expr} {es:List Expr} {te:TE} {t:TA} {pos:Pos}
theorem aO:PA X [] K7:=fun _ _ _ _ H Q I h=>A2z ⟨[],H,I,.nil,h⟩
theorem aA(ha:PE X e te)(hr:PA X es t)(hs:starEach (e::es) X.env=(false,eval e X.env)::starEach es X.env:=by rfl):PA X (e::es) (Gw te t):=by
 intro pos z0 s Y H Q I h;rw[hs];show wpAny _ _ (spliced ((false,eval e X.env)::backTo pos (starEach es X.env))) _ _ s;refine L1z (thn (ha z0 s Y H _ I h) fun u s1 ⟨x,H1,I1,r1,q1⟩=>?_);exact thn (hr pos z0 s1 Y H1 _ I1 q1) fun us s2 ⟨xs,H2,I2,r2,q2⟩=>⟨x::xs,H2,I2,.cons r1 r2,q2⟩
def ZG(t:TA):TE:=fun Y H Q=>t Y H fun xs H1=>xs.length<=sizeLine/\∀ p,H1 p=none->Q (.ref p) (upd H1 p (.tup xs))
def ZQ(t:TA):TE:=fun Y H Q=>t Y H fun xs H1=>xs.length<=sizeLine/\∀ p,H1 p=none->Q (.ref p) (upd H1 p (.lst xs))
theorem uq{x1}(h:PA X es t):PE X (.Tuple es x1 pos) (ZG t):=by
 intro z0 s Y H Q I hq;refine wpAny_Tuple_spliced (thn (h pos z0 s Y H _ I hq) fun us s1 ⟨xs,H1,I1,r,z,q⟩=>⟨by rw[<- r.length];exact z,?_⟩);have hf:H1 s1.heap.objs.size=none:=I1.hok.fresh (T4z _);refine⟨.ref s1.heap.objs.size,upd H1 s1.heap.objs.size (.tup xs),I1.laid (t':=s1.toks) (fun b u e=>Heap.get?_push_of_some _ e) (T4z _) ?_,rfl,q _ hf⟩;exact⟨z,us,r,⟨_,Heap.get?_push_size _ rfl,rfl,_,rfl⟩⟩
theorem pX(h:PA X es t):PE X (.List es pos) (ZQ t):=by
 intro z0 s Y H Q I hq;refine wpAny_List_spliced (thn (h pos z0 s Y H _ I hq) fun us s1 ⟨xs,H1,I1,r,z,q⟩=>⟨by rw[<- r.length];exact z,?_⟩);have hf:H1 s1.heap.objs.size=none:=I1.hok.fresh (T4z _);refine⟨.ref s1.heap.objs.size,upd H1 s1.heap.objs.size (.lst xs),I1.laid (t':=s1.toks) (fun b u e=>Heap.get?_push_of_some _ e) (T4z _) ?_,rfl,q _ hf⟩;exact⟨z,us,0,r,Heap.get?_push_size _ rfl⟩
end
abbrev Sp:=List V->Hp->VK->XK->Prop
abbrev CXT:=List Env->Hp->Shared->XK->Value->Shared->Prop
structure Env0 (P:Program) (w:World) (K:Z3) (mg:Str->Option Value) (base:Heap) (A:Around) (outer:List Env) (s:Shared) (H:Hp):Prop where
 frames:A.frames=some outer
 mod:Mod K mg base
 bs:∀ b o,base.get? b=some o->s.heap.get? b=some o/\H b=none
 bsz:base.objs.size<=s.heap.objs.size
 funs:s.heap.FunFrames base outer
 frf:∀ b∈frs outer,H b=none
 hok:HOk P w H s.heap
 bare:AllBare s.gens
def CE(outer:List Env)(P:Program)(w:World)(H:Hp)(s:Shared)(Q:VK)(u:Value)(s':Shared):Prop :=
 ∃ v H',s'.os=s.os/\AllBare s'.gens/\Un (frs outer) [] H H' s.heap s'.heap/\HOk P w H' s'.heap/\RelV v u/\Q v H'
def CR(CX:CXT)(outer:List Env)(P:Program)(w:World)(H:Hp)(s:Shared)(Q:VK)(E:XK)(r:Result)(s':Shared):Prop :=
 match r with
 | .ok (.ret u)=>CE outer P w H s Q u s'
 | .ok _=>False
 | .error e=>CX outer H s E e s'
structure FnOk (P:Program) (w:World) (K:Z3) (mg:Str->Option Value) (base:Heap) (CX:CXT) (k:Nat) (f:Addr) (fd:FuncData) (ps:List Str) (sp:Sp):Prop where
 len:∀ vs H Q E,sp vs H Q E->vs.length=ps.length
 run:∀ (A:Around) (outer:List Env) (s:Shared) (H:Hp) (args:Args) (us:List Value) (vs:List V) (Q:VK) (E:XK),Room k A->Env0 P w K mg base A outer s H->BindsTo s fd args (ps.zip us)->Vals vs us->sp vs H Q E ->
  codeAny (model P w) A (.call (.ref f) args) (CR CX outer P w H s Q E) s
theorem FnOk.mono{P:Program}{w:World}{K:Z3}{mg:Str->Option Value}{base:Heap}{CX:CXT}{j k:Nat}{f:Addr}{fd:FuncData}{ps:List Str}{sp:Sp}(F:FnOk P w K mg base CX j f fd ps sp)(h:j<=k) :
  FnOk P w K mg base CX k f fd ps sp:=⟨F.len,fun A outer s H args us vs Q E hr=>F.run A outer s H args us vs Q E (hr.mono h)⟩
theorem Env0.make{P:Program}{w:World}{K:Z3}{mg:Str->Option Value}{base:Heap}{A:Around}{outer:List Env}{s:Shared}{H:Hp}(e:Env0 P w K mg base A outer s H)(C:Addr)(us:List Value)(kw:List (Str×Value)) :
  Env0 P w K mg base (A.under (.builtin "type.__call__" ⟨.ref C::us,kw⟩)) outer s H:=⟨by first | exact e.frames | (simpa[Around.under,Code.envs,Code.isFrame,pushEnvs] using e.frames),e.mod,e.bs,e.bsz,e.funs,e.frf,e.hok,e.bare⟩
section
variable {X:Cx} {z0:List (Addr×Obj)} {Y:St} {H:Hp} {s s':Shared}
theorem Inv.env0(I:Inv X z0 Y H s):Env0 X.prog X.w X.K X.mg X.base X.A X.stack s H :=
 ⟨I.ok.frames,I.ok.mod,I.bs,L4z I.ok.bsz I.sz,I.stack,I.stkFree,I.hok,I.bare⟩
theorem Inv.after{Q:VK}{u:Value}(I:Inv X z0 Y H s)(h:CE X.stack X.prog X.w H s Q u s'):EP X z0 Y Q u s':=by
 obtain⟨v,H',os,bare,un,hok,r,q⟩:=h;obtain⟨hh,g,d,t,os'⟩:=s';obtain rfl:os'=s.os:=os;exact⟨v,H',I.call (h':=hh) (g':=g) (d':=d) (t':=t) (ch:=[]) un hok bare (fun b z=>absurd z (by simp)),r,q⟩
end
def Qv(sp:Sp)(dvs:List V)(E:XK)(t:TA):TE:=fun Y H Q=>t Y H fun vs H1=>sp (vs++dvs) H1 Q E
def K9(C:Addr)(m:Str)(sp:Sp)(dvs:List V)(E:XK)(ta:TE)(t:TA):TE:=fun Y H Q=>ta Y H fun x H1=>∃ a dx fs,x=.ref a/\H1 a=some (.ins C dx fs)/\fs.lookup m=none /\
 t Y H1 fun vs H2=>sp (x::(vs++dvs)) H2 Q E
def Qq(C:Addr)(sp:Sp)(dvs:List V)(E:XK)(t:TA):TE:=fun Y H Q=>t Y H fun vs H1=>∀ x dx,H1 x=none->H1 dx=none->dx≠x ->
 sp (.ref x::(vs++dvs)) (upd (upd H1 dx (.own x)) x (.ins C dx [])) (fun v H2=>v=.non/\Q (.ref x) H2) E
def Binds(K:Z3)(fd:FuncData)(ps:List Str)(ds:List Value):Prop :=
 ∀ (s:Shared) (us:List Value),K.In s.heap->(us++ds).length=ps.length->BindsTo s fd ⟨us,[]⟩ (ps.zip (us++ds))
theorem Binds.all{K:Z3}{fd:FuncData}{ps:List Str}(h:∀ us:List Value,us.length=ps.length->bindArgs fd ⟨us,[]⟩=pure (ps.zip us)):Binds K fd ps []:=fun s us _ hl=>by
 rw[F3z] at hl ⊢;exact .of_eq (h us hl)
def Passes(CX:CXT)(X:Cx)(E:XK):Prop:=∀ (z0:List (Addr×Obj)) (Y:St) (H:Hp) (s:Shared) (e:Value) (s':Shared),Inv X z0 Y H s->CX X.stack H s E e s'->X.xe e s'
section
variable {X:Cx} {CX:CXT} {k:Nat} {f C:Addr} {fd:FuncData} {ps:List Str} {sp:Sp} {dvs:List V} {ds:List Value} {E:XK} {x m:Str} {p pos apos:Pos} {e o:Expr} {es:List Expr} {ta:TE} {t:TA}
theorem xW{z0:List (Addr×Obj)}{Y:St}{H:Hp}{s:Shared}{Q:VK}{us:List Value}{vs:List V}(F:FnOk X.prog X.w X.K X.mg X.base CX k f fd ps sp)(hr:Room k X.A)(hb:Binds X.K fd ps ds)(hd:Vals dvs ds)(hx:Passes CX X E)
  (I:Inv X z0 Y H s) (r:Vals vs us) (h:sp (vs++dvs) H Q E):wpAny (model X.prog X.w) X.A (call (.ref f) us) (EP X z0 Y Q) X.xe s:=by
 have r2:Vals (vs++dvs) (us++ds):=r.append hd
 have hl:(us++ds).length=ps.length:=by rw[<- r2.length];exact F.len _ _ _ _ h
 refine wpAny_call (O4z (F.run X.A X.stack s H ⟨us,[]⟩ (us++ds) (vs++dvs) Q E hr I.env0 (hb s us I.kIn hl) r2 h) fun r s' hq=>?_)
 cases r with
 | error e=>exact hx z0 Y H s e s' I hq
 | ok fl =>
  cases fl with
  | ret u=>exact I.after hq
  | next=>exact False.elim hq
  | brk=>exact False.elim hq
  | cont=>exact False.elim hq
theorem dI(F:FnOk X.prog X.w X.K X.mg X.base CX k f fd ps sp)(hr:Room k X.A)(hg:Gl X x)(hm:X.mg x=some (.ref f))(hk:W.keepIn X.K (.ref f)=true)(hb:Binds X.K fd ps ds)(hd:Vals dvs ds)(hx:Passes CX X E)
  (ha:PA X (e::es) t) (hdb:(x==("__debug__":Str))=false:=by decide) (he:starEach (e::es) X.env=(false,eval e X.env)::starEach es X.env:=by rfl) (hpl:(backTo pos (starEach es X.env)).any (·.1)=false:=by rfl) :
  PE X (.Call (.Name x p) (e::es) [] pos) (Qv sp dvs E t):=by
 intro z0 s Y H Q I h;refine M1z (fQ I hg hm ?_ hdb);refine N1z (h₀:=X.base) I.ok.mod.kin hk (thn (ha pos z0 s Y H _ I h) fun us s1 ⟨vs,H1,I1,r,q⟩=>⟨I1.kIn,?_⟩) he hpl;exact xW F hr hb hd hx I1 r q
theorem dj{pl:Sem Bool}(he:PE X o ta)(c:Cls X.K C)(hm:Meth X.K C m f)(F:FnOk X.prog X.w X.K X.mg X.base CX k f fd ps sp)(hr:Room k X.A)(hb:Binds X.K fd ps ds)(hd:Vals dvs ds)(hx:Passes CX X E)(ha:PA X (e::es) t)
  (hst:starEach (e::es) X.env=(false,eval e X.env)::starEach es X.env:=by rfl) (hpl:(backTo pos (starEach es X.env)).any (·.1)=false:=by rfl)
  (ht:eval (.Call (.Attribute o m apos) (e::es) [] pos) X.env=(do
   let ov <- eval o X.env
   standAt apos.atName
   let (f,first) <- holding [ov] (getMethod ov m pl)
   callWith pos f first (backTo pos (starEach (e::es) X.env)) (backToKw pos (keywordEach [] X.env))):=by rfl) :
  PE X (.Call (.Attribute o m apos) (e::es) [] pos) (K9 C m sp dvs E ta t):=by
 intro z0 s Y H Q I h;refine W.methodCall_KW (pl:=pl) (thn (he z0 s Y H _ I h) fun u s1 ⟨x,H1,I1,rx,a,dx,fs,ex,ea,l,q⟩=>?_) ht;subst ex;obtain rfl:u=Value.ref a:=rx;refine mQ I1 ea c hm l ?_;refine N1z (first:=[.ref a]) (h₀:=X.base) I.ok.mod.kin hm.kp (thn (ha pos z0 s1 Y H1 _ I1 q) fun us s2 ⟨vs,H2,I2,r,q2⟩=>⟨I2.kIn,?_⟩) hst hpl;exact xW (us:=.ref a::us) (vs:=.ref a::vs) F hr hb hd hx I2 (.cons rfl r) q2
theorem Ci{pl:Sem Bool}(he:PE X o ta)(c:Cls X.K C)(hm:Meth X.K C m f)(F:FnOk X.prog X.w X.K X.mg X.base CX k f fd ps sp)(hr:Room k X.A)(hb:Binds X.K fd ps ds)(hd:Vals dvs ds)(hx:Passes CX X E)
  (ht:eval (.Call (.Attribute o m apos) [] [] pos) X.env=(do
   let ov <- eval o X.env
   standAt apos.atName
   let (f,first) <- holding [ov] (getMethod ov m pl)
   callWith pos f first (backTo pos (starEach [] X.env)) (backToKw pos (keywordEach [] X.env))):=by rfl) :
  PE X (.Call (.Attribute o m apos) [] [] pos) (K9 C m sp dvs E ta K7):=by
 intro z0 s Y H Q I h;refine W.methodCall_KW (pl:=pl) (thn (he z0 s Y H _ I h) fun u s1 ⟨x,H1,I1,rx,a,dx,fs,ex,ea,l,q⟩=>?_) ht;subst ex;obtain rfl:u=Value.ref a:=rx;refine mQ I1 ea c hm l ?_;exact W.callWith_K0 (first:=[.ref a]) I1.kIn hm.kp (xW (us:=[.ref a]) (vs:=[.ref a]) F hr hb hd hx I1 (.cons rfl .nil) q)
structure Mk (K:Z3) (C f:Addr):Prop where
 makes:W.makesIn K C=true
 init:W.findIn K (.ref C) "__init__"=some (some (.ref f))
 fn:W.isFn K (.ref f)=true
 kp:W.keepIn K (.ref C)=true
theorem BK{z0:List (Addr×Obj)}{Y:St}{H:Hp}{s:Shared}{Q:VK}{us:List Value}{vs:List V}(M:Mk X.K C f)(F:FnOk X.prog X.w X.K X.mg X.base CX k f fd ps sp)(hr:Room (k+1) X.A)(hb:Binds X.K fd ps ds)(hd:Vals dvs ds)
  (hx:Passes CX X E) (I:Inv X z0 Y H s) (r:Vals vs us)
  (h:∀ x dx,H x=none->H dx=none->dx≠x->sp (.ref x::(vs++dvs)) (upd (upd H dx (.own x)) x (.ins C dx [])) (fun v H2=>v=.non/\Q (.ref x) H2) E) :
  wpAny (model X.prog X.w) X.A (call (.ref C) us) (EP X z0 Y Q) X.xe s:=by
 have hq:=h (s.heap.objs.size+1) s.heap.objs.size (I.hok.fresh (Nat.le_succ _)) (I.hok.fresh (T4z _)) (K4z (N2z _));have I2:=Inv.made (C:=C) I;have r2:Vals (V.ref (s.heap.objs.size+1)::(vs++dvs)) (Value.ref (s.heap.objs.size+1)::(us++ds)):=.cons rfl (r.append hd)
 have hl:(Value.ref (s.heap.objs.size+1)::us++ds).length=ps.length:=by
  have e:=r2.length;rw[F.len _ _ _ _ hq] at e;exact e.symm
 refine wpAny_call (CZ (f:=f) I.kIn M.makes M.init (beq_iff_eq.mp M.fn) (O4z (F.run _ X.stack _ _ ⟨Value.ref (s.heap.objs.size+1)::us,[]⟩ (Value.ref (s.heap.objs.size+1)::(us++ds)) _ _ E (hr.make C us [])
  (I2.env0.make C us []) (hb _ (Value.ref (s.heap.objs.size+1)::us) I2.kIn hl) r2 hq) fun r s' hq'=>?_))
 cases r with
 | error e=>exact hx z0 Y _ _ e s' I2 hq'
 | ok fl =>
  cases fl with
  | ret u =>
   obtain⟨v,H',I3,rv,ev,q3⟩:=I2.after hq';subst ev;exact⟨rv,⟨V.ref (s.heap.objs.size+1),H',I3,rfl,q3⟩⟩
  | next=>exact False.elim hq'
  | brk=>exact False.elim hq'
  | cont=>exact False.elim hq'
theorem Cj(M:Mk X.K C f)(F:FnOk X.prog X.w X.K X.mg X.base CX k f fd ps sp)(hr:Room (k+1) X.A)(hg:Gl X x)(hm:X.mg x=some (.ref C))(hb:Binds X.K fd ps ds)(hd:Vals dvs ds)(hx:Passes CX X E)
  (hdb:(x==("__debug__":Str))=false:=by decide):PE X (.Call (.Name x p) [] [] pos) (Qq C sp dvs E K7):=by
 intro z0 s Y H Q I h;refine M1z (fQ I hg hm ?_ hdb);exact W.callWith_K0 I.kIn M.kp (BK (us:=[]) M F hr hb hd hx I .nil h)
end
section
variable {X:Cx} {CX:CXT} {k:Nat} {f C:Addr} {fd:FuncData} {ps ks:List Str} {sp:Sp} {E:XK} {x m:Str} {p pos apos kpos:Pos} {e o:Expr} {es:List Expr} {kws:List Keyword} {te ta:TE} {t tk:TA} {nm:Option Str}
variable {g:List Value->List Value->List Value} {gV:List V->List V->List V}
end
structure FnScope (N P:List Str) (sc:Scope):Prop where
 kind:sc.kind=.function
 co:sc.isCoroutine=false
 gen:sc.isGenerator=false
 nd:N.Nodup
 pre:N.take P.length=P
 par:∀ x∈P,sc.names.lookup x=some .local\/sc.names.lookup x=some .cell
 nofree:∀ y∈sc.names,y.2≠.free
theorem qP{kindOf:Str->Option NameKind}{x:Str}:∀ {binds:List (Str×Value)} {m:Str->Option Value},(∀ v,(x,v)∉binds)->bindL kindOf binds m x=m x
 | [],_,_=>rfl
 | (n,v)::r,m,h=>by
  unfold bindL;rw[qP fun w hw=>h w (S0z _ hw)];split
  .have:x≠n:=by rintro rfl;exact h v I1z
   simp[this]
  .rfl
theorem qR{kindOf:Str->Option NameKind}{x:Str}:∀ {binds:List (Str×Value)} {m:Str->Option Value},(∀ v,(x,v)∉binds)->bindC kindOf binds m x=m x
 | [],_,_=>rfl
 | (n,v)::r,m,h=>by
  unfold bindC;rw[qR fun w hw=>h w (S0z _ hw)];split
  .rfl
  .have:x≠n:=by rintro rfl;exact h v I1z
   simp[this]
theorem qQ{kindOf:Str->Option NameKind}{x:Str}{v:Value}:∀ {P:List Str} {vs:List Value} {i:Nat} {m:Str->Option Value},P.Nodup->P[i]?=some x->vs[i]?=some v->kindOf x=some .local ->
  bindL kindOf (P.zip vs) m x=some v
 | [],_,_,_,_,h,_,_=>by simp at h
 | _::_,[],_,_,_,_,h,_=>by simp at h
 | p::P,w::vs,0,m,nd,h1,h2,hk=>by
  simp at h1 h2;subst h1;subst h2
  show bindL kindOf ((p,w)::P.zip vs) m p=_;unfold bindL;rw[qP fun v hv=>(H3z.mp nd).1 (G3z hv).1,L5z hk];simp
 | p::P,w::vs,i+1,m,nd,h1,h2,hk=>by
  show bindL kindOf ((p,w)::P.zip vs) m x=_;unfold bindL;exact qQ (i:=i) (H3z.mp nd).2 (by simpa using h1) (by simpa using h2) hk
theorem qT{kindOf:Str->Option NameKind}{x:Str}{v:Value}:∀ {P:List Str} {vs:List Value} {i:Nat} {m:Str->Option Value},P.Nodup->P[i]?=some x->vs[i]?=some v->kindOf x≠some .local ->
  bindC kindOf (P.zip vs) m x=some v
 | [],_,_,_,_,h,_,_=>by simp at h
 | _::_,[],_,_,_,_,h,_=>by simp at h
 | p::P,w::vs,0,m,nd,h1,h2,hk=>by
  simp at h1 h2;subst h1;subst h2
  show bindC kindOf ((p,w)::P.zip vs) m p=_;unfold bindC;rw[qR fun v hv=>(H3z.mp nd).1 (G3z hv).1,M5z hk];simp
 | p::P,w::vs,i+1,m,nd,h1,h2,hk=>by
  show bindC kindOf ((p,w)::P.zip vs) m x=_;unfold bindC;exact qT (i:=i) (H3z.mp nd).2 (by simpa using h1) (by simpa using h2) hk
def start(N:List Str)(vs:List V):St:=vs.map some++List.replicate (N.length-vs.length) none
def eF(CX:CXT)(P:Program)(w:World)(K:Z3)(mg:Str->Option Value)(base:Heap)(N:List Str)(qual:Str)(scope:Scope)(f:Addr)(cd:Value)(A:Around)(outer:List Env)(s:Shared)(H:Hp)(E:XK):Cx where
 prog:=P
 w:=w
 K:=K
 mg:=mg
 base:=base
 A:=A.deeper (envOfC qual scope s.heap.objs.size f cd)
 N:=N
 s₀:=s
 H₀:=H
 env:=envOfC qual scope s.heap.objs.size f cd
 outer:=outer
 stack:=envOfC qual scope s.heap.objs.size f cd::outer
 ex:=[]
 calm:=true
 fn:=fun _=>true
 pn:=[]
 xe:=fun e s'=>wpAny (model P w) (A.deeper (envOfC qual scope s.heap.objs.size f cd)) (leaving (envOfC qual scope s.heap.objs.size f cd) e) (fun _ s''=>CX outer H s E e s'') (fun e' s''=>CX outer H s E e' s'') s'
theorem uW{sc:Scope}{n:Nat}{x:Str}(h:sc.names.lookup x=some .cell):∃ c,(cellsFrom n sc.names []).lookup x=some c:=by
 have q:=J0z sc.names n [] (.inl h);exact Option.isSome_iff_exists.mp q
theorem mL{c:Bool}{CX:CXT}{P:Program}{w:World}{K:Z3}{mg:Str->Option Value}{base:Heap}{N ps:List Str}{qual:Str}{scope:Scope}{f:Addr}{cd:Value}{A:Around}{outer:List Env}{s s1:Shared}{H:Hp}{E:XK}{us:List Value}{vs:List V}
  (S:FnScope N ps scope) (hd:c=true->A.handled=none) (e0:Env0 P w K mg base A outer s H) (hl:vs.length=ps.length) (r:Vals vs us)
  (x:InCallC s s.heap.objs.size (bindL (envOfC qual scope s.heap.objs.size f cd).kindOf (ps.zip us) fun _=>none) (cellsFrom (s.heap.objs.size+1) scope.names []) (bindC (envOfC qual scope s.heap.objs.size f cd).kindOf (ps.zip us) fun _=>none) s1) :
  Inv { eF CX P w K mg base N qual scope f cd A outer s H E with calm:=c } [] (start N vs) H s1:=by
 have hpl:ps.length<=N.length:=by have:=congrArg List.length S.pre;rw[List.length_take] at this;omega
 obtain⟨h1,tk,rfl,hk⟩:=x.done;have noA:∀ b:Addr,b∉({ eF CX P w K mg base N qual scope f cd A outer s H E with calm:=c }:Cx).ex:=fun b z=>absurd (show b∈([]:List Addr) from z) (by simp)
 refine⟨⟨e0.mod,S.kind,rfl,rfl,T4z _,fun y z c h1 h2=>?_,fun y hy=>?_,fun y c _ h=>?_,hd,Around.frames_deeper e0.frames,.inr ⟨rfl,rfl⟩,fun b z=>absurd z (noA b),e0.bs,e0.bsz,fun b _ _=>noA b,fun b z=>absurd z (noA b),e0.funs,e0.frf⟩,
  rfl,e0.bare,Un.kept hk,⟨_,x.toInCall.ns,fun i y v h1 h2 h3=>?_⟩,fun y c h=>⟨_,x.cell y c h⟩,e0.hok.fresh (T4z _),fun y c h=>?_,fun p hp=>absurd (show p∈([]:List (Addr×Obj)) from hp) (by simp),e0.hok.kept hk,?_⟩
 .exact name_of_addr x.apart (B1z h1) (B1z h2)
 .have hy:scope.names.lookup y=some .cell\/scope.names.lookup y=some .free:=hy
  rcases hy with hy | hy
  .exact uW hy
  .exact absurd rfl (S.nofree _ (B1z hy))
 .exact M4z (x.above y c (B1z h))
 .have hi:i<vs.length:=by
   unfold start at h2
   by_cases hi:i<vs.length
   .exact hi
   .rw[List.getElem?_append_right (by simpa using hi)] at h2
    rw[List.getElem?_replicate] at h2
    split at h2<;>cases h2
  have ha:vs[i]?=some v:=by
   unfold start at h2;rw[List.getElem?_append_left (by simpa using hi),List.getElem?_map] at h2
   cases e:vs[i]? with
   | none=>rw[e] at h2;cases h2
   | some a=>rw[e] at h2;cases h2;rfl
  obtain⟨u,hu,rv⟩:=r.get ha
  have hp:ps[i]?=some y:=by
   rw[<- S.pre,List.getElem?_take_of_lt (by omega)];exact h1
  have ndP:ps.Nodup:=by rw[<- S.pre];exact S.nd.sublist (List.take_sublist _ _)
  refine⟨u,rv,?_⟩;rcases S.par y (List.mem_of_getElem? hp) with k | k
  .exact .inl ⟨k,qQ ndP hp hu k⟩
  .obtain⟨c,e⟩:=uW (n:=s.heap.objs.size+1) k
   refine .inr ⟨.inl k,c,e,?_⟩;have q:=x.cell y c e;rw[qT ndP hp hu (by show scope.names.lookup y≠_;rw[k];decide)] at q;exact q
 .exact e0.hok.fresh (M4z (x.above y c (B1z h)))
 .unfold start
  show _=N.length;rw[O1z,E3z,List.length_replicate];omega
theorem Jy{CX:CXT}{P:Program}{w:World}{K:Z3}{mg:Str->Option Value}{base:Heap}{k:Nat}{f:Addr}{name qual:Str}{params:Arguments}{body:List Stmt}{scope:Scope}{dV kV doc pm cdv ct oc:Value}{an od:Option Addr}
  {osl:Array (Option Value)} {N ps:List Str} {sp:Sp} (lk:K.lookup f=some ⟨oc,od,.func (W.fnOf name qual params body scope dV kV doc pm an cdv ct),osl⟩) (hcd:W.codeIn K cdv qual=true) (S:FnScope N ps scope)
  (len:∀ vs H Q E,sp vs H Q E->vs.length=ps.length)
  (hbody : ∀ (A : Around) (outer : List Env) (s : Shared) (H : Hp) (vs : List V) (Q : VK) (E : XK), Room k (A.deeper (envOfC qual scope s.heap.objs.size f cdv)) -> sp vs H Q E ->
   ∃ t,PSs (eF CX P w K mg base N qual scope f cdv A outer s H E) body t/\t { nx:=fun _ H'=>Q .non H',rt:=Q } (start N vs) H) :
  FnOk P w K mg base CX (k+1) f (W.fnOf name qual params body scope dV kV doc pm an cdv ct) ps sp:=by
 refine⟨len,fun A outer s H args us vs Q E hr e0 hb r hsp=>?_⟩;have hl:=len _ _ _ _ hsp;have KX:K.In s.heap:=e0.mod.kin.keeps fun b o e=>(e0.bs b o e).1;have lim:s.heap.NoLimit:=e0.mod.nolimit.keeps fun b o e=>(e0.bs b o e).1
 have hkind:∀ y∈ps.zip us,scope.names.lookup y.1=some .local\/(scope.names.lookup y.1=some .cell/\((cellsFrom (s.heap.objs.size+1) scope.names []).lookup y.1).isSome=true):=fun⟨n,v⟩ hy=>by
  rcases S.par n (G3z hy).1 with q | q
  .exact .inl q
  .exact .inr ⟨q,J0z _ _ _ (.inl q)⟩
 refine codeAny_call_function hr.depth (KX _ _ lk) rfl S.co S.gen rfl (W.codeRec_of KX hcd) (hb _ _ _ _ ?_);refine wpAny_newFunctionEnv_cells S.kind hkind fun env he s1 x=>?_;subst he;refine⟨lim.keeps x.toInCall.keep,codeAny_func ?_⟩;obtain⟨t,ht,hq⟩:=hbody A outer s H vs Q E (hr.deeper _) hsp;have I:Inv (eF CX P w K mg base N qual scope f cdv A outer s H E) [] (start N vs) H s1:=mL (c:=true) S (fun _=>hr.hd) e0 hl r x;refine Z4z (ht [] s1 (start N vs) H _ I hq) (fun fl s' hs=>?_) fun e s' hs=>hs
 have fin:∀ {Y':St} {H':Hp} {v:V} {u:Value},Inv (eF CX P w K mg base N qual scope f cdv A outer s H E) [] Y' H' s'->RelV v u->Q v H'->CE outer P w H s Q u s' :=
  fun {Y' H' v u} J rv q=>⟨v,H',J.os,J.bare,J.base,J.hok,rv,q⟩
 cases fl with
 | ret u =>
  obtain⟨v,Y',H',J,rv,q⟩:=hs;exact fin J rv q
 | next =>
  obtain⟨Y',H',J,q⟩:=hs;exact fin (v:=V.non) (u:=Value.none) J rfl q
 | brk =>
  obtain⟨_,_,_,q⟩:=hs;exact False.elim q
 | cont =>
  obtain⟨_,_,_,q⟩:=hs;exact False.elim q
section
variable {X:Cx} {x:Str} {p pos:Pos} {e:Expr} {es:List Expr} {t:TA} {id T:String} {r:List V->Hp->VK->Prop}
def tCB(r:List V->Hp->VK->Prop)(t:TA):TE:=fun Y H Q=>t Y H fun vs H1=>r vs H1 Q
theorem bY(hc:dw X (.builtin id) r)(hg:Gl X x)(hm:X.mg x=none)(hv:bootBuiltins x=some (.builtin id))(ha:PA X (e::es) t)(hn:x≠"__name__":=by decide)(hdb:(x==("__debug__":Str))=false:=by decide)
  (he:starEach (e::es) X.env=(false,eval e X.env)::starEach es X.env:=by rfl) (hpl:(backTo pos (starEach es X.env)).any (·.1)=false:=by rfl):PE X (.Call (.Name x p) (e::es) [] pos) (tCB r t):=by
 intro z0 s Y H Q I h;refine M1z (jx I hg hm hv ?_ hn hdb);exact PyProof.Rows.callWith_builtin1 (thn (ha pos z0 s Y H _ I h) fun us s1 ⟨vs,H1,I1,r1,q1⟩=>hc z0 s1 Y H1 vs us Q I1 r1 q1) he hpl
theorem eG(hc:dw X (.type T) r)(hg:Gl X x)(hm:X.mg x=none)(hv:bootBuiltins x=some (.type T))(ha:PA X (e::es) t)(hn:x≠"__name__":=by decide)(hdb:(x==("__debug__":Str))=false:=by decide)
  (he:starEach (e::es) X.env=(false,eval e X.env)::starEach es X.env:=by rfl) (hpl:(backTo pos (starEach es X.env)).any (·.1)=false:=by rfl):PE X (.Call (.Name x p) (e::es) [] pos) (tCB r t):=by
 intro z0 s Y H Q I h;refine M1z (jx I hg hm hv ?_ hn hdb);exact A0z (thn (ha pos z0 s Y H _ I h) fun us s1 ⟨vs,H1,I1,r1,q1⟩=>hc z0 s1 Y H1 vs us Q I1 r1 q1) he hpl
end
end L2
namespace HT
open PySem PyProof.Rows
section
open PySem.SeqAt
open PySem.MeetsSeq PySem.MeetsSeq2 PySem.MeetsSeq3
end
section
variable {prog:Program} {w:World} {A:Around} {E:Value->Shared->Prop} {s:Shared}
theorem J5{t b:Addr}{vs ws:List Value}{Q:Value->Shared->Prop}(ht:IsTup s.heap t vs.toArray)(hb:IsTup s.heap b ws.toArray)(hv:vs≠[])
  (h1:ws=[]->Q (.ref t) s) (h2:ws≠[]->Q (.ref s.heap.objs.size) { s with heap:=s.heap.push { cls:=.type "tuple",data:=.seq (vs++ws).toArray } })
  (hsz:vs.length+ws.length<=sizeLine):wpAny (model prog w) A (binaryOp .Add (.ref t) (.ref b)) Q E s:=by
 obtain⟨⟨cls,dd,data,sl⟩,ho,hc,n,hd⟩:=id ht;obtain⟨⟨cls2,dd2,data2,sl2⟩,ho2,hc2,n2,hd2⟩:=id hb;simp only at hc hd hc2 hd2;subst hc hd hc2 hd2
 have e:vs.toArray++ws.toArray=(vs++ws).toArray:=by simp
 by_cases hw:ws=[]
 .exact concat_meets ⟨_,ho,rfl⟩ ⟨_,ho2,rfl⟩ noFill_tuple_add seq_tuple_add K0z D0z (C0z _ _)
   (tuple_addW1 t b vs.toArray ws.toArray n n2 dd dd2 sl sl2 (by simpa using hv) (by simp[hw])) ⟨ho,ho2,h1 hw⟩
 .refine concat_meets ⟨_,ho,rfl⟩ ⟨_,ho2,rfl⟩ noFill_tuple_add seq_tuple_add K0z D0z (C0z _ _)
   (tuple_addW2 t b vs.toArray ws.toArray n n2 dd dd2 sl sl2 (by simpa using hv) (by simpa using hw) (by rw[B2z,B2z];exact hsz)) ⟨ho,ho2,?_⟩
  rw[e];exact h2 hw
end
end HT
namespace L2
open PySem PySem.Spec PyProof.Rows
abbrev TO:=St->Hp->(Option Int->Hp->Prop)->Prop
theorem intsAre_of{ns:List Int}:∀ {us:List Value},Vals (ns.map V.int) us->IntsAre us ns:=by
 induction ns with
 | nil=>intro us r;rw[P4z] at r;cases r;exact .nil
 | cons n ns ih =>
  intro us r;rw[A4z] at r
  cases r with
  | cons r1 r2 =>
   obtain⟨t,e⟩:=r1;subst e;exact .cons n t (ih r2)
section
variable {X:Cx} {e:Expr} {te:TE} {lo hi:Option Expr} {tl th:TO} {pos p2:Pos}
def QK(K:Z3):R2:=fun x y H Q=>∃ a b xs ys,x=.ref a/\y=.ref b/\SqT K H a xs/\SqT K H b ys/\xs≠[]/\xs.length+ys.length<=sizeLine /\
 (ys=[]->Q (.ref a) H)/\(ys≠[]->∀ p,H p=none->Q (.ref p) (upd H p (.tup (xs++ys))))
theorem Vals.nil_iff{xs:List V}{us:List Value}(r:Vals xs us):us=[]↔xs=[]:=by
 cases r with
 | nil=>simp
 | cons _ _=>simp
theorem Ij:OpR X (binaryOp .Add) (QK X.K):=by
 intro z0 s Y H x y v u Q I rx ry h;obtain⟨a,b,xs,ys,rfl,rfl,ha,hb,hx,hz,q1,q2⟩:=h;cases rx;cases ry;obtain⟨its,r1,p1,_⟩:=I.tuple ha;obtain⟨its2,r2,p2,_⟩:=I.tuple hb;refine HT.J5 p1 p2 (fun z=>hx (r1.nil_iff.mp z)) (fun z=>⟨.ref a,H,I,rfl,q1 (r2.nil_iff.mp z)⟩) (fun z=>?_) (by rw[<- r1.length,<- r2.length];exact hz);refine⟨.ref s.heap.objs.size,_,I.laid (t':=s.toks) (o:=.tup (xs++ys)) (fun b ob q=>Heap.get?_push_of_some _ q) (T4z _) ?_,rfl,q2 (fun w=>z (r2.nil_iff.mpr w)) _ (I.hok.fresh (T4z _))⟩;exact⟨by rw[O1z];exact hz,_,r1.append r2,IsTup.new _ _⟩
end
def ixN(n:Nat)(i:Int):Option Nat:=if 0<=i then(if i<n then some i.toNat else none) else if -(n:Int)<=i then some (i+n).toNat else none
def atI{α:Type}(xs:List α)(i:Int):Option α:=(ixN xs.length i).bind fun j=>xs[j]?
theorem Jk{n:Nat}{i:Int}{j:Nat}(h:ixN n i=some j):seqIndex? i n=some j/\j<n /\ -(n:Int)<=i/\i<n:=by
 unfold ixN at h
 by_cases h0:0<=i
 .rw[L5z h0] at h
  by_cases h1:i<n
  .rw[L5z h1] at h
   have e:i.toNat=j:=C3z h;exact⟨by rw[seqIndex_of h0 h1,e],by omega,by omega,h1⟩
  .rw[M5z h1] at h;cases h
 .rw[M5z h0] at h
  by_cases h1:-(n:Int)<=i
  .rw[L5z h1] at h
   have e:(i+n).toNat=j:=C3z h;exact⟨by rw[seqIndex_neg (by omega) h1,e],by omega,h1,by omega⟩
  .rw[M5z h1] at h;cases h
theorem Aw{α:Type}{xs:List α}{i:Int}{v:α}(h:atI xs i=some v):∃ j,seqIndex? i xs.length=some j/\xs[j]?=some v/\j<xs.length /\ -(xs.length:Int)<=i/\i<xs.length:=by
 unfold atI at h
 cases e:ixN xs.length i with
 | none=>rw[e] at h;cases h
 | some j =>
  rw[e] at h;obtain⟨h1,h2,h3,h4⟩:=Jk e;exact⟨j,h1,h,h2,h3,h4⟩
def Bf(b:Expr):Prop:=∀ o i,subscripted b false o i=operate [o,i] (getItem o i)
def IxR(X:Cx)(r:R2):Prop :=
  ∀ (value slice : Expr) (z0 : List (Addr × Obj)) (s : Shared) (Y : St) (H : Hp) (x y : V) (v u : Value) (Q : VK), Inv X z0 Y H s -> RelV x v -> RelV y u -> r x y H Q ->
    subscripted slice false v u=operate [v,u] (getItem v u)->wpAny (model X.prog X.w) X.A (subscriptTail value slice v u) (EP X z0 Y Q) X.xe s
def MtR(X:Cx)(id:String)(r:V->List V->Hp->VK->Prop):Prop :=
  ∀ (z0 : List (Addr × Obj)) (s : Shared) (Y : St) (H : Hp) (x : V) (xs : List V) (v : Value) (us : List Value) (Q : VK), Inv X z0 Y H s -> RelV x v -> Vals xs us -> r x xs H Q ->
    wpAny (model X.prog X.w) X.A (call (.builtin id) (v::us)) (EP X z0 Y Q) X.xe s
section
variable {X:Cx} {a b:Expr} {ta tb:TE} {pos:Pos}
theorem HY{r:R2}(hr:IxR X r)(ha:PE X a ta)(hb:PE X b tb)(hs:Bf b):PE X (.Subscript a b pos) (tOp r ta tb):=by
 intro z0 s Y H Q I h;exact Subscript_ (W2 ha hb I h fun v u s2 x y H2 I2 rx ry q=>hr a b z0 s2 Y H2 x y v u Q I2 rx ry q (hs _ _))
def Z7(K:Z3):R2:=fun x y H Q=>∃ p xs i v,x=.ref p/\y=.int i/\SqL K H p xs/\atI xs i=some v/\Q v H
def Z6(K:Z3):R2:=fun x y H Q=>∃ p xs i v,x=.ref p/\y=.int i/\SqT K H p xs/\atI xs i=some v/\Q v H
theorem Jj:IxR X (Z7 X.K):=by
 intro value slice z0 s Y H x y v u Q I rx ry h hs;obtain⟨p,xs,i,z,rfl,rfl,hq,he,q⟩:=h;cases rx;obtain⟨t,rfl⟩:=ry;obtain⟨its,r,pl,hz⟩:=I.list hq;obtain⟨j,h1,h2,h3,h4,h5⟩:=Aw he;obtain⟨w,ew,rw'⟩:=r.get h2;have hl:=r.length;have hn:=qe;have fin:EP X z0 Y Q w s:=⟨z,H,I,rw',q⟩
 by_cases h0:0<=i
 .have hj:i.toNat=j:=by
   rw[seqIndex_of h0 h5] at h1;exact C3z h1
  exact item_listR pl.isList h0 (by omega) (by rw[hj];simpa using ew) fin hs
 .have hj:(i+(its.toArray.size:Int)).toNat=j:=by
   rw[seqIndex_neg (by omega) h4] at h1;rw[B2z,<- hl];exact C3z h1
  exact subscriptTail_builtinR (x:=w) pl.isList.typeIs slot_list_getitem.lookup
   (wpAny_getItem_list_neg (Q:=fun r s'=>r=w/\EP X z0 Y Q r s') pl.isList (by omega) (by rw[B2z]<;>omega) (by omega) (by rw[hj];simpa using ew) ⟨rfl,fin⟩) hs
theorem Fq:IxR X (Z6 X.K):=by
 intro value slice z0 s Y H x y v u Q I rx ry h hs;obtain⟨p,xs,i,z,rfl,rfl,hq,he,q⟩:=h;cases rx;obtain⟨t,rfl⟩:=ry;obtain⟨its,r,pl,hz⟩:=I.tuple hq;obtain⟨j,h1,h2,h3,h4,h5⟩:=Aw he;obtain⟨w,ew,rw'⟩:=r.get h2;have hl:=r.length;have hn:=qe;have fin:EP X z0 Y Q w s:=⟨z,H,I,rw',q⟩
 exact subscriptTail_builtinR (x:=w) pl.typeIs slot_tuple_getitem.lookup
  (getItem_tuple (j:=j) (Q:=fun r s'=>r=w/\EP X z0 Y Q r s') pl (by omega) (by omega) (by rw[B2z,<- hl];exact h1) (by simpa using ew) ⟨rfl,fin⟩) hs
theorem fZ:dw X (.builtin "len") (fun xs H Q=>∃ p ys,xs=[.ref p]/\(SqL X.K H p ys\/SqT X.K H p ys)/\Q (.int ys.length) H):=by
 intro z0 s Y H xs us Q I r h;obtain⟨p,ys,rfl,hq,q⟩:=h;obtain⟨u,rfl,rx⟩:=vals1 r;cases rx;have hn:=qe;rcases hq with hq | hq
 .obtain⟨its,r',pl,hz⟩:=I.list hq
  have hlen:=r'.length;exact Calls.call_len_list pl.isList (by simp only[B2z]<;>omega) ⟨.int ys.length,H,I.tok _,⟨s.toks+1,by rw[B2z,hlen]⟩,q⟩
 .obtain⟨its,r',pl,hz⟩:=I.tuple hq
  have hlen:=r'.length;exact len_tuple pl (by simp only[B2z]<;>omega) ⟨.int ys.length,H,I.tok _,⟨s.toks+1,by rw[B2z,hlen]⟩,q⟩
theorem qL:dw X (.builtin "len") (fun xs H Q=>∃ z,xs=[.str z]/\z.length<=sizeLine/\Q (.int z.length) H):=by
 intro z0 s Y H xs us Q I r h;obtain⟨z,rfl,hz,q⟩:=h;obtain⟨u,rfl,t,rfl⟩:=vals1 r;have hn:=qe;exact len_str (by omega) ⟨.int z.length,H,I.tok _,⟨_,rfl⟩,q⟩
theorem qK:dw X (.type "list") (fun xs H Q=>∃ p ys,xs=[.ref p]/\(SqL X.K H p ys\/SqT X.K H p ys)/\∀ l,H l=none->Q (.ref l) (upd H l (.lst ys))):=by
 intro z0 s Y H xs us Q I r h;obtain⟨p,ys,rfl,hq,q⟩:=h;obtain⟨u,rfl,rx⟩:=vals1 r;cases rx
 have fin:∀ (its:List Value),Vals ys its->ys.length<=sizeLine->∀ (h':Heap) (c':Nat),(∀ b o',s.heap.get? b=some o'->h'.get? b=some o') ->
   h'.get? s.heap.objs.size=some { cls:=.type "list",dict:=none,data:=.seq its.toArray c',slots := #[] }->EP X z0 Y Q (.ref s.heap.objs.size) { s with heap:=h' }:=fun its r' hz h' c' kp e =>
  ⟨.ref s.heap.objs.size,_,I.laid (t':=s.toks) kp (T4z _) (show cJ X.prog X.w _ h' _ (.lst ys) from⟨hz,its,c',r',e⟩),rfl,q _ (I.hok.fresh (T4z _))⟩
 rcases hq with hq | hq
 .obtain⟨its,r',pl,hz⟩:=I.list hq
  have hlen:=r'.length;obtain⟨o,ho,hc,n,hd⟩:=pl.isList;exact call_list_seq p (.inl rfl) ho hc hd (fun h' c' kp e=>fin its r' hz h' c' kp e) (by simp only[B2z]<;>omega)
 .obtain⟨its,r',pl,hz⟩:=I.tuple hq
  have hlen:=r'.length;obtain⟨o,ho,hc,n,hd⟩:=pl;exact call_list_seq p (.inr rfl) ho hc hd (fun h' c' kp e=>fin its r' hz h' c' kp e) (by simp only[B2z]<;>omega)
theorem oN:dw X (.type "tuple") (fun xs H Q=>∃ p ys,xs=[.ref p]/\((SqL X.K H p ys/\∀ l,H l=none->Q (.ref l) (upd H l (.tup ys)))\/(SqT X.K H p ys/\Q (.ref p) H))):=by
 intro z0 s Y H xs us Q I r h;obtain⟨p,ys,rfl,h⟩:=h;obtain⟨u,rfl,rx⟩:=vals1 r;cases rx;rcases h with⟨hq,q⟩ | ⟨hq,q⟩
 .obtain⟨its,r',pl,hz⟩:=I.list hq
  have hlen:=r'.length;refine call_tuple_list pl.isList (fun h' kp=>?_) (by simp only[B2z]<;>omega);have I1:Inv X z0 Y H { s with heap:=h' }:=I.kept (t':=s.toks) kp
  have I2:Inv X z0 Y (upd H h'.objs.size (.tup ys)) { s with heap:=h'.push { cls:=.type "tuple",data:=.seq its.toArray } } :=
   I1.laid (t':=s.toks) (fun b o e=>Heap.get?_push_of_some _ e) (T4z _) (show cJ X.prog X.w _ _ _ (.tup ys) from⟨hz,its,r',IsTup.new _ _⟩)
  exact⟨.ref h'.objs.size,_,I2,rfl,q _ (I1.hok.fresh (T4z _))⟩
 .obtain⟨its,r',pl,hz⟩:=I.tuple hq
  exact call_tuple_same pl ⟨.ref p,H,I,rfl,q⟩
def tyV(K:Z3)(T:String)(x:V)(H:Hp):Prop:=match x with
 | .str _=>T="str"
 | .int _=>T="int"
 | .ref p => (T = "list" /\ ∃ xs, SqL K H p xs) \/ (T = "tuple" /\ ∃ o, K.lookup p = some o /\ o.cls = .type "tuple" /\ o.dict = none) \/
   (T="dict"/\((∃ kvs,H p=some (.dK kvs))\/∃ kvs,H p=some (.dT kvs)))\/(T="set"/\∃ S n,H p=some (.set S n))
 | _=>False
theorem KZ{z0:List (Addr×Obj)}{Y:St}{H:Hp}{s:Shared}{T:String}{x:V}{v:Value}(I:Inv X z0 Y H s)(r:RelV x v)(ty:tyV X.K T x H) :
  s.TypeIs v T/\∀ a,v=.ref a->∃ ob,s.heap.get? a=some ob/\ob.dict=none:=by
 cases x with
 | str z =>
  obtain⟨t,rfl⟩:=r;cases (show T="str" from ty);exact⟨typeIs_str s z t,fun _ e=>nomatch e⟩
 | int i =>
  obtain⟨t,rfl⟩:=r;cases (show T="int" from ty);exact⟨typeIs_int s i t,fun _ e=>nomatch e⟩
 | ref p =>
  cases r;rcases ty with⟨rfl,xs,hq⟩ | ⟨rfl,o,hk,hc,hd⟩ | ⟨rfl,hk⟩ | ⟨rfl,S,n,hk⟩
  .obtain⟨its,_,pl,_⟩:=I.list hq
   refine⟨pl.isList.typeIs,fun a e=>?_⟩;cases e;obtain⟨o,n,e,c,hd,_⟩:=pl;exact⟨o,e,hd⟩
  .refine⟨⟨o,I.kIn p o hk,hc⟩,fun a e=>?_⟩
   cases e;exact⟨o,I.kIn _ o hk,hd⟩
  .have z:∃ o,s.heap.get? p=some o/\o.ExactDict:=by
    rcases hk with⟨kvs,hk⟩ | ⟨kvs,hk⟩
    .obtain⟨_,_,_,_,o,_,_,e,ex,_⟩:=I.hok p _ hk
     exact⟨o,e,ex⟩
    .obtain⟨_,_,_,_,o,_,_,e,ex,_⟩:=I.hok p _ hk
     exact⟨o,e,ex⟩
   obtain⟨o,e,ex⟩:=z;refine⟨⟨o,e,ex.1⟩,fun a e2=>?_⟩;cases e2;exact⟨o,e,ex.2.1⟩
  .obtain⟨o,_,_,_,e,ex,_⟩:=I.hok p _ hk
   refine⟨⟨o,e,ex.1⟩,fun a e2=>?_⟩;cases e2;exact⟨o,e,ex.2.1⟩
 | _=>exact False.elim ty
def tBM(K:Z3)(T:String)(r:V->List V->Hp->VK->Prop)(to:TE)(t:TA):TE:=fun Y H Q=>to Y H fun x H1=>tyV K T x H1/\t Y H1 fun xs H2=>r x xs H2 Q
variable {o e:Expr} {es:List Expr} {to:TE} {t:TA} {name:Str} {apos cpos:Pos} {T id:String} {r:V->List V->Hp->VK->Prop}
theorem vH(pa:PlainAttrs T)(slot:Slot T name id)(hty:typeOf (.builtin id)=pure (.type "method_descriptor"))(hm:MtR X id r)(ho:PE X o to)(ha:PA X (e::es) t)
  (hbase:attributeBase o name X.env (eval o X.env)=eval o X.env:=by rfl)
  (hfew : ((backTo cpos (starEach (e :: es) X.env)).all (fun x => !x.1) && (backToKw cpos (keywordEach [] X.env)).all (fun x => x.1.isSome)
   && decide ((e::es).length+([]:List Keyword).length+(if([]:List Keyword).isEmpty then 0 else 1)<30))=true:=by rfl)
  (hline:(apos.endLine==cpos.line)=true:=by rfl) (hs:starEach (e::es) X.env=(false,eval e X.env)::starEach es X.env:=by rfl) (hplain:(backTo cpos (starEach es X.env)).any (·.1)=false:=by rfl) :
  PE X (.Call (.Attribute o name apos) (e::es) [] cpos) (tBM X.K T r to t):=by
 intro z0 s Y H Q I h;refine wpAny_Call_method_late hbase hfew hline rfl (thn (ho z0 s Y H _ I h) fun v s1 ⟨x,H1,I1,r1,ty,q1⟩=>?_);obtain⟨h1,h2⟩:=KZ I1 r1 ty;refine⟨T,id,pa,slot,hty,h1,h2,?_⟩;have hA:=ha cpos z0 s1 Y H1 _ I1 q1;rw[hs] at hA ⊢;refine L0z (by show(false||(backTo cpos (starEach es X.env)).any (·.1))=false;rw[hplain]<;>rfl) (V0z ?_);exact thn hA fun us s2 ⟨vs,H2,I2,r2,q2⟩=>hm z0 s2 Y H2 x vs v us Q I2 r1 r2 q2
end
def MtM(X:Cx)(id:String)(r:V->List V->Hp->VK->Prop):Prop :=
  ∀ (z0 : List (Addr × Obj)) (s : Shared) (Y : St) (H : Hp) (x : V) (xs : List V) (v : Value) (us : List Value) (Q : VK), Inv X z0 Y H s -> RelV x v -> Vals xs us -> r x xs H Q ->
    wpAny (model X.prog X.w) X.A (call (.builtin id) (v::us)) (EP X z0 Y Q) X.xe s
theorem Vals.one:∀ {x:V} {us:List Value},Vals [x] us->∃ u,us=[u]/\RelV x u
 | _,_,.cons r .nil=>⟨_,rfl,r⟩
theorem Vals.reverse{xs:List V}{us:List Value}(h:Vals xs us):Vals xs.reverse us.reverse:=by
 induction h with
 | nil=>exact .nil
 | cons r t ih=>rw[C2z,C2z];exact Vals.append ih (.cons r .nil)
section
variable {X:Cx} {z0:List (Addr×Obj)} {Y:St} {H:Hp} {s:Shared} {l b:Addr} {xs ys zs:List V}
theorem Inv.lset{its its':List Value}{n:Nat}{f:Array Value->Array Value}{t':Nat}(I:Inv X z0 Y H s)(hH:H l=some (.lst xs))
  (e:s.heap.get? l=some { cls:=.type "list",data:=.seq its.toArray n }) (hf:f its.toArray=its'.toArray) (hv:Vals ys its') (hz:ys.length<=sizeLine) :
  Inv X z0 Y (upd H l (.lst ys)) { s with heap:=s.heap.update l (Obj.mapSeq f),toks:=t' }:=by
 have q:=PySem.IsL.update e f;rw[hf] at q;refine I.write (x:=l) (e:=l) (by rw[hH];exact trivial) (.inl rfl) (fun b' u hb hu=>(Heap.get?_update_other s.heap (Obj.mapSeq f) (J5z hb)).trans hu) ⟨_,q⟩ ?_;exact⟨hz,its',_,hv,q⟩
theorem Inv.lnew{its:List Value}{t':Nat}(I:Inv X z0 Y H s)(hv:Vals ys its)(hz:ys.length<=sizeLine) :
  Inv X z0 Y (upd H s.heap.objs.size (.lst ys)) { s with heap:=s.heap.push { cls:=.type "list",data:=.seq its.toArray },toks:=t' } :=
 I.laid (fun _ _ q=>Heap.get?_push_of_some _ q) (T4z _) ⟨hz,its,0,hv,Heap.get?_push_size _ rfl⟩
theorem Inv.fresh(I:Inv X z0 Y H s):H s.heap.objs.size=none:=I.hok.fresh (T4z _)
theorem Inv.lstM(I:Inv X z0 Y H s)(hH:H l=some (.lst xs)):xs.length<=sizeLine/\∃ (its:List Value) (n:Nat),Vals xs its/\xs.length=its.length/\s.heap.get? l=some { cls:=.type "list",data:=.seq its.toArray n }:=by
 obtain⟨z,its,n,r,e⟩:=I.hok l _ hH;exact⟨z,its,n,r,r.length,e⟩
theorem CG{n:Nat}(h:n<=sizeLine):Builtin.List.listTooLong n=false:=by
 unfold Builtin.List.listTooLong;exact B3z (by omega)
end
section
variable {X:Cx}
def Hv:V->List V->Hp->VK->Prop:=fun x vs H Q=>∃ l xs y,x=.ref l/\vs=[y]/\H l=some (.lst xs)/\xs.length<sizeLine/\Q .non (upd H l (.lst (xs++[y])))
theorem lg:MtM X "list.append" Hv:=by
 intro z0 s Y H x vs v us Q I rx rv h;obtain⟨l,xs,y,rfl,rfl,hH,hz,q⟩:=h;cases rx;obtain⟨u,rfl,ru⟩:=rv.one;obtain⟨z,its,n,r,hl,e⟩:=I.lstM hH;refine D5z F.slot_list_append ⟨_,e,rfl⟩ F.entry_list_append (F.args_list_append_2 _ _) (PySem.list_append l its.toArray n u (by rw[B2z];omega)) ⟨e,?_⟩;refine⟨.non,_,I.lset (its':=its++[u]) hH e (by simp) (r.append (.cons ru .nil)) ?_,rfl,q⟩;rw[O1z,List.length_singleton];omega
end
section
variable {prog:Program} {w:World} {A:Around} {E:Value->Shared->Prop} {s:Shared}
set_option maxRecDepth 100000 in
end
section
variable {X:Cx}
end
end L2
namespace Att
open PySem PySem.W PySem.Calls PyProof.Rows
theorem lF{P:Params}{h:Heap}:∀ (ns:List Int) (vs:List Value),WellAll P h vs (ns.map WData.int)->IntsAre vs ns:=by
 intro ns
 induction ns with
 | nil =>
  intro vs w;rw[P4z] at w;cases w;exact .nil
 | cons n ns ih =>
  intro vs w;rw[A4z] at w
  cases w with
  | cons a b =>
   cases a;exact .cons _ _ (ih _ b)
theorem xQ{l:OpenLaw}{n:Nat}(hn:l.most=some n){P:Params}{h:Heap}{args:List WData}{vals:List Value}
  (hpre:l.row.toRowW.claim.pre args=true) (hwl:WellAll P h vals args) :
  ∃ a vs ns,vals=[Value.ref a]/\args=[WData.list (ns.map WData.int)]/\h.get? a=some { cls:=.type "list",data:=.seq vs.toArray }/\IntsAre vs ns/\ns.length<=n:=by
 have hsh:WShape.hasAll [] args [.list .int]=true:=(pre_splitW hpre).1;have hc:l.pre.holds [] { args:=args }=true:=(pre_splitW hpre).2;obtain⟨d,r,rfl,h1,h2⟩:=hasAllW_cons hsh;obtain rfl:=hasAllW_nil h2;obtain⟨xs,rfl,h3⟩:=hasW_list h1;obtain⟨ns,rfl⟩:=items_int h3
 have hlen:ns.length<=n:=by
  unfold OpenLaw.pre at hc
  have h4:(WTm.not (.lt (.lit (.int n)) (.len (.arg 0)))).holds [] { args:=[.list (ns.map .int)] }=true:=by
   have h4:=(holds_andW hc).1;rw[hn] at h4;exact h4
  have h5:=condW_of h4 (w_not (w_lt w_lit (w_len_list (w_arg rfl))));rw[E3z] at h5;refine Nat.le_of_not_lt fun q=>?_
  have q':(n:Int)<((ns.length:Nat):Int):=by omega
  first
   | (rw[U3z q'] at h5;exact absurd h5 (by decide))
   | (simp at h5;omega)
 cases hwl with
 | cons w1 w2 =>
  cases w2
  cases w1 with
  | list ho hall=>exact⟨_,_,ns,rfl,rfl,ho,lF ns _ hall,hlen⟩
theorem yh(l:OpenLaw)(args:List WData):l.row.toRowW.claim.post args (.bool true) args=true :=
 postW_of (r:=l.row.toRowW) (X:=(true==true))
  (show WShape.has [] (.bool true) .bool=true by first | rfl | decide | simp[WShape.has,WShape.arms,WShape.armsAll])
  (show(WTm.eq .res (.lit (.bool true))).value [] { args:=args,res:=some (.bool true),after:=args }=some (.bool (true==true)) from w_eq_bool (w_res rfl) w_lit) rfl
theorem tO{l:OpenLaw}{n:Nat}{q:Program}{loose:List Str}{XP:(Str->Option Value)->Heap->Prop}{YP:World->Heap->Prop}{d:DefRec}
  (hn:l.most=some n) (hdf:d.params.defaults=[])
  (call : ∀ (w : World) (s₀ s₁ : Shared) (mg mb : Str -> Option Value) (fa : Addr) (o : Obj) (pm cd doc : Value) (a : Addr) (vs : List Value) (ns : List Int),
   Ground q loose [] XP w s₀ mg mb s₁.heap->YP w s₁.heap ->
   s₁.heap.get? fa=some o->o.data=.func (docDef d.name d.params d.body d.scope pm cd doc)->s₁.heap.CodeRec cd d.name->mg d.name=some (.ref fa) ->
   s₁.heap.get? a=some { cls:=.type "list",data:=.seq vs.toArray }->IntsAre vs ns->ns.length<=n->s₁.gens = #[] ->
   codeAny (model l.prog w) callerA (.call (.ref fa) ⟨[.ref a],[]⟩) (fun r s'=>r=.ok (.ret (.bool true))/\OldK s₁.heap s'.heap/\s'.os=s₁.os/\AllBare s'.gens) s₁) :
  WalkO q loose XP YP l.row.toRowW d [] (fun f vs=>PySem.call f vs):=by
 intro w s₀ s₁ mg mb G Y fa o pm cd doc dV kV ho hd hcd hD hmg hg args vals as hpre hlay hrd hwl hlo;obtain rfl:dV=.none:=Dflts.none hD hdf;obtain rfl:kV=.none:=Dflts.noKw hD;obtain⟨a,vs,ns,rfl,rfl,hobj,hints,hlen⟩:=xQ hn hpre hwl;refine enter_call (O4z (call w s₀ s₁ mg mb fa o pm cd doc a vs ns G Y ho (fd_plain hd) hcd hmg hobj hints hlen hg) fun r s' hq=>?_);obtain⟨rfl,h2,h3,h4⟩:=hq;exact⟨.inl ⟨.bool true,.bool true,[],rfl,fun _=>rfl,.bool true,yh l _,fun _=>⟨List.Pairwise.nil,fun _ hm=>(nomatch hm)⟩⟩,h2,h3,h4⟩
section
variable {prog:Program} {w:World} {A:Around} {E:Value->Shared->Prop} {s:Shared} {K:Frag}
def ledger(h:Heap)(L d:Addr):List (Addr×Obj):=(List.range h.objs.size).filterMap fun a=>if a=L\/a=d then none else(h.get? a).map fun o=>(a,o)
end
end Att
namespace L2
open PySem PySem.Spec PyProof.Rows
theorem pB:∀ {vs:List Value} {ns:List Int},IntsAre vs ns->Vals (ns.map V.int) vs
 | _,_,.nil=>.nil
 | _,_,.cons n t h=>.cons ⟨t,rfl⟩ (pB h)
def Only(H:Hp):Prop:=∀ b,H b=none\/∃ o xs,H b=some (.frz o (.lst xs))
def inClass(s:Stmt)(j:Nat):Stmt:=match s with
 | .ClassDef _ _ _ body _ _ _ _ _ _ _=>body.getD j (.Pass ⟨0,0,0,0⟩)
 | _=>.Pass ⟨0,0,0,0⟩
def bM(s:Stmt):Arguments:=match s with
 | .FunctionDef _ a _ _ _ _ _ _ _ _=>a
 | _=>{ posonlyargs:=[],args:=[],vararg:=none,kwonlyargs:=[],kw_defaults:=[],kwarg:=none,defaults:=[] }
def aL(s:Stmt):List Stmt:=match s with
 | .FunctionDef _ _ b _ _ _ _ _ _ _=>b
 | _=>[]
def ao(s:Stmt):Scope:=match s with
 | .FunctionDef _ _ _ _ _ _ sc _ _ _=>sc
 | _=>{ kind:=.function,names:=[],isGenerator:=false,isCoroutine:=false }
abbrev CX0:CXT:=fun _ _ _ _ _ _=>False
abbrev E0:XK:=fun _ _ _=>False
structure Fun (K:Z3) (x qual:Str) (st:Stmt) (f:Addr) (fd:FuncData):Prop where
 ex:∃ (oc:Value) (od:Option Addr) (kV doc pm:Value) (an:Option Addr) (cdv ct:Value) (osl:Array (Option Value)),
  fd=W.fnOf x qual (bM st) (aL st) (ao st) .none kV doc pm an cdv ct/\K.lookup f=some ⟨oc,od,.func fd,osl⟩/\W.codeIn K cdv qual=true
 kp:W.keepIn K (.ref f)=true
section
variable {P:Program} {w:World} {K:Z3} {mg:Str->Option Value} {base:Heap}
theorem Fun.binds{x qual:Str}{st:Stmt}{f:Addr}{fd:FuncData}{ps:List Str}(F:Fun K x qual st f fd)
  (h:∀ (kV doc pm:Value) (an:Option Addr) (cdv ct:Value) (us:List Value),us.length=ps.length->bindArgs (W.fnOf x qual (bM st) (aL st) (ao st) .none kV doc pm an cdv ct) ⟨us,[]⟩=pure (ps.zip us)):Binds K fd ps []:=by
 obtain⟨oc,od,kV,doc,pm,an,cdv,ct,osl,rfl,lk,hcd⟩:=F.ex;exact .all (h kV doc pm an cdv ct)
theorem fun_mk{x qual:Str}{st:Stmt}{f:Addr}{oc:Value}{od an:Option Addr}{osl:Array (Option Value)}{kV doc pm cdv ct:Value}(l:K.lookup f=some ⟨oc,od,.func (W.fnOf x qual (bM st) (aL st) (ao st) .none kV doc pm an cdv ct),osl⟩)
  (c:W.codeIn K cdv qual=true) (k:W.keepIn K (.ref f)=true):Fun K x qual st f (W.fnOf x qual (bM st) (aL st) (ao st) .none kV doc pm an cdv ct):=⟨⟨oc,od,kV,doc,pm,an,cdv,ct,osl,rfl,l,c⟩,k⟩
end
theorem Dk{A:Around}{k:Nat}(hr:Room k A):A.units+1<cLine:=P1z (Nat.add_le_add_left (by decide:1<=64) _) hr.units
section
variable {X:Cx}
theorem pv(i:Nat){x:Str}{pos:Pos}(hN:X.N[i]?=some x:=by rfl)(hv:Vis X.env.scope x:=by first | exact Or.inl rfl | exact Or.inr (Or.inl rfl) | exact Or.inr (Or.inr rfl))(hd:(x==("__debug__":Str))=false:=by decide)
  (hcd:(x==("__classdict__":Str))=false:=by decide):PE X (.Name x pos) (Qn i):=mD hN hv hd hcd
end
theorem mK{A B:Prop}(h:B):if false=true then A else B:=by
 rw[M5z K1z];exact h
theorem ql{A B:Prop}(h:A):if true=true then A else B:=by
 rw[L5z rfl];exact h
def Same(H H':Hp):Prop:=∀ b o,H b=some o->H' b=some o
theorem Same.refl(H:Hp):Same H H:=fun _ _ h=>h
theorem Same.trans{H H1 H2:Hp}(a:Same H H1)(b:Same H1 H2):Same H H2:=fun c o h=>b c o (a c o h)
theorem Same.free{H H':Hp}(e:Same H H'){l:Addr}(h:H' l=Option.none):H l=Option.none:=by
 cases q:H l with
 | none=>rfl
 | some o =>
  rw[e l o q] at h;cases h
theorem Same.seq{K:Z3}{H H':Hp}{a:Addr}{xs:List V}(e:Same H H')(h:SqL K H a xs):SqL K H' a xs:=by
 rcases h with(h | ⟨o,h⟩) | h
 .exact .inl (.inl (e _ _ h))
 .exact .inl (.inr ⟨o,e _ _ h⟩)
 .exact .inr h
def iY(cells:List (Str×Addr)):List (Str×NameKind)->List (Str×Addr)->List (Str×Addr)
 | [],acc=>acc
 | (x,k)::r,acc=>if k==.free then iY cells r ((x,(cells.lookup x).getD 0)::acc) else iY cells r acc
theorem n6{env:Env}(f:Str×NameKind->List (Str×Addr)->Sem (ForInStep (List (Str×Addr))))
  (hf:∀ name kind cs,f (name,kind) cs=if kind==.free then(do let a <- cellOf env name;pure (.yield ((name,a)::cs))) else pure (.yield cs)) :
  ∀ (l:List (Str×NameKind)) (acc:List (Str×Addr)),(∀ x,(x,NameKind.free)∈l->∃ c,env.cells.lookup x=some c)->(forIn l acc f:Sem (List (Str×Addr)))=pure (iY env.cells l acc)
 | [],acc,_=>by rw[List.forIn_nil];rfl
 | (x,k)::r,acc,h=>by
  rw[List.forIn_cons,hf];unfold iY
  cases hk:k==NameKind.free with
  | false =>
   simp only[Q1z,I5z];show(forIn r acc f:Sem _)=_;exact n6 f hf r acc fun y hy=>h y (S0z _ hy)
  | true =>
   simp only[K5z]
   have ek:k=.free:=by simpa using hk
   obtain⟨c,hc⟩:=h x (by rw[ek];exact I1z)
   have e1:cellOf env x=pure c:=by unfold cellOf;rw[hc]
   rw[e1,hc];show(forIn r ((x,c)::acc) f:Sem _)=_;exact n6 f hf r _ fun y hy=>h y (S0z _ hy)
theorem fY{env:Env}{scope:Scope}(h:∀ x,(x,NameKind.free)∈scope.names->∃ c,env.cells.lookup x=some c):closureFor scope env=pure (iY env.cells scope.names []):=by
 simp only[closureFor];rw[n6 (env:=env) _ (fun name kind cs=>by cases hk:kind==NameKind.free<;>simp[hk]) scope.names [] h];rfl
theorem rP{M:Model}{A:Around}{E:Value->Shared->Prop}{s:Shared}{scope:Scope}{globals:Addr}{closure:List (Str×Addr)}{qual:Str}{outer:Env}{Q:Env->Shared->Prop}
  (hQ:Q (newEnv scope s.heap.objs.size globals (cellsFrom (s.heap.objs.size+1) scope.names closure) qual none .none (some outer) builtinsNs) { s with heap:=pushCells (s.heap.push { cls:=.type "dict",data:=.dict #[] }) scope.names }) :
  wpAny M A (newFunctionEnv scope globals closure [] qual none .none (some outer)) Q E s:=by
 simp only[newFunctionEnv,Option.isSome_some,K5z];refine A5z (wpAny_alloc ?_);refine A5z (wpAny_layCells _ (fun name kind cells=>by cases hkc:kind==NameKind.cell<;>simp[hkc]) _ _ _ _ ?_);rw[show({ s with heap:=s.heap.push { cls:=.type "dict",data:=.dict #[] } }:Shared).heap.objs.size=s.heap.objs.size+1 from T3z ..];rw[List.forIn_nil];exact A5z (B5z (B5z hQ))
theorem iJ{α:Type}:∀ {l:List (Str×α)} {x:Str} {c:α},(x,c)∈l->∃ d,l.lookup x=some d
 | (y,d)::r,x,c,h=>by
  rw[O2z]
  cases hb:x==y with
  | true=>exact⟨d,rfl⟩
  | false =>
   rcases H4z.mp h with e | h
   .cases e;simp at hb
   .exact iJ h
theorem cC{α:Type}:∀ {l:List (Str×α)} {x:Str} {c:α},(l.map (·.1)).Nodup->(x,c)∈l->l.lookup x=some c
 | (y,d)::r,x,c,hn,h=>by
  rw[A4z,H3z] at hn;rw[O2z];rcases H4z.mp h with e | h'
  .cases e;simp
  .have hne:(x==y)=false:=by
    rw[C1z];intro exy;exact hn.1 (List.mem_map.mpr ⟨(x,c),h',exy⟩)
   rw[hne];exact cC hn.2 h'
theorem dh{x:Str}{c:Addr}:∀ (names:List (Str×NameKind)) (n:Nat) (acc:List (Str×Addr)),(cellsFrom n names acc).lookup x=some c ->
  ((x,NameKind.cell)∈names/\n<=c)\/((x,NameKind.cell)∉names/\acc.lookup x=some c)
 | [],_,_,h=>.inr ⟨by simp,h⟩
 | (y,k)::r,n,acc,h=>by
  unfold cellsFrom at h
  cases hk:k==NameKind.cell with
  | true =>
   have ek:k=.cell:=by simpa using hk
   subst ek;rw[L5z (show(NameKind.cell==NameKind.cell)=true from rfl)] at h;rcases dh r _ _ h with⟨h1,h2⟩ | ⟨h1,h2⟩
   .exact .inl ⟨S0z _ h1,by omega⟩
   .rw[O2z] at h2
    cases hb:x==y with
    | true =>
     rw[hb] at h2;cases h2
     have:x=y:=by simpa using hb
     subst this;exact .inl ⟨I1z,T4z _⟩
    | false =>
     rw[hb] at h2;refine .inr ⟨fun hm=>?_,h2⟩;rcases H4z.mp hm with e | hm
     .cases e;simp at hb
     .exact h1 hm
  | false =>
   rw[hk] at h;simp only[Q1z,I5z] at h;rcases dh r _ _ h with⟨h1,h2⟩ | ⟨h1,h2⟩
   .exact .inl ⟨S0z _ h1,h2⟩
   .refine .inr ⟨fun hm=>?_,h2⟩
    rcases H4z.mp hm with e | hm
    .cases e;simp at hk
    .exact h1 hm
theorem dO:∀ (names:List (Str×NameKind)) (n:Nat) (acc:List (Str×Addr)),(acc.Pairwise fun x y=>x.2≠y.2)->(∀ p∈acc,p.2<n)->(cellsFrom n names acc).Pairwise fun x y=>x.2≠y.2
 | [],_,_,h,_=>h
 | (y,k)::r,n,acc,h,hl=>by
  unfold cellsFrom;split
  .refine dO r _ _ (List.pairwise_cons.mpr ⟨fun p hp e=>?_,h⟩) fun p hp=>?_
   .have e':n=p.2:=e
    have q:=hl p hp;rw[<- e'] at q;exact Y3z _ q
   .rcases H4z.mp hp with e | hp
    .subst e;exact N2z _
    .exact D2z (hl p hp)
  .exact dO r _ _ h hl
theorem oK{cells:List (Str×Addr)}(inj:∀ x y c,cells.lookup x=some c->cells.lookup y=some c->x=y):∀ (names:List (Str×NameKind)) (acc:List (Str×Addr)),(names.map (·.1)).Nodup->(∀ x,(x,NameKind.free)∈names->∃ c,cells.lookup x=some c) ->
  (acc.Pairwise fun x y=>x.2≠y.2)->(∀ p∈acc,cells.lookup p.1=some p.2/\p.1∉names.map (·.1))->((iY cells names acc).Pairwise fun x y=>x.2≠y.2)/\∀ p∈iY cells names acc,cells.lookup p.1=some p.2
 | [],acc,_,_,h1,h2=>⟨h1,fun p hp=>(h2 p hp).1⟩
 | (y,k)::r,acc,hn,hf,h1,h2=>by
  rw[A4z,H3z] at hn;have hf':∀ x,(x,NameKind.free)∈r->∃ c,cells.lookup x=some c:=fun x hx=>hf x (S0z _ hx);unfold iY;split
  .rename_i hk
   have ek:k=.free:=by simpa using hk
   subst ek;obtain⟨c,hc⟩:=hf y I1z;rw[hc];refine oK inj r _ hn.2 hf' (List.pairwise_cons.mpr ⟨fun p hp e=>?_,h1⟩) fun p hp=>?_
   .have e':c=p.2:=e
    obtain⟨a1,a2⟩:=h2 p hp;rw[<- e'] at a1;have:=inj _ _ _ a1 hc;exact a2 (by rw[this];simp)
   .rcases H4z.mp hp with e | hp
    .subst e;exact⟨hc,hn.1⟩
    .exact⟨(h2 p hp).1,fun z=>(h2 p hp).2 (S0z _ z)⟩
  .exact oK inj r _ hn.2 hf' h1 fun p hp=>⟨(h2 p hp).1,fun z=>(h2 p hp).2 (S0z _ z)⟩
theorem oM{cells:List (Str×Addr)}{p:Str×Addr}:∀ (names:List (Str×NameKind)) (acc:List (Str×Addr)),p∈acc->p∈iY cells names acc
 | [],_,h=>h
 | (y,k)::r,acc,h=>by
  unfold iY;split
  .exact oM r _ (S0z _ h)
  .exact oM r _ h
theorem jV{cells:List (Str×Addr)}{x:Str}:∀ (names:List (Str×NameKind)) (acc:List (Str×Addr)),(x,NameKind.free)∈names->∃ c,(x,c)∈iY cells names acc
 | (y,k)::r,acc,h=>by
  unfold iY;rcases H4z.mp h with e | h
  .cases e
   rw[L5z (show(NameKind.free==NameKind.free)=true from rfl)];exact⟨_,oM r _ I1z⟩
  .split
   .exact jV r _ h
   .exact jV r _ h
theorem d9{env:Env}{x:Str}:∀ (names:List (Str×NameKind)),
  (names.map fun (n, k) => if (k == NameKind.free && env.scope.kind == .function && env.kindOf n == some .cell) then (n, NameKind.cell) else (n, k)).lookup x =
   (names.lookup x).map fun k=>if(k==NameKind.free&&env.scope.kind==.function&&env.kindOf x==some .cell) then NameKind.cell else k
 | []=>rfl
 | (y,k)::r=>by
  have ih:=d9 (x:=x) (env:=env) r
  by_cases hx:x=y
  .subst hx
   cases hc:(k==NameKind.free&&env.scope.kind==.function&&env.kindOf x==some .cell)<;>simp only[A4z,hc,O2z,P2z,I3z,K5z,I5z,Q1z]
  .have hb:(x==y)=false:=by simpa using hx
   cases hc:(k==NameKind.free&&env.scope.kind==.function&&env.kindOf y==some .cell)<;>simp only[A4z,hc,O2z,hb,K5z,I5z,Q1z]<;>exact ih
def tZ(N:List Str)(Y:St)(x:Str):Option V:=match N.idxOf? x with
 | some j=>(Y[j]?).getD none
 | none=>none
def yJ(N:List Str)(names:List (Str×NameKind))(Y:St):St:=names.map fun p=>if p.2==.free then tZ N Y p.1 else none
def uU(scope:Scope)(cells:List (Str×Addr))(C:Addr)(env:Env):Env :=
 { scope:=relabel scope env,locals:=C,globals:=env.globals,cells:=cells,qual:=env.qual,func:=none,code:=env.code,frame:=env.frame,builtins:=env.builtins }
structure CompOf (X:Cx) (scope:Scope) (Xc:Cx):Prop where
 prog:Xc.prog=X.prog
 w:Xc.w=X.w
 K:Xc.K=X.K
 mg:Xc.mg=X.mg
 base:Xc.base=X.base
 A:Xc.A=X.A
 N:Xc.N=scope.names.map (·.1)
 sc:Xc.env.scope=relabel scope X.env
 calm:Xc.calm=true
 fn:Xc.fn=fun x=>scope.names.lookup x==some .cell
 xe:Xc.xe=fun _ _=>False
def qC(X:Cx)(scope:Scope)(cells:List (Str×Addr))(C:Addr)(s:Shared)(H:Hp)(fp:List Addr):Cx where
 prog:=X.prog
 w:=X.w
 K:=X.K
 mg:=X.mg
 base:=X.base
 A:=X.A
 N:=scope.names.map (·.1)
 s₀:=s
 H₀:=H
 env:=uU scope cells C X.env
 outer:=X.stack
 stack:=X.stack
 ex:=fp
 fn:=fun x=>scope.names.lookup x==some .cell
 calm:=true
 pn:=[]
 xe:=fun _ _=>False
def Ec(X:Cx)(ifs:List Expr)(t:TT):Prop :=
  ∀ (z0 : List (Addr × Obj)) (s : Shared) (Y : St) (H : Hp) (Q : Bool -> Hp -> Prop), Inv X z0 Y H s -> t Y H Q ->
    wpAny (model X.prog X.w) X.A (forIn ifs true fun c r=>if r=true then do let ok <- isTrue c X.env (eval c X.env);pure (ForInStep.yield ok) else pure (ForInStep.yield r)) (TP X z0 Y Q) X.xe s
theorem Ce{X:Cx}:Ec X [] (fun _ H Q=>Q true H):=fun _ _ _ H _ I h=>wpAny_tests_nil ⟨H,I,h⟩
theorem Cd{X:Cx}{c:Expr}{t:TT}(h:PT X c t):Ec X [c] t:=fun z0 s Y H Q I hw=>wpAny_tests_one (h z0 s Y H Q I hw)
def Bw(X:Cx)(scope:Scope)(wi:TI)(mk:St->St)(g:Cx->TG)(tc:Cx->TT)(te:Cx->TE):TE:=fun Y H Q=>wi Y H fun J H1=>∀ acc,H1 acc=none->∀ Xc,CompOf X scope Xc ->
  ∃ W : Nat -> Nat -> St -> Hp -> Prop, (∃ m, W 0 m (mk Y) (upd H1 acc (.lst []))) /\ ∀ i m Yc H, W i m Yc H ->
    (J.stop i H/\Q (.ref acc) H)\/(J.go i H/\∃ N:St->Hp->Prop,(∀ Y' H',N Y' H'->∃ m',m'<m/\W (i+1) m' Y' H')/\∀ x H',J.yld i H x H' ->
      g Xc x Yc H' fun Y2 H2=>tc Xc Y2 H2 fun b H3=>if b=true then te Xc Y2 H3 fun v H4=>∃ ys,H4 acc=some (.lst ys)/\ys.length<sizeLine/\N Y2 (upd H4 acc (.lst (ys++[v]))) else N Y2 H3)
theorem gH{prog:Program}{w:World}{A:Around}{R:Result->Shared->Prop}{s:Shared}{elt target iter:Expr}{ifs:List Expr}{scope:Scope}{pos:Pos}{it acc:Value}{env:Env}(I:Nat->Shared->Prop)
  (turn:∀ n s,I n s->wpAny (model prog w) A (pyNext it) (fun r s₁=>match r with
   | none=>R (.ok .next) s₁
   | some v=>wpAny (model prog w) A (letOwnedTupleGo target it v) (fun _ s₁'=>wpAny (model prog w) A (assign target env v) (fun _ s₂ =>
     wpAny (model prog w) A (forIn ifs true fun c r=>if r=true then do let ok <- isTrue c env (eval c env);pure (ForInStep.yield ok) else pure (ForInStep.yield r)) (fun ok s₃ =>
      if ok=true then wpAny (model prog w) A (eval elt env) (fun x s₄ =>
       wpAny (model prog w) A (call (.builtin "list.append") [acc,x]) (fun _ s₅=>∃ m,m<n/\I m s₅) (fun _ _=>False) s₄) (fun _ _=>False) s₃
      else ∃ m,m<n/\I m s₃) (fun _ _=>False) s₂) (fun _ _=>False) s₁') (fun _ _=>False) s₁) (fun _ _=>False) s)
  (n:Nat) (h:I n s) :
  codeAny (model prog w) A (.compLoop (.ListComp elt [⟨target,iter,ifs,0⟩] scope pos) 0 it acc env) R s:=by
 refine codeAny_loop rfl I (fun n s hI=>?_) n h;show wpAny _ A ((compTurn (.ListComp elt [⟨target,iter,ifs,0⟩] scope pos) 0 it acc env).onRaise (fun x=>do noteFrame x env;theTreesLotGoes x)) _ _ s;refine wpAny_noted ?_;rw[compTurn_list];refine A5z (Z3z (A5z (Z4z (turn n s hI) (fun r s₁ h₁=>?_) fun _ _ h'=>h'.elim)))
 cases r with
 | none=>exact B5z h₁
 | some v =>
  refine A5z (Z4z h₁ (fun _ s₁' h₁'=>?_) fun _ _ h'=>h'.elim);refine A5z (Z4z h₁' (fun _ s₂ h₂=>A5z (Z4z h₂ (fun ok s₃ h₃=>?_) fun _ _ h'=>h'.elim)) fun _ _ h'=>h'.elim)
  cases ok with
  | false=>exact B5z ⟨rfl,h₃⟩
  | true =>
   exact A5z (A5z (Z4z h₃ (fun x s₄ h₄=>A5z (Z4z h₄ (fun _ s₅ h₅=>B5z (B5z ⟨rfl,h₅⟩)) fun _ _ h'=>h'.elim)) fun _ _ h'=>h'.elim))
section
variable {X:Cx}
theorem mW{z0:List (Addr×Obj)}{Y:St}{H:Hp}{s:Shared}{scope:Scope}(I:Inv X z0 Y H s)(hnd:(scope.names.map (·.1)).Nodup)
  (hcap:∀ x,(x,NameKind.free)∈scope.names->X.env.kindOf x=some .cell\/X.env.kindOf x=some .free) :
  (∀ x,(x,NameKind.free)∈scope.names->∃ c,X.env.cells.lookup x=some c) /\
  ((cellsFrom (s.heap.objs.size+1) scope.names (iY X.env.cells scope.names [])).Pairwise fun x y=>x.2≠y.2) /\
  (∀ x c,(cellsFrom (s.heap.objs.size+1) scope.names (iY X.env.cells scope.names [])).lookup x=some c->((x,NameKind.cell)∈scope.names/\s.heap.objs.size+1<=c)\/((x,NameKind.cell)∉scope.names/\X.env.cells.lookup x=some c/\c<s.heap.objs.size)) /\
  (∀ x,(x,NameKind.free)∈scope.names->(cellsFrom (s.heap.objs.size+1) scope.names (iY X.env.cells scope.names [])).lookup x=X.env.cells.lookup x):=by
 have hf:∀ x,(x,NameKind.free)∈scope.names->∃ c,X.env.cells.lookup x=some c:=fun x hx=>I.ok.has x (hcap x hx);have ok:=oK I.ok.inj scope.names [] hnd hf List.Pairwise.nil (fun p hp=>absurd hp (by simp))
 have small:∀ x c,X.env.cells.lookup x=some c->c<s.heap.objs.size:=fun x c e=>by
  obtain⟨v,z⟩:=I.cell x c e;exact z.lt
 refine⟨hf,dO _ _ _ ok.1 fun p hp=>D2z (small p.1 p.2 (ok.2 p hp)),fun x c e=>?_,fun x hx=>?_⟩
 .rcases dh _ _ _ e with h | ⟨h1,h2⟩
  .exact .inl h
  .have h3:=ok.2 _ (B1z h2)
   exact .inr ⟨h1,h3,small _ _ h3⟩
 .obtain⟨c,hc⟩:=hf x hx
  have nc:(x,NameKind.cell)∉scope.names:=fun z=>by
   have e1:=cC hnd z;rw[cC hnd hx] at e1;cases e1
  obtain⟨d,hd⟩:=jV (cells:=X.env.cells) scope.names [] hx;obtain⟨d',hd'⟩:=iJ hd;have hs:((cellsFrom (s.heap.objs.size+1) scope.names (iY X.env.cells scope.names [])).lookup x).isSome=true:=J0z _ _ _ (.inr (by rw[hd'];rfl));obtain⟨c',hc'⟩:=Option.isSome_iff_exists.mp hs;rcases dh _ _ _ hc' with⟨h,_⟩ | ⟨_,h2⟩
  .exact absurd h nc
  .rw[hc',ok.2 _ (B1z h2)]
theorem Ib:∀ (names:List (Str×NameKind)) (h:Heap) (acc:List (Str×Addr)) {x:Str} {c:Addr},(cellsFrom h.objs.size names acc).lookup x=some c->(x,NameKind.cell)∈names->(pushCells h names).IsCell c none:=by
 intro names
 induction names with
 | nil=>intro h acc x c e hx;cases hx
 | cons p r ih =>
  obtain⟨y,k⟩:=p;intro h acc x c e hx;unfold cellsFrom at e;unfold pushCells
  by_cases hin:(x,NameKind.cell)∈r
  .split at e
   .rename_i hk
    rw[L5z hk];refine ih (h.push { cls:=.type "cell",data:=.cell none }) ((y,h.objs.size)::acc) ?_ hin;rw[T3z];exact e
   .rename_i hk
    rw[M5z hk];exact ih h acc e hin
  .rcases H4z.mp hx with ex | hx
   .cases ex
    rw[L5z (show(NameKind.cell==NameKind.cell)=true from rfl)] at e ⊢;rcases dh _ _ _ e with⟨h1,_⟩ | ⟨_,h2⟩
    .exact absurd h1 hin
    .rw[O2z] at h2
     simp at h2;subst h2;exact⟨_,J3z _ _ _ _ (Heap.get?_push_size _ rfl),rfl⟩
   .exact absurd hx hin
theorem DW{z0:List (Addr×Obj)}{Y:St}{H:Hp}{s:Shared}{scope:Scope}{fp:List Addr}(I:Inv X z0 Y H s)(hc:X.calm=true)(hk:scope.kind=.function)(hnd:(scope.names.map (·.1)).Nodup)
  (hcap:∀ x,(x,NameKind.free)∈scope.names->X.env.kindOf x=some .cell\/X.env.kindOf x=some .free) (hfp:∀ b∈fp,u9 X z0 H b) (hlt:∀ b∈fp,b<s.heap.objs.size) :
  Inv (qC X scope (cellsFrom (s.heap.objs.size+1) scope.names (iY X.env.cells scope.names [])) s.heap.objs.size s H fp) [] (yJ X.N scope.names Y) H { s with heap:=pushCells (s.heap.push { cls:=.type "dict",data:=.dict #[] }) scope.names }:=by
 obtain⟨hf,apart,look,same⟩:=mW I hnd hcap;have keep:∀ b o,s.heap.get? b=some o->(pushCells (s.heap.push { cls:=.type "dict",data:=.dict #[] }) scope.names).get? b=some o:=fun b o e=>J3z _ _ b o (Heap.get?_push_of_some _ e);have ckd:=cellsFrom_ok scope.names (s.heap.push { cls:=.type "dict",data:=.dict #[] }) (s.heap.objs.size+1) [] ⟨fun _ _ hm=>(nomatch hm),List.Pairwise.nil⟩ (by rw[T3z];exact T4z _);rw[T3z] at ckd;have own:∀ x c,(cellsFrom (s.heap.objs.size+1) scope.names (iY X.env.cells scope.names [])).lookup x=some c->(x,NameKind.cell)∈scope.names->(pushCells (s.heap.push { cls:=.type "dict",data:=.dict #[] }) scope.names).IsCell c none:=fun x c e hx=>Ib scope.names (s.heap.push { cls:=.type "dict",data:=.dict #[] }) _ (by rw[T3z];exact e) hx;have kinds:∀ x,(qC X scope (cellsFrom (s.heap.objs.size+1) scope.names (iY X.env.cells scope.names [])) s.heap.objs.size s H fp).env.kindOf x=(scope.names.lookup x).map fun k=>if(k==NameKind.free&&X.env.scope.kind==.function&&X.env.kindOf x==some .cell) then NameKind.cell else k:=fun x=>d9 scope.names;have fresh:∀ {b:Addr},s.heap.objs.size<=b->H b=none:=fun hb=>I.hok.fresh hb
 refine⟨⟨I.ok.mod,hk,I.ok.glob,I.ok.blt,T4z _,fun x y c e1 e2=>name_of_addr apart (B1z e1) (B1z e2),fun x hx=>?_,fun x c hx e=>?_,fun _=>I.ok.hd hc,I.ok.frames,.inl rfl,fun b hb=>⟨K4z (hlt b hb),fun x c e=>?_⟩,I.bs,L4z I.ok.bsz I.sz,fun b o e hb=>?_,fun b hb z=>?_,I.stack,I.stkFree⟩,
  rfl,I.bare,Un.kept keep,⟨fun _=>none,?_,fun i x v e1 e2 e3=>?_⟩,fun x c e=>?_,fresh (T4z _),fun x c e=>?_,fun p hp=>absurd (show p∈([]:List (Addr×Obj)) from hp) (by simp),I.hok.kept keep,?_⟩
 ·
  rw[kinds x] at hx
  cases hl:scope.names.lookup x with
  | none=>rw[hl] at hx;rcases hx with h | h<;>cases h
  | some k =>
   rw[hl] at hx;have hm:=B1z hl
   cases k with
   | cell=>exact Option.isSome_iff_exists.mp (J0z _ _ _ (.inl hl))
   | free =>
    obtain⟨c,h⟩:=hf x hm;exact⟨c,(same x hm).trans h⟩
   | _=>simp at hx
 .have hm:(x,NameKind.cell)∈scope.names:=B1z (by simpa[qC] using hx)
  rcases look x c e with⟨_,h⟩ | ⟨h,_⟩
  .exact E2z h
  .exact absurd hm h
 .rcases look x c e with⟨_,h⟩ | ⟨_,h,_⟩
  .exact N4z (G1z (hlt b hb) (E2z h))
  .exact(hfp b hb).2.2.2.2.1 x c h
 .rcases(hfp b hb).2.2.2.1 with z | z
  .exact I.ok.noex b o e z
  .exact absurd (G1z (J4z e) (L4z I.ok.bsz z)) (Y3z _)
 .rcases H4z.mp (I.stkSub b z) with h | h
  .exact(hfp b hb).2.1 h
  .exact(hfp b hb).2.2.1 h
 .exact(Heap.Ns.new s.heap (.type "dict")).keeps (J3z _ _)
 ·
  have e1':(scope.names.map (·.1))[i]?=some x:=e1;rw[List.getElem?_map] at e1';unfold yJ at e2;rw[List.getElem?_map] at e2
  cases hp:scope.names[i]? with
  | none=>rw[hp] at e2;cases e2
  | some p =>
   rw[hp] at e1' e2;have ex:p.1=x:=C3z e1';have e2':(if p.2==.free then tZ X.N Y p.1 else none)=some v:=C3z e2
   cases hk2:p.2==NameKind.free with
   | false=>rw[hk2] at e2';simp at e2'
   | true =>
    rw[hk2] at e2';simp only[K5z] at e2'
    have ek:p.2=.free:=by simpa using hk2
    have hm:(x,NameKind.free)∈scope.names:=by
     have:=List.mem_of_getElem? hp;rw[<- ex,<- ek];exact this
    unfold tZ at e2';rw[ex] at e2'
    cases hj:X.N.idxOf? x with
    | none=>rw[hj] at e2';cases e2'
    | some j =>
     rw[hj] at e2';have e3:(Y[j]?).getD none=some v:=e2'
     have hY:Y[j]?=some (some v):=by
      cases q:Y[j]? with
      | none=>rw[q] at e3;simp at e3
      | some o=>rw[q] at e3;simp at e3;rw[e3]
     have hN:X.N[j]?=some x:=by
      rw[List.idxOf?,List.findIdx?_eq_some_iff_getElem] at hj;obtain⟨h1,h2,_⟩:=hj;rw[List.getElem?_eq_getElem h1];simpa using h2
     obtain⟨m,hn,hl⟩:=I.loc;have kx:=hcap x hm;obtain⟨u,r,l⟩:=hl j x v hN hY (by rcases kx with k | k;exact .inr (.inl k);exact .inr (.inr k));refine⟨u,r,.inr ⟨?_,?_⟩⟩
     .rw[kinds x,cC hnd hm]
      simp only[I3z];split
      .exact .inl rfl
      .exact .inr rfl
     .rcases l with⟨k,_⟩ | ⟨_,c,hc',z⟩
      .rcases kx with k' | k'<;>(rw[k'] at k;cases k)
      .exact⟨c,(same x hm).trans hc',z.keeps keep⟩
 .rcases look x c e with⟨h,_⟩ | ⟨_,h,_⟩
  .exact⟨_,own x c e h⟩
  .obtain⟨v,z⟩:=I.cell x c h
   exact⟨v,z.keeps keep⟩
 .rcases look x c e with⟨_,h⟩ | ⟨_,h,_⟩
  .exact fresh (E2z h)
  .exact I.freeC x c h
 .show(yJ X.N scope.names Y).length=(scope.names.map (·.1)).length
  unfold yJ;rw[E3z,E3z]
structure Blk (X:Cx) (z0:List (Addr×Obj)) (H:Hp) (s:Shared) (C:Addr):Prop where
 ns:∃ m,s.heap.Ns C m
 free:H C=none
 loc:C≠X.env.locals
 abv:X.s₀.heap.objs.size<=C
 cel:∀ x c,X.env.cells.lookup x=some c->c≠C
 pin:∀ p∈X.pn++z0,p.1≠C
theorem Ac{elt tg iter:Expr}{ifs:List Expr}{scope:Scope}{pos:Pos}{wi:TI}{g:Cx->TG}{tc:Cx->TT}{te:Cx->TE}(hc:X.calm=true)(hk:scope.kind=.function)(hnd:(scope.names.map (·.1)).Nodup)
  (hcap:∀ x,(x,NameKind.free)∈scope.names->X.env.kindOf x=some .cell\/X.env.kindOf x=some .free) (hi:PI X tg iter wi)
  (hin:∀ Xc:Cx,CompOf X scope Xc->PG Xc tg (g Xc)/\Ec Xc ifs (tc Xc)/\PE Xc elt (te Xc)) {z0:List (Addr×Obj)} {s:Shared} {Y:St} {H:Hp} {Q:VK} (I:Inv X z0 Y H s) (h:Bw X scope wi (yJ X.N scope.names) g tc te Y H Q) {R:Value->Addr->Result->Shared->Prop}
  (fin:∀ acc C H' s',Inv X z0 Y H' s'->Blk X z0 H' s' C->Q (.ref acc) H'->R (.ref acc) C (.ok .next) s') :
  wpAny (model X.prog X.w) X.A (eval iter X.env) (fun x s₁=>wpAny (model X.prog X.w) X.A (pyIter x) (fun it s₂=>wpAny (model X.prog X.w) X.A (newList []) (fun acc s₃ =>
   wpAny (model X.prog X.w) X.A (newFunctionEnv scope X.env.globals (iY X.env.cells scope.names []) [] X.env.qual none .none (some X.env)) (fun cenv s₄ =>
    codeAny (model X.prog X.w) X.A (.compStart (.ListComp elt [⟨tg,iter,ifs,0⟩] scope pos) 0 it acc { cenv with scope:=relabel scope X.env }) (R acc cenv.locals) s₄) X.xe s₃) X.xe s₂) X.xe s₁) X.xe s:=by
 refine thn (hi z0 s Y H _ I h) fun v s1 h1=>thn h1 fun itv s2 h2=>?_;obtain⟨it,fp,tn,J,H2,rfl,I2,T,st2,f2,q2⟩:=h2;refine Z1z ?_;have hf:H2 s2.heap.objs.size=none:=I2.hok.fresh (T4z _);have I3:=I2.lnew (ys:=[]) (its:=[]) (t':=s2.toks) .nil (V4z _);generalize hs3:({ s2 with heap:=s2.heap.push { cls:=.type "list",data:=.seq ([]:List Value).toArray },toks:=s2.toks }:Shared)=s3 at I3
 have lt2:∀ b∈fp,b<s2.heap.objs.size:=fun b hb=>by
  obtain⟨o,e,_⟩:=T.obj _ _ st2 b hb;exact J4z e
 have f3:∀ b∈fp,u9 X z0 (upd H2 s2.heap.objs.size (.lst [])) b:=fun b hb=>⟨by rw[aj (K4z (lt2 b hb))];exact(f2 b hb).1,(f2 b hb).2⟩
 have sz3:s3.heap.objs.size=s2.heap.objs.size+1:=by rw[<- hs3];exact T3z ..
 have lt3:∀ b∈fp,b<s3.heap.objs.size:=fun b hb=>by rw[sz3];exact D2z (lt2 b hb)
 have st3:tn 0 s3.heap:=T.keep _ _ _ st2 fun b hb o e=>by rw[<- hs3];exact Heap.get?_push_of_some _ e
 have J0:=DW I3 hc hk hnd hcap f3 lt3;have cO:CompOf X scope (qC X scope (cellsFrom (s3.heap.objs.size+1) scope.names (iY X.env.cells scope.names [])) s3.heap.objs.size s3 (upd H2 s2.heap.objs.size (.lst [])) fp):=⟨rfl,rfl,rfl,rfl,rfl,rfl,rfl,rfl,rfl,rfl,rfl⟩;obtain⟨hg,hif,he⟩:=hin _ cO;obtain⟨W,⟨m0,w0⟩,turn⟩:=q2 s2.heap.objs.size hf _ cO;refine rP ?_;have st4:tn 0 (pushCells (s3.heap.push { cls:=.type "dict",data:=.dict #[] }) scope.names):=T.keep _ _ _ st3 fun b _ o e=>J3z _ _ b o (Heap.get?_push_of_some _ e);generalize hXc:qC X scope (cellsFrom (s3.heap.objs.size+1) scope.names (iY X.env.cells scope.names [])) s3.heap.objs.size s3 (upd H2 s2.heap.objs.size (.lst [])) fp=Xc at J0 hg hif he turn
 have hprog:Xc.prog=X.prog:=by rw[<- hXc];rfl
 have hw:Xc.w=X.w:=by rw[<- hXc];rfl
 have hK:Xc.K=X.K:=by rw[<- hXc];rfl
 have hA:Xc.A=X.A:=by rw[<- hXc];rfl
 have hcm:Xc.calm=true:=by rw[<- hXc];rfl
 have hxe:Xc.xe=fun _ _=>False:=by rw[<- hXc];rfl
 have hen:Xc.env=uU scope (cellsFrom (s3.heap.objs.size+1) scope.names (iY X.env.cells scope.names [])) s3.heap.objs.size X.env:=by rw[<- hXc];rfl
 have hex:Xc.ex=fp:=by rw[<- hXc];rfl
 have hfs:Xc.fs=frs X.stack:=by rw[<- hXc];rfl
 have hs0:Xc.s₀=s3:=by rw[<- hXc];rfl
 have hH0:Xc.H₀=upd H2 s2.heap.objs.size (.lst []):=by rw[<- hXc];rfl
 have hpn:Xc.pn=[]:=by rw[<- hXc];rfl
 have stat:∀ {H':Hp},(∀ b∈fp,H' b=none)->∀ b∈fp,u9 Xc [] H' b:=fun {H'} hn b hb=>by
  refine⟨hn b hb,(J0.ok.exf b (by rw[hex];exact hb)).1,fun z=>J0.ok.exfs b (by rw[hex];exact hb) z,.inl (by rw[hex];exact hb),(J0.ok.exf b (by rw[hex];exact hb)).2,fun p hp=>?_⟩
  rw[hpn] at hp;exact absurd hp (by simp)
 have loop:codeAny (model X.prog X.w) X.A (.compLoop (.ListComp elt [⟨tg,iter,ifs,0⟩] scope pos) 0 (.ref it) (.ref s2.heap.objs.size) Xc.env)
   (R (.ref s2.heap.objs.size) s3.heap.objs.size) { s3 with heap:=pushCells (s3.heap.push { cls:=.type "dict",data:=.dict #[] }) scope.names }:=by
  refine gH (fun n s'=>∃ i Y' H',Inv Xc [] Y' H' s'/\tn i s'.heap/\(∀ b∈fp,H' b=none)/\W i n Y' H') ?_ m0 ⟨0,_,_,J0,st4,fun b hb=>(f3 b hb).1,w0⟩;rintro n s5 ⟨i,Y5,H5,I5,st5,fr5,w5⟩;rcases turn i n Y5 H5 w5 with⟨stop,qn⟩ | ⟨go,N,hN,step⟩
  .have q:=T.done Xc hprog hw hK hcm i [] s5 Y5 H5 (fun _ _=>False) I5 (stat fr5) st5 stop
   rw[hA] at q;refine thn q fun r s6 ⟨hr,I6⟩=>?_;subst hr
   have hL:Xc.env.locals=s3.heap.objs.size:=by rw[hen];rfl
   have ub:=I6.base;rw[hfs,hex,hH0,hs0] at ub
   have IX:Inv X z0 Y H5 s6:=by
    refine I3.call' (ch:=fp) ?_ ub ?_ I6.bare fun b hb=>⟨(f3 b hb).2.2.2.1,(f3 b hb).2.1,(f3 b hb).2.2.2.2.1,(f3 b hb).2.2.2.2.2⟩
    .have:=I6.os
     rw[hs0] at this;exact this
    .have hok:=I6.hok
     rw[hprog,hw] at hok;exact hok
   refine fin _ _ _ _ IX ⟨?_,?_,N4z I3.lt,I3.sz,fun x c e=>?_,fun p hp=>?_⟩ qn
   .obtain⟨m,hn,_⟩:=I6.loc
    rw[hL] at hn;exact⟨m,hn⟩
   .have:=I6.free
    rw[hL] at this;exact this
   .obtain⟨v,z⟩:=I3.cell x c e
    exact K4z z.lt
   .exact K4z (J4z (I3.pin p hp).1)
  .have q:=T.item Xc hprog hw hK hcm i [] s5 Y5 H5 (fun _ _=>False) I5 (stat fr5) st5 go
   rw[hA] at q;refine thn q fun r s6 ⟨u,hr,h6⟩=>?_;subst hr;refine thn h6 fun _ s7 ⟨x,H7,I7,r7,y7,st7,fr7⟩=>?_;have I7':=I7.pinned (stat fr7) (T.obj _ _ st7);have q8:=hg _ s7 Y5 H7 x u _ I7' r7 (step x H7 y7);rw[hprog,hw,hA,hxe] at q8;refine thn q8 fun _ s8 ⟨Y8,H8,I8,z8⟩=>?_;have q9:=hif _ s8 Y8 H8 _ I8 z8;rw[hprog,hw,hA,hxe] at q9;refine thn q9 fun ok s9 ⟨H9,I9,z9⟩=>?_
   have again:∀ {s':Shared} {Y':St} {H':Hp},Inv Xc ([]++pU fp s7.heap) Y' H' s'->N Y' H'->∃ m,m<n/\∃ i Y' H',Inv Xc [] Y' H' s'/\tn i s'.heap/\(∀ b∈fp,H' b=none)/\W i m Y' H':=fun {s' Y' H'} I' n'=>by
    obtain⟨m',hm,w'⟩:=hN Y' H' n';refine⟨m',hm,i+1,Y',H',I'.unpinned,T.keep _ _ _ st7 fun b hb o e=>(I'.pin (b,o) (N0z _ (N0z _ (gk hb e)))).1,fun b hb=>?_,w'⟩;obtain⟨o,e,d⟩:=T.obj _ _ st7 b hb;exact(I'.pin (b,o) (N0z _ (N0z _ (gk hb e)))).2.1
   cases ok with
   | false =>
    rw[M5z K1z] at z9 ⊢;exact again I9 z9
   | true =>
    rw[L5z rfl] at z9 ⊢;have q10:=he _ s9 Y8 H9 _ I9 z9;rw[hprog,hw,hA,hxe] at q10;refine thn q10 fun uv s10 ⟨v,H10,I10,r10,ys,hy,hz,z10⟩=>?_;have q11:=lg (X:=Xc) _ s10 Y8 H10 (.ref s2.heap.objs.size) [v] (.ref s2.heap.objs.size) [uv] (fun _ H'=>N Y8 H') I10 rfl (.cons r10 .nil) ⟨_,ys,v,rfl,rfl,hy,hz,z10⟩;rw[hprog,hw,hA,hxe] at q11;exact thn q11 fun _ s11 ⟨_,H11,I11,_,z11⟩=>again I11 z11
 have eenv:({ (newEnv scope s3.heap.objs.size X.env.globals (cellsFrom (s3.heap.objs.size+1) scope.names (iY X.env.cells scope.names [])) X.env.qual none .none (some X.env) builtinsNs) with scope:=relabel scope X.env }:Env)=Xc.env:=by rw[hen];rfl
 rw[eenv];exact codeAny_compStart_list loop (T.self X.A 0 _ _ _ st4 loop)
theorem Blk.gone{z0:List (Addr×Obj)}{Y:St}{H:Hp}{s:Shared}{C:Addr}{h':Heap}(b:Blk X z0 H s C)(I:Inv X z0 Y H s)(hs:Heap.SameBut C s.heap h'):Inv X z0 Y H { s with heap:=h' } :=
 I.turned (t':=s.toks) (fun c o hc e=>(hs.2 c hc).trans e) b.free b.loc (.inr b.abv) b.cel b.pin
theorem yr{elt tg iter:Expr}{ifs:List Expr}{scope:Scope}{pos:Pos}{wi:TI}{g:Cx->TG}{tc:Cx->TT}{te:Cx->TE}(hc:X.calm=true)(hk:scope.kind=.function)(hnd:(scope.names.map (·.1)).Nodup)
  (hcap:∀ x,(x,NameKind.free)∈scope.names->X.env.kindOf x=some .cell\/X.env.kindOf x=some .free) (hi:PI X tg iter wi)
  (hin:∀ Xc:Cx,CompOf X scope Xc->PG Xc tg (g Xc)/\Ec Xc ifs (tc Xc)/\PE Xc elt (te Xc)) (hs:∀ x,foldedSetIterable iter X.env x=pure x) :
  PE X (.ListComp elt [⟨tg,iter,ifs,0⟩] scope pos) (Bw X scope wi (yJ X.N scope.names) g tc te):=by
 intro z0 s Y H Q I h;rw[eval_ListComp];refine wpAny_comprehension_free (use:=none) (cl:=iY X.env.cells scope.names []) rfl hs (fY (mW I hnd hcap).1) hk (fun x hx hl=>cC hnd (by rw[<- hl];exact hx)) ?_;refine Ac hc hk hnd hcap hi hin I h fun acc C H' s' I' b q=>?_;obtain⟨m,hn⟩:=b.ns;exact⟨m,hn,fun h' hsb=>⟨.ref acc,H',b.gone I' hsb,rfl,q⟩⟩
end
def Its(x:Str):It:=⟨fun i _=>i<x.cps.size,fun i H v H'=>H'=H/\∃ c,x.cps[i]?=some c/\v=.str ⟨#[c]⟩,fun i _=>x.cps.size<=i⟩
theorem Bq{P:Program}{w:World}{K:Z3}{tg:Expr}(it:Addr)(x:Str)(t:Tok):Turn P w K tg (Its x) [it] it (fun i h=>h.IsStrIter it "str_ascii_iterator" x t i) where
 mem:=by simp
 obj:=fun i h st b hb=>by
  have e:b=it:=by simpa using hb
  subst e;obtain⟨o,e,c,d⟩:=st;exact⟨o,e,fun v z=>by rw[d] at z;cases z⟩
 keep:=fun i h h' st k=>let ⟨o,ho,r⟩:=st;⟨o,k it (by simp) o ho,r⟩
 item:=by
  intro X hP hw hK hc i z0 s Y H E I hf st hg;subst hP hw hK;obtain⟨f0,f1,f2,f3,f4,f5⟩:=hf it (by simp);have hg':i<x.cps.size:=hg;refine wpAny_pyNext_ascii_item st (c:=x.cps[i]) (by simp[hg']) fun h' st' sb=>?_;have I1:Inv X z0 Y H { s with heap:=h',toks:=s.toks+1 }:=I.turned (fun b o hb e=>(sb.2 b hb).trans e) f0 f1 f3 f4 f5;obtain⟨o,e,c,d⟩:=id st';exact⟨_,rfl,vN (s:={ s with heap:=h',toks:=s.toks+1 }) e c d (by decide) ⟨.str ⟨#[x.cps[i]]⟩,H,I1,⟨_,rfl⟩,⟨rfl,x.cps[i],by simp[hg'],rfl⟩,st',fun b hb=>(hf b hb).1⟩⟩
 done:=by
  intro X hP hw hK hc i z0 s Y H E I hf st hg;subst hP hw hK;obtain⟨f0,f1,f2,f3,f4,f5⟩:=hf it (by simp);exact wpAny_pyNext_ascii_end (I.ok.hd hc) st (by have:x.cps.size<=i:=hg;simp[this]) fun h' eb=>⟨rfl,I.turned (t':=s.toks) (fun b o hb e=>eb b o hb e) f0 f1 f3 f4 f5⟩
 self:=fun _ _ _ _ _ st h=>wpAny_pyIter_striter_ascii st h
section
variable {X:Cx} {tg:Expr}
def iStr(tl:TE):TI:=fun Y H R=>tl Y H fun v H1=>∃ x,v=.str x/\x.cps.all (· < 128)=true/\R (Its x) H1
theorem Ma{l:Expr}{tl:TE}(hl:PE X l tl):PI X tg l (iStr tl):=by
 intro z0 s Y H R I h;refine thn (hl z0 s Y H _ I h) fun v s1 ⟨x,H1,I1,r1,q1⟩=>?_;obtain⟨y,e,ha,q⟩:=q1;subst e;obtain⟨t,rfl⟩:=r1;refine wpAny_pyIter_ascii ha ?_;refine⟨s1.heap.objs.size,[s1.heap.objs.size],_,_,H1,rfl,I1.kept (t':=s1.toks) fun b o e=>Heap.get?_push_of_some _ e,Bq _ y t,⟨_,Heap.get?_push_size _ rfl,rfl,rfl⟩,fun b hb=>?_,q⟩
 have e:b=s1.heap.objs.size:=by simpa using hb
 subst e;exact I1.fpOk (T4z _) (I1.hok.fresh (T4z _))
end
section
variable {prog:Program} {w:World} {A:Around} {E:Value->Shared->Prop} {s:Shared}
theorem Oe{it t:Addr}{i:Nat}{its:Array Value}{Q:Value->Shared->Prop}(hh:A.handled=none)(hit:s.heap.IsTupleIter it t i)(ht:s.heap.IsTuple t its)
  (hs:∀ x h',its[i]?=some x->h'.IsTupleIter it t (i+1)->Heap.SameBut it s.heap h'->Q x { s with heap:=h' })
  (he:∀ h' e,its[i]?=none->Heap.ExtBut it s.heap h'->(∃ o,h'.get? e=some o/\o.cls=.type "StopIteration")->E (.ref e) { s with heap:=h' }) :
  wpAny (model prog w) A (Builtin.SmallTypes.nextOf (.ref it)) Q E s:=by
 obtain⟨oi,hoi,hci,hdi⟩:=id hit;obtain⟨ot,hot,_,nt,hdt⟩:=ht;unfold Builtin.SmallTypes.nextOf;refine A5z (wpAny_callSpecial?_slot (name:=Str.ofString "__next__") hit.typeIs F.slot_tuple_iterator_next (Q2z F.slot_tuple_iterator_next hit.typeIs F.entry_tuple_iterator_next ?_ (F.args_tuple_iterator_next_1 _)));show wpAny _ _ (field (.ref it) 0 >>=_) _ _ s;refine A5z (W4z hoi hdi (x:=.ref t) rfl ?_);have nn:¬ ((Value.ref t==Value.none)=true):=K1z;show wpAny _ _ (if(Value.ref t==Value.none)=true then _ else _) _ _ s;rw[M5z nn];show wpAny _ _ (field (.ref it) 1 >>=_) _ _ s;refine A5z (W4z hoi hdi (x:=.int i 0) rfl ?_);show wpAny _ _ (seqItems? (.ref t) >>=_) _ _ s;refine A5z (V3z hot hdt ?_)
 cases hx:its[i]? with
 | some x =>
  simp only[Int.toNat_natCast,hx];have fin:(s.heap.update it fun o=>o.mapFields (·.setIfInBounds 1 (rawInt ((i:Int)+1)))).IsTupleIter it t (i+1):=⟨_,Heap.get?_update_self _ hoi (Obj.isFreed_of_fields (Obj.data_mapFields hdi _)),(Obj.cls_mapFields ..).trans hci,by rw[Obj.data_mapFields hdi];simp[rawInt]⟩;exact A5z (wpAny_setField hoi hdi (by simp) (B5z ⟨x,rfl,B5z (hs x _ hx fin (Heap.SameBut.update ..))⟩))
 | none =>
  simp only[Int.toNat_natCast,hx];refine A5z (C5z (A5z (wpAny_setField hoi hdi (by simp) (A5z (m:=newExc (.type "StopIteration") []) ?_))));simp only[newExc,newTuple];refine A5z (Z1z (A5z (m:=firstArgMember _ _) (X4z (a:=Value.none) (by first | rfl | (simp only[firstArgMember];rfl)) (Z1z ?_ (by size_fits)))) (by size_fits));simp only[raiseNew];refine A5z (wpAny_handled ?_)
  first | rw[show A.in1.handled=none from hh] | rw[hh]
  exact A5z (B5z (wpAny_throw (he _ _ hx (((Heap.SameBut.update ..).extBut.push _).push _) ⟨_,Heap.get?_push_size _ rfl,rfl⟩)))
structure ZT (h:Heap) (z ti to i1 i2 t1 t2:Addr) (k:Nat) (f:Value):Prop where
 hz:IsZip h z ti to f
 hi:IsPair h ti (.ref i1) (.ref i2)
 ho:∃ a b,IsPair h to a b
 h1:h.IsTupleIter i1 t1 k
 h2:h.IsTupleIter i2 t2 k
theorem ZT.keep{h h':Heap}{z ti to i1 i2 t1 t2:Addr}{k:Nat}{f:Value}(x:ZT h z ti to i1 i2 t1 t2 k f)(kp:∀ b∈[z,ti,to,i1,i2],∀ o,h.get? b=some o->h'.get? b=some o):ZT h' z ti to i1 i2 t1 t2 k f :=
 ⟨kp z (by simp) _ x.hz,kp ti (by simp) _ x.hi,let ⟨a,b,e⟩:=x.ho;⟨a,b,kp to (by simp) _ e⟩,x.h1.at fun o e=>kp i1 (by simp) o e,x.h2.at fun o e=>kp i2 (by simp) o e⟩
theorem wB{z ti to i1 i2 t1 t2:Addr}{k:Nat}{xs ys:Array Value}{Q:Fin->Shared->Prop}(hh:A.handled=none)(D:ZipApart z ti to i1 i2 t1 t2)(hZ:ZT s.heap z ti to i1 i2 t1 t2 k .none)
  (ht1:s.heap.IsTuple t1 xs) (ht2:s.heap.IsTuple t2 ys)
  (hs : ∀ x y h', xs[k]? = some x -> ys[k]? = some y -> ZT h' z ti to i1 i2 t1 t2 (k + 1) (rawInt s.heap.objs.size) -> IsPair h' s.heap.objs.size x y -> h'.objs.size = s.heap.objs.size + 1 ->
   (∀ c o,c∉[z,to,i1,i2]->s.heap.get? c=some o->h'.get? c=some o)->Q (.done (.ret (.ref s.heap.objs.size))) { s with heap:=h' })
  (he:∀ h' e,(xs[k]?=none\/ys[k]?=none)->(∀ c o,c∉[z,to,i1,i2]->s.heap.get? c=some o->h'.get? c=some o)->(∃ o,h'.get? e=some o/\o.cls=.type "StopIteration")->E (.ref e) { s with heap:=h' }) :
  wpAny (model prog w) A (Builtin.«zip.__next__» ⟨[.ref z],[]⟩) Q E s:=by
 obtain⟨hz,hi,⟨a,b,ho⟩,h1,h2⟩:=hZ;show wpAny _ _ (field (.ref z) 2 >>=_) _ _ _;refine A5z (W4z hz rfl (x:=.bool false) rfl ?_);show wpAny _ _ (field (.ref z) 3 >>=_) _ _ _;refine A5z (W4z hz rfl (x:=.ref ti) rfl (A5z (V3z hi rfl ?_)));show wpAny _ _ (Builtin.SmallTypes.ownedTupleIsFree (.ref z) >>=_) _ _ _;unfold Builtin.SmallTypes.ownedTupleIsFree;refine A5z (A5z (W4z hz rfl (x:=.none) rfl (B5z ?_)));simp only[K5z];refine A5z (C5z (A5z (W4z hz rfl (x:=.ref to) rfl (A5z (R1z hz (by simp) fun ha za sa=>?_)))))
 replace za:IsZip ha z ti to .ellipsis:=za
 refine A5z ?_;simp only[List.zipIdx_cons,List.zipIdx_nil,List.forIn_cons,List.forIn_nil];refine A5z (A5z (wpAny_onRaise ?_))
 have ne4:∀ {c:Addr},c∉[z,to,i1,i2]->c≠z/\c≠to/\c≠i1/\c≠i2:=fun hc=>by simpa using hc
 show wpAny _ _ (Builtin.SmallTypes.nextOf (.ref i1) >>=_) _ _ _;refine A5z (Oe hh (h1.extBut sa.extBut D.i1z) (ht1.extBut sa.extBut D.l1z) (fun x hb hx itb sb=>B5z ?_) fun hb e hx eb ⟨oe,oe1,oe2⟩=>?_)
 .have tob:IsPair hb to a b:=sb.extBut _ _ D.TOi1 (sa.extBut _ _ D.TOz ho)
  refine A5z (V3z tob rfl (A5z (wpAny_updateSeq_pair tob fun hc toc sc=>A5z (wpAny_letGo (B5z ?_)))))
  replace toc:IsPair hc to x b:=toc
  refine A5z (A5z (wpAny_onRaise ?_));have h2c:hc.IsTupleIter i2 t2 k:=((h2.extBut sa.extBut D.i2z).extBut sb.extBut D.i12.symm).extBut sc.extBut D.TOi2.symm;have t2c:hc.IsTuple t2 ys:=((ht2.extBut sa.extBut D.l2z).extBut sb.extBut D.l2i1).extBut sc.extBut D.l2TO;show wpAny _ _ (Builtin.SmallTypes.nextOf (.ref i2) >>=_) _ _ _;refine A5z (Oe hh h2c t2c (fun y hd hy itd sd=>B5z ?_) fun hd e hy ed ⟨oe,oe1,oe2⟩=>?_)
  .have tod:IsPair hd to x b:=sd.extBut _ _ D.TOi2 toc
   refine A5z (V3z tod rfl (A5z (wpAny_updateSeq_pair tod fun hf tof sf=>A5z (wpAny_letGo (B5z (B5z ?_))))))
   replace tof:IsPair hf to x y:=tof
   refine A5z (V3z tof rfl (A5z (wpAny_newTuple ?_)))
   have szf:hf.objs.size=s.heap.objs.size:=by rw[sf.1,sd.1,sc.1,sb.1,sa.1]
   have zf:IsZip hf z ti to .ellipsis:=sf.extBut _ _ D.TOz.symm (sd.extBut _ _ D.i2z.symm (sc.extBut _ _ D.TOz.symm (sb.extBut _ _ D.i1z.symm za)))
   have kf:∀ c o,c∉[z,to,i1,i2]->s.heap.get? c=some o->hf.get? c=some o:=fun c o hc' e=>by
    obtain⟨c1,c2,c3,c4⟩:=ne4 hc';exact sf.extBut _ _ c2 (sd.extBut _ _ c4 (sc.extBut _ _ c2 (sb.extBut _ _ c3 (sa.extBut _ _ c1 e))))
   have i1f:hf.IsTupleIter i1 t1 (k+1):=((itb.extBut sc.extBut D.TOi1.symm).extBut sd.extBut D.i12).extBut sf.extBut D.TOi1.symm;have i2f:hf.IsTupleIter i2 t2 (k+1):=itd.extBut sf.extBut D.TOi2.symm;have tif:IsPair hf ti (.ref i1) (.ref i2):=sf.extBut _ _ D.TITO (sd.extBut _ _ D.TIi2 (sc.extBut _ _ D.TITO (sb.extBut _ _ D.TIi1 (sa.extBut _ _ D.TIz hi))));have zlt:z<hf.objs.size:=J4z zf;show wpAny _ _ (Builtin.SmallTypes.ownedTupleHandOut (.ref z) (.ref hf.objs.size) >>=_) _ _ _;unfold Builtin.SmallTypes.ownedTupleHandOut;have zg:IsZip (hf.push { cls:=.type "tuple",data:=.seq #[x,y] }) z ti to .ellipsis:=Heap.get?_push_of_some _ zf;refine A5z (A5z (R1z zg (by simp) fun hk zk sk=>R1z (show IsZip hk z ti to (rawInt hf.objs.size) from zk) (by simp) fun hm zm sm=>B5z ?_))
   replace zm:IsZip hm z ti to (rawInt hf.objs.size):=zm
   have up:∀ c o,c≠z->hf.get? c=some o->hm.get? c=some o:=fun c o c1 e=>sm.extBut _ _ c1 (sk.extBut _ _ c1 (Heap.get?_push_of_some _ e));have new:IsPair hm hf.objs.size x y:=sm.extBut _ _ (N4z zlt) (sk.extBut _ _ (N4z zlt) (Heap.get?_push_size _ rfl))
   have szm:hm.objs.size=hf.objs.size+1:=by rw[sm.1,sk.1,T3z]
   have q:=hs x y hm hx hy ⟨by rw[<- szf];exact zm,up _ _ D.TIz tif,⟨x,y,up _ _ D.TOz tof⟩,i1f.at fun o e=>up _ o D.i1z e,i2f.at fun o e=>up _ o D.i2z e⟩ (by rw[<- szf];exact new) (by rw[szm,szf]) fun c o hc' e=>up c o (ne4 hc').1 (kf c o hc' e)
   rw[<- szf] at q;exact q
  .have zd:IsZip hd z ti to .ellipsis:=ed _ _ D.i2z.symm (sc.extBut _ _ D.TOz.symm (sb.extBut _ _ D.i1z.symm za))
   have ez:e≠z:=fun q=>by subst q;rw[zd] at oe1;cases oe1;simp at oe2
   refine R1z zd (by simp) fun hf _ sf=>he hf e (.inr hy) (fun c o hc' q=>?_) ⟨oe,sf.extBut _ _ ez oe1,oe2⟩;obtain⟨c1,c2,c3,c4⟩:=ne4 hc';exact sf.extBut _ _ c1 (ed _ _ c4 (sc.extBut _ _ c2 (sb.extBut _ _ c3 (sa.extBut _ _ c1 q))))
 .have zb:IsZip hb z ti to .ellipsis:=eb _ _ D.i1z.symm za
  have ez:e≠z:=fun q=>by subst q;rw[zb] at oe1;cases oe1;simp at oe2
  refine R1z zb (by simp) fun hf _ sf=>he hf e (.inl hx) (fun c o hc' q=>?_) ⟨oe,sf.extBut _ _ ez oe1,oe2⟩;obtain⟨c1,c2,c3,c4⟩:=ne4 hc';exact sf.extBut _ _ c1 (eb _ _ c3 (sa.extBut _ _ c1 q))
theorem kE{z ti to i1 i2 t1 t2:Addr}{k:Nat}{xs ys:Array Value}{Q:Option Value->Shared->Prop}(hh:A.handled=none)(D:ZipApart z ti to i1 i2 t1 t2)(hZ:ZT s.heap z ti to i1 i2 t1 t2 k .none)
  (ht1:s.heap.IsTuple t1 xs) (ht2:s.heap.IsTuple t2 ys)
  (hs : ∀ x y h', xs[k]? = some x -> ys[k]? = some y -> ZT h' z ti to i1 i2 t1 t2 (k + 1) (rawInt s.heap.objs.size) -> IsPair h' s.heap.objs.size x y -> h'.objs.size = s.heap.objs.size + 1 ->
   (∀ c o,c∉[z,to,i1,i2]->s.heap.get? c=some o->h'.get? c=some o)->Q (some (.ref s.heap.objs.size)) { s with heap:=h' })
  (he:∀ h',(xs[k]?=none\/ys[k]?=none)->(∀ c o,c∉[z,to,i1,i2]->s.heap.get? c=some o->h'.get? c=some o)->Q none { s with heap:=h' }) :
  wpAny (model prog w) A (pyNext (.ref z)) Q E s:=by
 have hT:s.TypeIs (.ref z) "zip":=⟨_,hZ.hz,rfl⟩;unfold pyNext
 refine A5z (B4z (wpAny_callSpecial?_slot (name:=Str.ofString "__next__") hT F.slot_zip_next (Q2z F.slot_zip_next hT F.entry_zip_next
  (wB hh D hZ ht1 ht2 (fun x y h' a1 a2 a3 a4 a5 a6=>⟨_,rfl,B5z (hs x y h' a1 a2 a3 a4 a5 a6)⟩) fun h' e a1 a2 ⟨o,e1,e2⟩=>?_) (F.args_zip_next_1 _))))
 exact A5z (wpAny_isInstance (T:="StopIteration") (b:=true) ⟨o,e1,e2⟩ isSubtype_stop (B5z (he h' a1 a2)))
abbrev itT(t:Addr):Obj:={ cls:=.type "tuple_iterator",data:=.fields #[.ref t,.int 0 0] }
theorem Gk(hp H1 H2 H3 H4 H5:Heap)(t1 t2:Addr)(e1:H1=hp.push (itT t1))(e2:H2=H1.push (itT t2))(e3:H3=H2.push { cls:=.type "tuple",data:=.seq #[.ref hp.objs.size,.ref H1.objs.size] })(e4:H4=H3.push { cls:=.type "tuple",data:=.seq #[.none,.none] })
  (e5:H5=H4.push { cls:=.type "zip",data:=.fields #[.none,.bool false,.bool false,.ref H2.objs.size,.ref H3.objs.size] }) :
  H4.objs.size=hp.objs.size+4/\H5.objs.size=hp.objs.size+5/\(∀ c o,hp.get? c=some o->H5.get? c=some o)/\ZT H5 (hp.objs.size+4) (hp.objs.size+2) (hp.objs.size+3) hp.objs.size (hp.objs.size+1) t1 t2 0 .none:=by
 have z1:H1.objs.size=hp.objs.size+1:=by rw[e1,T3z]
 have z2:H2.objs.size=hp.objs.size+2:=by rw[e2,T3z,z1]
 have z3:H3.objs.size=hp.objs.size+3:=by rw[e3,T3z,z2]
 have z4:H4.objs.size=hp.objs.size+4:=by rw[e4,T3z,z3]
 have z5:H5.objs.size=hp.objs.size+5:=by rw[e5,T3z,z4]
 have k5:∀ c o,H4.get? c=some o->H5.get? c=some o:=fun c o e=>by rw[e5];exact Heap.get?_push_of_some _ e
 have k4:∀ c o,H3.get? c=some o->H5.get? c=some o:=fun c o e=>k5 c o (by rw[e4];exact Heap.get?_push_of_some _ e)
 have k3:∀ c o,H2.get? c=some o->H5.get? c=some o:=fun c o e=>k4 c o (by rw[e3];exact Heap.get?_push_of_some _ e)
 have k2:∀ c o,H1.get? c=some o->H5.get? c=some o:=fun c o e=>k3 c o (by rw[e2];exact Heap.get?_push_of_some _ e)
 have k1:∀ c o,hp.get? c=some o->H5.get? c=some o:=fun c o e=>k2 c o (by rw[e1];exact Heap.get?_push_of_some _ e)
 refine⟨z4,z5,k1,?_,?_,⟨.none,.none,?_⟩,⟨_,k2 _ _ (by rw[e1];exact Heap.get?_push_size _ rfl),rfl,rfl⟩,⟨_,k3 _ _ (by rw[e2,<- z1];exact Heap.get?_push_size _ rfl),rfl,rfl⟩⟩
 .have q:H5.get? H4.objs.size=some { cls:=.type "zip",data:=.fields #[.none,.bool false,.bool false,.ref H2.objs.size,.ref H3.objs.size] }:=by rw[e5];exact Heap.get?_push_size _ rfl
  rw[z2,z3,z4] at q;exact q
 .have q:H5.get? H2.objs.size=some { cls:=.type "tuple",data:=.seq #[.ref hp.objs.size,.ref H1.objs.size] }:=k4 _ _ (by rw[e3];exact Heap.get?_push_size _ rfl)
  rw[z1,z2] at q;exact q
 .have q:H5.get? H3.objs.size=some { cls:=.type "tuple",data:=.seq #[.none,.none] }:=k5 _ _ (by rw[e4];exact Heap.get?_push_size _ rfl)
  rw[z3] at q;exact q
theorem Bl(t1 t2:Addr)(xs ys:Array Value) :
    Meets (Builtin.«zip.__new__» ⟨[.type "zip",.ref t1,.ref t2],[]⟩) (fun _ R s=>s.heap.IsTuple t1 xs/\s.heap.IsTuple t2 ys /\
      ∀ h', (∀ c o, s.heap.get? c = some o -> h'.get? c = some o) -> h'.objs.size = s.heap.objs.size + 5 -> ZT h' (s.heap.objs.size + 4) (s.heap.objs.size + 2) (s.heap.objs.size + 3) s.heap.objs.size (s.heap.objs.size + 1) t1 t2 0 .none ->
        R (.ok (.ret (.ref (s.heap.objs.size+4)))) { s with heap:=h' }) :=
  .of_wp fun prog w A R s h=>by
    obtain⟨hp,g,d,tk,os⟩:=s;obtain⟨hl1,hl2,h⟩:=h
    have hsub:=sub_zip
    have hL1:Heap.IsTuple (Shared.heap ⟨hp,g,d,tk,os⟩) t1 xs:=hl1
    have hL2:Heap.IsTuple (Shared.heap ⟨hp.push (itT t1),g,d,tk,os⟩) t2 ys:=let ⟨o,e,r⟩:=hl2;⟨o,Heap.get?_push_of_some _ e,r⟩
    wp_walk using J1z hL1,J1z hL2
    refine⟨_,rfl,?_⟩
    obtain⟨z4,z5,kp,Z⟩:=Gk hp _ _ _ _ _ t1 t2 rfl rfl rfl rfl rfl
    have q:=h _ kp z5 Z
    rw[<- z4] at q
    exact q
theorem Ag{t1 t2:Addr}{xs ys:Array Value}{Q:Value->Shared->Prop}(hl1:s.heap.IsTuple t1 xs)(hl2:s.heap.IsTuple t2 ys)
  (h : ∀ h', (∀ c o, s.heap.get? c = some o -> h'.get? c = some o) -> h'.objs.size = s.heap.objs.size + 5 -> ZT h' (s.heap.objs.size + 4) (s.heap.objs.size + 2) (s.heap.objs.size + 3) s.heap.objs.size (s.heap.objs.size + 1) t1 t2 0 .none ->
   Q (.ref (s.heap.objs.size+4)) { s with heap:=h' }):wpAny (model prog w) A (call (.type "zip") [.ref t1,.ref t2]) Q E s:=by
 refine callType_new F.called_zip (by decide) (F.typeCall_zip_2 _ _) (F.newCall_zip_2 _ _) (fun obj=>F.args_object_init_3 obj _ _) F.entry_zip_new (Bl t1 t2 xs ys) ⟨hl1,hl2,fun h' kp z5 Z=>?_⟩;exact⟨⟨_,Z.hz,rfl⟩,h h' kp z5 Z⟩
end
namespace RF
theorem slot_next:Slot "reversed" "__next__" "reversed.__next__":=.of (owner:="reversed") (n:="__next__") (by rw[K3z,O0z];rfl') (by decide +kernel) (by decide +kernel) (by decide +kernel) (by first | exact .inl (by decide +kernel) | exact .inr (by decide +kernel)) (by rw[W3z];rfl')
theorem pK:Slot "reversed" "__iter__" "reversed.__iter__":=.of (owner:="reversed") (n:="__iter__") (by rw[K3z,O0z];rfl') (by decide +kernel) (by decide +kernel) (by decide +kernel) (by first | exact .inl (by decide +kernel) | exact .inr (by decide +kernel)) (by rw[W3z];rfl')
theorem xO:Slot "reversed" "__init__" "object.__init__":=.of (owner:="object") (n:="__init__") (by rw[K3z,O0z];rfl') (by decide +kernel) (by decide +kernel) (by decide +kernel) (by first | exact .inl (by decide +kernel) | exact .inr (by decide +kernel)) (by rw[W3z];rfl')
theorem kh:Slot "reversed" "__length_hint__" "reversed.__length_hint__":=.of (owner:="reversed") (n:="__length_hint__") (by rw[K3z,O0z];rfl') (by decide +kernel) (by decide +kernel) (by decide +kernel) (by first | exact .inl (by decide +kernel) | exact .inr (by decide +kernel)) (by rw[W3z];rfl')
theorem Ng:typeLookup (.type "reversed") "__len__"=pure none:=by rw[K3z,O0z];rfl'
theorem entry_next:entryFor table "reversed.__next__"=some Builtin.«reversed.__next__» :=R2z (by rfl')
theorem vV:entryFor table "reversed.__length_hint__"=some Builtin.«reversed.__length_hint__» :=R2z (by rfl')
theorem zR:entryFor table "reversed.__new__"=some Builtin.«reversed.__new__» :=R2z (by rfl')
theorem vU:entryFor table "reversed.__iter__"=some Builtin.«dict_keyiterator.__iter__» :=entryFor_alias (id':="dict_keyiterator.__iter__") (by rfl') (by first | rfl | decide +kernel | (unfold String.splitOn;simp +decide [String.splitOnAux])) (by decide +kernel) (by rfl')
theorem owner:Manifest.owners.lookup (String.ofList ['d','e','s','r','e','v','e','r'].reverse)=some Manifest.sig_reversed:=by rfl'
theorem args_next(a:Value):argsOk "reversed.__next__" ⟨[a],[]⟩:=by unfold argsOk;rw[signature?_of (id:="reversed.__next__") (n:=['_','_','t','x','e','n','_','_']) (o:=['d','e','s','r','e','v','e','r']) (by rfl') owner];rfl'
theorem Ay(a:Value):argsOk "reversed.__iter__" ⟨[a],[]⟩:=by unfold argsOk;rw[signature?_of (id:="reversed.__iter__") (n:=['_','_','r','e','t','i','_','_']) (o:=['d','e','s','r','e','v','e','r']) (by rfl') owner];rfl'
theorem Az(a:Value):argsOk "reversed.__length_hint__" ⟨[a],[]⟩:=by unfold argsOk;rw[signature?_of (id:="reversed.__length_hint__") (n:=['_','_','t','n','i','h','_','h','t','g','n','e','l','_','_']) (o:=['d','e','s','r','e','v','e','r']) (by rfl') owner];rfl'
theorem mro:mroOf (.type "reversed")=pure [.type "reversed",.type "object"]:=by rw[mroOf_type];rfl'
theorem Dc:typeLookup (.type "reversed") "__new__"=pure (some (.builtin "reversed.__new__")):=by rw[K3z,O0z];rfl'
theorem called:TypeCalled "reversed" "reversed.__new__" "object.__init__":=⟨by decide +kernel,by decide +kernel,⟨_,_,mro⟩,madeBy_type mro Dc (by decide +kernel),by decide +kernel,by rw[W3z];rfl',xO⟩
theorem Qm(a:Value):checkTypeCall "reversed" ⟨[a],[]⟩=pure ():=by rfl'
theorem Wo(a:Value):checkBuiltinCall "reversed.__new__" ⟨[.type "reversed",a],[]⟩=pure ():=by rfl'
theorem sub_self:isSubtype (.type "reversed") (.type "reversed")=pure true:=by rw[W3z];rfl'
theorem wN:typeLookup (.type "tuple") "__reversed__"=pure none:=by rw[K3z,O0z];rfl'
end RF
theorem Ni(a:Value):Builtin.SmallTypes.newClass "reversed" ⟨[.type "reversed",a],[]⟩=pure (.type "reversed",[a]):=by
 unfold Builtin.SmallTypes.newClass;simp only[isType,RF.sub_self,pure_bind,Bool.not_true,Q1z,I5z]
abbrev BW(t:Addr)(i:Int):Obj:={ cls:=.type "reversed",data:=.fields #[.ref t,rawInt i] }
theorem BP(t:Addr)(its:Array Value) :
    Meets (Builtin.«reversed.__new__» ⟨[.type "reversed",.ref t],[]⟩) (fun _ R s=>IsTup s.heap t its/\its.size<=sizeLine/\∀ tk,R (.ok (.ret (.ref s.heap.objs.size))) { s with heap:=s.heap.push (BW t ((its.size:Int)-1)),toks:=tk }) :=
  .of_wp fun prog w A R s h=>by
    obtain⟨ht,hz,h⟩:=h
    have hT:s.TypeIs (.ref t) "tuple":=Heap.IsTuple.typeIs (show s.heap.IsTuple t its from ht)
    unfold Builtin.«reversed.__new__»
    refine A5z (X4z (Ni _) ?_)
    try dsimp only
    refine A5z (X4z (a:=()) (by first | rfl | rfl') (A5z (X4z (a:=()) (by first | rfl | rfl') ?_)))
    try dsimp only
    refine A5z (L3z hT RF.wN ?_)
    try dsimp only
    have lk:typeLookup (.type "tuple") "__getitem__"=pure (some (.builtin "tuple.__getitem__")):=by rw[K3z,O0z];rfl'
    have sd:isSubtype (.type "tuple") (.type "dict")=pure false:=by rw[W3z];rfl'
    have fit : (its.size : Int) < 2 ^ 63 := by have : sizeLine < 2 ^ 63 := by (rw [U4z]; decide)
                                               omega
    wp_walk using L3z hT lk,X4z sd,PyProof.Rows.len_tuple ht fit
    exact⟨_,rfl,h _⟩
section
variable {prog:Program} {w:World} {A:Around} {E:Value->Shared->Prop} {s:Shared}
theorem qJ{t:Addr}{its:Array Value}{Q:Value->Shared->Prop}(ht:IsTup s.heap t its)(hz:its.size<=sizeLine)(h:∀ tk,Q (.ref s.heap.objs.size) { s with heap:=s.heap.push (BW t ((its.size:Int)-1)),toks:=tk }) :
  wpAny (model prog w) A (call (.type "reversed") [.ref t]) Q E s :=
 callType_new RF.called (by decide) (RF.Qm _) (RF.Wo _) (fun obj=>F.args_object_init_2 obj _) RF.zR (BP t its) ⟨ht,hz,fun tk=>⟨⟨_,Heap.get?_push_size _ rfl,rfl⟩,h tk⟩⟩
abbrev dR(h:Heap)(r t:Addr)(i:Int):Prop:=h.get? r=some (BW t i)
theorem xY{r t:Addr}{i:Nat}{its:Array Value}{x:Value}{Q:Fin->Shared->Prop}(hr:dR s.heap r t (i:Int))(ht:IsTup s.heap t its)(hx:its[i]?=some x)(hz:its.size<=sizeLine)
    (hQ:∀ h' tk,dR h' r t ((i:Int)-1)->Heap.SameBut r s.heap h'->Q (.done (.ret x)) { s with heap:=h',toks:=tk }):wpAny (model prog w) A (Builtin.«reversed.__next__» ⟨[.ref r],[]⟩) Q E s:=by
  have hT:s.TypeIs (.ref t) "tuple":=Heap.IsTuple.typeIs (show s.heap.IsTuple t its from ht)
  have lk:typeLookup (.type "tuple") "__getitem__"=pure (some (.builtin "tuple.__getitem__")):=by rw[K3z,O0z];rfl'
  unfold Builtin.«reversed.__next__»
  refine A5z (X4z (a:=(Value.ref r,[])) rfl ?_)
  refine A5z (W4z hr rfl (x:=.ref t) rfl (A5z (W4z hr rfl (x:=rawInt (i:Int)) rfl ?_)))
  show wpAny _ _ (if(i:Int)<0 then _ else _) _ _ s
  rw[M5z (by omega)]
  have hi:i<its.size:=(Array.getElem?_eq_some_iff.mp hx).1
  have fit : (its.size : Int) < 2 ^ 63 := by have : sizeLine < 2 ^ 63 := by (rw [U4z]; decide)
                                             omega
  have sq:seqIndex? (i:Int) its.size=some i:=by
    unfold seqIndex?
    simp
    omega
  refine A5z (L3z hT lk ?_)
  show wpAny _ _ (mkInt (i:Int) >>=_) Q E s
  refine A5z (wpAny_mkInt ?_)
  refine A5z (B4z (PyProof.Rows.getItem_tuple (s:={ s with toks:=s.toks+1 }) ht (by omega) (by omega) sq hx ?_))
  refine A5z (W4z (s:={ s with toks:=s.toks+1 }) hr rfl (x:=rawInt (i:Int)) rfl ?_)
  refine A5z (R1z (s:={ s with toks:=s.toks+1 }) hr (by simp) fun h' hr' hs'=>B5z (hQ h' _ ?_ hs'))
  exact hr'
theorem BR{r t:Addr}{Q:Fin->Shared->Prop}(hh:A.handled=none)(hr:dR s.heap r t (-1))
  (hE:∀ h' e,Heap.ExtBut r s.heap h'->(∃ o,h'.get? e=some o/\o.cls=.type "StopIteration")->E (.ref e) { s with heap:=h' }):wpAny (model prog w) A (Builtin.«reversed.__next__» ⟨[.ref r],[]⟩) Q E s:=by
 unfold Builtin.«reversed.__next__»;refine A5z (X4z (a:=(Value.ref r,[])) rfl ?_);refine A5z (W4z hr rfl (x:=.ref t) rfl (A5z (W4z hr rfl (x:=rawInt (-1)) rfl ?_)));show wpAny _ _ (if(-1:Int)<0 then _ else _) _ _ s;rw[L5z (by decide)]
 wp_walk using R1z hr (by simp)
 intro h1 e1 s1;refine R1z e1 (by simp) fun h2 e2 s2=>?_;refine A5z ?_;unfold Builtin.SmallTypes.stopIteration;refine A5z ?_;simp only[newExc,newTuple];refine A5z (Z1z (A5z (m:=firstArgMember _ _) (X4z (a:=Value.none) (by first | rfl | (simp only[firstArgMember];rfl)) (Z1z ?_ (by size_fits)))) (by size_fits));simp only[raiseNew];refine A5z (wpAny_handled ?_)
 first | rw[show A.in1.handled=none from hh] | rw[hh]
 exact A5z (B5z (wpAny_throw (hE _ _ (((s1.trans s2).extBut.push _).push _) ⟨_,Heap.get?_push_size _ rfl,rfl⟩)))
theorem kI{r t:Addr}{i:Nat}{its:Array Value}{x:Value}{Q:Option Value->Shared->Prop}(hr:dR s.heap r t (i:Int))(ht:IsTup s.heap t its)(hx:its[i]?=some x)(hz:its.size<=sizeLine)
  (hQ:∀ h' tk,dR h' r t ((i:Int)-1)->Heap.SameBut r s.heap h'->Q (some x) { s with heap:=h',toks:=tk }):wpAny (model prog w) A (pyNext (.ref r)) Q E s:=by
 have hT:s.TypeIs (.ref r) "reversed":=⟨_,hr,rfl⟩;unfold pyNext
 exact A5z (B4z (wpAny_callSpecial?_slot (name:=Str.ofString "__next__") hT RF.slot_next (Q2z RF.slot_next hT RF.entry_next
  (xY hr ht hx hz fun h' tk a b=>⟨_,rfl,B5z (hQ h' tk a b)⟩) (RF.args_next _))))
theorem fM{r t:Addr}{Q:Option Value->Shared->Prop}(hh:A.handled=none)(hr:dR s.heap r t (-1))(hQ:∀ h',Heap.ExtBut r s.heap h'->Q none { s with heap:=h' }):wpAny (model prog w) A (pyNext (.ref r)) Q E s:=by
 have hT:s.TypeIs (.ref r) "reversed":=⟨_,hr,rfl⟩;unfold pyNext
 refine A5z (B4z (wpAny_callSpecial?_slot (name:=Str.ofString "__next__") hT RF.slot_next (Q2z RF.slot_next hT RF.entry_next
  (BR hh hr fun h' e a ⟨o,e1,e2⟩=>A5z (wpAny_isInstance (T:="StopIteration") (b:=true) ⟨o,e1,e2⟩ isSubtype_stop (B5z (hQ h' a)))) (RF.args_next _))))
theorem eV{r t:Addr}{i:Int}{Q:Value->Shared->Prop}(hr:dR s.heap r t i)(h:Q (.ref r) s):wpAny (model prog w) A (pyIter (.ref r)) Q E s:=by
 have hT:s.TypeIs (.ref r) "reversed":=⟨_,hr,rfl⟩;refine wpAny_pyIter_slot hT RF.pK (Q2z RF.pK hT RF.vU (show wpAny _ _ (ret (.ref r)) _ _ s from B5z ⟨_,rfl,"reversed",_,hT,RF.slot_next.lookup,h⟩) (RF.Ay _))
theorem zB{r t:Addr}{i:Int}{its:Array Value}{Q:Value->Shared->Prop}(hr:dR s.heap r t i)(ht:IsTup s.heap t its)(hz:its.size<=sizeLine)(hi:i+1<=its.size)
    (hQ:∀ tk tk',s.toks<=tk'->Q (.int (i+1) tk) { s with toks:=tk' }):wpAny (model prog w) A (call (.builtin "reversed.__length_hint__") [.ref r]) Q E s:=by
  have hT:s.TypeIs (.ref r) "reversed":=⟨_,hr,rfl⟩
  have fit : (its.size : Int) < 2 ^ 63 := by have : sizeLine < 2 ^ 63 := by (rw [U4z]; decide)
                                             omega
  refine Q2z RF.kh hT RF.vV ?_ (RF.Az _)
  unfold Builtin.«reversed.__length_hint__»
  refine A5z (X4z (a:=Value.ref r) rfl ?_)
  refine A5z (W4z hr rfl (x:=.ref t) rfl ?_)
  have nn:¬ ((Value.ref t==Value.none)=true):=K1z
  show wpAny _ _ (if(Value.ref t==Value.none)=true then _ else _) _ _ s;rw[M5z nn]
  refine A5z (PyProof.Rows.len_tuple ht fit (A5z (X4z (a:=some (its.size:Int)) rfl ?_)))
  refine A5z (W4z (s:={ s with toks:=s.toks+1+1 }) hr rfl (x:=rawInt i) rfl ?_)
  show wpAny _ _ (if(its.size:Int)<i+1 then _ else _) _ _ _
  rw[M5z (by omega)]
  exact A5z (wpAny_mkInt (B5z ⟨_,rfl,hQ _ _ (by show s.toks<=s.toks+1+1+1;omega)⟩))
theorem wH(hh:A.handled=none)(r t:Addr)(hne:t≠r)(its:Array Value)(hz:its.size<=sizeLine) :
  Walks prog w A r [r,t] [r] its.size (fun i v=>its[its.size-1-i]?=some v) (fun i h=>i<=its.size/\dR h r t ((its.size:Int)-1-(i:Int))/\IsTup h t its) where
 sub:=fun b hb=>by simp at hb;simp[hb]
 frame:=fun _ _ _ x hk=>⟨x.1,hk r (by simp) _ x.2.1,let ⟨o,e,q⟩:=x.2.2;⟨o,hk t (by simp) o e,q⟩⟩
 item:=fun i s Q E hi x hQ=>by
  have e1:(its.size:Int)-1-(i:Int)=((its.size-1-i:Nat):Int):=by omega
  have hr:=x.2.1;rw[e1] at hr;have hx:its[its.size-1-i]?=some (its[its.size-1-i]'(by omega)):=Array.getElem?_eq_getElem (by omega);refine kI hr x.2.2 hx hz fun h' tk hr' hs'=>?_
  have e2:((its.size-1-i:Nat):Int)-1=(its.size:Int)-1-((i+1:Nat):Int):=by omega
  rw[e2] at hr';exact hQ _ h' tk hx ⟨hi,hr',let ⟨o,e,q⟩:=x.2.2;⟨o,(hs'.2 t hne).trans e,q⟩⟩ fun b o hb eo=>hs'.extBut b o (fun h=>hb (by simp[h])) eo
 done:=fun s Q E x hQ=>by
  have e1:(its.size:Int)-1-(its.size:Int)=-1:=by omega
  have hr:=x.2.1;rw[e1] at hr;exact fM hh hr fun h' he'=>hQ h' s.toks fun b o hb eo=>he' b o (fun h=>hb (by simp[h])) eo
 self:=fun _ _ _ _ x hQ=>eV x.2.1 hQ
theorem qG{r t:Addr}{its:Array Value}{Q:List Value->Shared->Prop}(hh:A.handled=none)(hr:dR s.heap r t ((its.size:Int)-1))(ht:IsTup s.heap t its)(hz:its.size<=sizeLine)
  (hQ:∀ s' acc,Moved [r] (fun a b=>b=a) s s'->ItemsOf (fun i v=>its[its.size-1-i]?=some v) acc its.size->Q acc.toList s'):wpAny (model prog w) A (collect (.ref r)) Q E s:=by
 have hne:t≠r:=fun e=>by
  obtain⟨o,e1,e2,_⟩:=ht;rw[e,hr] at e1;have e3:=congrArg Obj.cls (C3z e1);have e4:Value.type "reversed"=Value.type "tuple":=e3.trans e2;exact absurd e4 (by decide)
 have W:=(wH (prog:=prog) (w:=w) (A:=A.in1.in1) hh r t hne its hz).toS
 have fresh:∀ b∈[r,t],b<s.heap.objs.size:=fun b hb=>by
  simp at hb;rcases hb with rfl | rfl
  .exact J4z hr
  .exact ht.lt
 have nf:s.heap.objs.size∉[r,t]:=fun hm=>Y3z _ (fresh _ hm);have nr:s.heap.objs.size≠r:=fun e=>nf (by simp[e]);have hT:s.TypeIs (.ref r) "reversed":=⟨_,hr,rfl⟩;unfold collect;refine A5z (wpAny_runValue (M3z F.entry_proto_collect ?_));rw[W0z F.plain_proto_collect _];show wpAny _ A.in1 (newList [] >>=fun l=>again (.builtin "list.__iadd__" ⟨[l,.ref r],[]⟩)) _ _ s;refine A5z (Z1z (B5z ⟨C4z F.plain_list_iadd _,M3z F.entry_list_iadd ?_⟩));rw[W0z F.plain_list_iadd _];have hS₁:(s.heap.push { cls:=.type "list",data:=.seq ([]:List Value).toArray }).get? s.heap.objs.size=some { cls:=.type "list",data:=.seq ([]:List Value).toArray }:=Heap.get?_push_size _ rfl;have hr₁:dR (s.heap.push { cls:=.type "list",data:=.seq ([]:List Value).toArray }) r t ((its.size:Int)-1):=Heap.get?_push_of_some _ hr;have ht₁:IsTup (s.heap.push { cls:=.type "list",data:=.seq ([]:List Value).toArray }) t its:=let ⟨o,e,q⟩:=ht;⟨o,Heap.get?_push_of_some _ e,q⟩;show wpAny _ A.in1 (Builtin.List.listExtendWith (.ref s.heap.objs.size) (.ref r) (.ref s.heap.objs.size)) _ _ _;have hT₁:({ s with heap:=s.heap.push { cls:=.type "list",data:=.seq ([]:List Value).toArray } }:Shared).TypeIs (.ref r) "reversed":=⟨_,hr₁,rfl⟩
 have h1:Builtin.List.listSameRef (.ref s.heap.objs.size) (.ref r)=false:=by simp[Builtin.List.listSameRef,nr]
 unfold Builtin.List.listExtendWith;refine A5z (Q4z hT₁ ?_);rw[M5z (by rw[h1];decide)];refine A5z (eV hr₁ ?_);refine A5z (D4z ?_);unfold Builtin.List.listLengthHint;refine A5z (L3z hT₁ RF.Ng ?_);refine A5z (m:=specialOf (Value.ref r) (Str.ofString "__length_hint__")) (L3z hT₁ RF.kh.lookup ?_)
 have sp:splitId "reversed.__length_hint__"=some ("reversed","__length_hint__"):=by decide +kernel
 dsimp only;rw[sp];dsimp only;refine A5z (wpAny_isInstance (b:=true) hT₁ RF.sub_self ?_);rw[M5z (by decide),M5z (by decide +kernel)];refine A5z (C5z (A5z (X4z (RF.kh.bind _) ?_)));dsimp only;refine A5z (B4z (zB hr₁ ht₁ hz (by omega) fun tk tk' htk=>?_));dsimp only;refine A5z (X4z (a:=some (((its.size:Int)-1)+1)) rfl ?_);dsimp only
 have fit:sizeLine<2^62:=by rw[U4z];decide
 have f1:Builtin.List.listFitsIndex ((its.size:Int)-1+1)=true:=by
  unfold Builtin.List.listFitsIndex;simp;omega
 have f2:Builtin.List.listTooLong ((its.size:Int)-1+1).toNat=false:=by
  unfold Builtin.List.listTooLong;simp;omega
 rw[M5z (by rw[f1];decide),M5z (by omega),M5z (by rw[f2];decide)]
 refine B5z ?_
 have loop:∀ h':Heap,(∀ b o,b≠s.heap.objs.size->(s.heap.push { cls:=.type "list",data:=.seq ([]:List Value).toArray }).get? b=some o->h'.get? b=some o)->(∃ c,h'.get? s.heap.objs.size=some { cls:=.type "list",dict:=none,data:=.seq #[] c,slots := #[] }) ->
   ∀ tk,s.toks<=tk->codeAny (model prog w) A (.builtin "list.extend.loop" ⟨[.ref s.heap.objs.size,.ref r,.ref s.heap.objs.size],[]⟩) (fun r s'=>match r with
    | .ok (.ret v)=>wpAny (model prog w) A (match v with | .ref a=>do (match (<- load a).data with | .seq xs _=>pure xs.toList | _=>unsupported "internal:collect") | _=>unsupported "internal:collect") Q E s'
    | .ok _=>False
    | .error e=>E e s') { s with heap:=h',toks:=tk }:=by
  intro h' kp ⟨c,hS⟩ tk htk;have kp':∀ b o,s.heap.get? b=some o->h'.get? b=some o:=fun b o e=>kp b o (K4z (J4z e)) (Heap.get?_push_of_some _ e);refine codeAny_extend_loopS W.of_in1 hz _ nf _ its.size 0 _ #[] c rfl (V4z _) ⟨V4z _,by simpa using kp' _ _ hr,let ⟨o,e,q⟩:=ht;⟨o,kp' _ o e,q⟩⟩ hS (ItemsOf.nil _) fun s' acc' c' hm hS' hacc=>?_;show wpAny _ A (load s.heap.objs.size >>=_) _ _ s';refine A5z (wpAny_load hS' (B5z (hQ s' acc' ⟨fun b o hb e=>?_,hm.gens,hm.drawn,hm.os,L4z htk hm.toks⟩ hacc)));exact hm.heap b o (by simp at hb ⊢;exact⟨K4z (J4z e),hb⟩) (kp' b o e)
 refine wpAny_ite_split (fun _=>?_) (fun _=>B5z ⟨C4z F.plain_extend_loop _,loop _ (fun b o _ e=>e) ⟨_,hS₁⟩ tk' htk⟩);refine A5z (C5z (A5z ?_));show wpAny _ A.in1 (updateSeq s.heap.objs.size (·.push .none) >>=fun _=>updateSeq s.heap.objs.size (·.pop)) _ _ _;refine A5z (wpAny_updateSeq (s:={ s with heap:=s.heap.push { cls:=.type "list",data:=.seq ([]:List Value).toArray },toks:=tk' }) hS₁ rfl ?_);have hS₂:=Heap.get?_update_self (Obj.mapSeq (·.push Value.none)) hS₁ rfl;refine wpAny_updateSeq hS₂ rfl (B5z ⟨C4z F.plain_extend_loop _,loop _ (fun b o hb e=>?_) ⟨_,Heap.get?_update_self (Obj.mapSeq (·.pop)) hS₂ rfl⟩ tk' htk⟩);exact(Heap.get?_update_other _ _ (J5z hb)).trans ((Heap.get?_update_other _ _ (J5z hb)).trans e)
theorem lO{r t:Addr}{its:Array Value}{Q:Value->Shared->Prop}(hh:A.handled=none)(hr:dR s.heap r t ((its.size:Int)-1))(ht:IsTup s.heap t its)(hz:its.size<=sizeLine)
  (hQ:∀ s' acc,Moved [r] (fun a b=>b=a) s s'->ItemsOf (fun i v=>its[its.size-1-i]?=some v) acc its.size->Q (.ref s'.heap.objs.size) { s' with heap:=s'.heap.push { cls:=.type "tuple",data:=.seq acc } }) :
  wpAny (model prog w) A (call (.type "tuple") [.ref r]) Q E s:=by
 have hT:s.TypeIs (.ref r) "reversed":=⟨_,hr,rfl⟩
 refine callType_codes (Q₁:=fun obj s₁=>s₁.TypeIs obj "tuple"/\Q obj s₁) F.called_tuple (F.typeCall_tuple_1 _) F.entry_object_init (codeAny_of_tree ?_) fun obj s₁ h₁ =>
  ⟨h₁.1,F.args_object_init_2 obj _,object_init_meets F.called_tuple.init.lookup F.called_tuple.made (by decide) prog w A.in1 _ s₁ ⟨h₁.1,rfl,h₁.2⟩⟩
 show wpAny _ A.in1.in1 (do checkBuiltinCall "tuple.__new__" ⟨[.type "tuple",.ref r],[]⟩;again (.builtin "tuple.__new__" ⟨[.type "tuple",.ref r],[]⟩)) _ _ s
 refine A5z (X4z (F.newCall_tuple_1 _) (B5z ⟨C4z F.plain_tuple_new _,M3z F.entry_tuple_new ?_⟩));rw[W0z F.plain_tuple_new _];have hsub:=sub_tuple_self;have hinit:=init_tuple_lookup;have hmh:=madeHere_tuple
 wp_walk using Q4z hT,qG (A:=A.in1.in1) hh hr ht hz
 intro s' acc hm hacc;show wpAny _ _ (Builtin.Tuple.tupleExact acc.toList.toArray >>=fun v=>ret v) _ _ _;unfold Builtin.Tuple.tupleExact
 have e:acc.toList.toArray=acc:=by simp
 rw[e];exact A5z (Z1z (B5z ⟨⟨_,Heap.get?_push_size _ rfl,rfl⟩,hQ s' acc hm hacc⟩) (by show acc.size<=sizeLine;rw[hacc.1];exact hz))
end
end L2
namespace L2
open PySem PySem.Spec PyProof.Rows PySem.SeqAt
section
variable {prog:Program} {w:World} {A:Around} {E:Value->Shared->Prop} {s:Shared}
end
end L2
namespace L2
open PySem PySem.Spec PyProof.Rows
def Itv(K:Z3)(t:Addr)(n:Nat):It :=
 ⟨fun i H=>∃ ys,SqT K H t ys/\ys.length=n/\i<n,fun i H x H'=>H'=H/\∀ ys,SqT K H t ys->ys[n-1-i]?=some x,fun i _=>i=n⟩
theorem Br{P:Program}{w:World}{K:Z3}{tg:Expr}(t r:Addr)(n:Nat)(hz:n<=sizeLine):Turn P w K tg (Itv K t n) [r] r (fun i h=>dR h r t ((n:Int)-1-(i:Int))) where
 mem:=by simp
 obj:=fun i h st b hb=>by
  have e:b=r:=by simpa using hb
  subst e
  exact⟨_,st,fun v z=>by
   have z':Data.fields _=Data.cell v:=z
   cases z'⟩
 keep:=fun i h h' st k=>k r (by simp) _ st
 item:=by
  intro X hP hw hK hc i z0 s Y H E I hf st hg;subst hP hw hK;obtain⟨ys,hq,hl,hi⟩:=hg;obtain⟨its,rv,p,hz'⟩:=I.tuple hq
  have hn:its.length=n:=by rw[<- rv.length,hl]
  obtain⟨f0,f1,f2,f3,f4,f5⟩:=hf r (by simp)
  have e1:(n:Int)-1-(i:Int)=((n-1-i:Nat):Int):=by omega
  have st':=st;rw[e1] at st'
  have hlt:n-1-i<its.length:=by omega
  obtain⟨x,hx,rx⟩:∃ x,ys[n-1-i]?=some x/\RelV x its[n-1-i]:=by
   have hly:n-1-i<ys.length:=by omega
   obtain⟨u,hu,ru⟩:=rv.get (i:=n-1-i) (x:=ys[n-1-i]) (by simp);rw[List.getElem?_eq_getElem hlt] at hu;cases hu;exact⟨_,by simp,ru⟩
  refine kI st' p (x:=its[n-1-i]) (by simp[hlt]) (by simp;omega) fun h' tk st2 sb=>?_
  have I1:Inv X z0 Y H { s with heap:=h',toks:=tk }:=I.turned (fun b o hb e=>(sb.2 b hb).trans e) f0 f1 f3 f4 f5
  have e2:((n-1-i:Nat):Int)-1=(n:Int)-1-((i+1:Nat):Int):=by omega
  rw[e2] at st2;exact⟨_,rfl,vN (s:={ s with heap:=h',toks:=tk }) (n:="reversed") st2 rfl rfl (by decide) ⟨x,H,I1,rx,⟨rfl,fun zs hy=>by rw[I.tuple_inj hy hq];exact hx⟩,st2,fun b hb=>(hf b hb).1⟩⟩
 done:=by
  intro X hP hw hK hc i z0 s Y H E I hf st hg;subst hP hw hK;obtain⟨f0,f1,f2,f3,f4,f5⟩:=hf r (by simp);have hg':i=n:=hg
  have e1:(n:Int)-1-(i:Int)=-1:=by omega
  rw[e1] at st;exact fM (I.ok.hd hc) st fun h' eb=>⟨rfl,I.turned (t':=s.toks) (fun b o hb e=>eb b o hb e) f0 f1 f3 f4 f5⟩
 self:=fun _ _ _ _ _ st h=>eV st h
def Itz(K:Z3)(t1 t2:Addr):It :=
  ⟨fun i H=>∃ xs ys x y,SqT K H t1 xs/\SqT K H t2 ys/\xs[i]?=some x/\ys[i]?=some y,
   fun i H v H'=>∃ p,H p=none/\v=.ref p/\∀ xs ys x y,SqT K H t1 xs->SqT K H t2 ys->xs[i]?=some x->ys[i]?=some y->H'=upd H p (.tup [x,y]),
   fun i H=>∃ xs ys,SqT K H t1 xs/\SqT K H t2 ys/\(xs.length<=i\/ys.length<=i)⟩
theorem Inv.turnedNew{X:Cx}{z0:List (Addr×Obj)}{Y:St}{H:Hp}{s:Shared}{h':Heap}{ch:List Addr}{o:HO}{t':Nat}(I:Inv X z0 Y H s)(hf:∀ b∈ch,u9 X z0 H b)(k:∀ b u,b∉ch->s.heap.get? b=some u->h'.get? b=some u)
  (new:cJ X.prog X.w (upd H s.heap.objs.size o) h' s.heap.objs.size o):Inv X z0 Y (upd H s.heap.objs.size o) { s with heap:=h',toks:=t' }:=by
 have hn:H s.heap.objs.size=none:=I.hok.fresh (T4z _);refine I.call' (s':={ s with heap:=h',toks:=t' }) (ch:=ch) rfl ?_ ?_ I.bare fun b hb=>⟨(hf b hb).2.2.2.1,(hf b hb).2.1,(hf b hb).2.2.2.2.1,(hf b hb).2.2.2.2.2⟩
 .refine⟨fun b u e _ _ hc=>k b u hc e,fun b u e _ _ hc=>⟨u.slots,k b u hc e⟩,fun b u e n hc=>?_,fun b u e hc=>⟨u,k b u hc e⟩,fun b xs e=>?_,fun b u xs e=>?_,fun b ps e=>⟨#[],?_⟩⟩
  .rw[aj (K4z (J4z e))];exact n
  .rw[aj (ak e hn)];exact e
  .rw[aj (ak e hn)];exact e
  .rw[aj (ak e hn),e];simp
 .intro b u e
  by_cases hb:b=s.heap.objs.size
  .subst hb;rw[aB] at e;cases e;exact new
  .rw[aj hb] at e
   refine(I.hok b u e).stay (fun c v hc q=>k c v (fun z=>?_) q) (fun c q=>by rw[aj (ak q hn)];exact q) fun c xs q=>by rw[aj (ak q hn)];exact q
   have zn:=(hf c z).1;rcases hc with rfl | hc
   .rw[zn] at e;cases e
   .rw[zn] at hc;cases hc
theorem Inv.turnedAll{X:Cx}{z0:List (Addr×Obj)}{Y:St}{H:Hp}{s:Shared}{h':Heap}{ch:List Addr}{t':Nat}(I:Inv X z0 Y H s)(hf:∀ b∈ch,u9 X z0 H b)(k:∀ b u,b∉ch->s.heap.get? b=some u->h'.get? b=some u) :
  Inv X z0 Y H { s with heap:=h',toks:=t' }:=by
 refine I.call' (s':={ s with heap:=h',toks:=t' }) (ch:=ch) rfl ?_ ?_ I.bare fun b hb=>⟨(hf b hb).2.2.2.1,(hf b hb).2.1,(hf b hb).2.2.2.2.1,(hf b hb).2.2.2.2.2⟩
 .exact⟨fun b u e _ _ hc=>k b u hc e,fun b u e _ _ hc=>⟨u.slots,k b u hc e⟩,fun b u e n hc=>n,fun b u e hc=>⟨u,k b u hc e⟩,fun b xs e=>e,fun b u xs e=>e,fun b ps e=>⟨#[],by rw[e];simp⟩⟩
 .intro b u e
  refine(I.hok b u e).stay (fun c v hc q=>k c v (fun z=>?_) q) (fun c q=>q) fun c xs q=>q;have zn:=(hf c z).1;rcases hc with rfl | hc
  .rw[zn] at e;cases e
  .rw[zn] at hc;cases hc
theorem Bp{P:Program}{w:World}{K:Z3}{es:List Expr}{kt:Nat}{pt:Pos}{z ti to i1 i2 t1 t2:Addr}(D:ZipApart z ti to i1 i2 t1 t2) :
    Turn P w K (.Tuple es kt pt) (Itz K t1 t2) [z,ti,to,i1,i2] z (fun i h=>ZT h z ti to i1 i2 t1 t2 i .none) where
  mem:=by simp
  obj:=fun i h st b hb=>by
    simp at hb
    rcases hb with rfl | rfl | rfl | rfl | rfl
    . exact⟨_,st.hz,fun v q=>by have q':Data.fields _=Data.cell v:=q;cases q'⟩
    . exact⟨_,st.hi,fun v q=>by have q':Data.seq _ _=Data.cell v:=q;cases q'⟩
    . obtain⟨a,c,e⟩:=st.ho
      exact⟨_,e,fun v q=>by have q':Data.seq _ _=Data.cell v:=q;cases q'⟩
    . obtain⟨o,e,_,d⟩:=st.h1
      exact⟨o,e,fun v q=>by rw[d] at q;cases q⟩
    . obtain⟨o,e,_,d⟩:=st.h2
      exact⟨o,e,fun v q=>by rw[d] at q;cases q⟩
  keep:=fun i h h' st k=>st.keep k
  item:=by
    intro X hP hw hK hc i z0 s Y H E I hf st hg
    subst hP hw hK
    obtain⟨xs,ys,x,y,hq1,hq2,hx,hy⟩:=hg
    obtain⟨its1,rv1,p1,_⟩:=I.tuple hq1
    obtain⟨its2,rv2,p2,_⟩:=I.tuple hq2
    obtain⟨u1,hu1,ru1⟩:=rv1.get hx
    obtain⟨u2,hu2,ru2⟩:=rv2.get hy
    refine kE (I.ok.hd hc) D st (show s.heap.IsTuple t1 its1.toArray from p1) (show s.heap.IsTuple t2 its2.toArray from p2) (fun a b h' ha hb Z pr sz kp=>?_) fun h' hn _=>?_
    . have ea : a = u1 := by have : its1[i]? = some a := by simpa using ha
                             rw[hu1] at this;exact(C3z this).symm
      have eb : b = u2 := by have : its2[i]? = some b := by simpa using hb
                             rw[hu2] at this;exact(C3z this).symm
      subst ea eb
      have szl:2<=sizeLine:=by decide
      have hf4:∀ c∈[z,to,i1,i2],u9 X z0 H c:=fun c hc'=>hf c (by simp at hc' ⊢;rcases hc' with h | h | h | h<;>simp[h])
      have I1:Inv X z0 Y (upd H s.heap.objs.size (.tup [x,y])) { s with heap:=h',toks:=s.toks }:=I.turnedNew hf4 kp ⟨szl,[a,b],.cons ru1 (.cons ru2 .nil),⟨_,pr,rfl,_,rfl⟩⟩
      have fresh:H s.heap.objs.size=none:=I.hok.fresh (T4z _)
      have ltf:∀ c∈[z,ti,to,i1,i2],c≠s.heap.objs.size:=fun c hc' e=>by
        have:H c=none:=(hf c hc').1
        simp at hc'
        have lt:c<s.heap.objs.size:=by
          rcases hc' with rfl | rfl | rfl | rfl | rfl
          . exact J4z st.hz
          . exact J4z st.hi
          . obtain⟨_,_,e'⟩:=st.ho;exact J4z e'
          . obtain⟨o,e',_⟩:=st.h1;exact J4z e'
          . obtain⟨o,e',_⟩:=st.h2;exact J4z e'
        exact K4z lt e
      refine⟨_,rfl,wpAny_letOwnedTupleGo_zip (s:={ s with heap:=h' }) Z.hz fun h2 z2 sb=>?_⟩
      have fz:=hf z (by simp)
      have I2:Inv X z0 Y (upd H s.heap.objs.size (.tup [x,y])) { s with heap:=h2 }:=I1.turned (t':=s.toks) (fun c o hc' e=>(sb.2 c hc').trans e) (by rw[aj (ltf z (by simp))];exact fz.1) fz.2.1 fz.2.2.2.1 fz.2.2.2.2.1 fz.2.2.2.2.2
      refine⟨.ref s.heap.objs.size,_,I2,rfl,⟨_,fresh,rfl,fun xs' ys' x' y' a1 a2 a3 a4=>?_⟩,?_,fun c hc'=>by rw[aj (ltf c hc')];exact(hf c hc').1⟩
      . have e1:=I.tuple_inj a1 hq1
        have e2:=I.tuple_inj a2 hq2
        subst e1 e2
        rw[hx] at a3;rw[hy] at a4
        cases a3;cases a4
        rfl
      . obtain⟨a',b',e'⟩:=Z.ho
        exact⟨z2,(sb.2 ti D.TIz).trans Z.hi,⟨a',b',(sb.2 to D.TOz).trans e'⟩,Z.h1.at fun o e=>(sb.2 i1 D.i1z).trans e,Z.h2.at fun o e=>(sb.2 i2 D.i2z).trans e⟩
    . rcases hn with hn | hn
      . have:its1[i]?=none:=by simpa using hn
        rw[hu1] at this;cases this
      . have:its2[i]?=none:=by simpa using hn
        rw[hu2] at this;cases this
  done:=by
    intro X hP hw hK hc i z0 s Y H E I hf st hg
    subst hP hw hK
    obtain⟨xs,ys,hq1,hq2,hl⟩:=hg
    obtain⟨its1,rv1,p1,_⟩:=I.tuple hq1
    obtain⟨its2,rv2,p2,_⟩:=I.tuple hq2
    have l1:=rv1.length
    have l2:=rv2.length
    refine kE (I.ok.hd hc) D st (show s.heap.IsTuple t1 its1.toArray from p1) (show s.heap.IsTuple t2 its2.toArray from p2) (fun a b h' ha hb Z pr sz kp=>?_) fun h' _ kp=>⟨rfl,?_⟩
    . exfalso
      have h1 : i < its1.length := by have : its1[i]? = some a := by simpa using ha
                                      exact(List.getElem?_eq_some_iff.mp this).1
      have h2 : i < its2.length := by have : its2[i]? = some b := by simpa using hb
                                      exact(List.getElem?_eq_some_iff.mp this).1
      omega
    . have hf4:∀ c∈[z,to,i1,i2],u9 X z0 H c:=fun c hc'=>hf c (by simp at hc' ⊢;rcases hc' with h | h | h | h<;>simp[h])
      exact I.turnedAll (t':=s.toks) hf4 kp
  self:=fun _ _ _ _ _ st h=>wpAny_pyIter_zip st.hz h
section
variable {X:Cx}
def iZip(K:Z3)(ta:TA):TI:=fun Y H R=>ta Y H fun vs H1=>∃ a b,vs=[.ref a,.ref b]/\(∃ xs,SqT K H1 a xs)/\(∃ ys,SqT K H1 b ys)/\R (Itz K a b) H1
theorem LQ{a b:Expr}{ta:TA}{p pos pt:Pos}{es:List Expr}{kt:Nat}(hg:Gl X "zip")(hm:X.mg "zip"=none)(ha:PA X [a,b] ta)(hs:starEach [a,b] X.env=[(false,eval a X.env),(false,eval b X.env)])(hs2:starEach [b] X.env=[(false,eval b X.env)]) :
  PI X (.Tuple es kt pt) (.Call (.Name "zip" p) [a,b] [] pos) (iZip X.K ta):=by
 intro z0 s Y H R I h;refine Call_ (jx I hg hm boot_zip (A0z (thn (ha pos z0 s Y H _ I h) fun us s1 ⟨vs,H1,I1,r1,q1⟩=>?_) (by rw[hs,hs2]) (by rw[hs2];rfl)));obtain⟨a1,b1,e,⟨xs,hx⟩,⟨ys,hy⟩,q⟩:=q1;subst e
 cases r1 with
 | cons r rr =>
  cases rr with
  | cons r' rr =>
   cases rr;cases (show _=Value.ref a1 from r);cases (show _=Value.ref b1 from r');obtain⟨its1,_,p1,_⟩:=I1.tuple hx;obtain⟨its2,_,p2,_⟩:=I1.tuple hy;refine Ag (show s1.heap.IsTuple a1 its1.toArray from p1) (show s1.heap.IsTuple b1 its2.toArray from p2) fun h' kp sz Z=>?_;refine wpAny_pyIter_zip (s:={ s1 with heap:=h' }) Z.hz ?_;have I2:Inv X z0 Y H1 { s1 with heap:=h' }:=I1.kept (t':=s1.toks) kp;refine⟨s1.heap.objs.size+4,_,_,_,H1,rfl,I2,Bp (zipApart_new p1.lt p2.lt),Z,fun c hc=>?_,q⟩
   have hc':s1.heap.objs.size<=c:=by
    simp at hc
    rcases hc with h | h | h | h | h<;>rw[h]<;>first | exact T4z _ | exact S2z _ _
   exact I1.fpOk hc' (I1.hok.fresh hc')
def iRev(K:Z3)(ta:TA):TI:=fun Y H R=>ta Y H fun vs H1=>∃ a xs,vs=[.ref a]/\SqT K H1 a xs/\R (Itv K a xs.length) H1
theorem Mf{a:Expr}{ta:TA}{p pos:Pos}{tg:Expr}(hg:Gl X "reversed")(hm:X.mg "reversed"=none)(ha:PA X [a] ta)(hs:starEach [a] X.env=[(false,eval a X.env)]) :
  PI X tg (.Call (.Name "reversed" p) [a] [] pos) (iRev X.K ta):=by
 intro z0 s Y H R I h;refine Call_ (jx I hg hm boot_reversed (A0z (thn (ha pos z0 s Y H _ I h) fun us s1 ⟨vs,H1,I1,r1,q1⟩=>?_) hs rfl));obtain⟨a1,xs,e,hx,q⟩:=q1;subst e
 cases r1 with
 | cons r rr =>
  cases rr;cases (show _=Value.ref a1 from r);obtain⟨its1,rv,p1,hz⟩:=I1.tuple hx;have hl:=rv.length;refine qJ p1 (by simp;omega) fun tk=>?_
  have st:dR (s1.heap.push (BW a1 ((its1.toArray.size:Int)-1))) s1.heap.objs.size a1 ((xs.length:Int)-1-((0:Nat):Int)):=by
   have e0:((xs.length:Int)-1-((0:Nat):Int))=(its1.toArray.size:Int)-1:=by rw[B2z];omega
   rw[e0];exact Heap.get?_push_size _ rfl
  refine eV (s:={ s1 with heap:=s1.heap.push (BW a1 ((its1.toArray.size:Int)-1)),toks:=tk }) st ?_;refine⟨s1.heap.objs.size,_,_,_,H1,rfl,I1.kept (t':=tk) fun b o e=>Heap.get?_push_of_some _ e,Br a1 _ xs.length hz,st,fun c hc=>?_,q⟩
  have hc':c=s1.heap.objs.size:=by simpa using hc
  subst hc';exact I1.fpOk (T4z _) (I1.hok.fresh (T4z _))
end
section
variable {X:Cx}
end
section
variable {X:Cx} {tg:Expr}
end
section
variable {prog:Program} {w:World} {A:Around} {E:Value->Shared->Prop} {s:Shared}
end
section
variable {X:Cx}
end
section
variable {X:Cx}
end
section
variable {prog:Program} {w:World} {A:Around} {E:Value->Shared->Prop} {s:Shared}
end
section
variable {X:Cx}
end
section
variable {prog:Program} {w:World} {A:Around} {E:Value->Shared->Prop} {s:Shared}
end
section
variable {X:Cx}
end
section
variable {X:Cx}
end
end L2
namespace L2
open PySem PySem.Spec PyProof.Rows PySem.SeqAt
section
variable {X:Cx}
def QL(K:Z3):R2:=fun x y H Q=>∃ l b us zs,x=.ref l/\y=.ref b/\SqL K H l us/\SqL K H b zs/\us.length+zs.length<=sizeLine/\∀ p,H p=none->Q (.ref p) (upd H p (.lst (us++zs)))
theorem Ik:OpR X (binaryOp .Add) (QL X.K):=by
 intro z0 s Y H x y v u Q I rx ry h;obtain⟨l,b,us,zs,rfl,rfl,hH,hB,hz,q⟩:=h;cases (show v=Value.ref l from rx);cases (show u=Value.ref b from ry);obtain⟨its,r,pl,z1⟩:=I.list hH;obtain⟨its2,r2,pl2,z2⟩:=I.list hB;have e1:=r.length;have e2:=r2.length;obtain⟨⟨c1,d1,w1,t1⟩,n1,o1,hc1,hd1,hs1⟩:=pl;obtain⟨⟨c2,d2,w2,t2⟩,n2,o2,hc2,hd2,hs2⟩:=pl2;simp only at hc1 hs1 hc2 hs2;subst hc1 hs1 hc2 hs2;refine concat_meets ⟨_,o1,rfl⟩ ⟨_,o2,rfl⟩ noFill_list_add seq_list_add PySem.F.slot_list_add PySem.F.entry_list_add (PySem.F.args_list_add_2 _ _) (list_addW l b its.toArray its2.toArray n1 n2 d1 d2 t1 t2 (by rw[B2z,B2z];omega)) ⟨o1,o2,?_⟩;rw[show its.toArray++its2.toArray=(its++its2).toArray by simp];exact⟨.ref _,_,I.lnew (t':=s.toks) (r.append r2) (by rw[O1z];omega),rfl,q _ I.fresh⟩
end
section
variable {X:Cx}
end
section
variable {prog:Program} {w:World} {A:Around} {E:Value->Shared->Prop} {s:Shared}
theorem wg(n:Nat):Builtin.Slice.sliceAdjust none none (-1) (n:Int)=((n:Int)-1,-1):=by
 unfold Builtin.Slice.sliceAdjust;simp
theorem vG(n:Nat):Builtin.Slice.slicePlaces ((n:Int)-1) (-1) (-1)=n:=by
 unfold Builtin.Slice.slicePlaces
 have h1:¬ ((-1:Int)>0):=by omega
 simp only[h1,I5z];split
 .rw[show(- -1:Int)=1 from rfl,Int.ediv_one];omega
 .omega
theorem jE{sl:Addr}{n:Nat}{u:Tok}{Q:Int×Int×Nat->Shared->Prop}(hs:s.heap.IsSliceOf sl .none .none (.int (-1) u))(h:Q ((n:Int)-1,-1,n) s) :
  wpAny (model prog w) A (Builtin.Slice.sliceApplied (.ref sl) (pure (n:Int))) Q E s:=by
 obtain⟨os,hos,hcs,hds⟩:=id hs;unfold Builtin.Slice.sliceApplied Builtin.Slice.sliceFields;refine A5z (A5z (W4z hos hds (x:=.none) rfl (A5z (W4z hos hds (x:=.none) rfl (A5z (W4z hos hds (x:=.int (-1) u) rfl (B5z ?_)))))));refine A5z (slicePart_int ?_);show wpAny _ _ (if((-1:Int)==0)=true then _ else _) _ _ s;rw[M5z (by decide)];refine A5z (slicePart_none (A5z (slicePart_none (A5z (B5z ?_)))));show wpAny _ _ (match Builtin.Slice.sliceAdjust none none (-1) (n:Int) with | (lo,hi)=>pure (lo,(-1:Int),Builtin.Slice.slicePlaces lo hi (-1))) _ _ s;rw[wg n];show wpAny _ _ (pure ((n:Int)-1,(-1:Int),Builtin.Slice.slicePlaces ((n:Int)-1) (-1) (-1))) _ _ s;rw[vG n];exact B5z h
theorem yj(its:List Value):((List.range its.length).filterMap fun(k:Nat)=>its.toArray[(((its.length:Int)-1)+(k:Int)*(-1)).toNat]?).toArray=its.reverse.toArray:=by
 congr 1
 have e3:(List.range its.length).map (fun(k:Nat)=>its.toArray[(((its.length:Int)-1)+(k:Int)*(-1)).toNat]?)=its.reverse.map some:=by
  apply List.ext_getElem?;intro i
  by_cases h:i<its.length
  .rw[List.getElem?_map,List.getElem?_range h,List.getElem?_map,List.getElem?_reverse h,I3z,List.getElem?_toArray,show(((its.length:Int)-1)+(i:Int)*(-1)).toNat=its.length-1-i by omega,List.getElem?_eq_getElem (by omega),I3z]
  .rw[List.getElem?_eq_none (by simp;omega),List.getElem?_eq_none (by simp;omega)]
 have e4:(List.range its.length).filterMap (fun(k:Nat)=>its.toArray[(((its.length:Int)-1)+(k:Int)*(-1)).toNat]?)=((List.range its.length).map (fun(k:Nat)=>its.toArray[(((its.length:Int)-1)+(k:Int)*(-1)).toNat]?)).filterMap id:=by
  rw[List.filterMap_map];rfl
 rw[e4,e3,List.filterMap_map];simp
theorem jl{t sl:Addr}{its:List Value}{u:Tok}{Q:Value->Shared->Prop}(ht:IsTup s.heap t its.toArray)(hs:s.heap.IsSliceOf sl .none .none (.int (-1) u))
  (h:Q (.ref s.heap.objs.size) { s with heap:=s.heap.push { cls:=.type "tuple",data:=.seq its.reverse.toArray } })
  (hsz:its.length<=sizeLine):wpAny (model prog w) A (getItem (.ref t) (.ref sl)) Q E s:=by
 have hrev:sizeOk (.seq its.reverse.toArray):=by
  show its.reverse.toArray.size<=sizeLine;rw[B2z,D1z];exact hsz
 obtain⟨os,hos,hcs,hds⟩:=id hs;have hTs:s.TypeIs (.ref sl) "slice":=⟨os,hos,hcs⟩;unfold getItem
 try with_reducible refine D4z ?_
 first | refine A5z (B5z ?_) | skip
 refine A5z (wpAny_sequenceKey ht.typeIs (by decide) ?_)
 refine A5z (wpAny_callSpecial?_slot (name:=Str.ofString "__getitem__") ht.typeIs slot_tuple_getitem
  (Q2z slot_tuple_getitem ht.typeIs entry_tuple_getitem ?_ (args_tuple_getitem _ _)))
 show wpAny _ _ (Builtin.Tuple.tupleItemsOf (.ref t) >>=_) _ _ s;refine A5z (tupleItemsOf_ ht ?_);refine A5z (Q4z hTs ?_);rw[L5z (by decide)];refine A5z (jE (n:=its.toArray.size) hs ?_)
 have hno:¬ ((((its.toArray.size:Nat):Int)-1==0&&(-1:Int)==1&&its.toArray.size==its.toArray.size)=true):=by
  rw[show((-1:Int)==1)=false from rfl];simp
 show wpAny _ _ (if(((its.toArray.size:Nat):Int)-1==0&&(-1:Int)==1&&its.toArray.size==its.toArray.size)=true then _ else _) _ _ s;rw[M5z hno,B2z,yj]
 first
  | exact A5z (m:=Builtin.Tuple.tupleExact _) (Z1z (B5z ⟨_,rfl,B5z h⟩) hrev)
  | exact A5z (m:=Builtin.Tuple.tupleExact _) (Z1z (A5z (B5z (B5z ⟨_,rfl,B5z h⟩))) hrev)
  | exact A5z (A5z (m:=Builtin.Tuple.tupleExact _) (Z1z (B5z (B5z ⟨_,rfl,B5z h⟩)) hrev))
  | exact A5z (A5z (m:=Builtin.Tuple.tupleExact _) (Z1z (B5z ⟨_,rfl,B5z h⟩) hrev))
end
section
variable {X:Cx}
theorem HW{e c:Expr}{te tc:TE}{p2 pos:Pos}(he:PE X e te)(hc:PE X c tc) :
  PE X (.Subscript e (.Slice none none (some c) p2) pos) (fun Y H Q=>te Y H fun x H1=>tc Y H1 fun y H2=>∃ p us,x=.ref p/\y=.int (-1)/\SqT X.K H2 p us/\∀ q,H2 q=none->Q (.ref q) (upd H2 q (.tup us.reverse))):=by
 intro z0 s Y H Q I h;refine Subscript_ (thn (he z0 s Y H _ I h) fun v s1 ⟨x,H1,I1,r1,q1⟩=>?_);refine wpAny_Slice ?_;rw[evalPart_none,evalPart_some];refine B5z (B5z (thn (hc z0 s1 Y H1 _ I1 q1) fun u s2 ⟨y,H2,I2,r2,q2⟩=>?_));obtain⟨p,us,rfl,rfl,hq,q⟩:=q2;cases (show v=Value.ref p from r1);obtain⟨t,rfl⟩:=r2;have I3:Inv X z0 Y H2 { s2 with heap:=s2.heap.push { cls:=.type "slice",data:=.fields #[.none,.none,.int (-1) t] } }:=I2.kept (t':=s2.toks) fun b ob q=>Heap.get?_push_of_some _ q;obtain⟨its,r,pt,hz⟩:=I3.tuple hq;have hl:=r.length
 have hg:=jl (prog:=X.prog) (w:=X.w) (A:=X.A) (E:=X.xe) (Q:=EP X z0 Y Q) (u:=t) pt (Heap.IsSliceOf.new ..) (by
  refine⟨.ref _,_,I3.laid (t':=s2.toks) (o:=.tup us.reverse) (fun b ob q=>Heap.get?_push_of_some _ q) (T4z _) ?_,rfl,q _ (I3.hok.fresh (T4z _))⟩
  exact⟨by rw[D1z];exact hz,its.reverse,r.reverse,IsTup.new _ _⟩) (by omega)
 show wpAny (model X.prog X.w) X.A (subscriptTail e (.Slice none none (some c) p2) (.ref p) (.ref s2.heap.objs.size)) (EP X z0 Y Q) X.xe { s2 with heap:=s2.heap.push { cls:=.type "slice",data:=.fields #[.none,.none,.int (-1) t] } };exact tail_any (ops:=[.ref p,.ref s2.heap.objs.size]) pt.typeIs slot_tuple_getitem.lookup hg (by with_unfolding_all rfl)
end
end L2
namespace HT
open PySem PySem.Spec PyProof.Rows PySem.SeqAt L2
section
variable {prog:Program} {w:World} {A:Around} {E:Value->Shared->Prop} {s:Shared}
end
end HT
namespace L2
open PySem PyProof.Rows
section
variable {X:Cx}
end
end L2
namespace DE
open PySem
inductive D where
 | non | bl (b:Bool) | int (i:Int) | str (x:Str) | tup (xs:List D) | lst (xs:List D)
 | exc (c:Str)
 | dic (ks:List (Sum Int Str)) (xs:List D)
 | obj (a:Nat)
 deriving Inhabited
inductive Sl where
 | no | sh (d:D) | ow (ds:List D) | oo (dss:List (List D))
 deriving Inhabited
noncomputable abbrev Rho:=List (Str×Sl)
inductive Fl where
 | nxt (U:Rho) | ret (d:D)
 deriving Inhabited
def b2i(b:Bool):Int:=if b then 1 else 0
mutual
def deq:D->D->Bool
 | .non,.non=>true
 | .bl a,.bl b=>a==b
 | .bl a,.int j=>b2i a==j
 | .int i,.bl b=>i==b2i b
 | .int i,.int j=>i==j
 | .str x,.str y=>x==y
 | .tup xs,.tup ys=>qz xs ys
 | .lst xs,.lst ys=>qz xs ys
 | _,_=>false
def qz:List D->List D->Bool
 | [],[]=>true
 | x::xs,y::ys=>deq x y&&qz xs ys
 | _,_=>false
end
mutual
def dep:D->Nat
 | .tup xs=>deps xs+1
 | .lst xs=>deps xs+1
 | .exc _=>1000
 | .dic _ _=>1000
 | .obj _=>1000
 | _=>0
def deps:List D->Nat
 | []=>0
 | x::xs=>max (dep x) (deps xs)
end
mutual
def gA:D->D->Bool
 | .bl _,.bl _=>true
 | .int _,.int _=>true
 | .str _,.str _=>true
 | .tup _,.str _=>true
 | .tup xs,.tup ys=>oH xs ys
 | .lst xs,.lst ys=>oH xs ys
 | _,_=>false
def oH:List D->List D->Bool
 | x::xs,y::ys=>gA x y&&oH xs ys
 | _,_=>true
end
def asB:D->Option Bool
 | .bl b=>some b
 | _=>none
def asI:D->Option Int
 | .int i=>some i
 | _=>none
def items:D->Option (List D)
 | .tup xs=>some xs
 | .lst xs=>some xs
 | _=>none
def tupI:D->Option (List D)
 | .tup xs=>some xs
 | _=>none
def oW:List D->Option (List Int)
 | []=>some []
 | .int i::r=>(oW r).map (i::·)
 | _=>none
def qW:List D->Option (List Bool)
 | []=>some []
 | .bl i::r=>(qW r).map (i::·)
 | _=>none
def small(i:Int):Bool:=decide (-(2^64)<i)&&decide (i<2^64)
def mid(i:Int):Bool:=decide (i.natAbs.log2<10000)
def szl(n:Nat):Bool:=decide (n<=100000)
def binop:Operator->D->D->Option D
 | .Add,.int i,.int j=>some (.int (i+j))
 | .Add,.tup xs,.tup ys=>if szl (xs.length+ys.length) then some (.tup (xs++ys)) else none
 | .Add,.lst xs,.lst ys=>if szl (xs.length+ys.length) then some (.lst (xs++ys)) else none
 | .Sub,.int i,.int j=>some (.int (i-j))
 | .Mult,.int i,.int j=>if small i||small j||(mid i&&mid j) then some (.int (i*j)) else none
 | .FloorDiv,.int i,.int j=>if decide (0<j)&&decide (j<1073741824) then some (.int (i / j)) else none
 | .Mod,.int i,.int j=>if decide (0<j) then some (.int (i%j)) else none
 | _,_,_=>none
def Zu:List D->Option (List Str)
 | []=>some []
 | .str i::r=>(Zu r).map (i::·)
 | _=>none
def inS(x:D)(ys:List D):Option Bool:=(Zu ys).bind fun ss=>if decide (dep x<=50) then some (ss.any fun t=>deq (.str t) x) else none
def inT(x:D)(ys:List D):Option Bool:=match asI x,oW ys with
 | some i,some ns=>some (ns.any (· ==i))
 | _,_=>inS x ys
def PL:D->Option (Sum Int Str)
 | .int i=>some (.inl i)
 | .str x=>some (.inr x)
 | _=>none
def putD(l:List (Sum Int Str×D))(k:Sum Int Str)(d:D):List (Sum Int Str×D):=if(l.any fun q=>decide (q.1=k))=true then l.map (fun q=>if q.1=k then(q.1,d) else q) else l++[(k,d)]
def j4(ks:List (Sum Int Str))(ds:List D)(k:Sum Int Str):Option D:=((ks.zip ds).find? fun q=>decide (q.1=k)).map (·.2)
def sX(l:List (Sum Int Str×D)):D:=.dic (l.map (·.1)) (l.map (·.2))
def Kw(l:List (Sum Int Str×D)):List (Sum Int Str×D):=l.foldl (fun a q=>putD a q.1 q.2) []
def Jl:D->Bool
 | .non=>true
 | _=>false
def cmpop:CmpOp->D->D->Option D
 | .Eq,x,y=>if decide (dep x<=50)&&decide (dep y<=50)&&gA x y then some (.bl (deq x y)) else none
 | .NotEq,x,y=>if decide (dep x<=50)&&decide (dep y<=50)&&gA x y then some (.bl (!deq x y)) else none
 | .Lt,.int i,.int j=>some (.bl (decide (i<j)))
 | .LtE,.int i,.int j=>some (.bl (decide (i<=j)))
 | .IsNot,x,.non=>some (.bl (!Jl x))
 | .In,.str x,.str y=>some (.bl (!(Builtin.Str.occurrences y x 0 y.length 1).isEmpty))
 | .In,.str x,.dic ks ds=>some (.bl (j4 ks ds (.inr x)).isSome)
 | .NotIn,.str x,.dic ks ds=>some (.bl (!(j4 ks ds (.inr x)).isSome))
 | _,_,_=>none
def ixD(n:Nat)(i:Int):Option Nat:=if 0<=i then(if i<n then some i.toNat else none) else if -(n:Int)<=i then some (i+n).toNat else none
def atD(xs:List D)(i:Int):Option D:=(ixD xs.length i).bind fun j=>xs[j]?
def Kr:D->D->Option D
 | .tup xs,.int i=>atD xs i
 | .lst xs,.int i=>atD xs i
 | .dic ks ds,y=>(PL y).bind (j4 ks ds)
 | _,_=>none
def scD:D->Bool
 | .non=>true
 | .bl _=>true
 | .int _=>true
 | .str _=>true
 | _=>false
mutual
def WT:D->Bool
 | .non=>true
 | .bl _=>true
 | .int _=>true
 | .str _=>true
 | .tup ds=>Fy ds
 | _=>false
def Fy:List D->Bool
 | []=>true
 | d::r=>WT d&&Fy r
end
def PN:String->D->Bool
 | "int",.int _=>true
 | "int",.bl _=>true
 | "bool",.bl _=>true
 | "tuple",.tup _=>true
 | "list",.lst _=>true
 | "str",.str _=>true
 | _,_=>false
def iH:List D->Option (List (Sum Int Str×D))
 | []=>some []
 | .tup [.str k,d]::r=>(iH r).map ((.inr k,d)::·)
 | _::_=>none
def pJ:List (Sum Int Str)->Option (List Str)
 | []=>some []
 | .inr k::r=>(pJ r).map (k::·)
 | .inl _::_=>none
def ins(a:Str):List Str->List (List Str)
 | []=>[[a]]
 | b::r=>(a::b::r)::(ins a r).map (b::·)
def perms:List Str->List (List Str)
 | []=>[[]]
 | a::r=>(perms r).flatMap (ins a)
def Bj(l:List Str):Option (List Str):=match (perms l).filter PyProof.Rows.sortedS with
 | [x]=>some x
 | _=>none
def blt:String->List D->Option D
 | "len",[.str x]=>if szl x.length then some (.int x.length) else none
 | "len",[d]=>do let l <- items d;some (.int l.length)
 | "all",[.lst xs]=>do let bs <- qW xs;some (.bl (bs.all id))
 | "sum",[.lst xs]=>do let is <- oW xs;some (.int is.sum)
 | "tuple",[d]=>do let l <- items d;some (.tup l)
 | "list",[d]=>do let l <- items d;some (.lst l)
 | "dict",[.lst xs]=>(iH xs).map fun l=>sX (Kw l)
 | "sorted",[.dic ks _]=>((pJ ks).bind fun l=>if decide (l.length<64) then Bj l else none).map fun l=>.lst (l.map .str)
 | _,_=>none
structure Cxt where
 cst:List (Str×D)
 blt:List (Str×String)
 fns:List Str
 exs:List Str
 top:Str
 rs:Bool
 call:Str->List D->Option D
 callx:Str->List D->Option Str
def isExc:D->Bool
 | .exc _=>true
 | .dic _ _=>true
 | .obj _=>true
 | _=>false
def wC(top c c':Str):Bool:=c==c'||c'==top
noncomputable def pR(scope sc:Scope):Scope :=
 { scope with names:=scope.names.map fun(n,k)=>if(k==.free&&sc.kind==.function&&sc.names.lookup n==some .cell) then(n,.cell) else(n,k) }
def Ks:Option Sl->Sl
 | some (.sh d)=>.sh d
 | _=>.no
def cG(scope:Scope)(U:Rho):Rho:=scope.names.map fun p=>(p.1,if p.2==.free then Ks (U.lookup p.1) else .no)
def kZ:List Str->Bool
 | []=>true
 | x::r => !r.contains x&&kZ r
def iW(sc scope:Scope):Bool :=
 scope.kind==.function&&kZ (scope.names.map (·.1))&&scope.names.all fun p=>p.2 !=.free||sc.names.lookup p.1==some .cell||sc.names.lookup p.1==some .free
def fG:Rho->Str->Sl->Rho
 | [],_,_=>[]
 | (y,s)::r,x,v=>if x==y then(y,v)::r else(y,s)::fG r x v
def aH(x:Str):Bool:=x !="__debug__"&&x !="__classdict__"
def ownIn(scope:Scope)(x:Str):Bool:=scope.names.lookup x==some .local||scope.names.lookup x==some .cell
def bindNames(scope:Scope):List Expr->List D->Rho->Option Rho
 | [],[],U=>some U
 | .Name x _::es,d::ds,U=>if ownIn scope x&&(U.map (·.1)).contains x then bindNames scope es ds (fG U x (.sh d)) else none
 | _,_,_=>none
def gJ(scope:Scope):Expr->D->Rho->Option Rho
 | .Name x _,d,U=>if ownIn scope x&&(U.map (·.1)).contains x then some (fG U x (.sh d)) else none
 | .Tuple es _ _,.tup ds,U=>bindNames scope es ds U
 | _,_,_=>none
def qZ(cx:Cxt)(sc:Scope)(x:Str):Bool:=sc.names.lookup x==some .globalImplicit
def bV(cx:Cxt)(sc:Scope)(x:Str):Option String:=if qZ cx sc x then cx.blt.lookup x else none
def bQ(f:D->Option (Option D)):List D->Option (List D)
 | []=>some []
 | x::r=>do
  match <- f x with
  | some v=>(bQ f r).map (v::·)
  | none=>bQ f r
def dW(lo hi:Int):List D:=(List.range (hi-lo).toNat).map fun(k:Nat)=>.int (lo+(k:Int))
def jH(f:Expr->Option D):List Expr->Option (List D)
 | []=>some []
 | e::r=>do let d <- f e;let ds <- jH f r;some (d::ds)
def cN(op:BoolOp)(f:Expr->Option D):List Expr->Option D
 | []=>none
 | [e]=>f e
 | e::e'::r=>do
  let d <- f e
  let b <- asB d
  match op with
  | .And=>if b then cN op f (e'::r) else some (.bl false)
  | .Or=>if b then some (.bl true) else cN op f (e'::r)
def pN(i:Int):Bool:=decide (-(2^62)<=i)&&decide (i<2^62)
def dX:Expr->Bool
 | .Tuple .. =>true
 | _=>false
inductive Wk where
 | r1 (a:Expr) | zp (a b:Expr) | rv (a:Expr) | sq
def vh(cx:Cxt)(sc:Scope):Expr->Wk
 | .Call (.Name x _) args [] _=>(match bV cx sc x with
  | some "range"=>(match args with | [a]=>.r1 a | _=>.sq)
  | some "zip"=>(match args with | [a,b]=>.zp a b | _=>.sq)
  | some "reversed"=>(match args with | [a]=>.rv a | _=>.sq)
  | _=>.sq)
 | _=>.sq
def Pb:D->D->Option (List D)
 | .tup xs,.tup ys=>some ((xs.zip ys).map fun q=>.tup [q.1,q.2])
 | _,_=>none
def kD:Sum Int Str->D
 | .inl i=>.int i
 | .inr x=>.str x
def mJ:D->Option (List D)
 | .dic ks _=>some (ks.map kD)
 | .str x=>if x.cps.all (· < 128) then some (x.cps.toList.map fun c=>.str ⟨#[c]⟩) else none
 | d=>items d
theorem zj{d:D}{l:List D}(h:items d=some l):mJ d=some l:=by cases d<;>first | exact h | simp[items] at h
def evI(cx:Cxt)(tup:Bool)(f:Expr->Option D)(sc:Scope)(e:Expr):Option (List D):=match vh cx sc e with
 | .r1 a=>do let j <- (f a).bind asI;if pN j then some (dW 0 j) else none
 | .zp a b=>do let x <- f a;let y <- f b;if tup then Pb x y else none
 | .rv a=>do let xs <- (f a).bind tupI;some xs.reverse
 | .sq=>(f e).bind mJ
inductive Wc where
 | tv (a:Expr) | li (a:Expr) | al
def Zg:Expr->Option Expr
 | .Call (.Attribute (.Name y py) m ap) [] [] p=>if m=="items"&&ap.endLine==p.line then some (.Name y py) else none
 | _=>none
def Ww:D->Option D
 | .dic ks ds=>if decide (ks.length<=1000) then some (.lst ((ks.zip ds).map fun q=>.tup [kD q.1,q.2])) else none
 | _=>none
def Bo(cx:Cxt)(sc:Scope)(b:String)(args:List Expr):Wc:=match args with
 | [e]=>(match b,vh cx sc e with
  | "tuple",.rv a=>.tv a
  | "list",.sq=>(match Zg e with | some a=>.li a | none=>.al)
  | _,_=>.al)
 | _=>.al
def j5:String->Bool
 | "int"=>true
 | "bool"=>true
 | "tuple"=>true
 | "list"=>true
 | "str"=>true
 | _=>false
def tyOf(cx:Cxt)(sc:Scope):Expr->Option String
 | .Name x _=>bV cx sc x
 | _=>none
def xOf(cx:Cxt)(sc:Scope):Expr->Option Str
 | .Name x _=>if qZ cx sc x&&(cx.exs.contains x||x==cx.top)&&aH x then some x else none
 | _=>none
def cntB(b:Bool)(bs:List Bool):Nat:=(bs.filter (· ==b)).length
def lZ(f:Expr->Option D):List Expr->Option Bool
 | []=>some true
 | [c]=>(f c).bind asB
 | _=>none
def rT(m:Str):D->D->Option D
 | .lst xs,.bl b=>do
  let bs <- qW xs
  if m=="count" then some (.int (cntB b bs)) else if m=="index"&&bs.contains b then some (.int (bs.idxOf b)) else none
 | .lst xs,.int i=>do
  let ns <- oW xs
  if m=="count" then some (.int ((ns.filter (· ==i)).length:Nat)) else none
 | _,_=>none
def aG:Expr->Bool
 | .Starred .. =>false
 | .Set .. =>false
 | .Slice .. =>false
 | _=>true
def Px:D->Option Expr->Option Expr->Option Int->Option D
 | .tup xs,none,none,some i=>if i == -1 then some (.tup xs.reverse) else none
 | _,_,_,_=>none
def ev(cx:Cxt):Nat->Scope->Rho->Expr->Option D
 | 0,_,_,_=>none
 | n+1,sc,U,e=>match e with
  | .Name x _=>if aH x then(match sc.names.lookup x with
    | some .local=>(match U.lookup x with | some (.sh d)=>some d | _=>none)
    | some .cell=>(match U.lookup x with | some (.sh d)=>some d | _=>none)
    | some .free=>(match U.lookup x with | some (.sh d)=>some d | _=>none)
    | some .globalImplicit=>cx.cst.lookup x
    | _=>none) else none
  | .Constant c _ _=>(match c with
    | .none=>some .non
    | .bool b=>some (.bl b)
    | .int i=>some (.int i)
    | .str x=>some (.str x)
    | _=>none)
  | .BinOp a op b _=>do let x <- ev cx n sc U a;let y <- ev cx n sc U b;binop op x y
  | .UnaryOp op a _=>do
    let x <- ev cx n sc U a
    match op with
    | .USub=>(asI x).map fun i=>.int (-i)
    | .Not=>(asB x).map fun b=>.bl (!b)
    | _=>none
  | .Dict ks vs _=>if ks.isEmpty&&vs.isEmpty then some (.dic [] []) else none
  | .BoolOp op es _=>cN op (ev cx n sc U) es
  | .Compare a ops bs _=>(match ops,bs with
    | [op],[b]=>do let x <- ev cx n sc U a;let y <- ev cx n sc U b;cmpop op x y
    | [op,op'],[b,c]=>if !aG c then none else do
     let x <- ev cx n sc U a
     let y <- ev cx n sc U b
     let k <- (cmpop op x y).bind asB
     if k then do let z <- ev cx n sc U c;cmpop op' y z else some (.bl false)
    | _,_=>none)
  | .IfExp c a b _=>do
    let k <- (ev cx n sc U c).bind asB
    if k then ev cx n sc U a else ev cx n sc U b
  | .Tuple es _ _=>do let ds <- jH (ev cx n sc U) es;if szl ds.length then some (.tup ds) else none
  | .List es _=>do let ds <- jH (ev cx n sc U) es;if szl ds.length then some (.lst ds) else none
  | .Subscript a b _=>do
    let x <- ev cx n sc U a
    match b with
    | .Slice lo hi st _=>(match st with
     | none=>if true then none else none
     | some c=>Px x lo hi ((ev cx n sc U c).bind asI))
    | b=>do
     let y <- ev cx n sc U b
     Kr x y
  | .Call f args kws p=>(match f,kws with
    | .Name x _,[] =>
     if qZ cx sc x then
      match cx.blt.lookup x with
      | some "isinstance"=>(match args with
       | [a,t]=>do
        let d <- ev cx n sc U a
        match xOf cx sc t with
        | some c'=>(match d with | .exc c=>if cx.exs.contains c then some (.bl (wC cx.top c c')) else none | _=>none)
        | none=>do
         let ty <- tyOf cx sc t
         match d with
         | .exc c=>if cx.exs.contains c&&ty=="ValueError" then some (.bl true) else none
         | .dic _ _=>none
         | .obj _=>none
         | d=>if j5 ty then some (.bl (PN ty d)) else none
       | _=>none)
      | some b=>(match Bo cx sc b args with
       | .tv a=>do let xs <- (ev cx n sc U a).bind tupI;some (.tup xs.reverse)
       | .li a=>(ev cx n sc U a).bind Ww
       | .al=>if args.isEmpty then none else do let ds <- jH (ev cx n sc U) args;blt b ds)
      | none=>if cx.fns.contains x && !args.isEmpty then do let ds <- jH (ev cx n sc U) args;cx.call x ds else none
     else none
    | _,_=>none)
  | .ListComp elt gens scope _=>(match gens with
    | [⟨tg,iter,ifs,a⟩]=>if a==0&&iW sc scope then do
      let l <- evI cx (dX tg) (ev cx n sc U) sc iter
      if szl l.length then do
       let out <- bQ (fun d=>do
        let U1 <- gJ scope tg d (cG scope U)
        let b <- lZ (ev cx n (pR scope sc) U1) ifs
        if b then(ev cx n (pR scope sc) U1 elt).map some else some none) l
       some (.lst out)
      else none
     else none
    | _=>none)
  | _=>none
def v7(f:Expr->Option D)(g:Expr->Option Str):List Expr->Option Str
 | []=>none
 | e::r=>match f e with
  | some _=>v7 f g r
  | none=>g e
def evx(cx:Cxt):Nat->Scope->Rho->Expr->Option Str
 | 0,_,_,_=>none
 | n+1,sc,U,e=>match e with
  | .Call (.Name x _) args [] _=>if qZ cx sc x && !args.isEmpty&&args.all aG&&cx.fns.contains x then
    (match jH (ev cx n sc U) args with
    | some ds=>cx.callx x ds
    | none=>v7 (ev cx n sc U) (evx cx n sc U) args)
   else none
  | _=>none
def fP:Nat->Str->Expr->Bool
 | 0,_,_=>true
 | n+1,x,e=>match e with
  | .Name y _=>x==y
  | .Constant .. =>false
  | .BinOp a _ b _=>fP n x a||fP n x b
  | .UnaryOp _ a _=>fP n x a
  | .BoolOp _ es _=>es.any (fP n x)
  | .Compare a _ bs _=>fP n x a||bs.any (fP n x)
  | .IfExp c a b _=>fP n x c||fP n x a||fP n x b
  | .Tuple es _ _=>es.any (fP n x)
  | .List es _=>es.any (fP n x)
  | .Subscript a b _=>fP n x a||fP n x b
  | .Slice lo hi st _=>(lo.map (fP n x)).getD false||(hi.map (fP n x)).getD false||(st.map (fP n x)).getD false
  | .Call f args kws _=>fP n x f||args.any (fP n x) || !kws.isEmpty
  | .ListComp elt gens _ _=>fP n x elt||gens.any fun g=>fP n x g.iter||g.ifs.any (fP n x)
  | _=>true
def frz(n:Nat)(e:Expr)(U:Rho):Rho:=U.map fun p=>match p.2 with
 | .ow ds=>if fP n p.1 e then(p.1,.sh (.lst ds)) else p
 | .oo dss=>if fP n p.1 e then(p.1,.sh (.lst (dss.map .lst))) else p
 | _=>p
def isL:Expr->Bool
 | .List .. =>true
 | _=>false
def bU:Expr->Bool
 | .List .. =>true
 | .ListComp .. =>true
 | _=>false
def g8:Sl->Bool
 | .no=>true
 | .sh _=>true
 | _=>false
def PX:Sl->Bool
 | .oo _=>true
 | _=>false
def Cw(_:Rho)(_:Str):Bool:=true
def oZ(U:Rho)(x:Str):Bool:=U.all fun p=>p.1==x || !PX p.2
def lArg(cx:Cxt)(sc:Scope):Expr->Bool
 | .Name y _=>aH y&&sc.names.lookup y==some .local
 | .Call (.Name f _) _ [] _=>qZ cx sc f&&(cx.blt.lookup f).isNone
 | _=>false
def Kz(cx:Cxt)(sc:Scope):Expr->Bool
 | .Call (.Name l _) [y] [] _=>bV cx sc l==some "list"&&lArg cx sc y
 | _=>false
def ooE(_:Cxt)(_:Scope):Expr->Bool
 | .ListComp .. =>true
 | _=>false
def nq(e:Expr)(d:D):Sl:=match d with
 | .lst ds=>if bU e then .ow ds else .sh (.lst ds)
 | d=>.sh d
def nc0:Expr->Bool
 | .Call .. =>true
 | .Name x _=>x !="__debug__"
 | .IfExp .. =>true
 | .ListComp .. =>true
 | .Compare .. =>true
 | _=>false
def nc1:Expr->Bool
 | .Subscript v _ _=>nc0 v
 | e=>nc0 e
def nc:Expr->Bool
 | .Subscript v i _=>nc0 v||nc0 i
 | .BinOp l _ r _=>nc1 l||nc1 r
 | e=>nc0 e
def swp(sc:Scope)(ts:List Expr)(value:Expr):Option Bool:=match value with
 | .Tuple vs _ _=>(match ts,vs with
  | [.Name x px,.Name y py],[a,b] =>
   if sc.names.lookup x==some .local&&sc.names.lookup y==some .local then
    (if px.line==py.line&&x !=y&&(nc a||nc b)&&aG a&&aG b then some true else none)
   else none
  | _,_=>none)
 | _=>some false
def rdA:Expr->Bool
 | .Call (.Name _ _) [.Subscript _ _ _,.Subscript _ _ _] [] _=>true
 | _=>false
def eZ(f:D->Rho->Option Fl):List D->Rho->Option Fl
 | [],U=>some (.nxt U)
 | x::r,U=>do
  match <- f x U with
  | .ret d=>some (.ret d)
  | .nxt U'=>eZ f r U'
def jO(f:Rho->Stmt->Option Fl):List Stmt->Rho->Option Fl
 | [],U=>some (.nxt U)
 | s::r,U=>do
  match <- f U s with
  | .ret d=>some (.ret d)
  | .nxt U'=>jO f r U'
def j8(f:Rho->Stmt->Option Fl)(g:Rho->Stmt->Option (Str×Rho)):List Stmt->Rho->Option (Str×Rho)
 | [],_=>none
 | s::r,U=>match f U s with
  | some (.nxt U')=>j8 f g r U'
  | some (.ret _)=>none
  | none=>g U s
mutual
def st(cx:Cxt)(F:Nat):Nat->Scope->Rho->Stmt->Option Fl
 | 0,_,_,_=>none
 | n+1,sc,U,s=>match s with
  | .Pass _=>some (.nxt U)
  | .Return v _=>(match v with
    | none=>some (.ret .non)
    | some e=>(ev cx F sc (frz F e U) e).map .ret)
  | .Assign tgs e _=>(match tgs with
    | [.Name x _]=>if ownIn sc x&&(U.map (·.1)).contains x then
      (if ooE cx sc e&&Cw (frz F e U) x then none
      else if Kz cx sc e&&oZ (frz F e U) x then none
      else if bU e && !oZ (frz F e U) x then none
      else if rdA e then none
      else(ev cx F sc (frz F e U) e).map fun d=>.nxt (fG (frz F e U) x (nq e d))) else none
    | [.Tuple es _ _]=>if(swp sc es e).isSome||false then do
      let d <- ev cx F sc (frz F e U) e
      let l <- tupI d
      (bindNames sc es l (frz F e U)).map .nxt
     else none
    | _=>none)
  | .Expr v _=>(match v with
    | .Call (.Attribute (.Name x _) m ap) [e] [] cp=>(match (frz F e U).lookup x with
      | some (.ow ds)=>if ownIn sc x&&aH x&&ap.endLine==cp.line then
        if m=="append"&&szl (ds.length+1) then(ev cx F sc (frz F e U) e).map fun d=>.nxt (fG (frz F e U) x (.ow (ds++[d])))
        else if m=="extend" then do
         let d <- ev cx F sc (frz F e U) e
         (match d with
         | .tup zs=>if szl (ds.length+zs.length) then some (.nxt (fG (frz F e U) x (.ow (ds++zs)))) else none
         | _=>none)
        else none
       else none
      | _=>none)
    | .ListComp .. =>none
    | .Constant .. =>none
    | e=>(ev cx F sc (frz F e U) e).map fun _=>.nxt (frz F e U))
  | .If c a b _=>do
    let k <- (ev cx F sc (frz F c U) c).bind asB
    if k then jO (fun U s=>st cx F n sc U s) a U else jO (fun U s=>st cx F n sc U s) b U
  | .For tg iter body orelse _=>(match orelse with
    | []=>do
     let l <- evI cx (dX tg) (ev cx F sc (frz F iter U)) sc iter
     eZ (fun d U=>do let U1 <- gJ sc tg d U;jO (fun U s=>st cx F n sc U s) body U1) l (frz F iter U)
    | _=>none)
  | .While c body orelse _=>(match orelse with
    | []=>if true then none else none
    | _=>none)
  | _=>none
def stx(cx:Cxt)(F:Nat):Nat->Scope->Rho->Stmt->Option (Str×Rho)
 | 0,_,_,_=>none
 | n+1,sc,U,s=>match s with
  | .Raise (some (.Call (.Name c _) [.Constant (.str _) _ _] [] _)) none _=>if cx.rs&&qZ cx sc c&&cx.exs.contains c&&aH c then some (c,U) else none
  | .Expr e _=>if bU e then none else(evx cx F sc (frz F e U) e).map fun c=>(c,frz F e U)
  | .Return (some e) _=>(evx cx F sc (frz F e U) e).map fun c=>(c,frz F e U)
  | .If c a b _=>(match (ev cx F sc (frz F c U) c).bind asB with
    | some k=>j8 (fun U s=>st cx F n sc U s) (fun U s=>stx cx F n sc U s) (if k then a else b) (frz F c U)
    | none=>none)
  | _=>none
end
structure Fd where
 ps:List Str
 N:List Str
 sc:Scope
 body:List Stmt
def bw(fd:Fd)(ds:List D):Rho:=(fd.ps.zip (ds.map Sl.sh))++(fd.N.drop fd.ps.length).map fun x=>(x,.no)
structure Pg where
 cst:List (Str×D)
 blt:List (Str×String)
 defs:List (Str×Fd)
 exs:List Str:=[]
 top:Str:="MinorError"
inductive Rs where
 | val (d:D) | exc (c:Str)
def Rs.val?:Option Rs->Option D
 | some (.val d)=>some d
 | _=>none
def Rs.exc?:Option Rs->Option Str
 | some (.exc c)=>some c
 | _=>none
def Pg.cx(P:Pg)(c:Str->List D->Option Rs):Cxt:=⟨P.cst,P.blt,P.defs.map (·.1),P.exs,P.top,true,fun f ds=>Rs.val? (c f ds),fun f ds=>Rs.exc? (c f ds)⟩
def qN(cx:Cxt)(F:Nat)(sc:Scope)(body:List Stmt)(U:Rho):Option Rs:=match jO (fun U s=>st cx F F sc U s) body U with
 | some (.ret d)=>some (.val d)
 | some (.nxt _)=>some (.val .non)
 | none=>(match j8 (fun U s=>st cx F F sc U s) (fun U s=>stx cx F F sc U s) body U with
  | some (c,_)=>some (.exc c)
  | none=>none)
@[irreducible] def aR (P:Pg) (F:Nat):Nat->Str->List D->Option Rs
 | 0,_,_=>none
 | k+1,f,ds=>match P.defs.lookup f with
  | none=>none
  | some fd=>if ds.length==fd.ps.length then qN (P.cx (aR P F k)) F fd.sc fd.body (bw fd ds) else none
theorem tH{P:Pg}{F:Nat}{f:Str}{ds:List D}:aR P F 0 f ds=none:=by with_unfolding_all rfl
theorem lQ{P:Pg}{F k:Nat}{f:Str}{ds:List D}:aR P F (k+1) f ds=(match P.defs.lookup f with
  | none=>none
  | some fd=>if ds.length==fd.ps.length then qN (P.cx (aR P F k)) F fd.sc fd.body (bw fd ds) else none):=by with_unfolding_all rfl
@[irreducible] def aU (P:Pg) (F k:Nat) (f:Str) (ds:List D):Option D:=Rs.val? (aR P F k f ds)
theorem gD{P:Pg}{F k:Nat}{f:Str}{ds:List D}:aU P F k f ds=Rs.val? (aR P F k f ds):=by with_unfolding_all rfl
@[irreducible] def iZ (P:Pg) (F k:Nat) (f:Str) (ds:List D):Option Str:=Rs.exc? (aR P F k f ds)
theorem jW{P:Pg}{F k:Nat}{f:Str}{ds:List D}:iZ P F k f ds=Rs.exc? (aR P F k f ds):=by with_unfolding_all rfl
end DE
namespace L2
open PySem PySem.Spec PyProof.Rows PySem.SeqAt
section
variable {prog:Program} {w:World} {A:Around} {I:Addr} {fp wr:List Addr} {n:Nat} {P:Nat->Value->Prop} {St:Nat->Heap->Prop}
end
end L2
namespace L2
open PySem PySem.Spec PyProof.Rows
section
variable (P:Program) (w:World)
end
section
variable {P:Program} {w:World} {H H':Hp} {h h':Heap} {a:Addr} {o:HO}
end
section
variable {P:Program} {w:World} {H:Hp} {h h':Heap} {x e:Addr} {o':HO}
end
section
variable {fs fs' ex ex':List Addr} {H H1 H2:Hp} {h h1 h2 h':Heap} {a x e:Addr} {o:HO}
end
section
variable {X:Cx} {z0:List (Addr×Obj)} {Y:List (Option V)} {H H':Hp} {s:Shared} {h':Heap}
end
section
variable {X:Cx}
variable {a b:Expr} {ta tb:TE} {pos:Pos}
variable {tA tB':TT} {rest:List Expr}
end
section
variable {X:Cx} {z0:List (Addr×Obj)} {Y:St} {H:Hp} {s:Shared} {a:Addr} {xs ys:List V}
end
section
variable {X:Cx} {z0:List (Addr×Obj)} {Y:St} {H:Hp} {s:Shared} {E:Value->Shared->Prop}
end
section
variable {X:Cx} {st:Stmt} {rest:List Stmt} {t u:TS} {e:Expr} {te:TE} {pos:Pos}
end
section
variable {X:Cx} {pos:Pos}
end
section
variable {X:Cx} {pos:Pos}
end
section
variable {X:Cx} {tg:Expr}
end
section
variable {X:Cx} {a b c:Expr} {ta tb tc:TE} {pos:Pos}
end
section
variable {X:Cx} {a b c:Expr} {ta tb tc:TE} {pos:Pos}
end
section
variable {prog:Program} {w:World} {A:Around} {E:Value->Shared->Prop} {s:Shared} {K:Z3} {x dx C f:Addr} {mA:Str->Option Value} {name:Str} {v:Value}
end
section
variable {P:Program} {w:World} {H H':Hp} {h h':Heap} {a C dx:Addr} {fs fs':List (Str×V)}
end
section
variable {X:Cx} {z0:List (Addr×Obj)} {Y:St} {H:Hp} {s:Shared} {a C dx:Addr} {fs:List (Str×V)} {f:Str} {v:V} {A:Around} {E:Value->Shared->Prop}
end
section
variable {X:Cx} {o e value:Expr} {f:Str} {pos pos' tpos:Pos} {ta tv:TE}
end
section
variable {X:Cx} {z0:List (Addr×Obj)} {Y:St} {H:Hp} {s:Shared} {A:Around} {E:Value->Shared->Prop} {Q:Value->Shared->Prop} {c:Value} {b:Bool}
end
section
variable {X:Cx} {e:Expr} {es:List Expr} {te:TE} {t:TA} {pos:Pos}
end
section
variable {X:Cx} {z0:List (Addr×Obj)} {Y:St} {H:Hp} {s s':Shared}
end
section
variable {X:Cx} {CX:CXT} {k:Nat} {f C:Addr} {fd:FuncData} {ps:List Str} {sp:Sp} {dvs:List V} {ds:List Value} {E:XK} {x m:Str} {p pos apos:Pos} {e o:Expr} {es:List Expr} {ta:TE} {t:TA}
end
section
variable {X:Cx} {CX:CXT} {k:Nat} {f C:Addr} {fd:FuncData} {ps ks:List Str} {sp:Sp} {E:XK} {x m:Str} {p pos apos kpos:Pos} {e o:Expr} {es:List Expr} {kws:List Keyword} {te ta:TE} {t tk:TA} {nm:Option Str}
variable {g:List Value->List Value->List Value} {gV:List V->List V->List V}
end
section
variable {X:Cx} {x:Str} {p pos:Pos} {e:Expr} {es:List Expr} {t:TA} {id T:String} {r:List V->Hp->VK->Prop}
end
section
variable {κ:Type} [DecidableEq κ]
def jk(kvs:List (κ×V))(k:κ):Option V:=(kvs.find? fun kv=>decide (kv.1=k)).map (·.2)
noncomputable def putK(kvs:List (κ×V))(k:κ)(v:V):List (κ×V) :=
 if(kvs.any fun kv=>decide (kv.1=k))=true then kvs.map (fun kv=>if kv.1=k then(kv.1,v) else kv) else kvs++[(k,v)]
def sS(kvs:List (κ×V))(k:κ):List (κ×V):=kvs.filter fun kv=>decide (kv.1≠k)
theorem iy{p:κ×V}{r:List (κ×V)}{k:κ}(e:p.1=k):jk (p::r) k=some p.2:=by simp[jk,List.find?_cons,e]
theorem iz{p:κ×V}{r:List (κ×V)}{k:κ}(e:¬ p.1=k):jk (p::r) k=jk r k:=by simp[jk,List.find?_cons,e]
theorem tR(k:κ):∀ kvs:List (κ×V),(kvs.any fun kv=>decide (kv.1=k))=(jk kvs k).isSome
 | []=>rfl
 | p::r=>by
  rw[E4z]
  by_cases e:p.1=k
  .simp only[iy e,U3z e,Bool.true_or,Option.isSome_some]
  .rw[iz e,B3z e,Bool.false_or];exact tR k r
theorem gZ(kvs:List (κ×V))(k:κ)(v:V):(putK kvs k v).length<=kvs.length+1:=by
 unfold putK;split
 .rw[E3z];omega
 .rw[O1z,M2z,List.length_nil];omega
theorem mZ.isSome_eq{o:Option V}{u:Option Value}(r:mZ o u):o.isSome=u.isSome:=by
 cases o with
 | none=>cases u with
  | none=>rfl
  | some _=>exact(show False from r).elim
 | some _=>cases u with
  | none=>exact(show False from r).elim
  | some _=>rfl
theorem mZ.getD{o:Option V}{u:Option Value}{d:V}{d':Value}(r:mZ o u)(rd:RelV d d'):RelV (o.getD d) (u.getD d'):=by
 cases o with
 | none=>cases u with
  | none=>exact rd
  | some _=>exact(show False from r).elim
 | some _=>cases u with
  | none=>exact(show False from r).elim
  | some _=>exact r
theorem KV.val{kvs:List (κ×V)}{vs:List (κ×Value)}(r:KV kvs vs)(k:κ):mZ (jk kvs k) (valueAt vs k):=by
 unfold KV at r
 induction r with
 | nil=>exact True.intro
 | @cons p q ps qs h t ih =>
  obtain⟨h1,h2⟩:=h
  by_cases e:p.1=k
  .have e':q.1=k:=h1.symm.trans e
   have b:valueAt (q::qs) k=some q.2:=by simp[valueAt,List.find?_cons,e']
   rw[iy e,b];exact h2
  .have e':¬ q.1=k:=fun z=>e (h1.trans z)
   have b:valueAt (q::qs) k=valueAt qs k:=by simp[valueAt,List.find?_cons,e']
   rw[iz e,b];exact ih
theorem KV.any{kvs:List (κ×V)}{vs:List (κ×Value)}(r:KV kvs vs)(k:κ):(kvs.any fun kv=>decide (kv.1=k))=vs.any fun kv=>decide (kv.1=k):=by
 unfold KV at r
 induction r with
 | nil=>rfl
 | cons h t ih=>rw[E4z,E4z,ih,h.1]
theorem KV.repl{kvs:List (κ×V)}{vs:List (κ×Value)}(r:KV kvs vs)(k:κ){y:V}{u:Value}(ry:RelV y u) :
  KV (kvs.map fun kv=>if kv.1=k then(kv.1,y) else kv) (vs.map fun kv=>if kv.1=k then(kv.1,u) else kv):=by
 unfold KV at r ⊢
 induction r with
 | nil=>exact .nil
 | @cons p q ps qs h t ih =>
  rw[A4z,A4z];refine .cons ?_ ih;obtain⟨h1,h2⟩:=h
  by_cases e:p.1=k
  .rw[L5z e,L5z (h1.symm.trans e)];exact⟨h1,ry⟩
  .rw[M5z e,M5z (fun z=>e (h1.trans z))];exact⟨h1,h2⟩
theorem KV.put{kvs:List (κ×V)}{vs:List (κ×Value)}(r:KV kvs vs)(k:κ){y:V}{u:Value}(ry:RelV y u):KV (putK kvs k y) (stored vs k u):=by
 unfold putK stored;rw[r.any k]
 by_cases e:(vs.any fun kv=>decide (kv.1=k))=true
 .rw[L5z e,L5z e];exact r.repl k ry
 .rw[M5z e,M5z e];exact Paired.snoc r ⟨rfl,ry⟩
theorem KV.drop{kvs:List (κ×V)}{vs:List (κ×Value)}(r:KV kvs vs)(k:κ):KV (sS kvs k) (without vs k):=by
 unfold KV at r ⊢;unfold sS without
 induction r with
 | nil=>exact .nil
 | @cons p q ps qs h t ih =>
  obtain⟨h1,h2⟩:=h;rw[T2z,T2z]
  by_cases e:p.1=k
  .have a:¬ decide (p.1≠k)=true:=by simp[e]
   have b:¬ decide (q.1≠k)=true:=by simp[h1.symm.trans e]
   rw[M5z a,M5z b];exact ih
  .have e':¬ q.1=k:=fun z=>e (h1.trans z)
   have a:decide (p.1≠k)=true:=by simp[e]
   have b:decide (q.1≠k)=true:=by simp[e']
   rw[L5z a,L5z b];exact .cons ⟨h1,h2⟩ ih
theorem KV.length{kvs:List (κ×V)}{vs:List (κ×Value)}(r:KV kvs vs):kvs.length=vs.length:=Paired.length r
theorem DG(kvs:List (κ×V))(k:κ):(sS kvs k).length<=kvs.length:=List.length_filter_le _ _
end
theorem lD{P:Program}{w:World}{k:Key}{u:Value}(r:RelV (kV k) u):(aQ P w).is k u=true:=by
 cases k with
 | inl i=>obtain⟨t,e⟩:=(show ∃ t,u=Value.int i t from r);subst e;exact rR P w i t
 | inr x=>obtain⟨t,e⟩:=(show ∃ t,u=Value.str x t from r);subst e;exact rQ P w x t
theorem qj{P:Program}{w:World}:∀ {ks:List Key} {us:List Value},Vals (ks.map kV) us->ItemsAre (aQ P w) ks us
 | [],_,r=>by rw[P4z] at r;cases r;exact .nil
 | k::ks,_,r=>by
  rw[A4z] at r
  cases r with
  | cons h t=>exact .cons (lD h) (qj t)
abbrev KT(H:Hp):List (List Key×V)->List (List Key×Addr×Value)->Prop:=Paired fun p q=>p.1=q.1/\H q.2.1=some (.tup (p.1.map kV))/\RelV p.2 q.2.2
theorem KT.val{H:Hp}{kvs:List (List Key×V)}{xs:List (List Key×Addr×Value)}(r:KT H kvs xs)(k:List Key):mZ (jk kvs k) ((atKey xs k).map (·.2)):=by
 induction r with
 | nil=>exact True.intro
 | @cons p q ps qs h t ih =>
  obtain⟨h1,_,h2⟩:=h
  by_cases e:p.1=k
  .have e':q.1=k:=h1.symm.trans e
   have b:atKey (q::qs) k=some q.2:=by simp[atKey,List.find?_cons,e']
   rw[iy e,b];exact h2
  .have e':¬ q.1=k:=fun z=>e (h1.trans z)
   have b:atKey (q::qs) k=atKey qs k:=by simp[atKey,List.find?_cons,e']
   rw[iz e,b];exact ih
theorem KT.repl{H:Hp}{kvs:List (List Key×V)}{xs:List (List Key×Addr×Value)}(r:KT H kvs xs)(k:List Key){y:V}{u:Value}(ry:RelV y u) :
  KT H (kvs.map fun kv=>if kv.1=k then(kv.1,y) else kv) (xs.map (putAt k u)):=by
 induction r with
 | nil=>exact .nil
 | @cons p q ps qs h t ih =>
  rw[A4z,A4z];refine .cons ?_ ih;obtain⟨h1,h2,h3⟩:=h;unfold putAt
  by_cases e:p.1=k
  .rw[L5z e,L5z (h1.symm.trans e)];exact⟨h1,h2,ry⟩
  .rw[M5z e,M5z (fun z=>e (h1.trans z))];exact⟨h1,h2,h3⟩
theorem KT.put{H:Hp}{kvs:List (List Key×V)}{xs:List (List Key×Addr×Value)}(r:KT H kvs xs)(k:List Key){b:Addr}{y:V}{u:Value}(hb:H b=some (.tup (k.map kV)))(ry:RelV y u) :
  KT H (putK kvs k y) (storedH xs k b u):=by
 have e:(kvs.any fun kv=>decide (kv.1=k))=(atKey xs k).isSome:=by
  rw[tR,(r.val k).isSome_eq,F2z]
 unfold putK storedH;rw[e]
 by_cases q:(atKey xs k).isSome=true
 .rw[L5z q,L5z q];exact r.repl k ry
 .rw[M5z q,M5z q];exact Paired.snoc r ⟨rfl,hb,ry⟩
theorem KT.keeps{H H':Hp}{kvs:List (List Key×V)}{xs:List (List Key×Addr×Value)}(r:KT H kvs xs)(ht:∀ b ys,H b=some (.tup ys)->H' b=some (.tup ys)):KT H' kvs xs :=
 Paired.mapP r fun _ _ z=>⟨z.1,ht _ _ z.2.1,z.2.2⟩
section
variable {P:Program} {w:World} {H:Hp} {h:Heap} {a:Addr}
theorem Lx{u:HO}(ok:HOk P w H h)(e:Rd H a u):cJ P w H h a u:=e.ok ok
theorem sU{kvs:List (Key×V)}(ok:HOk P w H h)(e:Rd H a (.dK kvs)):kvs.length<=sizeLine/\(a==sysModules)=false/\∃ vs,KV kvs vs/\h.DictOf (aQ P w) a vs :=
 show cJ P w H h a (.dK kvs) from Lx ok e
theorem Og{kvs:List (Key×V)}(ok:HOk P w H h)(e:H a=some (.dK kvs)):kvs.length<=sizeLine/\(a==sysModules)=false/\∃ vs,KV kvs vs/\h.DictOf (aQ P w) a vs:=sU ok (.inl e)
theorem mH{ks:List Key}(ok:HOk P w H h)(e:H a=some (.tup (ks.map kV))):(tupleKind (aQ P w)).is h ks a:=by
 obtain⟨_,its,r,o,h1,h2,n,h3⟩:=(show cJ P w H h a (.tup (ks.map kV)) from ok a _ e);exact⟨o,its.toArray,n,h1,h2,h3,by simpa using qj r⟩
theorem sJ{kvs:List (List Key×V)}(ok:HOk P w H h)(e:Rd H a (.dT kvs)):kvs.length<=sizeLine/\(a==sysModules)=false /\
  ∃ xs,KT H kvs xs/\h.DictOfH (tupleKind (aQ P w)) a xs:=by
 obtain⟨z,y,xs,r,o,es,ep,h1,h2,h3,h4,h5⟩:=(show cJ P w H h a (.dT kvs) from Lx ok e);refine⟨z,y,xs,r,o,es,ep,h1,h2,h3,h4,fun x hx=>?_,h5⟩
 have all:∀ {l:List (List Key×V)} {m:List (List Key×Addr×Value)},KT H l m->∀ x∈m,(tupleKind (aQ P w)).is h x.1 x.2.1:=by
  intro l m q
  induction q with
  | nil=>intro x hx;exact nomatch hx
  | @cons p q ps qs hq t ih =>
   intro x hx;rcases H4z.mp hx with e | hx
   .subst e
    exact mH ok (by rw[<- hq.1];exact hq.2.1)
   .exact ih x hx
 exact all r x hx
theorem WW{kvs:List (List Key×V)}(ok:HOk P w H h)(e:H a=some (.dT kvs)):kvs.length<=sizeLine/\(a==sysModules)=false /\
  ∃ xs,KT H kvs xs/\h.DictOfH (tupleKind (aQ P w)) a xs:=sJ ok (.inl e)
end
def tQ(H:Hp)(a:Addr)(y:V)(r:Option V):Prop :=
 (∃ kvs k,Rd H a (.dK kvs)/\y=kV k/\r=jk kvs k)\/∃ kvs k b,Rd H a (.dT kvs)/\y=.ref b/\H b=some (.tup (k.map kV))/\r=jk kvs k
def O9(H:Hp)(a:Addr)(y v:V)(H':Hp):Prop :=
 (∃ kvs k,H a=some (.dK kvs)/\y=kV k/\kvs.length<sizeLine/\H'=upd H a (.dK (putK kvs k v))) \/
 ∃ kvs k b,H a=some (.dT kvs)/\y=.ref b/\H b=some (.tup (k.map kV))/\kvs.length<sizeLine/\H'=upd H a (.dT (putK kvs k v))
theorem tQ.k{H:Hp}{a:Addr}{kvs:List (Key×V)}{k:Key}(e:H a=some (.dK kvs)):tQ H a (kV k) (jk kvs k):=.inl ⟨kvs,k,.inl e,rfl,rfl⟩
theorem O9.k{H:Hp}{a:Addr}{kvs:List (Key×V)}{k:Key}{v:V}(e:H a=some (.dK kvs))(hl:kvs.length<sizeLine):O9 H a (kV k) v (upd H a (.dK (putK kvs k v))):=.inl ⟨kvs,k,e,rfl,hl,rfl⟩
section
variable {X:Cx} {z0:List (Addr×Obj)} {Y:St} {H:Hp} {s:Shared} {a:Addr} {y v:V} {u r:Value} {o:Option V} {A:Around} {E:Value->Shared->Prop}
theorem Inv.big(I:Inv X z0 Y H s):sysModules<s.heap.objs.size:=by
 have h:mainGlobals<s.heap.objs.size:=(I.mod.glob.keeps I.bk).lt;exact Nat.lt_trans (by decide) h
theorem z7{Q:Value->Shared->Prop}(hu:A.units+1<cLine)(I:Inv X z0 Y H s)(g:tQ H a y (some v))(ry:RelV y u)(h:∀ w' s',Inv X z0 Y H s'->RelV v w'->Q w' s') :
  wpAny (model X.prog X.w) A (getItem (.ref a) u) Q E s:=by
 rcases g with⟨kvs,k,e,ey,l⟩ | ⟨kvs,k,b,e,ey,eb,l⟩
 .subst ey
  obtain⟨z,hd,vs,rel,dd⟩:=sU I.hok e;obtain⟨w',hw,rw'⟩:=mZ.some_of (v:=v) (o:=valueAt vs k) (by rw[l];exact rel.val k);exact wpAny_getItem_of (lD ry) dd.mapOf hw (h w' _ (I.tok _) rw')
 .subst ey
  cases (show u=Value.ref b from ry);obtain⟨z,hd,xs,rel,dd⟩:=sJ I.hok e;obtain⟨w',hw,rw'⟩:=mZ.some_of (v:=v) (o:=(atKey xs k).map (·.2)) (by rw[l];exact rel.val k);obtain⟨p,hp,hp2⟩:=M0z.mp hw;refine wpAny_getItem_heap (S1z hu) (mH I.hok eb) dd hp ?_;rw[hp2];exact h w' _ (I.tok _) rw'
theorem d_in{Q:Value->Shared->Prop}(hu:A.units+1<cLine)(I:Inv X z0 Y H s)(g:tQ H a y o)(ry:RelV y u)(h:∀ s',Inv X z0 Y H s'->Q (.bool o.isSome) s') :
  wpAny (model X.prog X.w) A (compareOp .In u (.ref a)) Q E s:=by
 rcases g with⟨kvs,k,e,ey,l⟩ | ⟨kvs,k,b,e,ey,eb,l⟩
 .subst ey
  obtain⟨z,hd,vs,rel,dd⟩:=sU I.hok e;refine wpAny_in_of (lD ry) hd dd.mapOf ?_;rw[<- (rel.val k).isSome_eq,<- l];exact h _ (I.tok _)
 .subst ey
  cases (show u=Value.ref b from ry);obtain⟨z,hd,xs,rel,dd⟩:=sJ I.hok e;refine wpAny_in_heap (S1z hu) (mH I.hok eb) hd dd ?_;have q:=(rel.val k).isSome_eq;rw[F2z] at q;rw[<- q,<- l];exact h _ (I.tok _)
theorem J3{Q:Value->Shared->Prop}(hu:A.units+1<cLine)(I:Inv X z0 Y H s)(g:tQ H a y o)(ry:RelV y u)(h:∀ s',Inv X z0 Y H s'->Q (.bool (!o.isSome)) s') :
  wpAny (model X.prog X.w) A (compareOp .NotIn u (.ref a)) Q E s:=by
 rcases g with⟨kvs,k,e,ey,l⟩ | ⟨kvs,k,b,e,ey,eb,l⟩
 .subst ey
  obtain⟨z,hd,vs,rel,dd⟩:=sU I.hok e;refine wpAny_notIn_of (lD ry) hd dd.mapOf ?_;rw[<- (rel.val k).isSome_eq,<- l];exact h _ (I.tok _)
 .subst ey
  cases (show u=Value.ref b from ry);obtain⟨z,hd,xs,rel,dd⟩:=sJ I.hok e;refine wpAny_notIn_heap (S1z hu) (mH I.hok eb) hd dd ?_;have q:=(rel.val k).isSome_eq;rw[F2z] at q;rw[<- q,<- l];exact h _ (I.tok _)
theorem sZ{h':Heap}{t':Nat}{ob:HO}(I:Inv X z0 Y H s)(mu:Mut (H a))(hs:Heap.SameBut a s.heap h')(he:∃ q,h'.get? a=some q)(new:cJ X.prog X.w (upd H a ob) h' a ob) :
  Inv X z0 Y (upd H a ob) { s with heap:=h',toks:=t' } :=
 I.write (x:=a) (e:=a) mu (.inl rfl) (fun b q hb z=>(hs.2 b hb).trans z) he new
theorem zY{P:Program}{w:World}{H':Hp}{h':Heap}{kvs:List (Key×V)}{vs:List (Key×Value)}(z:kvs.length<=sizeLine)(hd:(a==sysModules)=false)(rel:KV kvs vs)(dd:h'.DictOf (aQ P w) a vs) :
  cJ P w H' h' a (.dK kvs):=⟨z,hd,vs,rel,dd⟩
theorem z6{H':Hp}{Q:Unit->Shared->Prop}(hu:A.units+1<cLine)(I:Inv X z0 Y H s)(g:O9 H a y v H')(ry:RelV y u)(rv:RelV v r)(h:∀ s',Inv X z0 Y H' s'->Q () s') :
  wpAny (model X.prog X.w) A (setItem (.ref a) u r) Q E s:=by
 rcases g with⟨kvs,k,e,ey,l,eH⟩ | ⟨kvs,k,b,e,ey,eb,l,eH⟩
 .subst ey eH
  obtain⟨z,hd,vs,rel,dd⟩:=Og I.hok e
  have hz:vs.length<=sizeLine:=by rw[<- rel.length];exact z
  have hl:(putK kvs k v).length<=sizeLine:=by have:=gZ kvs k v;omega
  refine wpAny_setItem_pairs (hsz:=hz) (lD ry) dd fun h' dd' hs=>h _ ?_;have he:∃ q,h'.get? a=some q:=let ⟨q,_,_,hq,_⟩:=dd';⟨q,hq⟩;exact sZ I (by rw[e];exact True.intro) hs he (zY hl hd (rel.put k rv) dd')
 .subst ey eH
  cases (show u=Value.ref b from ry);obtain⟨z,hd,xs,rel,dd⟩:=WW I.hok e
  have hz:xs.length<=sizeLine:=by rw[<- Paired.length rel];exact z
  have hl:(putK kvs k v).length<=sizeLine:=by have:=gZ kvs k v;omega
  refine wpAny_setItem_heap (hsz:=hz) (S1z hu) (mH I.hok eb) dd fun h' dd' hs=>h _ ?_;obtain⟨q,es,ep,hq,h2,h3,h4,_,h5⟩:=dd';refine sZ I (by rw[e];exact True.intro) hs ⟨q,hq⟩ ⟨hl,hd,_,(rel.put k eb rv).keeps fun c ys ec=>?_,q,es,ep,hq,h2,h3,h4,h5⟩;rw[aj (qb ec e (fun z=>nomatch z))];exact ec
end
section
variable {X:Cx} {z0:List (Addr×Obj)} {Y:St} {H:Hp} {s:Shared} {a:Addr} {kvs:List (Key×V)} {k:Key} {u:Value} {A:Around} {E:Value->Shared->Prop}
theorem WY{v:V}{more:List Value}{Q:Value->Shared->Prop}(I:Inv X z0 Y H s)(e:H a=some (.dK kvs))(ry:RelV (kV k) u)(l:jk kvs k=some v)(hm:more=[]\/∃ x,more=[x])
  (h:∀ w' s',Inv X z0 Y (upd H a (.dK (sS kvs k))) s'->RelV v w'->Q w' s'):wpAny (model X.prog X.w) A (call (.builtin "dict.pop") (.ref a::u::more)) Q E s:=by
 obtain⟨z,hd,vs,rel,dd⟩:=Og I.hok e;obtain⟨w',hw,rw'⟩:=mZ.some_of (v:=v) (o:=valueAt vs k) (by rw[<- l];exact rel.val k)
 have hp:(keyPart u).isSome=true:=by
  cases k with
  | inl i=>obtain⟨t,q⟩:=(show ∃ t,u=Value.int i t from ry);subst q;rfl
  | inr x=>obtain⟨t,q⟩:=(show ∃ t,u=Value.str x t from ry);subst q;rfl
 have ha:argsOk "dict.pop" ⟨.ref a::u::more,[]⟩:=by
  rcases hm with q | ⟨x,q⟩
  .subst q;exact PySem.F.args_dict_pop_2 _ _
  .subst q;exact PySem.F.args_dict_pop_3 _ _ _
 refine call_meetsIn PySem.F.slot_dict_pop dd.typeIs PySem.F.entry_dict_pop ha (meets_dict_pop_there (aQ X.prog X.w) a (lD ry) more hm hp)
  ⟨vs,w',dd,by rw[<- rel.length];exact z,hw,fun h' dd' hs=>h w' _ ?_ rw'⟩
 have he:∃ q,h'.get? a=some q:=let ⟨q,_,_,hq,_⟩:=dd';⟨q,hq⟩
 exact sZ I (by rw[e];exact True.intro) hs he (zY (L4z (DG kvs k) z) hd (rel.drop k) dd')
end
def W9(i:Expr):Prop:=∀ ov iv,subscripted i false ov iv=operate [ov,iv] (getItem ov iv)
theorem xq{prog:Program}{w:World}{A:Around}{E:Value->Shared->Prop}{s:Shared}{env:Env}{value slice:Expr}{pos:Pos}{T id:String}{Q:Value->Shared->Prop}
  (hl:typeLookup (.type T) "__getitem__"=pure (some (.builtin id))) (hs:W9 slice)
  (h:wpAny (model prog w) A (eval value env) (fun o s₁=>wpAny (model prog w) A (eval slice env) (fun i s₂=>s₂.TypeIs o T/\wpAny (model prog w) A (getItem o i) Q E s₂) E s₁) E s) :
  wpAny (model prog w) A (eval (.Subscript value slice pos) env) Q E s:=by
 refine Subscript_ (Z4z h (fun o s₁ h₁=>Z4z h₁ (fun i s₂ h₂=>?_) fun _ _ x=>x) fun _ _ x=>x);obtain⟨hT,h₂⟩:=h₂;unfold subscriptTail;refine A5z ?_;rw[getitemInPython_of_ne hT.not_modules];refine A5z (L3z hT hl ?_)
 have fin:wpAny (model prog w) A (subscripted slice false o i) (fun r s₃=>wpAny (model prog w) A (letTemporaryGo value o r >>=fun _=>pure r) Q E s₃) E s₂:=by
  rw[hs o i];exact wpAny_operating (Z4z h₂ (fun r s₃ h₃=>A5z (wpAny_letTemporaryGo (B5z h₃))) fun _ _ x=>x)
 first
  | exact B5z (A5z fin)
  | exact A5z (B5z (A5z fin))
  | exact A5z fin
theorem sV{X:Cx}{z0:List (Addr×Obj)}{Y:St}{H:Hp}{s:Shared}{a:Addr}{y:V}{o:Option V}(I:Inv X z0 Y H s)(g:tQ H a y o):s.TypeIs (.ref a) "dict":=by
 rcases g with⟨kvs,k,e,_,_⟩ | ⟨kvs,k,b,e,_,_,_⟩
 .obtain⟨_,_,vs,_,dd⟩:=sU I.hok e
  exact dd.typeIs
 .obtain⟨_,_,xs,_,dd⟩:=sJ I.hok e
  exact dd.typeIs
def Qu(td ty:TE):TE:=fun Y H Q=>td Y H fun x H1=>ty Y H1 fun y H2=>∃ a v,x=.ref a/\tQ H2 a y (some v)/\Q v H2
def ZX(ty td:TE):TE:=fun Y H Q=>ty Y H fun y H1=>td Y H1 fun x H2=>∃ a o,x=.ref a/\tQ H2 a y o/\Q (.bl o.isSome) H2
def Gv(ty td:TE):TE:=fun Y H Q=>ty Y H fun y H1=>td Y H1 fun x H2=>∃ a o,x=.ref a/\tQ H2 a y o/\Q (.bl (!o.isSome)) H2
def QB(td ty tv:TE):TS:=fun D Y H=>tv Y H fun v H1=>td Y H1 fun x H2=>ty Y H2 fun y H3=>∃ a H4,x=.ref a/\O9 H3 a y v H4/\D.nx Y H4
section
variable {X:Cx} {o i e value:Expr} {pos pos' tpos:Pos} {td ty tv:TE}
theorem Ia(hu:X.A.units+1<cLine)(ho:PE X o td)(hi:PE X i ty)(hs:W9 i):PE X (.Subscript o i pos) (Qu td ty):=by
 intro z0 s Y H Q I h;refine xq PySem.F.slot_dict_getitem.lookup hs (thn (ho z0 s Y H _ I h) fun u s1 ⟨x,H1,I1,rx,q1⟩=>thn (hi z0 s1 Y H1 _ I1 q1) fun iv s2 ⟨y,H2,I2,ry,a,v,ex,g,q2⟩=>?_);subst ex;obtain rfl:u=Value.ref a:=rx;exact⟨sV I2 g,z7 hu I2 g ry fun w' s3 I3 rw'=>⟨v,H2,I3,rw',q2⟩⟩
theorem Mq(hu:X.A.units+1<cLine)(hi:PE X i ty)(ho:PE X o td):PC X .In i o (ZX ty td):=by
 intro z0 s Y H Q I h;refine thn (hi z0 s Y H _ I h) fun iv s1 ⟨y,H1,I1,ry,q1⟩=>thn (ho z0 s1 Y H1 _ I1 q1) fun u s2 ⟨x,H2,I2,rx,a,ov,ex,g,q2⟩=>?_;subst ex;obtain rfl:u=Value.ref a:=rx;exact d_in hu I2 g ry fun s3 I3=>⟨.bl ov.isSome,H2,I3,rfl,q2⟩
theorem yt(hu:X.A.units+1<cLine)(hi:PE X i ty)(ho:PE X o td):PC X .NotIn i o (Gv ty td):=by
 intro z0 s Y H Q I h;refine thn (hi z0 s Y H _ I h) fun iv s1 ⟨y,H1,I1,ry,q1⟩=>thn (ho z0 s1 Y H1 _ I1 q1) fun u s2 ⟨x,H2,I2,rx,a,ov,ex,g,q2⟩=>?_;subst ex;obtain rfl:u=Value.ref a:=rx;exact J3 hu I2 g ry fun s3 I3=>⟨.bl (!ov.isSome),H2,I3,rfl,q2⟩
theorem HB(hu:X.A.units+1<cLine)(ho:PE X o td)(hi:PE X i ty)(hv:PE X value tv)(hs:swapsWith value (some (.Subscript o i pos')) pos.line X.env=pure false) :
  PS X (.Assign [.Subscript o i pos'] value pos) (QB td ty tv):=by
 intro z0 s Y H D I h;refine wpAny_Assign_Subscript (thn (hv z0 s Y H _ I h) fun r s1 ⟨v,H1,I1,rv,q1⟩=>thn (ho z0 s1 Y H1 _ I1 q1) fun u s2 ⟨x,H2,I2,rx,q2⟩=>thn (hi z0 s2 Y H2 _ I2 q2) fun iv s3 ⟨y,H3,I3,ry,a,H4,ex,g,q3⟩=>?_) hs;subst ex;obtain rfl:u=Value.ref a:=rx;exact z6 hu I3 g ry rv fun s4 I4=>⟨Y,H4,I4,q3⟩
end
theorem uP{P:Program}{w:World}{H:Hp}(h:Heap)(hb:sysModules<h.objs.size):cJ P w H (h.push { cls:=.type "dict",data:=.dict #[] }) h.objs.size (.dK []) :=
 ⟨V4z _,C1z.mpr (J5z (K4z hb)),[],.nil,Heap.DictOf.new h⟩
def Ld:TE:=fun _ H Q=>∀ p,H p=none->Q (.ref p) (upd H p (.dK []))
section
variable {X:Cx} {pos:Pos}
theorem Cp:PE X (.Dict [] [] pos) Ld:=fun z0 s Y H Q I h =>
 wpAny_Dict_empty ⟨.ref s.heap.objs.size,_,I.laid (a:=s.heap.objs.size) (o:=.dK []) (t':=s.toks) (fun _ _ q=>Heap.get?_push_of_some _ q) (T4z _) (uP s.heap I.big),rfl,h _ (I.hok.fresh (T4z _))⟩
end
def gM(kvs more:List (Key×V)):List (Key×V):=more.foldl (fun acc kv=>putK acc kv.1 kv.2) kvs
theorem KV.merge:∀ {more:List (Key×V)} {rs:List (Key×Value)} {kvs:List (Key×V)} {vs:List (Key×Value)},KV more rs->KV kvs vs->KV (gM kvs more) (merged vs rs):=by
 intro more rs kvs vs r;unfold KV at r
 induction r generalizing kvs vs with
 | nil=>intro q;exact q
 | @cons p q ps qs h t ih =>
  intro r0
  have e:KV (putK kvs p.1 p.2) (stored vs q.1 q.2):=by
   have:=r0.put p.1 h.2;rw[<- h.1];exact this
  exact ih e
theorem iK:∀ (more kvs:List (Key×V)),(gM kvs more).length<=kvs.length+more.length
 | [],kvs=>by show kvs.length<=kvs.length+0;omega
 | p::r,kvs=>by
  have h1:=iK r (putK kvs p.1 p.2);have h2:=gZ kvs p.1 p.2;show(gM (putK kvs p.1 p.2) r).length<=_;rw[M2z];omega
structure M1 (X:Cx) (o:Expr) (m:Str) (apos:Pos) (e:Expr) (cpos:Pos):Prop where
 base:attributeBase o m X.env (eval o X.env)=eval o X.env
 few:((backTo cpos (starEach [e] X.env)).all (fun x => !x.1)&&(backToKw cpos (keywordEach [] X.env)).all (fun x=>x.1.isSome)
  && decide (([e]:List Expr).length+([]:List Keyword).length+(if([]:List Keyword).isEmpty then 0 else 1)<30))=true
 line:(apos.endLine==cpos.line)=true
 trees:backTo cpos (starEach [e] X.env)=[(false,eval e X.env)]
structure M2 (X:Cx) (o:Expr) (m:Str) (apos:Pos) (e f:Expr) (cpos:Pos):Prop where
 base:attributeBase o m X.env (eval o X.env)=eval o X.env
 few:((backTo cpos (starEach [e,f] X.env)).all (fun x => !x.1)&&(backToKw cpos (keywordEach [] X.env)).all (fun x=>x.1.isSome)
  && decide (([e,f]:List Expr).length+([]:List Keyword).length+(if([]:List Keyword).isEmpty then 0 else 1)<30))=true
 line:(apos.endLine==cpos.line)=true
 trees:backTo cpos (starEach [e,f] X.env)=[(false,eval e X.env),(false,eval f X.env)]
def IsD(H:Hp)(a:Addr):Prop:=(∃ kvs,Rd H a (.dK kvs))\/∃ kvs,Rd H a (.dT kvs)
theorem Fv{X:Cx}{z0:List (Addr×Obj)}{Y:St}{H:Hp}{s:Shared}{a:Addr}(I:Inv X z0 Y H s)(d:IsD H a) :
  s.TypeIs (.ref a) "dict"/\(∀ b,Value.ref a=.ref b->∃ ob,s.heap.get? b=some ob/\ob.dict=none)/\(a==sysModules)=false:=by
 rcases d with⟨kvs,e⟩ | ⟨kvs,e⟩
 .obtain⟨_,hd,vs,_,dd⟩:=sU I.hok e
  refine⟨dd.typeIs,fun b q=>?_,hd⟩;cases q;obtain⟨ob,_,_,h1,h2,_⟩:=dd;exact⟨ob,h1,h2.2.1⟩
 .obtain⟨_,hd,xs,_,dd⟩:=sJ I.hok e
  refine⟨dd.typeIs,fun b q=>?_,hd⟩;cases q;obtain⟨ob,_,_,h1,h2,_⟩:=dd;exact⟨ob,h1,h2.2.1⟩
section
variable {X:Cx} {z0:List (Addr×Obj)} {Y:St} {H:Hp} {s:Shared} {a:Addr} {y d:V} {u r:Value} {o:Option V} {A:Around} {E:Value->Shared->Prop}
theorem Ol{Q:Value->Shared->Prop}(hu:A.units+1<cLine)(I:Inv X z0 Y H s)(g:tQ H a y o)(ry:RelV y u)(h:∀ w' s',Inv X z0 Y H s'->RelV (o.getD .non) w'->Q w' s') :
  wpAny (model X.prog X.w) A (call (.builtin "dict.get") [.ref a,u]) Q E s:=by
 rcases g with⟨kvs,k,e,ey,l⟩ | ⟨kvs,k,b,e,ey,eb,l⟩
 .subst ey
  obtain⟨z,hd,vs,rel,dd⟩:=sU I.hok e;refine call_meetsIn P0z dd.typeIs PySem.F.entry_dict_get (PySem.F.args_dict_get_2 _ _) (meets_dict_get (aQ X.prog X.w) a (lD ry) hd) ⟨_,dd.mapOf,h _ _ (I.tok _) ?_⟩;rw[l];exact(rel.val k).getD rfl
 .subst ey
  cases (show u=Value.ref b from ry);obtain⟨z,hd,xs,rel,dd⟩:=sJ I.hok e;refine call_meetsIn P0z dd.typeIs PySem.F.entry_dict_get (PySem.F.args_dict_get_2 _ _) (meetsH_dict_get (tupleKind (aQ X.prog X.w)) a b hd) ⟨S1z hu,k,xs,mH I.hok eb,dd,h _ _ (I.tok _) ?_⟩;rw[l];exact(rel.val k).getD rfl
end
def Lf(td ty:TE):TE:=fun Y H Q=>td Y H fun x H1=>∃ a,x=.ref a/\IsD H1 a/\ty Y H1 fun y H2=>∃ o,tQ H2 a y o/\Q (o.getD .non) H2
def Lb(td ty:TE):TE:=fun Y H Q=>td Y H fun x H1=>∃ a,x=.ref a/\IsD H1 a/\ty Y H1 fun y H2=>∃ kvs k v,H2 a=some (.dK kvs)/\y=kV k/\jk kvs k=some v/\Q v (upd H2 a (.dK (sS kvs k)))
section
variable {X:Cx} {o e f:Expr} {apos cpos:Pos} {td ty tx:TE}
theorem Cq(hu:X.A.units+1<cLine)(ho:PE X o td)(he:PE X e ty)(m:M1 X o "get" apos e cpos):PE X (.Call (.Attribute o "get" apos) [e] [] cpos) (Lf td ty):=by
 intro z0 s Y H Q I h;refine wpAny_Call_method m.base m.few m.line E0z P0z PySem.F.type_dict_get (thn (ho z0 s Y H _ I h) fun u s1 ⟨x,H1,I1,rx,a,ex,d,q1⟩=>?_);subst ex;obtain rfl:u=Value.ref a:=rx;obtain⟨t1,t2,_⟩:=Fv I1 d;refine⟨t1,t2,?_⟩;rw[m.trees];refine L0z rfl (V0z (L1z (thn (he z0 s1 Y H1 _ I1 q1) fun iv s2 ⟨y,H2,I2,ry,ov,g,q2⟩=>A2z ?_)));exact Ol hu I2 g ry fun w' s3 I3 rw'=>⟨_,H2,I3,rw',q2⟩
theorem Cm(ho:PE X o td)(he:PE X e ty)(m:M1 X o "pop" apos e cpos):PE X (.Call (.Attribute o "pop" apos) [e] [] cpos) (Lb td ty):=by
 intro z0 s Y H Q I h;refine wpAny_Call_method m.base m.few m.line E0z PySem.F.slot_dict_pop PySem.F.type_dict_pop (thn (ho z0 s Y H _ I h) fun u s1 ⟨x,H1,I1,rx,a,ex,d,q1⟩=>?_);subst ex;obtain rfl:u=Value.ref a:=rx;obtain⟨t1,t2,_⟩:=Fv I1 d;refine⟨t1,t2,?_⟩;rw[m.trees];refine L0z rfl (V0z (L1z (thn (he z0 s1 Y H1 _ I1 q1) fun iv s2 ⟨y,H2,I2,ry,kvs,k,v,ea,ey,l,q2⟩=>A2z ?_)));subst ey;exact WY I2 ea ry l (.inl rfl) fun w' s3 I3 rw'=>⟨v,_,I3,rw',q2⟩
end
section
variable {X:Cx} {z0:List (Addr×Obj)} {Y:St} {H:Hp} {s:Shared} {a:Addr} {kvs:List (Key×V)} {A:Around} {E:Value->Shared->Prop}
end
section
variable {X:Cx} {z0:List (Addr×Obj)} {Y:St} {H:Hp} {s:Shared} {a:Addr} {y:V} {u:Value} {A:Around} {E:Value->Shared->Prop}
end
end L2
namespace Att
open PySem PySem.W PySem.Calls PyProof.Rows
section
variable {prog:Program} {w:World} {A:Around} {E:Value->Shared->Prop} {s:Shared} {K:Frag}
end
end Att
namespace L2
open PySem PySem.Spec PyProof.Rows
section
variable {P:Program} {w:World} {K:Z3} {mg:Str->Option Value} {base:Heap}
end
section
variable {X:Cx}
end
section
variable {κ:Type} [DecidableEq κ]
end
def KDc(K:Z3)(a:Addr)(kvs:List (Key×V)):Prop:=∃ (o:Obj) (es:Array DictEntry) (n:Nat),K.lookup a=some o/\o.ExactDict/\o.data=.dict es n/\(a==sysModules)=false/\(kvs.map (·.1)).Nodup/\Paired (fun(p:Key×V) (e:DictEntry)=>(∃ x t,p.1=.inr x/\e.key=.str x t)/\RelV p.2 e.val) kvs es.toList
def hsO(o:Obj):List Int:=match o.data with | .dict es _=>es.toList.map (·.hash) | _=>[]
def hsX(w:World)(o:Obj):List Int:=match o.data with | .dict es _=>es.toList.map (fun e=>match e.key with | .str x _=>hashStr w x | _=>e.hash) | _=>[]
def KnW(K:Z3)(w:World):Prop:=K.map (fun p=>hsO p.2)=K.map (fun p=>hsX w p.2)
theorem lookup_mem{α:Type}:∀ {l:List (Addr×α)} {a:Addr} {o:α},l.lookup a=some o->(a,o)∈l
 | (b,u)::r,a,o,h=>by
  rw[O2z] at h
  cases hb:a==b with
  | true =>
   rw[hb] at h
   have e1:a=b:=by simpa using hb
   cases h;subst e1;exact I1z
  | false =>
   rw[hb] at h;exact S0z _ (lookup_mem h)
theorem KnW.at{K:Z3}{w:World}{a:Addr}{o:Obj}{es:Array DictEntry}{n:Nat}(kw:KnW K w)(h:K.lookup a=some o)(hd:o.data=.dict es n):∀ e∈es.toList,∀ x t,e.key=.str x t->e.hash=hashStr w x:=by
 have:=List.map_inj_left.mp kw (a,o) (lookup_mem h);simp only[hsO,hsX,hd] at this;intro e he x t hk;have q:=List.map_inj_left.mp this e he;rw[hk] at q;exact q
theorem qg{P:Program}{w:World}{kvs:List (Key×V)}{es:List DictEntry}(p:Paired (fun(p:Key×V) (e:DictEntry)=>(∃ x t,p.1=.inr x/\e.key=.str x t)/\RelV p.2 e.val) kvs es)(hh:∀ e∈es,∀ x t,e.key=.str x t->e.hash=hashStr w x) :
  ∃ vs:List (Key×Value),KV kvs vs/\Pairs (aQ P w) es vs/\vs.map (·.1)=kvs.map (·.1)/\∀ e∈es,∃ k,(aQ P w).is k e.key=true/\e.hash=(aQ P w).hash k:=by
 induction p with
 | nil=>exact⟨[],.nil,.nil,rfl,fun e he=>nomatch he⟩
 | @cons q e kvs es h t ih =>
  obtain⟨vs,h1,h2,h3,h4⟩:=ih fun e he=>hh e (S0z _ he);obtain⟨⟨x,tk,g1,g2⟩,g3⟩:=h
  have gi:(aQ P w).is q.1 e.key=true:=by
   rw[g1,g2];show Value.isStrOf x (.str x tk)=true;simp[Value.isStrOf]
  refine⟨(q.1,e.val)::vs,.cons ⟨rfl,g3⟩ h1,.cons gi rfl h2,by simp[h3],fun e' he=>?_⟩;rcases H4z.mp he with r | r
  .subst r
   refine⟨q.1,gi,?_⟩;rw[hh _ I1z x tk g2,g1];rfl
  .exact h4 e' r
def DAt(K:Z3)(H:Hp)(a:Addr)(kvs:List (Key×V)):Prop:=(∃ o,H a=some (.frz o (.dK kvs)))\/KDc K a kvs
section
variable {X:Cx} {z0:List (Addr×Obj)} {Y:St} {H:Hp} {s:Shared} {a:Addr} {kvs:List (Key×V)} {k:Key} {v d:V} {u r:Value} {A:Around} {E:Value->Shared->Prop} {o i e f:Expr} {td ty tx:TE} {pos apos cpos:Pos}
theorem d8(I:Inv X z0 Y H s)(kw:KnW X.K X.w)(g:DAt X.K H a kvs):(a==sysModules)=false/\∃ vs,KV kvs vs/\s.heap.DictOf (aQ X.prog X.w) a vs:=by
 rcases g with⟨o,g⟩ | ⟨o,es,n,h1,h2,h3,h4,h5,h6⟩
 .exact(I.hok a _ g).2.2
 .obtain⟨vs,g1,g2,g3,g4⟩:=qg (P:=X.prog) h6 (kw.at h1 h3)
  exact⟨h4,vs,g1,o,es,n,I.kIn a o h1,h2,h3,fun e he=>g4 e (by simpa using he),g2,by rw[g3];exact h5⟩
theorem yX{Q:Value->Shared->Prop}(I:Inv X z0 Y H s)(kw:KnW X.K X.w)(g:DAt X.K H a kvs)(l:some v=jk kvs k)(ry:RelV (kV k) u)(h:∀ w' s',Inv X z0 Y H s'->RelV v w'->Q w' s') :
  s.TypeIs (.ref a) "dict"/\wpAny (model X.prog X.w) A (getItem (.ref a) u) Q E s:=by
 obtain⟨hd,vs,rel,dd⟩:=d8 I kw g;obtain⟨w',hw,rw'⟩:=mZ.some_of (v:=v) (o:=valueAt vs k) (by rw[l];exact rel.val k);exact⟨dd.typeIs,wpAny_getItem_of (lD ry) dd.mapOf hw (h w' _ (I.tok _) rw')⟩
def Qs(K:Z3)(td ty:TE):TE:=fun Y H Q=>td Y H fun x H1=>ty Y H1 fun y H2=>∃ a v kvs k,x=.ref a/\DAt K H2 a kvs/\y=kV k/\some v=jk kvs k/\Q v H2
theorem HX(kw:KnW X.K X.w)(ho:PE X o td)(hi:PE X i ty)(hs:W9 i):PE X (.Subscript o i pos) (Qs X.K td ty):=by
 intro z0 s Y H Q I h;refine xq PySem.F.slot_dict_getitem.lookup hs (thn (ho z0 s Y H _ I h) fun u s1 ⟨x,H1,I1,rx,q1⟩=>thn (hi z0 s1 Y H1 _ I1 q1) fun iv s2 ⟨y,H2,I2,ry,a,v,kvs,k,ex,g,ey,l,q2⟩=>?_);subst ex;subst ey;obtain rfl:u=Value.ref a:=rx;exact yX I2 kw g l ry fun w' s3 I3 rw'=>⟨v,H2,I3,rw',q2⟩
end
end L2
namespace L2
open PySem PySem.Spec PySem.Calls PyProof.Rows
theorem Cz{P:Program}{w:World}{H:Hp}{h:Heap}{a:Addr}{o:HO}(x:cJ P w H h a o):∃ u,h.get? a=some u:=by
 cases o with
 | lst xs=>obtain⟨_,_,_,_,e⟩:=x;exact⟨_,e⟩
 | tup xs=>obtain⟨_,_,_,p⟩:=x;obtain⟨o,e,_⟩:=p;exact⟨_,e⟩
 | dK kvs=>obtain⟨_,_,_,_,o,_,_,e,_⟩:=x;exact⟨_,e⟩
 | dT kvs=>obtain⟨_,_,_,_,o,_,_,e,_⟩:=x;exact⟨_,e⟩
 | set S n=>obtain⟨o,_,_,_,e,_⟩:=x;exact⟨_,e⟩
 | ins C dx fs=>obtain⟨_,_,_,e,_⟩:=x;exact⟨_,e⟩
 | own y=>obtain⟨_,e⟩:=x;exact⟨_,e⟩
 | xd fs=>obtain⟨_,⟨_,_,_,e,_⟩,_⟩:=x;exact⟨_,e⟩
 | rng lo hi=>obtain⟨_,_,_,e⟩:=x;exact⟨_,e⟩
 | frz ob u=>obtain⟨e,_⟩:=x;exact⟨_,e⟩
 | tbl ps=>exact⟨_,x⟩
 | met f y=>exact⟨_,x⟩
 | ext φ=>obtain⟨_,⟨_,e⟩,_⟩:=x;exact⟨_,e⟩
theorem Inv.laidAt{X:Cx}{z0:List (Addr×Obj)}{Y:St}{H:Hp}{s:Shared}{h':Heap}{a:Addr}{o:HO}{t':Nat}(I:Inv X z0 Y H s)(k:∀ b u,s.heap.get? b=some u->h'.get? b=some u)(hn:s.heap.get? a=none)(new:cJ X.prog X.w (upd H a o) h' a o) :
  H a=none/\Inv X z0 Y (upd H a o) { s with heap:=h',toks:=t' }:=by
 have hH:H a=none:=by
  cases q:H a with
  | none=>rfl
  | some u =>
   obtain⟨z,e⟩:=Cz (I.hok a u q);rw[hn] at e;cases e
 refine⟨hH,I.un ⟨fun b u q _ _ _=>k b u q,fun b u q _ _ _=>⟨u.slots,k b u q⟩,fun b u q n _=>?_,fun b u q _=>⟨u,k b u q⟩,fun b xs q=>by rw[aj (ak q hH)];exact q,fun b u xs q=>by rw[aj (ak q hH)];exact q,fun b ps q=>⟨#[],by rw[aj (ak q hH),q];simp⟩⟩ fun b u e=>?_⟩
 .rw[aj (fun z=>by rw[z,hn] at q;cases q)];exact n
 .by_cases hb:b=a
  .subst hb;rw[aB] at e;cases e;exact new
  .rw[aj hb] at e
   exact(I.hok b u e).stay (fun c v _ q=>k c v q) (fun c q=>by rw[aj (ak q hH)];exact q) fun c xs q=>by rw[aj (ak q hH)];exact q
section
variable {X:Cx}
theorem xr:∀ (l:List Value) (ks:List Str),l.length=ks.length->(∀ (i:Nat) (x:Value),l[i]?=some x->∃ k t,ks[i]?=some k/\x=.str k t)->StrsAre l ks
 | [],[],_,_=>.nil
 | x::l,k::ks,h,f=>by
  obtain⟨k',t,e1,rfl⟩:=f 0 x rfl;cases (show k=k' by simpa using e1);exact .cons k t (xr l ks (by simpa using h) fun i y e=>f (i+1) y e)
 | [],_::_,h,_=>by simp at h
 | _::_,[],h,_=>by simp at h
theorem pI:∀ {l:List Value} {ks:List Str},StrsAre l ks->Vals (ks.map V.str) l
 | _,_,.nil=>.nil
 | _,_,.cons k t r=>.cons ⟨t,rfl⟩ (pI r)
theorem yU{κ:Type}:∀ {kvs:List (κ×V)} {ws:List (κ×Value)},KV kvs ws->ws.map (·.1)=kvs.map (·.1)
 | _,_,.nil=>rfl
 | _,_,.cons h r=>by rw[A4z,A4z,yU r,h.1]
theorem jz(hc:X.calm=true):dw X (.builtin "sorted") (fun xs H Q=>∃ (d:Addr) (kvs:List (Key×V)) (ks:List Str),xs=[.ref d]/\(∀ z0 Y s,Inv X z0 Y H s->(d==sysModules)=false/\∃ vs,KV kvs vs/\s.heap.DictOf (aQ X.prog X.w) d vs)/\kvs.map (·.1)=ks.map Sum.inr/\ks.length<64/\∀ a ss,H a=none->ss.Perm ks->sortedS ss=true->Q (.ref a) (upd H a (.lst (ss.map V.str)))):=by
 intro z0 s Y H vs us Q I r h;obtain⟨d,kvs,ks,rfl,hd,hks,h64,q⟩:=h
 obtain⟨u,rfl,rfl⟩:∃ u,us=[u]/\u=Value.ref d:=by
  cases r with
  | cons r1 r2=>cases r2;exact⟨_,rfl,r1⟩
 obtain⟨lo,ws,kv,hD⟩:=hd _ _ _ I;obtain⟨ep,hat⟩:=hD.dictAt;have hkw:ws.map (·.1)=ks.map Sum.inr:=(yU kv).trans hks
 have hlw:ws.length=ks.length:=by simpa using congrArg List.length hkw
 have h64s:(64:Nat)<=sizeLine:=by decide
 refine call_function_entry kind_sorted plain_sorted entry_sorted (args_sorted1 _) ?_;unfold Builtin.«sorted»;refine A5z (m:=checkCount "sorted" 1 1 _) (B5z ?_);refine A5z (W.kdu_collect (A:=X.A.in1) (W.kdl_dict (knd:=aQ X.prog X.w) (kvs:=ws) (ep:=ep) lo) (I.ok.hd hc) hat (by show ws.length<=sizeLine;omega) fun h' tk acc hk hacc=>?_)
 have hl:acc.toList.length=ks.length:=by rw[Z0z,<- hlw];exact hacc.1
 have hS:StrsAre acc.toList ks:=xr _ _ hl fun i x e=>by
  obtain⟨k',y,e1,e2⟩:=hacc.2 i x (by rw[<- Array.getElem?_toList];exact e)
  have e3:(ws.map (·.1))[i]?=some k':=by rw[List.getElem?_map,e1];rfl
  rw[hkw,List.getElem?_map,M0z] at e3;obtain⟨k,e3,rfl⟩:=e3;rw[mF] at e2;rcases bD e2 with⟨i,t,e4,_⟩ | ⟨z,t,e4,e5⟩
  .cases e4
  .cases e4;exact⟨_,t,e3,e5⟩
 generalize acc.toList=al at hl hS;refine A5z (wpAny_newList ?_ (by show al.toArray.size<=sizeLine;rw[B2z];omega));have hoL:(h'.push { cls:=.type "list",data:=.seq al.toArray }).get? h'.objs.size=some (seqObj "list" al.toArray 0):=Heap.get?_push_size _ rfl;refine A5z (D4z (Q2z slot_list_sort ⟨_,hoL,rfl⟩ entry_list_sort ?body (args_list_sort _)))
 case body =>
  refine list_sort_treeK (s:={ s with heap:=h'.push { cls:=.type "list",data:=.seq al.toArray },toks:=tk }) strKind_oneLt hoL hS.keysOf (fun v1 v2 rest e=>keyKind_strs (by rw[<- e];exact hS)) (by omega) fun st' hp hs=>?_
  obtain⟨ss,g1,g2,g3⟩:=sorted_out_str hS hp hs;generalize (arrOf st').map (·.2)=out at g1;refine⟨_,rfl,B5z ⟨_,rfl,?_⟩⟩
  have hn:s.heap.get? h'.objs.size=none:=by
   cases e:s.heap.get? h'.objs.size with
   | none=>rfl
   | some o=>exact absurd (J4z (hk _ _ e)) (Y3z _)
  obtain⟨ep',hat'⟩:=sortedHeap_at (out:=out) hoL
  obtain⟨hH,J⟩:=I.laidAt (a:=h'.objs.size) (o:=.lst (ss.map V.str)) (t':=tk) (h':=sortedHeap (h'.push { cls:=.type "list",data:=.seq al.toArray }) h'.objs.size al out) (fun b u e=>by
   have e':=hk b u e;have hb:b≠h'.objs.size:=K4z (J4z e');rw[sortedHeap_old hb (by rw[T3z];exact D2z (J4z e'))]
   exact Heap.get?_push_of_some _ e') hn ⟨by show(ss.map V.str).length<=sizeLine;rw[E3z,g2.length_eq];omega,out.toList,ep',pI g1,hat'⟩
  exact⟨V.ref h'.objs.size,_,J,rfl,q _ _ hH g2 g3⟩
theorem qI(hc:X.calm=true):dw X (.builtin "sorted") (fun xs H Q=>∃ (d:Addr) (kvs:List (Key×V)) (ks:List Str),xs=[.ref d]/\H d=some (.dK kvs)/\kvs.map (·.1)=ks.map Sum.inr/\ks.length<64/\∀ a ss,H a=none->ss.Perm ks->sortedS ss=true->Q (.ref a) (upd H a (.lst (ss.map V.str)))):=by
 intro z0 s Y H vs us Q I r h;obtain⟨d,kvs,ks,e,hd,h⟩:=h;exact jz hc z0 s Y H vs us Q I r ⟨d,kvs,ks,e,fun _ _ _ I=>(I.hok d _ hd).2,h⟩
end
end L2
namespace L2
open PySem PySem.Spec PyProof.Rows
section
variable {P:Program} {w:World} {H H':Hp} {h h':Heap} {a:Addr} {o:HO}
theorem cJ.there(x:cJ P w H h a o):∃ ob,h.get? a=some ob:=by
 cases o with
 | lst xs=>obtain⟨_,_,_,_,e⟩:=x;exact⟨_,e⟩
 | tup xs=>obtain⟨_,_,_,ob,e,_⟩:=x;exact⟨_,e⟩
 | dK kvs=>obtain⟨_,_,_,_,o,_,_,e,_⟩:=x;exact⟨_,e⟩
 | dT kvs=>obtain⟨_,_,_,_,o,_,_,e,_⟩:=x;exact⟨_,e⟩
 | set S n=>obtain⟨o,_,_,_,e,_⟩:=x;exact⟨_,e⟩
 | ins C dx fs=>obtain⟨_,_,_,e,_⟩:=x;exact⟨_,e⟩
 | own y=>exact x
 | xd fs=>obtain⟨_,⟨_,_,_,e,_⟩,_⟩:=x;exact⟨_,e⟩
 | rng lo hi=>obtain⟨_,_,_,e⟩:=x;exact⟨_,e⟩
 | frz ob u=>obtain⟨e,_⟩:=x;exact⟨_,e⟩
 | tbl ps=>exact⟨_,(show h.get? a=some _ from x)⟩
 | met f y=>exact⟨_,(show h.get? a=some _ from x)⟩
 | ext φ=>exact x.2.1
theorem HOk.none_of(x:HOk P w H h)(e:h.get? a=none):H a=none:=by
 cases q:H a with
 | none=>rfl
 | some u =>
  obtain⟨ob,r⟩:=(x a u q).there;rw[e] at r;cases r
theorem HOk.part{B:Heap}(x:HOk P w H h)(k:∀ b u ob,H b=some u->h.get? b=some ob->B.get? b=some ob):HOk P w H B:=fun b u e=>by
 refine(x b u e).stay (fun c v hc q=>?_) (fun _ q=>q) fun _ _ q=>q;rcases hc with rfl | hc
 .exact k _ _ _ e q
 .exact k _ _ _ hc q
end
section
variable {fs fs' ex:List Addr} {H H':Hp} {h h1 h2 B:Heap}
theorem Un.fly(U:Un fs [] H H' h h1)(kB:∀ b o,h.get? b=some o->H b=none->b∉fs->B.get? b=some o)(tB:∀ b o,h.get? b=some o->b∉fs->∃ o',B.get? b=some o')(st:B.StaysIn h2)
  (nf:∀ b∈fs,∀ o,h1.get? b=some o->∀ vs,o.data≠.fields vs) (up:h1.UpToSlots h2):Un fs [] H H' h h2 where
 keep:=fun b o q n hb _=>st b o (kB b o q n hb)
 slot:=fun b o q n hb hx=>by
  obtain⟨sl,e⟩:=U.slot b o q n hb hx;obtain⟨sl',e'⟩:=up b _ e (nf b hb _ e);exact⟨sl',e'⟩
 free:=U.free
 there:=fun b o q hx=>by
  by_cases hb:b∈fs
  .obtain⟨o',e⟩:=U.there b o q hx
   obtain⟨sl,e'⟩:=up b _ e (nf b hb _ e);exact⟨_,e'⟩
  .obtain⟨o',e⟩:=tB b o q hb
   exact⟨o',st b o' e⟩
 tups:=U.tups
 frzs:=U.frzs
 tbls:=U.tbls
theorem Un.restrict(U:Un fs' ex H H' h h1)(hs:∀ b o,b∈fs'->h.get? b=some o->b∈fs):Un fs ex H H' h h1 where
 keep:=fun b o q n hb hx=>U.keep b o q n (fun z=>hb (hs b o z q)) hx
 slot:=fun b o q n _ hx=>U.any q n hx
 free:=U.free
 there:=U.there
 tups:=U.tups
 frzs:=U.frzs
 tbls:=U.tbls
end
structure Fly (P:Program) (w:World) (outer:List Env) (H:Hp) (s:Shared) (H':Hp) (ea:Addr) (cls:Value) (s':Shared):Prop where
 os:s'.os=s.os
 bare:AllBare s'.gens
 un:Un (frs outer) [] H H' s.heap s'.heap
 fly:∃ B a0,Heap.FlyingW B outer ea cls a0 s'.heap/\HOk P w H' B/\(∀ b o,s.heap.get? b=some o->H b=none->b∉frs outer->B.get? b=some o)/\(∀ b o,s.heap.get? b=some o->b∉frs outer->∃ o',B.get? b=some o')
 fresh:s.heap.get? ea=none
def CX1(P:Program)(w:World):CXT:=fun outer H s E e s'=>∃ ea cls H',e=.ref ea/\Fly P w outer H s H' ea cls s'/\H' ea=none/\E cls none H'
theorem nO{P:Program}{w:World}{X:Cx}:Passes (CX1 P w) X E0:=fun _ _ _ _ _ _ _ h=>by obtain⟨_,_,_,_,_,_,z⟩:=h;exact z.elim
theorem yG{B h:Heap}{l:List Env}(f:h.FunFrames B l):∀ b∈frs l,∀ o,h.get? b=some o->∀ vs,o.data≠.fields vs:=fun b hb o e=>by
 obtain⟨_,o',e',hd⟩:=f.mem hb;rw[e] at e';cases e';exact hd
section
variable {P:Program} {w:World} {K:Z3} {mg:Str->Option Value} {base:Heap} {N:List Str} {qual:Str} {scope:Scope} {f:Addr} {cd:Value} {A:Around} {outer:List Env} {s:Shared} {H:Hp} {E:XK}
theorem nZ{env:Env}{L:Addr}(hf:env.frame=some L):frs (env::outer)=L::frs outer:=by
 unfold frs;rw[Y0z,hf]
theorem aW:Passes (CX1 P w) (eF (CX1 P w) P w K mg base N qual scope f cd A outer s H E) E:=by
 intro z0 Y H1 s1 e s' I h;obtain⟨ea,cls,H',rfl,Fl,hn,hE⟩:=h;obtain⟨B,a0,fl,hokB,kB,tB⟩:=Fl.fly;have hfr:frs (eF (CX1 P w) P w K mg base N qual scope f cd A outer s H E).stack=s.heap.objs.size::frs outer:=nZ rfl;have nL:∀ b o,s.heap.get? b=some o->b≠s.heap.objs.size:=fun b o q=>K4z (J4z q)
 have nin:∀ b o,s.heap.get? b=some o->b∉frs outer->b∉frs (eF (CX1 P w) P w K mg base N qual scope f cd A outer s H E).stack:=fun b o q hb z=>by
  rw[hfr] at z;rcases H4z.mp z with z | z
  .exact nL b o q z
  .exact hb z
 have noex:∀ b:Addr,b∉(eF (CX1 P w) P w K mg base N qual scope f cd A outer s H E).ex:=fun b z=>absurd (show b∈([]:List Addr) from z) (by simp);show wpAny _ _ (leaving _ (.ref ea)) _ _ _;refine wpAny_leaves_onW I.ok.frames rfl fl fun h2 fl2 up=>?_;refine⟨ea,cls,H',rfl,⟨Fl.os.trans I.os,Fl.bare,?_,⟨B,a0,fl2,hokB,fun b o q n hb=>?_,fun b o q hb=>?_⟩,?_⟩,hn,hE⟩
 .have U1:=Un.fly Fl.un kB tB fl2.1 (yG fl.2.2.1) up
  have U0:Un (frs (eF (CX1 P w) P w K mg base N qual scope f cd A outer s H E).stack) [] H H1 s.heap s1.heap:=I.base.mono (fun b hb=>by rw[hfr];exact S0z _ hb) (fun b hb=>hb)
  exact(U0.trans U1).restrict fun b o hb q=>by
   rw[hfr] at hb;rcases H4z.mp hb with z | z
   .exact absurd z (nL b o q)
   .exact z
 .exact kB b o (I.base.keep b o q n hb (noex b)) (I.base.free b o q n (noex b)) (nin b o q hb)
 .obtain⟨o1,q1⟩:=I.base.there b o q (noex b)
  exact tB b o1 q1 (nin b o q hb)
 .cases q:s.heap.get? ea with
  | none=>rfl
  | some o =>
   obtain⟨o1,q1⟩:=I.base.there ea o q (noex ea);rw[Fl.fresh] at q1;cases q1
theorem mz{z0:List (Addr×Obj)}{Y:St}{H1:Hp}{s1:Shared}{C e:Addr}{h':Heap}{args:List Value}(I:Inv (eF (CX1 P w) P w K mg base N qual scope f cd A outer s H E) z0 Y H1 s1)(hx:Heap.MadeExcOf s1.heap h' e (.ref C) args)(hE:E (.ref C) none H1) :
  (eF (CX1 P w) P w K mg base N qual scope f cd A outer s H E).xe (.ref e) { s1 with heap:=h' }:=by
 have hfr:frs (eF (CX1 P w) P w K mg base N qual scope f cd A outer s H E).stack=s.heap.objs.size::frs outer:=nZ rfl;have nL:∀ b o,s.heap.get? b=some o->b≠s.heap.objs.size:=fun b o q=>K4z (J4z q)
 have nin:∀ b o,s.heap.get? b=some o->b∉frs outer->b∉frs (eF (CX1 P w) P w K mg base N qual scope f cd A outer s H E).stack:=fun b o q hb z=>by
  rw[hfr] at z;rcases H4z.mp z with z | z
  .exact nL b o q z
  .exact hb z
 have noex:∀ b:Addr,b∉(eF (CX1 P w) P w K mg base N qual scope f cd A outer s H E).ex:=fun b z=>absurd (show b∈([]:List Addr) from z) (by simp);have hin:∀ env∈(eF (CX1 P w) P w K mg base N qual scope f cd A outer s H E).stack,∀ b,env.frame=some b->b∈frs (eF (CX1 P w) P w K mg base N qual scope f cd A outer s H E).stack:=fun env he b hb=>List.mem_filterMap.mpr ⟨env,he,hb⟩;show wpAny _ _ (leaving _ (.ref e)) _ _ _;have kB:∀ b o,s1.heap.get? b=some o->b∉frs (eF (CX1 P w) P w K mg base N qual scope f cd A outer s H E).stack->(W.hideAll s1.heap (frs (eF (CX1 P w) P w K mg base N qual scope f cd A outer s H E).stack)).get? b=some o:=fun b o q hb=>X0z _ q hb;refine wpAny_leaves_madeW I.ok.frames rfl (fun b o q=>H1z _ q) (W.funFrames_hide I.stack hin) hx fun h2 t x1 x2 x3 x4=>?_;have up:s1.heap.UpToSlots h2:=(Heap.UpToSlots.of_keeps hx.keeps).trans x4
 have hok:HOk P w H1 (W.hideAll s1.heap (frs (eF (CX1 P w) P w K mg base N qual scope f cd A outer s H E).stack)):=HOk.part I.hok fun b u ob hu q=>kB b ob q fun z=>by
  rw[I.stkFree b z] at hu;cases hu
 have hn:H1 e=none:=HOk.none_of I.hok hx.new;refine⟨e,.ref C,H1,rfl,⟨I.os,I.bare,?_,⟨_,_,x1,hok,fun b o q n hb=>?_,fun b o q hb=>?_⟩,?_⟩,hn,hE⟩
 .have U1:Un (frs (eF (CX1 P w) P w K mg base N qual scope f cd A outer s H E).stack) [] H1 H1 s1.heap h2:=Un.fly Un.refl (fun b o q _ hb=>kB b o q hb) (fun b o q hb=>⟨o,kB b o q hb⟩) x1.1 (yG I.stack) up
  have U0:Un (frs (eF (CX1 P w) P w K mg base N qual scope f cd A outer s H E).stack) [] H H1 s.heap s1.heap:=I.base.mono (fun b hb=>by rw[hfr];exact S0z _ hb) (fun b hb=>hb)
  exact(U0.trans U1).restrict fun b o hb q=>by
   rw[hfr] at hb;rcases H4z.mp hb with z | z
   .exact absurd z (nL b o q)
   .exact z
 .exact kB b o (I.base.keep b o q n hb (noex b)) (nin b o q hb)
 .obtain⟨o1,q1⟩:=I.base.there b o q (noex b)
  exact⟨o1,kB b o1 q1 (nin b o q hb)⟩
 .cases q:s.heap.get? e with
  | none=>rfl
  | some o =>
   obtain⟨o1,q1⟩:=I.base.there e o q (noex e);have:=hx.new;rw[this] at q1;cases q1
end
def nsOk(K:Z3)(N:Addr):Bool:=match K.lookup N with
 | some ⟨_,_,.dict es _,_⟩=>es.toList.all (fun e=>match e.key with | .str _ _=>true | _=>false)&&(W.nsIn K N "__init__"==some none)
 | _=>false
def xIn(K:Z3)(C M:Addr):Bool:=match K.lookup C,K.lookup M with
 | some ⟨.type "type",_,.cls cd,sl⟩,some ⟨_,_,.cls cdM,_⟩ =>
  (match sl.toList with | [_,_,_,_,some (.builtin n),_]=>n=="ValueError.__new__" | _=>false)&&cd.mro==[.ref C,.ref M,.type "ValueError",.type "Exception",.type "BaseException",.type "object"] && !cd.hasDel&&nsOk K cd.ns&&nsOk K cdM.ns
 | _,_=>false
theorem yF{K:Z3}{N:Addr}(e:nsOk K N=true):∃ mN:Str->Option Value,mN "__init__"=none/\∀ h:Heap,K.In h->h.Ns N mN:=by
 unfold nsOk at e;split at e
 .rename_i c d es n sl ho
  rw[U2z] at e;refine⟨nsFind es,?_,fun h X=>⟨_,es,n,X _ _ ho,rfl,fun en hen=>?_,fun _=>rfl⟩⟩
  .have e2:W.nsIn K N "__init__"=some none:=by simpa using e.2
   unfold W.nsIn at e2;rw[ho] at e2;simp only at e2;unfold nsFind findBy;rw[<- Array.find?_toList];split at e2
   .cases e2
   .rename_i q
    rw[q];rfl
  .have:=A3z.mp e.1 en (by simpa using hen)
   split at this
   .rename_i x t hk;exact⟨x,t,hk⟩
   .cases this
 .cases e
theorem KN{K:Z3}{C M:Addr}(e:xIn K C M=true):∃ nm q N bs hdct sn sub ab col dd k0 k1 k2 k3 k5 mN,mN "__init__"=none/\∀ h:Heap,K.In h ->
  h.get? C=some (excClassObj nm q C N bs [.ref M,.type "ValueError",.type "Exception",.type "BaseException",.type "object"] hdct sn sub ab col dd k0 k1 k2 k3 k5 "ValueError.__new__")/\h.Ns N mN /\
   OwnTail h [.type "ValueError",.type "Exception",.type "BaseException",.type "object"] [.ref M,.type "ValueError",.type "Exception",.type "BaseException",.type "object"]:=by
 unfold xIn at e;split at e
 .rename_i dd cd sl cM dM cdM slM hC hM
  simp only[U2z,G2z] at e;obtain⟨⟨⟨⟨e1,e2⟩,e3⟩,e4⟩,e5⟩:=e;split at e1
  .rename_i k0 k1 k2 k3 n k5 hs
   have en:n="ValueError.__new__":=by simpa using e1
   subst en
   have hsl:sl = #[k0,k1,k2,k3,some (.builtin "ValueError.__new__"),k5]:=by
    obtain⟨l⟩:=sl;simp only at hs;rw[hs]
   have em:cd.mro=[.ref C,.ref M,.type "ValueError",.type "Exception",.type "BaseException",.type "object"]:=by simpa using e2
   obtain⟨nm,bs,mro,ns,qn,hd,sn,sub,ab,col,del⟩:=cd;simp only at em e3 e4;subst em e3 hsl;obtain⟨mN,n2,n1⟩:=yF e4;obtain⟨mM,m2,m1⟩:=yF e5;exact⟨_,_,_,_,_,_,_,_,_,_,_,_,_,_,_,mN,n2,fun h X=>⟨X _ _ hC,n1 h X,.own (X _ _ hM) (m1 h X) m2 .base⟩⟩
  .cases e1
 .cases e
section
variable {X:Cx}
theorem ug{x:Str}{C M:Addr}{np cpos pos:Pos}{txt:Str}{j:Nat}{p1:Pos}{Q:Flow->Shared->Prop}{z0:List (Addr×Obj)}{Y:St}{H:Hp}{s:Shared}(I:Inv X z0 Y H s)(hc:X.A.handled=none)(hg:Gl X x)(hm:X.mg x=some (.ref C))(hd:(x==("__debug__":Str))=false)(hx:xIn X.K C M=true)
  (k:∀ (s2:Shared) (h':Heap) (e:Addr) (args:List Value),Inv X z0 Y H s2->Heap.MadeExcOf s2.heap h' e (.ref C) args->X.xe (.ref e) { s2 with heap:=h' }) :
  wpAny (model X.prog X.w) X.A (exec (.Raise (some (.Call (.Name x np) [.Constant (.str txt) j p1] [] cpos)) none pos) X.env) Q X.xe s:=by
 obtain⟨nm,q,N,bs,hdct,sn,sub,ab,col,dd,k0,k1,k2,k3,k5,mN,hni,fx⟩:=KN hx
 refine wpAny_Raise_call_subU (C:=C) (nm:=nm) (q:=q) (N:=N) (bs:=bs) (bm:=[.ref M,.type "ValueError",.type "Exception",.type "BaseException",.type "object"]) (hdct:=hdct) (sn:=sn) (sub:=sub) (ab:=ab) (col:=col) (dd:=dd) (k0:=k0) (k1:=k1) (k2:=k2) (k3:=k3) (k5:=k5)
  F.excBase_ValueError (by decide) F.excBase_ValueError (mN:=mN) ((fx _ I.kIn).2.2.hasType F.excBase_ValueError.hasBase) hc rfl hni (fQ I hg hm ⟨rfl,?_⟩ hd)
 have ha:PA X [.Constant (.str txt) j p1] (Gw (tC (.str txt)) K7):=aA kW aO;show wpAny _ _ (evalArgs (.ref C) true (backTo cpos ((false,eval (.Constant (.str txt) j p1) X.env)::starEach [] X.env)) []) _ _ _;refine V0z (Z4z (ha cpos z0 s Y H (fun vs H1=>vs.length<=1/\H1=H) I ⟨T4z _,rfl⟩) (fun us s2 hq=>?_) fun _ _ y=>y);obtain⟨vs,H1,I1,r,q1,rfl⟩:=hq;obtain⟨f1,f2,f3⟩:=fx _ I1.kIn
 have h1:(1:Nat)<=sizeLine:=by decide
 have h2:=r.length;exact⟨rfl,(show us.length<=sizeLine by omega),f1,f2,f3,fun h' e hm'=>k s2 h' e us I1 hm'⟩
end
abbrev Cx.inSuite(X:Cx)(e:Value)(xe:Value->Shared->Prop):Cx:={ X with A:=X.A.mark (some e),calm:=false,xe:=xe }
section
variable {X:Cx} {z0:List (Addr×Obj)} {Y:St} {H H':Hp} {s s':Shared} {e:Value} {xe:Value->Shared->Prop}
theorem Inv.inSuite(I:Inv X z0 Y H s)(e:Value)(xe:Value->Shared->Prop):Inv (X.inSuite e xe) z0 Y H s :=
 ⟨⟨I.ok.mod,I.ok.kind,I.ok.glob,I.ok.blt,I.ok.above,I.ok.inj,I.ok.has,I.ok.cab,fun z=>(nomatch z),I.ok.frames,I.ok.stk,I.ok.exf,I.ok.bs,I.ok.bsz,I.ok.noex,I.ok.exfs,I.ok.funs,I.ok.frf⟩,I.os,I.bare,I.base,I.loc,I.cell,I.free,I.freeC,I.pin,I.hok,I.len⟩
theorem Inv.outSuite(ok:X.Ok)(I:Inv (X.inSuite e xe) z0 Y H s):Inv X z0 Y H s:=⟨ok,I.os,I.bare,I.base,I.loc,I.cell,I.free,I.freeC,I.pin,I.hok,I.len⟩
theorem Inv.unbound{i:Nat}{x:Str}{v:Option Value}{m:Str->Option Value}{h':Heap}{t':Nat}(I:Inv X z0 Y H s)(hN:X.N.Nodup)(hi:X.N[i]?=some x)(hm:s.heap.Ns X.env.locals m)(hn:h'.Ns X.env.locals (fun y=>if y=x then v else m y))(hs:Heap.SameBut X.env.locals s.heap h') :
  Inv X z0 (Y.set i none) H { s with heap:=h',toks:=t' }:=by
 have cne:=I.cne
 have hiY:i<Y.length:=by rw[I.len];exact(List.getElem?_eq_some_iff.mp hi).1
 obtain⟨m0,hn0,hl⟩:=id I.loc
 have hmm:∀ y,m0 y=m y:=fun y=>by
  obtain⟨o1,es1,ep1,g1,g2,_,g3⟩:=hn0;obtain⟨o2,es2,ep2,f1,f2,_,f3⟩:=hm;rw[g1] at f1;cases f1;rw[g2] at f2;cases f2;rw[<- g3,<- f3]
 obtain⟨oL,_,_,hoL,_⟩:=id hn0
 have tracked:HOk X.prog X.w H h':=fun b ob e=>by
  refine(I.hok b ob e).stay (fun c w' hc q=>(hs.2 c ?_).trans q) (fun _ q=>q) fun _ _ q=>q;rintro rfl;rcases hc with rfl | hc
  .rw[I.free] at e;cases e
  .rw[I.free] at hc;cases hc
 refine⟨I.ok,I.os,I.bare,⟨fun b o e n hb hx=>?_,fun b o e n hb hx=>?_,I.base.free,fun b o e hx=>?_,I.base.tups,I.base.frzs,I.base.tbls⟩,⟨_,hn,fun j y v' e1 e2 e3=>?_⟩,fun y c e=>?_,I.free,I.freeC,fun p hp=>?_,tracked,by simpa using I.len⟩
 .exact(hs.2 b (K4z (G1z (J4z e) I.ok.above))).trans (I.base.keep b o e n hb hx)
 .obtain⟨sl,e1⟩:=I.base.slot b o e n hb hx
  exact⟨sl,(hs.2 b (K4z (G1z (J4z e) I.ok.above))).trans e1⟩
 .obtain⟨o',e1⟩:=I.base.there b o e hx
  exact⟨o',(hs.2 b (K4z (G1z (J4z e) I.ok.above))).trans e1⟩
 .by_cases hj:j=i
  .subst hj
   rw[List.getElem?_set_self hiY] at e2;cases e2
  .rw[List.getElem?_set_ne (J5z hj)] at e2
   obtain⟨u',r',q⟩:=hl j y v' e1 e2 e3;refine⟨u',r',?_⟩;rcases q with⟨k,e⟩ | ⟨k,c,e,z⟩
   .refine .inl ⟨k,?_⟩
    have:y≠x:=fun e=>hj (nP hN e1 (e▸hi));simp only[this,I5z];rw[<- hmm];exact e
   .exact .inr ⟨k,c,e,z.sameBut hs (cne y c e)⟩
 .obtain⟨w',z⟩:=I.cell y c e
  exact⟨w',z.sameBut hs (cne y c e)⟩
 .obtain⟨e,n,ne,nf,d⟩:=I.pin p hp
  exact⟨(hs.2 p.1 ne).trans e,n,ne,nf,d⟩
end
def isX(a:Addr)(cls:Value)(h:Heap):Prop:=∃ o,h.get? a=some o/\o.cls=cls/\∃ vs,o.data=.fields vs
theorem NQ{P:Program}{w:World}{H:Hp}{h:Heap}{a:Addr}{cls:Value}(x:isX a cls h):cJ P w H h a (.ext (isX a cls)) :=
 ⟨x,let ⟨o,e,_⟩:=x;⟨o,e⟩,fun _ _ ⟨o,e,r⟩ k=>⟨o,k o e,r⟩⟩
section
variable {X:Cx} {z0:List (Addr×Obj)} {Y:St} {H H':Hp} {s s':Shared} {ea:Addr} {cls:Value}
theorem Fly.lands{h2:Heap}{B:Heap}{t':Nat}(I:Inv X z0 Y H s)(Fl:Fly X.prog X.w X.stack H s H' ea cls s')(hokB:HOk X.prog X.w H' B)(U:Un (frs X.stack) [] H H' s.heap h2)(st:B.StaysIn h2):Inv X z0 Y H' { s' with heap:=h2,toks:=t' } :=
 I.call' (s':={ s' with heap:=h2,toks:=t' }) Fl.os U (hokB.kept st) Fl.bare (fun b z=>absurd z (by simp))
end
def m8(K:Z3)(C:Addr):Bool :=
 W.findIn K (.ref C) "__getattribute__"==some (some (.builtin "BaseException.__getattribute__"))&&W.findIn K (.ref C) "__getattr__"==some none&&W.findIn K (.ref C) "__class__"==some (some (.builtin "object.__class__")) &&
  W.mroIn K C (.type "object")==some true&&W.mroIn K C (.type "BaseException")==some true&&(W.clsIn K C).isSome
section
open PySem.Builtin PySem.Builtin.ObjectAttr PySem.Builtin.Getset_descriptor
variable {prog:Program} {w:World} {A:Around} {E:Value->Shared->Prop} {K:Z3} {h:Heap} {g:Array GenState} {d:Drawn} {t:Nat} {os:OsState} {a C:Addr} {o:Obj}
theorem xty{M:Model}(hx:h.get? a=some o)(hc:o.cls=.ref C):W.Looks M h (typeOf (.ref a)) (.ref C):=hc▸(W.Looks.ld hx).andThen .now
theorem vd{R:Result->Shared->Prop}(X:K.In h)(hx:h.get? a=some o)(hc:o.cls=.ref C)(hm:W.mroIn K C (.type "object")=some true)(hq:R (.ok (.ret (.ref C))) ⟨h,g,d,t,os⟩) :
  codeAny (model prog w) A (.call (.builtin "getset_descriptor.__get__") ⟨[.builtin "object.__class__",.ref a,.ref C],[]⟩) R ⟨h,g,d,t,os⟩:=by
 have hT5:(⟨h,g,d,t,os⟩:Shared).TypeIs (.builtin "object.__class__") "getset_descriptor":=Q0z;have L0:=xty (M:=model prog w) hx hc;have L1:=W.looks_mroIn (M:=model prog w) X hm;refine codeAny_call_builtin W.KF.slot_gs.plain W.KF.entry_gs (W.KF.slot_gs.check _ _ _ _ _ _ _ _ W.KF.type_class (W.KF.args_gs _ _ _) ?_);unfold Builtin.«getset_descriptor.__get__» descrGet;rw[W.dga_obj];refine A5z (B5z ?_);unfold descrGetter descrCheckInstance descrNameAndClass isInstance;simp only[W.KF.owner_class]
 repeat lk
 refine⟨Code.quiet_builtin _ (by decide +kernel),M3z W.KF.entry_class ?_⟩;unfold Builtin.«object.__class__» shownTypeOf
 repeat lk
 exact hq
theorem o9{tk:Tok}{Q:Fin->Shared->Prop}(X:K.In h)(hx:h.get? a=some o)(hc:o.cls=.ref C)(hm:W.mroIn K C (.type "object")=some true)(hf:W.findIn K (.ref C) "__class__"=some (some (.builtin "object.__class__")))(hq:Q (.done (.ret (.ref C))) ⟨h,g,d,t,os⟩) :
  wpAny (model prog w) A (Builtin.«object.__getattribute__» ⟨[.ref a,.str "__class__" tk],[]⟩) Q E ⟨h,g,d,t,os⟩:=by
 have hT5:(⟨h,g,d,t,os⟩:Shared).TypeIs (.builtin "object.__class__") "getset_descriptor":=Q0z;have f5:=Q0z;have f6:=F.slot_gs_get.lookup;have f7:=F.slot_gs_set.lookup;have LF:=U0z (M:=model prog w) X hf
 repeat (any_goals (first | assumption | (with_reducible refine wpAny_loadPart_at hx ?_;rw[hc]) | with_reducible refine LF.at ?_ | wp_step))
 refine vd X hx hc hm ?_
 repeat (any_goals (first | assumption | wp_step))
theorem pq{M:Model}{nameV:Value}{Q:Unit->Shared->Prop}(X:K.In h)(hx:h.get? a=some o)(hc:o.cls=.ref C)(hm:W.mroIn K C (.type "BaseException")=some true)(hq:Q () ⟨h,g,d,t,os⟩):wpAny M A (checkBuiltinCall "BaseException.__getattribute__" ⟨[.ref a,nameV],[]⟩) Q E ⟨h,g,d,t,os⟩:=by
 have hk:builtinKind "BaseException.__getattribute__"=some .slot:=by decide +kernel
 have hsplit:splitId "BaseException.__getattribute__"=some ("BaseException","__getattribute__"):=by decide +kernel
 have ha:=F.args_bexc_ga (.ref a) nameV;have LM:=W.looks_mroIn (M:=M) X hm;simp only[checkBuiltinCall,hk,hsplit];refine A5z ?_
 .unfold isInstance
  repeat (first | (with_reducible refine wpAny_loadPart_at hx ?_;rw[hc]) | with_reducible refine LM.at ?_ | wp_step)
  exact hq
theorem wD{tk:Tok}{fill expr:Bool}{Q:Value->Shared->Prop}(X:K.In h)(hx:h.get? a=some o)(hc:o.cls=.ref C)(hA:m8 K C=true)(hq:Q (.ref C) ⟨h,g,d,t,os⟩) :
  wpAny (model prog w) A (getAttrBy (.ref a) (.str "__class__" tk) fill expr) Q E ⟨h,g,d,t,os⟩:=by
 unfold m8 at hA;simp only[U2z,beq_iff_eq] at hA;obtain⟨⟨⟨⟨⟨g1,g2⟩,g3⟩,g4⟩,g5⟩,g6⟩:=hA;have f3:=F.excAttr_ValueError.ga.bind (.ref a)
 have hx0:(expr&&onTheHeap (Value.builtin "BaseException.__getattribute__"))=false:=by cases expr<;>rfl
 have hx2:(Value.builtin "BaseException.__getattribute__"==Value.builtin "object.__getattribute__")=false:=by decide +kernel
 have hx1:(onTheHeap (Value.ref C)&&Value.builtin "BaseException.__getattribute__"==Value.builtin "object.__getattribute__")=false:=by rw[hx2];rfl
 have L1:=U0z (M:=model prog w) X g1;have L2':=U0z (M:=model prog w) X g2
 repeat (any_goals (first | assumption | (with_reducible refine wpAny_loadPart_at hx ?_;rw[hc]) | with_reducible refine L1.at ?_ | with_reducible refine L2'.at ?_ | wp_step))
 refine codeAny_call_builtin F.excAttr_ValueError.ga.plain F.entry_bexc_ga (pq X hx hc g5 (o9 X hx hc g4 g3 ?_))
 repeat (any_goals (first | assumption | wp_step))
theorem KD{Q:Option Value->Shared->Prop}(X:K.In h)(hx:h.get? a=some o)(hc:o.cls=.ref C)(hA:m8 K C=true)(hq:Q (some (.ref C)) ⟨h,g,d,t+1,os⟩) :
  wpAny (model prog w) A (getAttr? (.ref a) "__class__") Q E ⟨h,g,d,t,os⟩:=by
 unfold getAttr? getAttrBy?
 repeat (any_goals (first | assumption | with_reducible apply wD X hx hc hA | wp_step))
end
theorem Dj{K:Z3}{a C:Addr}(hA:m8 K C=true):W.KitX K (.ref a) (.ref C) (isX a (.ref C)) where
 ty:=fun _ _ _ ⟨o,e,c,_⟩=>xty e c
 it:=fun _ _ X _=>by
  unfold m8 at hA;rw[U2z] at hA;obtain⟨cdD,hcD⟩:=Option.isSome_iff_exists.mp hA.2;unfold W.clsIn at hcD;split at hcD
  .rename_i c' d' cd' sl' ho
   intro A' Q' E' s' k q;unfold isType loadHead;exact A5z (wpAny_loadPart (k _ _ (X _ _ ho)) (B5z q))
  .cases hcD
 ne:=fun h tp dd its n sl X htp=>by
  unfold m8 at hA;rw[U2z] at hA;obtain⟨cdD,hcD⟩:=Option.isSome_iff_exists.mp hA.2;refine Bool.eq_false_iff.mpr fun q=>?_;have e:C=tp:=Value.ref.inj (beq_iff_eq.mp q);subst e;unfold W.clsIn at hcD;split at hcD
  .rename_i c' d' cd' sl' ho
   have z:=(X _ _ ho).symm.trans htp;cases z
  .cases hcD
 ca:=fun {prog w A E Q s} X p k=>by
  obtain⟨h,g,d,t,os⟩:=s;obtain⟨o,e,c,_⟩:=p;exact KD X e c hA k
section
variable {X:Cx} {z0:List (Addr×Obj)} {Y:St} {H H':Hp} {s s':Shared} {ea C:Addr}
end
end L2
namespace L2
open PySem PySem.Spec PyProof.Rows DE PySem.SeqAt
theorem Same.tup{K:Z3}{H H':Hp}{a:Addr}{xs:List V}(e:Same H H')(h:SqT K H a xs):SqT K H' a xs:=by
 rcases h with(h | ⟨o,h⟩) | h
 .exact .inl (.inl (e _ _ h))
 .exact .inl (.inr ⟨o,e _ _ h⟩)
 .exact .inr h
mutual
def Rep(K:Z3)(H:Hp):D->V->Prop
 | .non,v=>v=.non
 | .bl b,v=>v=.bl b
 | .int i,v=>v=.int i
 | .str x,v=>v=.str x
 | .tup ds,v=>∃ a vs,v=.ref a/\SqT K H a vs/\aJ K H ds vs
 | .lst ds,v=>∃ a vs,v=.ref a/\SqL K H a vs/\aJ K H ds vs
 | .obj a,v=>v=.ref a
 | .exc c,v=>∃ a C,v=.ref a/\W.nsIn K mainGlobals c=some (some (.ref C))/\H a=some (.ext (isX a (.ref C)))
 | .dic ks ds,v=>∃ (a:Addr) (kvs:List (Key×V)),v=.ref a/\DAt K H a kvs/\kvs.map (·.1)=ks/\aJ K H ds (kvs.map (·.2))
def aJ(K:Z3)(H:Hp):List D->List V->Prop
 | [],vs=>vs=[]
 | d::ds,vs=>∃ v r,vs=v::r/\Rep K H d v/\aJ K H ds r
end
mutual
theorem Rep.same{K:Z3}{H H':Hp}(e:Same H H'):∀ (d:D) (v:V),Rep K H d v->Rep K H' d v
 | .non,v,h=>by simpa[Rep] using h
 | .bl b,v,h=>by simpa[Rep] using h
 | .int i,v,h=>by simpa[Rep] using h
 | .str x,v,h=>by simpa[Rep] using h
 | .tup ds,v,h=>by
  simp only[Rep] at h ⊢;obtain⟨a,vs,h1,h2,h3⟩:=h;exact⟨a,vs,h1,e.tup h2,aJ.same e ds vs h3⟩
 | .lst ds,v,h=>by
  simp only[Rep] at h ⊢;obtain⟨a,vs,h1,h2,h3⟩:=h;exact⟨a,vs,h1,e.seq h2,aJ.same e ds vs h3⟩
 | .obj a,v,h=>by simpa[Rep] using h
 | .exc c,v,h=>by
  simp only[Rep] at h ⊢;obtain⟨a,C,h1,h2,h3⟩:=h;exact⟨a,C,h1,h2,e _ _ h3⟩
 | .dic ks ds,v,h=>by
  simp only[Rep] at h ⊢;obtain⟨a,kvs,h1,h2,h3,h4⟩:=h;refine⟨a,kvs,h1,?_,h3,aJ.same e ds _ h4⟩;rcases h2 with⟨o,h2⟩ | h2
  .exact .inl ⟨o,e _ _ h2⟩
  .exact .inr h2
theorem aJ.same{K:Z3}{H H':Hp}(e:Same H H'):∀ (ds:List D) (vs:List V),aJ K H ds vs->aJ K H' ds vs
 | [],vs,h=>by simpa[aJ] using h
 | d::ds,vs,h=>by
  simp only[aJ] at h ⊢;obtain⟨v,r,h1,h2,h3⟩:=h;exact⟨v,r,h1,Rep.same e d v h2,aJ.same e ds r h3⟩
end
theorem aJ.length{K:Z3}{H:Hp}:∀ {ds:List D} {vs:List V},aJ K H ds vs->ds.length=vs.length
 | [],vs,h=>by simp only[aJ] at h;subst h;rfl
 | d::ds,vs,h=>by
  simp only[aJ] at h;obtain⟨v,r,rfl,_,h3⟩:=h;simp[h3.length]
theorem aJ.nil{K:Z3}{H:Hp}:aJ K H [] []:=by simp[aJ]
theorem aJ.cons{K:Z3}{H:Hp}{d:D}{ds:List D}{v:V}{vs:List V}(h:Rep K H d v)(r:aJ K H ds vs):aJ K H (d::ds) (v::vs):=by
 simp only[aJ];exact⟨v,vs,rfl,h,r⟩
theorem aJ.append{K:Z3}{H:Hp}:∀ {ds es:List D} {vs us:List V},aJ K H ds vs->aJ K H es us->aJ K H (ds++es) (vs++us)
 | [],es,vs,us,h,h'=>by simp only[aJ] at h;subst h;exact h'
 | d::ds,es,vs,us,h,h'=>by
  simp only[aJ] at h;obtain⟨v,r,rfl,h2,h3⟩:=h;exact .cons h2 (h3.append h')
theorem aJ.get{K:Z3}{H:Hp}:∀ {ds:List D} {vs:List V} {i:Nat} {d:D},aJ K H ds vs->ds[i]?=some d->∃ v,vs[i]?=some v/\Rep K H d v
 | [],vs,i,d,_,e=>by simp at e
 | d'::ds,vs,0,d,h,e=>by
  simp only[aJ] at h;obtain⟨v,r,rfl,h2,h3⟩:=h;simp at e;subst e;exact⟨v,rfl,h2⟩
 | d'::ds,vs,i+1,d,h,e=>by
  simp only[aJ] at h;obtain⟨v,r,rfl,h2,h3⟩:=h;obtain⟨u,e1,e2⟩:=h3.get (i:=i) (d:=d) (by simpa using e);exact⟨u,by simpa using e1,e2⟩
theorem aJ.take{K:Z3}{H:Hp}:∀ (n:Nat) {ds:List D} {vs:List V},aJ K H ds vs->aJ K H (ds.take n) (vs.take n)
 | 0,_,_,_=>by simpa using aJ.nil
 | n+1,[],vs,h=>by simp only[aJ] at h;subst h;simpa using aJ.nil
 | n+1,d::ds,vs,h=>by
  simp only[aJ] at h;obtain⟨v,r,rfl,h2,h3⟩:=h;simpa using aJ.cons h2 (h3.take n)
theorem aJ.drop{K:Z3}{H:Hp}:∀ (n:Nat) {ds:List D} {vs:List V},aJ K H ds vs->aJ K H (ds.drop n) (vs.drop n)
 | 0,_,_,h=>by simpa using h
 | n+1,[],vs,h=>by simp only[aJ] at h;subst h;simpa using aJ.nil
 | n+1,d::ds,vs,h=>by
  simp only[aJ] at h;obtain⟨v,r,rfl,h2,h3⟩:=h;simpa using h3.drop n
theorem aJ.reverse{K:Z3}{H:Hp}:∀ {ds:List D} {vs:List V},aJ K H ds vs->aJ K H ds.reverse vs.reverse
 | [],vs,h=>by simp only[aJ] at h;subst h;simpa using aJ.nil
 | d::ds,vs,h=>by
  simp only[aJ] at h;obtain⟨v,r,rfl,h2,h3⟩:=h;simpa using h3.reverse.append (.cons h2 .nil)
structure Ext (Hs H Hs' H':Hp):Prop where
 vis:Same Hs Hs'
 all:Same H H'
 sub:Same Hs' H'
 hid:∀ b o,H b=some o->Hs b=none->Hs' b=none
theorem Ext.refl{Hs H:Hp}(h:Same Hs H):Ext Hs H Hs H:=⟨.refl _,.refl _,h,fun _ _ _ h=>h⟩
theorem Ext.trans{Hs H Hs1 H1 Hs2 H2:Hp}(a:Ext Hs H Hs1 H1)(b:Ext Hs1 H1 Hs2 H2):Ext Hs H Hs2 H2 :=
 ⟨a.vis.trans b.vis,a.all.trans b.all,b.sub,fun c o h1 h2=>b.hid c o (a.all c o h1) (a.hid c o h1 h2)⟩
theorem Ext.new{Hs H:Hp}(h:Same Hs H){p:Addr}(o:HO)(hp:H p=none):Ext Hs H (upd Hs p o) (upd H p o) where
 vis:=fun b u e=>by rw[aj (ak (h b u e) hp)];exact e
 all:=fun b u e=>by rw[aj (ak e hp)];exact e
 sub:=fun b u e=>by
  by_cases hb:b=p
  .subst hb;rw[aB] at e ⊢;exact e
  .rw[aj hb] at e ⊢;exact h b u e
 hid:=fun b u e n=>by rw[aj (ak e hp)];exact n
theorem isT{X:Cx}{z0:List (Addr×Obj)}{Y:St}{H:Hp}{s:Shared}{a:Addr}{vs:List V}(I:Inv X z0 Y H s)(h:SqT X.K H a vs):∃ its:List Value,Vals vs its/\s.heap.IsTuple a its.toArray:=by
 obtain⟨its,r,p,_⟩:=I.tuple h;exact⟨its,r,p⟩
theorem isL{X:Cx}{z0:List (Addr×Obj)}{Y:St}{H:Hp}{s:Shared}{a:Addr}{vs:List V}(I:Inv X z0 Y H s)(h:SqL X.K H a vs):∃ its:List Value,Vals vs its/\s.heap.IsList a its.toArray:=by
 obtain⟨its,r,p,_⟩:=I.list h;exact⟨its,r,p.isList⟩
mutual
theorem jU:∀ d:D,dep d<1000->deq d d=true
 | .non,_=>rfl
 | .bl b,_=>by simp[deq]
 | .int i,_=>by simp[deq]
 | .str x,_=>by simp[deq]
 | .tup xs,h=>by simp only[deq];exact lM xs (by simp only[dep] at h;omega)
 | .lst xs,h=>by simp only[deq];exact lM xs (by simp only[dep] at h;omega)
 | .exc c,h=>absurd h (by simp[dep])
 | .dic _ _,h=>absurd h (by simp[dep])
 | .obj _,h=>absurd h (by simp[dep])
theorem lM:∀ ds:List D,deps ds<1000->qz ds ds=true
 | [],_=>rfl
 | d::ds,h=>by
  simp only[deps] at h;simp only[qz,jU d (by omega),lM ds (by omega),F4z]
end
theorem uT:∀ {xs ys:List D} {e:Nat->Bool},(∀ (j:Nat) (x y:D),xs[j]?=some x->ys[j]?=some y->e j=deq x y)->((List.range (min xs.length ys.length)).all e&&xs.length==ys.length)=qz xs ys
 | [],[],_,_=>rfl
 | [],y::ys,_,_=>by simp[qz]
 | x::xs,[],_,_=>by simp[qz]
 | x::xs,y::ys,e,h=>by
  have ih:=uT (xs:=xs) (ys:=ys) (e:=fun j=>e (j+1)) fun j a b e1 e2=>h (j+1) a b (by simpa using e1) (by simpa using e2);have h0:=h 0 x y rfl rfl;simp only[qz,<- ih,<- h0,M2z];rw[show min (xs.length+1) (ys.length+1)=min xs.length ys.length+1 by omega,List.range_succ_eq_map,G4z,List.all_map];rw[Bool.and_assoc];congr 1;congr 1;simp
section
variable {X:Cx} {z0:List (Addr×Obj)} {Y:St} {H:Hp} {s:Shared}
mutual
theorem Rep.inj(I:Inv X z0 Y H s):∀ (d d':D) (v:V),dep d<1000->dep d'<1000->Rep X.K H d v->Rep X.K H d' v->d=d'
 | .non,d',v,z,z',h,h'=>by simp only[Rep] at h;subst h;cases d'<;>simp[Rep] at h' ⊢
 | .bl b,d',v,z,z',h,h'=>by simp only[Rep] at h;subst h;cases d'<;>simp[Rep] at h' ⊢;exact h'
 | .int b,d',v,z,z',h,h'=>by simp only[Rep] at h;subst h;cases d'<;>simp[Rep] at h' ⊢;exact h'
 | .str b,d',v,z,z',h,h'=>by simp only[Rep] at h;subst h;cases d'<;>simp[Rep] at h' ⊢;exact h'
 | .tup ds,d',v,z,z',h,h'=>by
  simp only[Rep] at h;obtain⟨a,vs,rfl,h2,h3⟩:=h
  cases d' with
  | tup es =>
   simp only[Rep] at h';obtain⟨a',vs',e,h2',h3'⟩:=h';cases e;have:=I.tuple_inj h2 h2';subst this;rw[aJ.inj I ds es vs (by simp only[dep] at z;omega) (by simp only[dep] at z';omega) h3 h3']
  | lst es =>
   simp only[Rep] at h';obtain⟨a',vs',e,h2',h3'⟩:=h';cases e;obtain⟨i1,_,p1⟩:=isT I h2;obtain⟨i2,_,p2⟩:=isL I h2';exact absurd rfl (ne_of_list_tuple p2 p1)
  | non=>simp[Rep] at h'
  | bl _=>simp[Rep] at h'
  | int _=>simp[Rep] at h'
  | str _=>simp[Rep] at h'
  | exc _=>exact absurd z' (by simp[dep])
  | dic _ _=>exact absurd z' (by simp[dep])
  | obj _=>exact absurd z' (by simp[dep])
 | .lst ds,d',v,z,z',h,h'=>by
  simp only[Rep] at h;obtain⟨a,vs,rfl,h2,h3⟩:=h
  cases d' with
  | lst es =>
   simp only[Rep] at h';obtain⟨a',vs',e,h2',h3'⟩:=h';cases e;have:=I.list_inj h2 h2';subst this;rw[aJ.inj I ds es vs (by simp only[dep] at z;omega) (by simp only[dep] at z';omega) h3 h3']
  | tup es =>
   simp only[Rep] at h';obtain⟨a',vs',e,h2',h3'⟩:=h';cases e;obtain⟨i1,_,p1⟩:=isL I h2;obtain⟨i2,_,p2⟩:=isT I h2';exact absurd rfl (ne_of_list_tuple p1 p2)
  | non=>simp[Rep] at h'
  | bl _=>simp[Rep] at h'
  | int _=>simp[Rep] at h'
  | str _=>simp[Rep] at h'
  | exc _=>exact absurd z' (by simp[dep])
  | dic _ _=>exact absurd z' (by simp[dep])
  | obj _=>exact absurd z' (by simp[dep])
 | .exc c,d',v,z,z',h,h'=>absurd z (by simp[dep])
 | .dic _ _,d',v,z,z',h,h'=>absurd z (by simp[dep])
 | .obj _,d',v,z,z',h,h'=>absurd z (by simp[dep])
theorem aJ.inj(I:Inv X z0 Y H s):∀ (ds es:List D) (vs:List V),deps ds<1000->deps es<1000->aJ X.K H ds vs->aJ X.K H es vs->ds=es
 | [],es,vs,z,z',h,h'=>by
  simp only[aJ] at h;subst h
  cases es with
  | nil=>rfl
  | cons e es=>simp[aJ] at h'
 | d::ds,es,vs,z,z',h,h'=>by
  simp only[aJ] at h;obtain⟨v,r,rfl,h2,h3⟩:=h
  cases es with
  | nil=>simp[aJ] at h'
  | cons e es =>
   simp only[aJ] at h';obtain⟨v',r',e',h2',h3'⟩:=h';cases e';simp only[deps] at z z';rw[Rep.inj I d e v (by omega) (by omega) h2 h2',aJ.inj I ds es r (by omega) (by omega) h3 h3']
end
def eJ(ds es:List D)(j:Nat):Bool:=match ds[j]?,es[j]? with
 | some x,some y=>deq x y
 | _,_=>true
theorem zU(ds es:List D):((List.range (min ds.length es.length)).all (eJ ds es)&&ds.length==es.length)=qz ds es :=
 uT fun j x y e1 e2=>by unfold eJ;rw[e1,e2]
theorem zT(ds es:List D)(h:ds.length=es.length):(List.range ds.length).all (eJ ds es)=qz ds es:=by
 rw[<- zU ds es,<- h];simp
theorem oA:∀ {xs ys:List D},xs.length≠ys.length->qz xs ys=false
 | [],[],h=>absurd rfl h
 | [],_::_,_=>rfl
 | _::_,[],_=>rfl
 | x::xs,y::ys,h=>by
  simp only[qz,oA (xs:=xs) (ys:=ys) (by intro e;exact h (by simp[e])),X3z]
theorem jL{A:Around}:A.in1.units=A.units+1:=rfl
mutual
theorem zQ(I:Inv X z0 Y H s):∀ (d d':D) (v v':V) (u u':Value) (A:Around),Rep X.K H d v->Rep X.K H d' v'->RelV v u->RelV v' u'->A.units+dep d<cLine->dep d<1000->dep d'<1000->gA d d'=true->EqAt A s u u' (deq d d')
 | .non,d',v,v',u,u',A,h,h',r,r',hu,z,z',kk=>by cases d'<;>simp[gA] at kk
 | .bl c,d',v,v',u,u',A,h,h',r,r',hu,z,z',kk=>by
  simp only[Rep] at h;subst h;cases (show u=Value.bool c from r)
  have hu0:A.units<cLine:=P1z (S2z _ _) hu
  cases d' with
  | bl b=>simp only[Rep] at h';subst h';cases (show u'=Value.bool b from r');exact EqAt.bool_bool c b
  | _=>simp[gA] at kk
 | .int c,d',v,v',u,u',A,h,h',r,r',hu,z,z',kk=>by
  simp only[Rep] at h;subst h;obtain⟨t0,rfl⟩:=r
  have hu0:A.units<cLine:=P1z (S2z _ _) hu
  cases d' with
  | int i=>simp only[Rep] at h';subst h';obtain⟨t,rfl⟩:=r';exact EqAt.int_int c t0 i t
  | _=>simp[gA] at kk
 | .str c,d',v,v',u,u',A,h,h',r,r',hu,z,z',kk=>by
  simp only[Rep] at h;subst h;obtain⟨t0,rfl⟩:=r
  have hu0:A.units<cLine:=P1z (S2z _ _) hu
  cases d' with
  | str x=>simp only[Rep] at h';subst h';obtain⟨t,rfl⟩:=r';exact EqAt.str_str c t0 x t
  | _=>simp[gA] at kk
 | .tup ds,d',v,v',u,u',A,h,h',r,r',hu,z,z',kk=>by
  have hh:=h;simp only[Rep] at h;obtain⟨a,vs,rfl,h2,h3⟩:=h;cases (show u=Value.ref a from r);obtain⟨its,rv,p⟩:=isT I h2;have hu0:A.units<cLine:=P1z (S2z _ _) hu
  have hu1:A.in1.units+deps ds<cLine:=by have:dep (.tup ds)=deps ds+1:=rfl;rw[jL];omega
  cases d' with
  | str x=>simp only[Rep] at h';subst h';obtain⟨t,rfl⟩:=r';exact EqAt.tuple_str x t p hu0
  | tup es =>
   have hh':=h';simp only[Rep] at h';obtain⟨b,us,rfl,h2',h3'⟩:=h';cases (show u'=Value.ref b from r');obtain⟨its',rv',p'⟩:=isT I h2'
   by_cases hab:a=b
   .subst hab
    have:=Rep.inj I _ _ _ z z' hh hh';rw[<- this,jU _ z];exact EqAt.same _
   .have q:=RcAt.tuples p p' hu0 (e:=eJ ds es) fun j g1 g2=>iT I ds es vs us its its' A.in1 h3 h3' rv rv' hu1 (by simp only[dep] at z;omega) (by simp only[dep] at z';omega) kk j _ _ (by simp at g1 ⊢) (by simp at g2 ⊢)
    have l1:=h3.length;have l2:=rv.length;have l3:=h3'.length;have l4:=rv'.length
    rw[B2z,B2z,<- l2,<- l1,<- l4,<- l3,zU] at q;exact .of_refs hab q
  | _=>simp[gA] at kk
 | .lst ds,d',v,v',u,u',A,h,h',r,r',hu,z,z',kk=>by
  have hh:=h;simp only[Rep] at h;obtain⟨a,vs,rfl,h2,h3⟩:=h;cases (show u=Value.ref a from r);obtain⟨its,rv,p⟩:=isL I h2;have hu0:A.units<cLine:=P1z (S2z _ _) hu
  have hu1:A.in1.units+deps ds<cLine:=by have:dep (.lst ds)=deps ds+1:=rfl;rw[jL];omega
  cases d' with
  | lst es =>
   have hh':=h';simp only[Rep] at h';obtain⟨b,us,rfl,h2',h3'⟩:=h';cases (show u'=Value.ref b from r');obtain⟨its',rv',p'⟩:=isL I h2';have l1:=h3.length;have l2:=rv.length;have l3:=h3'.length;have l4:=rv'.length
   by_cases hab:a=b
   .subst hab
    have:=Rep.inj I _ _ _ z z' hh hh';rw[<- this,jU _ z];exact EqAt.same _
   .by_cases hl:ds.length=es.length
    .have q:=RcAt.lists p p' (by simp;omega) hu0 (e:=eJ ds es) fun j g1 g2=>iT I ds es vs us its its' A.in1 h3 h3' rv rv' hu1 (by simp only[dep] at z;omega) (by simp only[dep] at z';omega) kk j _ _ (by simp at g1 ⊢) (by simp at g2 ⊢)
     rw[B2z,<- l2,<- l1,zT _ _ hl] at q;exact .of_refs hab q
    .have q:=RcAt.lists_lengths p p' (by simp;omega) hu0
     rw[show deq (.lst ds) (.lst es)=qz ds es from rfl,oA hl];exact .of_refs hab q
  | _=>simp[gA] at kk
 | .exc c,d',v,v',u,u',A,h,h',r,r',hu,z,z',kk=>by cases d'<;>simp[gA] at kk
 | .dic _ _,d',v,v',u,u',A,h,h',r,r',hu,z,z',kk=>by cases d'<;>simp[gA] at kk
 | .obj _,d',v,v',u,u',A,h,h',r,r',hu,z,z',kk=>by cases d'<;>simp[gA] at kk
theorem iT(I:Inv X z0 Y H s):∀ (ds es:List D) (vs us:List V) (its its':List Value) (A:Around),aJ X.K H ds vs->aJ X.K H es us->Vals vs its->Vals us its'->A.units+deps ds<cLine->deps ds<1000->deps es<1000->oH ds es=true ->
  ∀ (j:Nat) (u u':Value),its[j]?=some u->its'[j]?=some u'->EqAt A s u u' (eJ ds es j)
 | [],es,vs,us,its,its',A,h,h',r,r',hu,z,z',kk,j,u,u',e1,e2=>by
  simp only[aJ] at h;subst h;cases r;simp at e1
 | d::ds,es,vs,us,its,its',A,h,h',r,r',hu,z,z',kk,j,u,u',e1,e2=>by
  simp only[aJ] at h;obtain⟨v,vr,rfl,h2,h3⟩:=h
  cases r with
  | cons r rr =>
   cases es with
   | nil=>simp only[aJ] at h';subst h';cases r';simp at e2
   | cons e es =>
    simp only[aJ] at h';obtain⟨v',vr',rfl,h2',h3'⟩:=h'
    cases r' with
    | cons r' rr' =>
     rw[oH,U2z] at kk;have hd:dep d<=deps (d::ds):=Nat.le_max_left _ _;have hds:deps ds<=deps (d::ds):=Nat.le_max_right _ _
     cases j with
     | zero =>
      simp at e1 e2;subst e1 e2
      exact zQ I d e v v' _ _ A h2 h2' r r' (by omega) (by simp only[deps] at z;omega) (by simp only[deps] at z';omega) kk.1
     | succ j =>
      have q:=iT I ds es vr vr' _ _ A h3 h3' rr rr' (by omega) (by simp only[deps] at z;omega) (by simp only[deps] at z';omega) kk.2 j u u' (by simpa using e1) (by simpa using e2)
      simpa[eJ] using q
end
theorem oJ(I:Inv X z0 Y H s){d d':D}{v v':V}{u u':Value}(A:Around)(h:Rep X.K H d v)(h':Rep X.K H d' v')(r:RelV v u)(r':RelV v' u')(hu:A.units+dep d<cLine)(z:dep d<1000)(z':dep d'<1000)(kk:gA d d'=true):RcAt A s u u' (deq d d')/\RcNeAt A s u u' (!deq d d'):=by
 have hu0:A.units<cLine:=P1z (S2z _ _) hu
 cases d with
 | bl c =>
  simp only[Rep] at h;subst h;cases (show u=Value.bool c from r)
  cases d' with
  | bl b=>simp only[Rep] at h';subst h';cases (show u'=Value.bool b from r');exact⟨RcAt.bool_bool c b,RcNeAt.bool_bool c b⟩
  | _=>simp[gA] at kk
 | int c =>
  simp only[Rep] at h;subst h;obtain⟨t0,rfl⟩:=r
  cases d' with
  | int i=>simp only[Rep] at h';subst h';obtain⟨t,rfl⟩:=r';exact⟨RcAt.int_int c t0 i t,RcNeAt.int_int c t0 i t⟩
  | _=>simp[gA] at kk
 | str c =>
  simp only[Rep] at h;subst h;obtain⟨t0,rfl⟩:=r
  cases d' with
  | str x=>simp only[Rep] at h';subst h';obtain⟨t,rfl⟩:=r';exact⟨RcAt.str_str c t0 x t,RcNeAt.str_str c t0 x t⟩
  | _=>simp[gA] at kk
 | tup ds =>
  simp only[Rep] at h;obtain⟨a,vs,rfl,h2,h3⟩:=h;cases (show u=Value.ref a from r);obtain⟨its,rv,p⟩:=isT I h2
  have hu1:A.in1.units+deps ds<cLine:=by have:dep (.tup ds)=deps ds+1:=rfl;rw[jL];omega
  cases d' with
  | str x=>simp only[Rep] at h';subst h';obtain⟨t,rfl⟩:=r';exact⟨RcAt.tuple_str x t p hu0,RcNeAt.tuple_str x t p hu0⟩
  | tup es =>
   simp only[Rep] at h';obtain⟨b,us,rfl,h2',h3'⟩:=h';cases (show u'=Value.ref b from r');obtain⟨its',rv',p'⟩:=isT I h2'
   have l1:=h3.length;have l2:=rv.length;have l3:=h3'.length;have l4:=rv'.length
   have he:∀ j (g1:j<its.toArray.size) (g2:j<its'.toArray.size),EqAt A.in1 s its.toArray[j] its'.toArray[j] (eJ ds es j):=fun j g1 g2=>iT I ds es vs us its its' A.in1 h3 h3' rv rv' hu1 (by simp only[dep] at z;omega) (by simp only[dep] at z';omega) kk j _ _ (by simp at g1 ⊢) (by simp at g2 ⊢)
   have q:=RcAt.tuples p p' hu0 he;have q':=RcNeAt.tuples p p' hu0 he;rw[B2z,B2z,<- l2,<- l1,<- l4,<- l3,zU] at q q';exact⟨q,q'⟩
  | _=>simp[gA] at kk
 | lst ds =>
  simp only[Rep] at h;obtain⟨a,vs,rfl,h2,h3⟩:=h;cases (show u=Value.ref a from r);obtain⟨its,rv,p⟩:=isL I h2
  have hu1:A.in1.units+deps ds<cLine:=by have:dep (.lst ds)=deps ds+1:=rfl;rw[jL];omega
  cases d' with
  | lst es =>
   simp only[Rep] at h';obtain⟨b,us,rfl,h2',h3'⟩:=h';cases (show u'=Value.ref b from r');obtain⟨its',rv',p'⟩:=isL I h2'
   have l1:=h3.length;have l2:=rv.length;have l3:=h3'.length;have l4:=rv'.length
   by_cases hl:ds.length=es.length
   .have he:∀ j (g1:j<its.toArray.size) (g2:j<its'.toArray.size),EqAt A.in1 s its.toArray[j] its'.toArray[j] (eJ ds es j):=fun j g1 g2=>iT I ds es vs us its its' A.in1 h3 h3' rv rv' hu1 (by simp only[dep] at z;omega) (by simp only[dep] at z';omega) kk j _ _ (by simp at g1 ⊢) (by simp at g2 ⊢)
    have q:=RcAt.lists p p' (by simp;omega) hu0 he
    have q':=RcNeAt.lists p p' (by simp;omega) hu0 he
    rw[B2z,<- l2,<- l1,zT _ _ hl] at q q';exact⟨q,q'⟩
   .rw[show deq (.lst ds) (.lst es)=qz ds es from rfl,oA hl]
    exact⟨RcAt.lists_lengths p p' (by simp;omega) hu0,RcNeAt.lists_lengths p p' (by simp;omega) hu0⟩
  | _=>simp[gA] at kk
 | _=>cases d'<;>simp[gA] at kk
end
def iB(X:Cx)(e:Expr):TE:=fun Y H Q=>∀ z0 s,Inv X z0 Y H s->wpAny (model X.prog X.w) X.A (eval e X.env) (EP X z0 Y Q) X.xe s
def lW(X:Cx)(e:Expr):TT:=fun Y H Q=>∀ z0 s,Inv X z0 Y H s->wpAny (model X.prog X.w) X.A (isTrue e X.env (eval e X.env)) (TP X z0 Y Q) X.xe s
def wY(X:Cx)(es:List Expr):TA:=fun Y H Q=>∀ pos z0 s,Inv X z0 Y H s->wpAny (model X.prog X.w) X.A (spliced (backTo pos (starEach es X.env))) (AP X z0 Y Q) X.xe s
def vq(X:Cx)(tg iter:Expr):TI:=fun Y H R=>∀ z0 s,Inv X z0 Y H s->wpAny (model X.prog X.w) X.A (eval iter X.env) (fun v s1=>wpAny (model X.prog X.w) X.A (pyIter v) (PIE X z0 Y tg R) X.xe s1) X.xe s
section
variable {X:Cx} {e:Expr}
theorem au:PE X e (iB X e):=fun z0 s Y H Q I h=>h z0 s I
theorem cY:PT X e (lW X e):=fun z0 s Y H Q I h=>h z0 s I
theorem cL{es:List Expr}:PA X es (wY X es):=fun pos z0 s Y H Q I h=>h pos z0 s I
theorem uo{tg iter:Expr}:PI X tg iter (vq X tg iter):=fun z0 s Y H R I h=>h z0 s I
theorem PE.sem{t:TE}{Y:St}{H:Hp}{Q:VK}(h:PE X e t)(q:t Y H Q):iB X e Y H Q:=fun z0 s I=>h z0 s Y H Q I q
theorem PT.sem{t:TT}{Y:St}{H:Hp}{Q:Bool->Hp->Prop}(h:PT X e t)(q:t Y H Q):lW X e Y H Q:=fun z0 s I=>h z0 s Y H Q I q
theorem PA.sem{es:List Expr}{t:TA}{Y:St}{H:Hp}{Q:List V->Hp->Prop}(h:PA X es t)(q:t Y H Q):wY X es Y H Q:=fun pos z0 s I=>h pos z0 s Y H Q I q
theorem PI.sem{tg iter:Expr}{t:TI}{Y:St}{H:Hp}{R:It->Hp->Prop}(h:PI X tg iter t)(q:t Y H R):vq X tg iter Y H R:=fun z0 s I=>h z0 s Y H R I q
end
def bJ(K:Z3)(Hs:Hp)(U:Rho)(Y:St):Prop:=∀ (i:Nat) (x:Str) (d:D),U[i]?=some (x,.sh d)->∃ v,Y[i]?=some (some v)/\Rep K Hs d v
theorem bJ.same{K:Z3}{Hs Hs':Hp}{U:Rho}{Y:St}(h:bJ K Hs U Y)(e:Same Hs Hs'):bJ K Hs' U Y:=fun i x d q=>by
 obtain⟨v,e1,e2⟩:=h i x d q;exact⟨v,e1,Rep.same e d v e2⟩
def Kl(K:Z3)(J:It)(Hs0:Hp)(ds:List D):Prop:=∀ Hs H,Same Hs0 Hs->Same Hs H->J.stop ds.length H/\∀ (i:Nat) (d:D),ds[i]?=some d->J.go i H/\∀ x H',J.yld i H x H'->∃ Hs',Ext Hs H Hs' H'/\Rep K Hs' d x
def Ev(X:Cx)(U:Rho)(e:Expr)(d:D):Prop:=∀ Y H Hs Q,Same Hs H->bJ X.K Hs U Y->(∀ v H' Hs',Ext Hs H Hs' H'->Rep X.K Hs' d v->Q v H')->iB X e Y H Q
def EvT(X:Cx)(U:Rho)(e:Expr)(b:Bool):Prop:=∀ Y H Hs Q,Same Hs H->bJ X.K Hs U Y->(∀ H' Hs',Ext Hs H Hs' H'->Q b H')->lW X e Y H Q
def EvA(X:Cx)(U:Rho)(es:List Expr)(ds:List D):Prop:=∀ Y H Hs Q,Same Hs H->bJ X.K Hs U Y->(∀ vs H' Hs',Ext Hs H Hs' H'->aJ X.K Hs' ds vs->Q vs H')->wY X es Y H Q
def EvI(X:Cx)(U:Rho)(tg iter:Expr)(ds:List D):Prop:=∀ Y H Hs R,Same Hs H->bJ X.K Hs U Y->(∀ J H' Hs',Ext Hs H Hs' H'->Kl X.K J Hs' ds->R J H')->vq X tg iter Y H R
def spX(K:Z3)(call:Str->List D->Option D)(callx:Str->List D->Option Str)(f:Str)(ps:List Str):Sp:=fun vs H Q E=>vs.length=ps.length/\∃ Hs ds,Same Hs H/\aJ K Hs ds vs /\
 ((∃ d,call f ds=some d/\∀ v H' Hs',Ext Hs H Hs' H'->Rep K Hs' d v->Q v H')\/(∃ c,callx f ds=some c/\∀ C H' Hs',PySem.W.nsIn K mainGlobals c=some (some (.ref C))->Ext Hs H Hs' H'->E (.ref C) none H'))
def Ed(K:Z3)(exs:List Str)(top:Str):Bool:=match PySem.W.nsIn K mainGlobals top with
  | some (some (.ref M))=>exs.all fun c=>match PySem.W.nsIn K mainGlobals c with
    | some (some (.ref C)) => xIn K C M && m8 K C && PySem.W.exmOne K (.ref C) (.ref M) == some true && PySem.W.kitOne K (.ref C) (.ref M) == some true && PySem.W.kitOne K (.ref C) (.type "ValueError") == some true &&
      exs.all fun c'=>match PySem.W.nsIn K mainGlobals c' with
        | some (some (.ref C'))=>PySem.W.kitOne K (.ref C) (.ref C')==some (c==c')
        | _=>false
    | _=>false
  | _=>exs.isEmpty
structure XText (K:Z3) (mg:Str->Option Value) (exs:List Str) (top:Str):Prop where
 glob:∀ x v,PySem.W.nsIn K mainGlobals x=some (some v)->mg x=some v
 cls:∀ c,exs.contains c=true->∃ C M,PySem.W.nsIn K mainGlobals c=some (some (.ref C))/\PySem.W.nsIn K mainGlobals top=some (some (.ref M))/\xIn K C M=true/\m8 K C=true/\PySem.W.exmOne K (.ref C) (.ref M)=some true/\PySem.W.kitOne K (.ref C) (.ref M)=some true/\PySem.W.kitOne K (.ref C) (.type "ValueError")=some true
 sub:∀ c c',exs.contains c=true->exs.contains c'=true->∃ C C',PySem.W.nsIn K mainGlobals c=some (some (.ref C))/\PySem.W.nsIn K mainGlobals c'=some (some (.ref C'))/\PySem.W.kitOne K (.ref C) (.ref C')=some (c==c')
theorem XText.of{K:Z3}{mg:Str->Option Value}{exs:List Str}{top:Str}(hg:∀ x v,PySem.W.nsIn K mainGlobals x=some (some v)->mg x=some v)(h:Ed K exs top=true):XText K mg exs top:=by
 unfold Ed at h;split at h
 .rename_i M hM
  have all:=fun c (hc:exs.contains c=true)=>A3z.mp h c (by simpa using hc);refine⟨hg,fun c hc=>?_,fun c c' hc hc'=>?_⟩
  .have q:=all c hc
   split at q
   .rename_i C hC
    simp only[U2z,beq_iff_eq] at q;exact⟨C,M,hC,hM,q.1.1.1.1.1,q.1.1.1.1.2,q.1.1.1.2,q.1.1.2,q.1.2⟩
   .cases q
  .have q:=all c hc
   split at q
   .rename_i C hC
    simp only[U2z] at q;have q2:=A3z.mp q.2 c' (by simpa using hc');split at q2
    .rename_i C' hC'
     exact⟨C,C',hC,hC',by simpa using q2⟩
    .cases q2
   .cases q
 .have e:exs=[]:=by simpa using h
  subst e;exact⟨hg,fun c hc=>absurd hc (by simp),fun c c' hc=>absurd hc (by simp)⟩
structure Good (cx:Cxt) (k:Nat) (X:Cx) (sc:Scope):Prop where
 calm:X.calm=true
 room:Room k X.A
 sce:X.env.scope=sc
 kind:sc.kind=.function
 nd:X.N.Nodup
 cst:∀ x d,cx.cst.lookup x=some d->∃ v u,(∀ H,Rep X.K H d v)/\X.mg x=some u/\RelV v u
 blt:∀ x b,cx.blt.lookup x=some b->X.mg x=none/\x=Str.ofString b
 exs:XText X.K X.mg cx.exs cx.top
 fns:∀ f,cx.fns.contains f=true->(f==("__debug__":Str))=false/\∃ a fd ps,(∀ ds d,cx.call f ds=some d->ds.length=ps.length)/\(∀ ds c,cx.callx f ds=some c->ds.length=ps.length)/\X.mg f=some (.ref a)/\PySem.W.keepIn X.K (.ref a)=true/\Binds X.K fd ps []/\FnOk X.prog X.w X.K X.mg X.base (CX1 X.prog X.w) k a fd ps (spX X.K cx.call cx.callx f ps)
 kw:KnW X.K X.w
section
variable {X:Cx} {U:Rho} {cx:Cxt} {k:Nat} {sc:Scope}
theorem eO:∀ {U:Rho} {x:Str} {s:Sl},U.lookup x=some s->∃ i:Nat,U[i]?=some (x,s)/\(U.map (·.1)).idxOf? x=some i
 | (y,t)::r,x,s,h=>by
  rw[O2z] at h
  cases hb:x==y with
  | true =>
   rw[hb] at h;cases h
   have:x=y:=by simpa using hb
   subst this;exact⟨0,rfl,by simp[List.idxOf?,List.findIdx?_cons]⟩
  | false =>
   rw[hb] at h;obtain⟨i,h1,h2⟩:=eO h;refine⟨i+1,by simpa using h1,?_⟩
   have hy:(y==x)=false:=by
    rw[C1z] at hb ⊢;exact fun e=>hb e.symm
   simp only[A4z,List.idxOf?,List.findIdx?_cons,hy,Q1z,I5z];simp only[List.idxOf?] at h2;rw[h2];rfl
theorem zK{x:Str}{d:D}{pos:Pos}(hN:X.N=U.map (·.1))(hv:Vis X.env.scope x)(hp:aH x=true)(h:U.lookup x=some (.sh d)):Ev X U (.Name x pos) d:=by
 intro Y H Hs Q hs hr hq;obtain⟨i,h1,_⟩:=eO h;obtain⟨v,e1,e2⟩:=hr i x d h1;unfold aH at hp;rw[U2z,E5z,E5z] at hp;refine PE.sem (mD (i:=i) (by rw[hN,List.getElem?_map,h1];rfl) hv (by simpa using hp.1) (by simpa using hp.2)) ⟨v,e1,hq v H Hs (.refl hs) e2⟩
theorem Oc{x:Str}{d:D}{v:V}{u:Value}{pos:Pos}(hg:Gl X x)(hd:∀ H,Rep X.K H d v)(hm:X.mg x=some u)(r:RelV v u)(hp:aH x=true):Ev X U (.Name x pos) d:=by
 intro Y H Hs Q hs hr hq;unfold aH at hp;rw[U2z,E5z,E5z] at hp;exact PE.sem (kY hg hm r (by simpa using hp.1)) (hq _ H Hs (.refl hs) (hd Hs))
theorem uN{c:Const}{d:D}{j:Nat}{pos:Pos}(h:(match c with | .none=>some D.non | .bool b=>some (.bl b) | .int i=>some (.int i) | .str x=>some (.str x) | _=>none)=some d):Ev X U (.Constant c j pos) d:=by
 intro Y H Hs Q hs hr hq
 cases c<;>simp at h<;>subst h
 .exact PE.sem Fb (hq _ H Hs (.refl hs) (by simp[Rep]))
 .exact PE.sem QT (hq _ H Hs (.refl hs) (by simp[Rep]))
 .exact PE.sem Mj (hq _ H Hs (.refl hs) (by simp[Rep]))
 .exact PE.sem kW (hq _ H Hs (.refl hs) (by simp[Rep]))
theorem fU{a b:Expr}{x y d:D}{r:R2}{e:Expr}(ha:Ev X U a x)(hb:Ev X U b y)(hp:PE X e (tOp r (iB X a) (iB X b)))
  (hr:∀ u v H Hs Q,Same Hs H->Rep X.K Hs x u->Rep X.K Hs y v->(∀ w H' Hs',Ext Hs H Hs' H'->Rep X.K Hs' d w->Q w H')->r u v H Q):Ev X U e d:=by
 intro Y H Hs Q hs hst hq;refine hp.sem (ha Y H Hs _ hs hst fun u H1 Hs1 E1 r1=>hb Y H1 Hs1 _ E1.sub (hst.same E1.vis) fun v H2 Hs2 E2 r2=>?_);exact hr u v H2 Hs2 Q E2.sub (Rep.same E2.vis x u r1) r2 fun w H' Hs' E3 r3=>hq w H' Hs' (E1.trans (E2.trans E3)) r3
theorem tY{i:Int}(h:small i=true):-(2^64)<i/\i<2^64:=by
 unfold small at h;rw[U2z,H2z,H2z] at h;exact h
theorem j6{n:Nat}(h:szl n=true):n<=sizeLine:=by
 unfold szl at h;rw[H2z] at h;exact L4z h (by rw[U4z];decide)
theorem Ej{n:Nat}(h:szl n=true):n<sizeLine:=by
 unfold szl at h;rw[H2z] at h;exact P1z h (by rw[U4z];decide)
theorem aX{K:Z3}{H:Hp}{i:Int}{v:V}(h:Rep K H (.int i) v):v=.int i:=by simpa[Rep] using h
theorem dz{K:Z3}{H:Hp}{i:Bool}{v:V}(h:Rep K H (.bl i) v):v=.bl i:=by simpa[Rep] using h
theorem cu{K:Z3}{H:Hp}{ds:List D}{v:V}(h:Rep K H (.tup ds) v):∃ a vs,v=.ref a/\SqT K H a vs/\aJ K H ds vs:=by simpa[Rep] using h
theorem cT{K:Z3}{H:Hp}{ds:List D}{v:V}(h:Rep K H (.lst ds) v):∃ a vs,v=.ref a/\SqL K H a vs/\aJ K H ds vs:=by simpa[Rep] using h
theorem gW{Hs H:Hp}{ds:List D}{vs:List V}{p:Addr}{Q:VK}(hs:Same Hs H)(hr:aJ X.K Hs ds vs)(hp:H p=none)(hq:∀ w H' Hs',Ext Hs H Hs' H'->Rep X.K Hs' (.tup ds) w->Q w H'):Q (.ref p) (upd H p (.tup vs)) :=
 hq _ _ _ (Ext.new hs (.tup vs) hp) (by simp only[Rep];exact⟨p,vs,rfl,.of aB,aJ.same (Ext.new hs (.tup vs) hp).vis ds vs hr⟩)
theorem nQ{Hs H:Hp}{ds:List D}{vs:List V}{p:Addr}{Q:VK}(hs:Same Hs H)(hr:aJ X.K Hs ds vs)(hp:H p=none)(hq:∀ w H' Hs',Ext Hs H Hs' H'->Rep X.K Hs' (.lst ds) w->Q w H'):Q (.ref p) (upd H p (.lst vs)) :=
 hq _ _ _ (Ext.new hs (.lst vs) hp) (by simp only[Rep];exact⟨p,vs,rfl,.of aB,aJ.same (Ext.new hs (.lst vs) hp).vis ds vs hr⟩)
def QM(K:Z3):R2:=fun x y H Q=>∃ a b xs ys,x=.ref a/\y=.ref b/\SqT K H a xs/\SqT K H b ys/\xs.length+ys.length<=sizeLine /\
 (xs=[]->Q (.ref b) H)/\(xs≠[]->ys=[]->Q (.ref a) H)/\(xs≠[]->ys≠[]->∀ p,H p=none->Q (.ref p) (upd H p (.tup (xs++ys))))
theorem Il:OpR X (binaryOp .Add) (QM X.K):=by
 intro z0 s Y H x y v u Q I rx ry h;obtain⟨a,b,xs,ys,rfl,rfl,ha,hb,hz,q0,q1,q2⟩:=h
 by_cases hx:xs=[]
 .subst hx
  cases (show v=Value.ref a from rx);cases (show u=Value.ref b from ry);obtain⟨its,r1,p1,_⟩:=I.tuple ha;obtain⟨its2,r2,p2,_⟩:=I.tuple hb;have e0:its=[]:=r1.nil_iff.mpr rfl;subst e0;obtain⟨⟨c,dd,data,sl⟩,ho,hc,n,hd⟩:=id p1;obtain⟨⟨c2,dd2,data2,sl2⟩,ho2,hc2,n2,hd2⟩:=id p2;simp only at hc hd hc2 hd2;subst hc hd hc2 hd2;exact concat_meets ⟨_,ho,rfl⟩ ⟨_,ho2,rfl⟩ noFill_tuple_add seq_tuple_add K0z D0z (C0z _ _) (tuple_addW0 a b _ its2.toArray n n2 dd dd2 sl sl2 rfl) ⟨ho,ho2,.ref b,H,I,rfl,q0 rfl⟩
 .exact Ij z0 s Y H (.ref a) (.ref b) v u Q I rx ry ⟨a,b,xs,ys,rfl,rfl,ha,hb,hx,hz,q1 hx,q2 hx⟩
def Pa(i j:Int):Prop:=Xa i j\/(i.natAbs.log2<10000/\j.natAbs.log2<10000)
theorem Fp{i:Int}(h:mid i=true):i.natAbs.log2<10000:=by unfold mid at h;simpa using h
theorem uZ{i:Int}(h:i.natAbs.log2<10000):Builtin.Int.intBits i<=2^20:=by
 unfold Builtin.Int.intBits
 split<;>omega
theorem Ih:OpR X (binaryOp .Mult) (rI Pa fun i j=>.int (i*j)):=opI fun _ _ _ _ _ _ _ hc q=>mul_int q (hc.elim (fun z=>z.ok) fun z=>.of_bits (uZ z.1) (uZ z.2))
theorem uO{a b:Expr}{op:Operator}{x y d:D}{pos:Pos}(ha:Ev X U a x)(hb:Ev X U b y)(h:binop op x y=some d):Ev X U (.BinOp a op b pos) d:=by
 unfold binop at h;split at h
 .cases h
  exact fU ha hb (rJ Mv au au) fun u v H Hs Q hs r1 r2 hq=>⟨_,_,aX r1,aX r2,hq _ H Hs (.refl hs) (by simp[Rep])⟩
 .split at h
  .rename_i hz
   cases h;refine fU ha hb (rJ Il au au) fun u v H Hs Q hs r1 r2 hq=>?_;obtain⟨p,us,rfl,h1,h2⟩:=cu r1;obtain⟨q,ws,rfl,h3,h4⟩:=cu r2;have l1:=h2.length;have l2:=h4.length
   have nil:∀ (l:List D),l.length=0->l=[]:=fun l hl=>by cases l<;>simp at hl ⊢
   refine⟨p,q,us,ws,rfl,rfl,hs.tup h1,hs.tup h3,by have:=j6 hz;omega,fun e=>?_,fun _ e=>?_,fun _ _ l hl=>gW hs (h2.append h4) hl hq⟩
   .subst e
    have e2:=nil _ l1;subst e2;exact hq _ H Hs (.refl hs) r2
   .subst e
    have e2:=nil _ l2;subst e2;refine hq _ H Hs (.refl hs) ?_;rw[F3z];exact r1
  .cases h
 .split at h
  .rename_i hz
   cases h;refine fU ha hb (rJ Ik au au) fun u v H Hs Q hs r1 r2 hq=>?_;obtain⟨p,us,rfl,h1,h2⟩:=cT r1;obtain⟨q,ws,rfl,h3,h4⟩:=cT r2;have l1:=h2.length;have l2:=h4.length;exact⟨p,q,us,ws,rfl,rfl,hs.seq h1,hs.seq h3,by have:=j6 hz;omega,fun l hl=>nQ hs (h2.append h4) hl hq⟩
  .cases h
 .cases h
  exact fU ha hb (rJ Mr au au) fun u v H Hs Q hs r1 r2 hq=>⟨_,_,aX r1,aX r2,hq _ H Hs (.refl hs) (by simp[Rep])⟩
 .split at h
  .rename_i hz
   cases h;rw[N3z,N3z,U2z] at hz;have hz':Pa _ _:=hz.elim (fun z=>z.elim (fun z=>.inl (.inl (tY z))) (fun z=>.inl (.inr (tY z)))) (fun z=>.inr ⟨Fp z.1,Fp z.2⟩);exact fU ha hb (rJ Ih au au) fun u v H Hs Q hs r1 r2 hq=>⟨_,_,aX r1,aX r2,hz',hq _ H Hs (.refl hs) (by simp[Rep])⟩
  .cases h
 .split at h
  .rename_i hz
   cases h;rw[U2z,H2z,H2z] at hz;exact fU ha hb (rJ Ii au au) fun u v H Hs Q hs r1 r2 hq=>⟨_,_,aX r1,aX r2,hz,hq _ H Hs (.refl hs) (by simp[Rep])⟩
  .cases h
 .split at h
  .rename_i hz
   cases h;rw[H2z] at hz;exact fU ha hb (rJ Mt au au) fun u v H Hs Q hs r1 r2 hq=>⟨_,_,aX r1,aX r2,hz,hq _ H Hs (.refl hs) (by simp[Rep])⟩
  .cases h
 .cases h
end
end L2
namespace PySem
theorem gG:typeLookup (.type "list") "__getattr__"=pure none:=by rw[K3z,O0z];rfl'
theorem qx:typeLookup (.type "list") "keys"=pure none:=am_miss_of_fast (by rfl')
theorem DN:entryFor table "list.__getattribute__"=some Builtin.«object.__getattribute__» :=
 entryFor_alias (id':="object.__getattribute__") (by rfl') (by decide +kernel) (by decide +kernel) (by rfl')
theorem DK{a:Addr}{vs:Array Value}{c:Nat}{sl:Array (Option Value)}(u:Tok) :
  Meets (Builtin.«object.__getattribute__» ⟨[.ref a,.str "keys" u],[]⟩) (fun A R s=>s.heap.get? a=some { cls:=.type "list",dict:=none,data:=.seq vs c,slots:=sl }/\raisesAttr (.ref a) "keys" A R s) :=
 Meets.of_wp fun prog w A R s hs=>by
  obtain⟨hp,g,d,tk,os⟩:=s;obtain⟨ho,hs⟩:=hs;dsimp only at ho;have hmiss:=qx;unfold Builtin.«object.__getattribute__»
  repeat (any_goals (first | assumption | wp_step))
  exact wpAny_raiseAttrError hs.1 hs.2 (attrMsg_fits (by decide +kernel) (by decide))
theorem zX{prog:Program}{w:World}{A:Around}{E:Value->Shared->Prop}{s:Shared}{a:Addr}{vs:Array Value}{c:Nat}{sl:Array (Option Value)}{Q:Option Value->Shared->Prop}(ho:s.heap.get? a=some { cls:=.type "list",dict:=none,data:=.seq vs c,slots:=sl })(hA:A.handled=none)
  (h:∀ h' tk,(∀ b ob,s.heap.get? b=some ob->h'.get? b=some ob)->Q none { s with heap:=h',toks:=tk }) :
  wpAny (model prog w) A (getAttr? (.ref a) "keys") Q E s:=by
 obtain⟨hp,g,d,tk,os⟩:=s;dsimp only at ho;have hT:∀ (h':Heap) g d tk os,h'.get? a=some { cls:=.type "list",dict:=none,data:=.seq vs c,slots:=sl }->Shared.TypeIs ⟨h',g,d,tk,os⟩ (.ref a) "list":=fun h' g d tk os e=>⟨_,e,rfl⟩;have f1:=sub_AttributeError;have f3:=F.slot_list_getattribute.lookup;have f4:=F.slot_list_getattribute.bind (.ref a);have f5:=gG;unfold getAttr? getAttrBy? getAttrBy
 repeat (any_goals (first | assumption | ((with_reducible show wpAny _ _ (call (Value.builtin "list.__getattribute__") _ _) _ _ _);refine D5z F.slot_list_getattribute (hT _ _ _ _ _ ho) DN (F.args_list_getattribute_2 _ _) (DK (vs:=vs) (c:=c) (sl:=sl) _) ⟨ho,hA,fun h' tk' e hx=>?_⟩) | wp_step))
 obtain⟨t',u',he⟩:=hx.there;show wpAny _ _ (getattributeRaised _ _ _ _ _ _ _) _ _ _;unfold getattributeRaised
 repeat (any_goals (first | assumption | wp_step))
 exact h h' tk' hx.keeps
theorem jT:plainId "dict.update.loop"=true:=by decide +kernel
theorem qy:entryFor table "dict.update.loop"=some Builtin.«dict.update.loop» :=R2z (by rfl')
def m6(h:Heap)(b:Addr)(u v:Value):Prop:=∃ o m,h.get? b=some o/\o.cls=.type "tuple"/\o.data=.seq #[u,v] m
section
variable {prog:Program} {w:World} {A:Around} {E:Value->Shared->Prop} {s:Shared}
theorem JV{b:Addr}{u v:Value}{Q:List Value->Shared->Prop}(h:m6 s.heap b u v)(hq:Q [u,v] s):wpAny (model prog w) A (Builtin.Dict.pairItems (.ref b)) Q E s:=by
 obtain⟨o,m,h1,h2,h3⟩:=h;unfold Builtin.Dict.pairItems;refine A5z (Q4z (T:="tuple") ⟨o,h1,h2⟩ ?_);rw[L5z (by decide)];refine A5z (V3z h1 h3 ?_);exact B5z hq
end
section
variable {prog:Program} {w:World} {A:Around} {R:Result->Shared->Prop} {I:Addr} {fp wr:List Addr} {G:Array GenState->Array GenState->Prop} {n:Nat} {P:Nat->Value->Prop} {St:Nat->Shared->Prop} {K:Type} [DecidableEq K] {knd:KeyKind prog w K}
theorem JW(W:WalksS prog w A.in1 I fp wr G n P St)(d:Addr)(hdf:d∉fp){N:Nat}(hN:∀ b∈d::wr,N<=b){h0:Heap}{bs:Nat->Addr}{ks:Nat->K}{us ws:Nat->Value}(hval:∀ i v,i<n->P i v->v=.ref (bs i))(hk:∀ i,i<n->m6 h0 (bs i) (us i) (ws i)/\knd.is (ks i) (us i)=true)(hlt:∀ i,i<n->bs i<N) :
    ∀ (k i : Nat) (s : Shared) (kvs : List (K × Value)) (j : Int) (t : Tok), n - i = k -> i <= n -> St i s -> (∀ b o, b < N -> h0.get? b = some o -> s.heap.get? b = some o) -> s.heap.DictOf knd d kvs -> kvs.length + k <= sizeLine ->
      (∀ s',Moved (d::wr) G s s'->s'.heap.DictOf knd d (merged kvs ((List.range' i k).map fun j=>(ks j,ws j)))->R (.ok (.ret .none)) s') ->
      codeAny (model prog w) A (.builtin "dict.update.loop" ⟨[.ref d,.ref I,.int j t,.none],[]⟩) R s:=by
  have hdw:d∉wr:=fun h=>hdf (W.sub _ h)
  have hsub:∀ b∈wr,b∈d::wr:=fun b hb=>S0z _ hb
  intro k
  induction k with
  | zero =>
    intro i s kvs j t hki hi hst hold hd hz hR
    have hin:i=n:=by omega
    subst hin
    refine M3z qy ?_
    rw[W0z jT _]
    show wpAny _ A.in1 (pyNext (.ref I) >>=_) _ _ s
    refine A5z (W.done s _ _ hst fun s' hm=>?_)
    refine B5z (hR s' (hm.mono hsub) ?_)
    obtain⟨o,es,ep,ho,r⟩:=hd
    exact⟨o,es,ep,hm.heap d _ hdw ho,r⟩
  | succ k ih =>
    intro i s kvs j t hki hi hst hold hd hz hR
    have hin:i<n:=by omega
    refine M3z qy ?_
    rw[W0z jT _]
    show wpAny _ A.in1 (pyNext (.ref I) >>=_) _ _ s
    refine A5z (W.item i s _ _ hin hst fun v s' hP hst' hm=>?_)
    obtain rfl:=hval i v hin hP
    have hd':s'.heap.DictOf knd d kvs:=by
      obtain⟨o,es,ep,ho,r⟩:=hd
      exact⟨o,es,ep,hm.heap d _ hdw ho,r⟩
    have hold':∀ b o,b<N->h0.get? b=some o->s'.heap.get? b=some o:=fun b o hb e=>hm.heap b o (fun q=>absurd (hN b (hsub b q)) (Nat.not_le.mpr hb)) (hold b o hb e)
    obtain⟨⟨o,m,a1,a2,a3⟩,a4⟩:=hk i hin
    have hp:m6 s'.heap (bs i) (us i) (ws i):=⟨o,m,hold' _ _ (hlt i hin) a1,a2,a3⟩
    show wpAny _ A.in1 (holding [Value.ref (bs i)] _ >>=_) _ _ s'
    refine A5z (D4z (A5z (wpAny_tryCatch (JV hp ?_))))
    refine D4z (wpAny_dictSet_pairs a4 hd' (fun h' hd2 hs=>?_) (by omega))
    refine B5z ⟨C4z jT _,ih (i+1) _ (stored kvs (ks i) (ws i)) _ _ (by omega) hin (W.frame _ s' _ _ hst' (Nat.le_succ _) fun b hb o e=>?_) (fun b o hb e=>?_) hd2 ?_ fun s'' hm'' hd3=>?_⟩
    . rw[hs.2 b (fun h:b=d=>hdf (by rw[<- h];exact hb))];exact e
    . rw[hs.2 b (fun h:b=d=>absurd (hN d I1z) (by rw[<- h];exact Nat.not_le.mpr hb))]
      exact hold' b o hb e
    . have:(stored kvs (ks i) (ws i)).length<=kvs.length+1:=by
        unfold stored
        split<;>simp
      omega
    . refine hR s'' (Moved.trans W.gtrans ((hm.mono hsub).then_heap (Nat.le_succ _) fun b o hb e=>?_) hm'') ?_
      . rw[hs.2 b (fun h:b=d=>hb (by rw[h];exact I1z))];exact e
      . rw[V2z,A4z]
        exact hd3
end
section
variable {prog:Program} {w:World} {A:Around} {E:Value->Shared->Prop} {s:Shared} {K:Type} [DecidableEq K] {knd:KeyKind prog w K}
theorem JX{l:Addr}{items:Array Value}{c:Nat}{sl:Array (Option Value)}{bs:Nat->Addr}{ks:Nat->K}{us ws:Nat->Value}{Q:Value->Shared->Prop}(hh:A.handled=none)(ho:s.heap.get? l=some { cls:=.type "list",dict:=none,data:=.seq items c,slots:=sl })
  (hv:∀ i v,i<items.size->items[i]?=some v->v=.ref (bs i)) (hk:∀ i,i<items.size->m6 s.heap (bs i) (us i) (ws i)/\knd.is (ks i) (us i)=true) (hz:items.size<=sizeLine)
  (h:∀ h' tk,h'.DictOf knd s.heap.objs.size (merged [] ((List.range' 0 items.size).map fun j=>(ks j,ws j)))->(∀ b o,s.heap.get? b=some o->h'.get? b=some o)->Q (.ref s.heap.objs.size) { s with heap:=h',toks:=tk }) :
  wpAny (model prog w) A (call (.type "dict") [.ref l]) Q E s:=by
 refine callType_codes (Q₁:=fun obj s₁=>obj=.ref s.heap.objs.size/\s₁={ s with heap:=s.heap.push { cls:=.type "dict",data:=.dict #[] } }) F.kt_called_dict (F.kt_typeCall_dict_1 _) F.entry_dict_init (kt_code_dict_new _ ⟨rfl,rfl⟩) ?_;rintro obj s₁ ⟨rfl,rfl⟩;have hnew:(s.heap.push { cls:=.type "dict",data:=.dict #[] }).DictOf knd s.heap.objs.size []:=Heap.DictOf.new s.heap;have ho1:(s.heap.push { cls:=.type "dict",data:=.dict #[] }).get? l=some { cls:=.type "list",dict:=none,data:=.seq items c,slots:=sl }:=Heap.get?_push_of_some _ ho;have hlS:l<s.heap.objs.size:=J4z ho;refine⟨hnew.typeIs,F.args_dict_init_2 _ _,?_⟩;unfold Builtin.«dict.__init__»;refine A5z ?_;unfold Builtin.Dict.selfAndRest;refine A5z (wpAny_notOrdered_dict hnew.typeIs ?_);show wpAny _ _ (pure (s.heap.objs.size,[Value.ref l])) _ _ _;refine B5z ?_;show wpAny _ _ (Builtin.Dict.updateFrom "dict.__init__" s.heap.objs.size (.ref l) [] .none) _ _ _;unfold Builtin.Dict.updateFrom;refine A5z (Q4z (T:="list") ⟨_,ho1,rfl⟩ ?_);rw[L5z (by decide)];refine A5z (zX ho1 (by simp[hh]) fun h1 tk1 keep=>?_);rw[L5z (show(none:Option Value).isNone=true from rfl)];have ho2:=keep _ _ ho1;have hl2:h1.IsList l items:=⟨_,ho2,rfl,c,rfl⟩
 have hd2:h1.DictOf knd s.heap.objs.size []:=by
  obtain⟨o,es,ep,h3,r⟩:=hnew;exact⟨o,es,ep,keep _ _ h3,r⟩
 have hSz:s.heap.objs.size<h1.objs.size:=by
  obtain⟨o,es,ep,h3,r⟩:=hd2;exact J4z h3
 refine A5z (C5z ?_);refine A5z (wpAny_pyIter_list (s:={ s with heap:=h1,toks:=tk1 }) hl2 ?_);have hneI:l≠h1.objs.size:=K4z (J4z ho2)
 have hSf:s.heap.objs.size∉[h1.objs.size,l]:=by
  simp only[H4z,W2z,or_false,not_or];exact⟨K4z hSz,N4z hlS⟩
 refine B5z ⟨C4z jT _,?_⟩
 refine JW (knd:=knd) ((Walks.list (by simp[hh]) _ l hneI items).toS) s.heap.objs.size hSf (N:=s.heap.objs.size) (h0:=s.heap) (bs:=bs) (ks:=ks) (us:=us) (ws:=ws) (fun b hb=>?_) hv hk (fun i hi=>?_) (items.size-0) 0 _ [] _ _ rfl (V4z _)
  ⟨⟨_,Heap.get?_push_size _ rfl,rfl,rfl⟩,hl2.push _⟩ (fun b o hb e=>Heap.get?_push_of_some _ (keep _ _ (Heap.get?_push_of_some _ e))) (hd2.push _) (by simpa using hz) ?hR
 .rcases H4z.mp hb with rfl | hb
  .exact T4z _
  .rw[X1z.mp hb];exact M4z hSz
 .obtain⟨⟨o,_,e,_⟩,_⟩:=hk i hi
  exact J4z e
 case hR =>
  intro s' hm hd3;obtain⟨h',g',d',tk',os'⟩:=s';have eg:g'=s.gens:=hm.gens;have ed:d'=s.drawn:=hm.drawn;have eo:os'=s.os:=hm.os;subst eg;subst ed;subst eo;refine⟨rfl,h h' tk' hd3 fun b o e=>?_⟩;have hb:=J4z e;have hb1:b≠s.heap.objs.size:=K4z hb;have hb2:b≠h1.objs.size:=K4z (Nat.lt_trans hb hSz);exact hm.heap b o (by simp only[H4z,W2z,or_false,not_or];exact⟨hb1,hb2⟩) (Heap.get?_push_of_some _ (keep _ _ (Heap.get?_push_of_some _ e)))
end
end PySem
namespace L2
open PySem PySem.Spec PyProof.Rows
def wk(K:Z3)(H:Hp):List V->List (Key×V)->Prop
 | [],kvs=>kvs=[]
 | x::r,kvs=>∃ b k v q,x=.ref b/\kvs=(k,v)::q/\SqT K H b [kV k,v]/\wk K H r q
section
variable {X:Cx} {z0:List (Addr×Obj)} {Y:St} {H:Hp} {s:Shared}
abbrev DRow:=Addr×Value×Key×Value
theorem Ez(I:Inv X z0 Y H s):∀ {vs:List V} {its:List Value} {kvs:List (Key×V)},wk X.K H vs kvs->Vals vs its ->
  ∃ rows:List DRow,KV kvs (rows.map fun r=>(r.2.2.1,r.2.2.2))/\its=rows.map (fun r=>Value.ref r.1)/\∀ r∈rows,m6 s.heap r.1 r.2.1 r.2.2.2/\(aQ X.prog X.w).is r.2.2.1 r.2.1=true
 | [],_,_,h,.nil=>by
  cases h;exact⟨[],.nil,rfl,fun r h=>by simp at h⟩
 | _::_,_,_,h,.cons r1 r2=>by
  obtain⟨b,k,v,q,rfl,rfl,h1,h2⟩:=h;obtain⟨rows,a1,a2,a3⟩:=Ez I h2 r2;obtain⟨its',r',⟨o,e1,e2,n,e3⟩,_⟩:=I.tuple h1
  cases r' with
  | cons q1 q2 =>
  cases q2 with
  | cons q3 q4 =>
  cases q4;rename_i u w;refine⟨(b,u,k,w)::rows,.cons ⟨rfl,q3⟩ a1,?_,fun r h=>?_⟩
  .rw[A4z,<- a2]
   congr 1
  .rcases H4z.mp h with rfl | h
   .exact⟨⟨o,n,e1,e2,e3⟩,lD q1⟩
   .exact a3 r h
theorem vY(hc:X.calm=true):dw X (.type "dict") (fun xs H Q=>∃ (a:Addr) (vs:List V) (kvs:List (Key×V)),xs=[.ref a]/\SqL X.K H a vs/\wk X.K H vs kvs/\∀ p ob,H p=none->Q (.ref p) (upd H p (.frz ob (.dK (gM [] kvs))))):=by
 intro z0 s Y H xs us Q I r h;obtain⟨a,vs,kvs,rfl,hl,hp,q⟩:=h
 obtain⟨u,rfl,rfl⟩:∃ u,us=[u]/\u=Value.ref a:=by
  cases r with
  | cons r1 r2=>cases r2;exact⟨_,rfl,r1⟩
 obtain⟨its,r',⟨o,n,e1,e2,e3,e4⟩,z⟩:=I.list hl;obtain⟨oc,od,odt,osl⟩:=o;dsimp only at e2 e3 e4;subst e2 e3 e4;obtain⟨rows,a1,a2,a3⟩:=Ez I hp r'
 have hlen:its.length=rows.length:=by rw[a2,E3z]
 have hkl:kvs.length=rows.length:=by simpa using a1.length
 have d0:DRow:=(0,.none,.inl 0,.none)
 have hrow:∀ i,i<its.toArray.size->∃ rw,rows[i]?=some rw/\rows.getD i d0=rw/\rw∈rows:=fun i hi=>by
  have hi':i<rows.length:=by rw[<- hlen];simpa using hi
  exact⟨rows[i],List.getElem?_eq_getElem hi',by simp[List.getD,hi'],List.getElem_mem hi'⟩
 have hn:=I.hok.fresh (T4z s.heap.objs.size);have rel:KV (gM [] kvs) (merged [] (rows.map fun r=>(r.2.2.1,r.2.2.2))):=a1.merge .nil
 have hz:(gM [] kvs).length<=sizeLine:=by
  have h1:=iK kvs [];rw[List.length_nil] at h1;have:=r'.length;omega
 have hmap:(List.range' 0 its.toArray.size).map (fun j=>((rows.getD j d0).2.2.1,(rows.getD j d0).2.2.2))=rows.map fun r=>(r.2.2.1,r.2.2.2):=by
  apply List.ext_getElem
  .simp[hlen]
  .intro i h1 h2
   simp only[E3z] at h2;simp[List.getD,h2]
 refine JX (knd:=aQ X.prog X.w) (bs:=fun i=>(rows.getD i d0).1) (ks:=fun i=>(rows.getD i d0).2.2.1) (us:=fun i=>(rows.getD i d0).2.1) (ws:=fun i=>(rows.getD i d0).2.2.2) (I.ok.hd hc) e1 (fun i v hi e=>?_) (fun i hi=>?_) (by have:=r'.length;simpa using(by omega:its.length<=sizeLine)) fun h' tk dd keep=>?_
 .obtain⟨rw',b1,b2,b3⟩:=hrow i hi
  show v=Value.ref (rows.getD i d0).1;rw[b2];rw[a2] at e;simp[b1] at e;exact e.symm
 .obtain⟨rw',b1,b2,b3⟩:=hrow i hi
  show m6 s.heap (rows.getD i d0).1 (rows.getD i d0).2.1 (rows.getD i d0).2.2.2/\(aQ X.prog X.w).is (rows.getD i d0).2.2.1 (rows.getD i d0).2.1=true;rw[b2];exact a3 rw' b3
 .rw[hmap] at dd
  obtain⟨ob,hob⟩:∃ ob,h'.get? s.heap.objs.size=some ob:=let ⟨ob,_,_,e,_⟩:=dd;⟨ob,e⟩
  refine⟨.ref s.heap.objs.size,_,I.laid (a:=s.heap.objs.size) (o:=.frz ob (.dK (gM [] kvs))) keep (T4z _) ⟨hob,zY hz ?_ rel dd⟩,rfl,q _ ob hn⟩;exact beq_false_of_ne (N4z I.big)
end
end L2
namespace DE
open PySem
def sY(ks':List (Sum Int Str))(ds':List D):List (Sum Int Str)->List D->Bool
 | k::ks,d::ds=>(match j4 ks' ds' k with
  | some d'=>deq d d'
  | none=>false)&&sY ks' ds' ks ds
 | _,_=>true
def vW(ks:List (Sum Int Str))(ds:List D)(ks':List (Sum Int Str))(ds':List D):Bool:=ks.length==ks'.length&&sY ks' ds' ks ds
end DE
namespace L2
open PySem PySem.Spec PyProof.Rows DE PySem.SeqAt
theorem m9{K:Z3}{H:Hp}{k:Key}:∀ {kvs:List (Key×V)} {ks:List Key} {ds:List D},kvs.map (·.1)=ks->aJ K H ds (kvs.map (·.2)) ->
  (j4 ks ds k=none/\jk kvs k=none)\/∃ d v,j4 ks ds k=some d/\jk kvs k=some v/\Rep K H d v/\d∈ds
 | [],_,ds,rfl,h=>by
  cases ds with
  | nil=>exact .inl ⟨rfl,rfl⟩
  | cons d r=>simp[aJ] at h
 | (k',v)::r,_,ds,rfl,h=>by
  cases ds with
  | nil=>simp[aJ] at h
  | cons d ds =>
   obtain⟨v',q,e,h1,h2⟩:=h;cases e
   by_cases hk:k'=k
   .refine .inr ⟨d,v,?_,iy hk,h1,I1z ..⟩
    unfold j4;rw[A4z,T1z,List.find?_cons_of_pos (by simpa using hk)];rfl
   .rw[iz hk]
    have:j4 (((k',v)::r).map (·.1)) (d::ds) k=j4 (r.map (·.1)) ds k:=by
     unfold j4;rw[A4z,T1z,List.find?_cons_of_neg (by simpa using hk)]
    rw[this];rcases m9 (k:=k) rfl h2 with h3 | ⟨d',v',a1,a2,a3,a4⟩
    .exact .inl h3
    .exact .inr ⟨d',v',a1,a2,a3,S0z _ a4⟩
section
variable {X:Cx} {z0:List (Addr×Obj)} {Y:St} {H:Hp} {s:Shared}
theorem zA(I:Inv X z0 Y H s)(A:Around)(hu:A.units+50<cLine){ks':List Key}{ds':List D}{kvs':List (Key×V)}{vs':List (Key×Value)}(e':kvs'.map (·.1)=ks')(r':aJ X.K H ds' (kvs'.map (·.2)))(kv':KV kvs' vs')(z':∀ d∈ds',dep d<=50) :
  ∀ {kvs:List (Key×V)} {vs:List (Key×Value)} {ds:List D},aJ X.K H ds (kvs.map (·.2))->KV kvs vs->(∀ d∈ds,dep d<=50)->(∀ d∈ds,∀ d'∈ds',gA d d'=true)->W.KeqHits A s vs' vs (sY ks' ds' (kvs.map (·.1)) ds)
 | [],_,ds,_,.nil,_,_=>.nil
 | (k,v)::r,_,ds,h,.cons (b:=(k0,u)) hu1 t,z,zk=>by
  obtain⟨rfl,hu2⟩:k=k0/\RelV v u:=hu1
  cases ds with
  | nil=>simp[aJ] at h
  | cons d ds =>
   obtain⟨v',q,e,h1,h2⟩:=h;cases e;have ih:=zA I A hu e' r' kv' z' h2 t (fun d hd=>z d (S0z _ hd)) fun d hd=>zk d (S0z _ hd);show W.KeqHits A s vs' ((k,u)::_) ((match j4 ks' ds' k with | some d'=>deq d d' | none=>false)&&sY ks' ds' (r.map (·.1)) ds);rcases m9 (k:=k) e' r' with⟨h3,h4⟩ | ⟨d',v',a1,a2,a3,a4⟩
   .rw[h3]
    have:valueAt vs' k=none:=by
     have:=kv'.val k;rw[h4] at this
     cases q:valueAt vs' k with
     | none=>rfl
     | some x=>rw[q] at this;exact this.elim
    exact .miss this
   .rw[a1]
    have:=kv'.val k;rw[a2] at this
    cases q:valueAt vs' k with
    | none=>rw[q] at this;exact this.elim
    | some x =>
     rw[q] at this;have zd:=z d (I1z ..);have zd':=z' d' a4;exact .hit q (zQ I d d' v v' u x A h1 a3 hu2 this (by omega) (by omega) (by omega) (zk d (I1z ..) d' a4)) ih
def Z9(X:Cx)(g:Bool->Bool):R2:=fun u v H Q=>∃ Hs ks ds ks' ds',Same Hs H/\Rep X.K Hs (.dic ks ds) u/\Rep X.K Hs (.dic ks' ds') v/\(∀ d∈ds,dep d<=50)/\(∀ d∈ds',dep d<=50)/\(∀ d∈ds,∀ d'∈ds',gA d d'=true)/\Q (.bl (g (vW ks ds ks' ds'))) H
theorem Ms{k:Nat}(hr:Room k X.A)(kw:KnW X.K X.w):OpR X (compareOp .NotEq) (Z9 X (!·)):=by
 intro z0 s Y H u v w z Q I ru rv h;obtain⟨Hs,ks,ds,ks',ds',hs,h1,h2,z1,z2,zk,q⟩:=h;obtain⟨a,kvs,rfl,a1,a2,a3⟩:=Rep.same hs _ _ h1;obtain⟨b,kvs',rfl,b1,b2,b3⟩:=Rep.same hs _ _ h2;cases (show w=Value.ref a from ru);cases (show z=Value.ref b from rv);obtain⟨ha,vs,ra,da⟩:=d8 I kw a1;obtain⟨hb,vs',rb,db⟩:=d8 I kw b1;have hun:=hr.un;refine W.keq_ne (knd:=aQ X.prog X.w) (r:=sY ks' ds' ks ds) ha hb da db (by omega) (fun _=>?_) ⟨.bl _,H,I,?_,q⟩
 .have:=zA I X.A.in1 (by rw[PySem.Around.in1_units];omega) b2 b3 rb z2 a3 ra z1 zk
  rw[a2] at this;exact this
 .show Value.bool _=Value.bool _
  congr 2;rw[<- ra.length,<- rb.length,<- a2,<- b2,vW];simp
end
end L2
namespace L2
open PySem PySem.Spec PyProof.Rows
def oG(CX:CXT)(P:Program)(w:World)(K:Z3)(mg:Str->Option Value)(base:Heap)(N:List Str)(qual:Str)(scope:Scope)(f:Addr)(cd:Value)(cl:List (Str×Addr))(A:Around)(outer:List Env)(s:Shared)(H:Hp)(E:XK):Cx where
 prog:=P
 w:=w
 K:=K
 mg:=mg
 base:=base
 A:=A.deeper (W.envX qual scope s.heap.objs.size f cd cl)
 N:=N
 s₀:=s
 H₀:=H
 env:=W.envX qual scope s.heap.objs.size f cd cl
 outer:=outer
 stack:=W.envX qual scope s.heap.objs.size f cd cl::outer
 ex:=[]
 calm:=true
 fn:=fun _=>false
 pn:=[]
 xe:=fun e s'=>wpAny (model P w) (A.deeper (W.envX qual scope s.heap.objs.size f cd cl)) (leaving (W.envX qual scope s.heap.objs.size f cd cl) e) (fun _ s''=>CX outer H s E e s'') (fun e' s''=>CX outer H s E e' s'') s'
structure LamNames (base:Heap) (scope:Scope) (N:List Str) (ws:List V) (cl:List (Str×Addr)):Prop where
 kind:scope.kind=.function
 co:scope.isCoroutine=false
 gen:scope.isGenerator=false
 own:∀ x∈scope.names,x.2≠.cell
 len:ws.length=N.length
 val:∀ (i:Nat) x v,N[i]?=some x->ws[i]?=some v->scope.names.lookup x=some .free/\∃ c u,cl.lookup x=some c/\RelV v u/\base.IsCell c (some u)
 inj:∀ x y c,cl.lookup x=some c->cl.lookup y=some c->x=y
 has:∀ x,scope.names.lookup x=some .free->∃ c,cl.lookup x=some c
 cell:∀ x c,cl.lookup x=some c->∃ v,base.IsCell c v
theorem eY{h h':Heap}{c:Addr}{v:Option Value}(x:h.IsCell c v)(k:∀ b o,h.get? b=some o->h'.get? b=some o):h'.IsCell c v:=by
 obtain⟨o,h1,h2⟩:=x;exact⟨o,k _ _ h1,h2⟩
theorem Nu{CX:CXT}{P:Program}{w:World}{K:Z3}{mg:Str->Option Value}{base:Heap}{k:Nat}{f c':Addr}{name qual:Str}{params:Arguments}{body:Expr}{scope:Scope}{pm ctv:Value}{cl:List (Str×Addr)}
  {N:List Str} {ws:List V} {sp:Sp} (lk:base.get? f=some (W.kla_obj name qual params body scope cl pm c' ctv)) (hcd:base.CodeRec (.ref c') qual) (L:LamNames base scope N ws cl)
  (len:∀ vs H Q E,sp vs H Q E->vs.length=0)
  (hbody : ∀ (A : Around) (outer : List Env) (s : Shared) (H : Hp) (Q : VK) (E : XK), Room k (A.deeper (W.envX qual scope s.heap.objs.size f (.ref c') cl)) -> sp [] H Q E ->
   ∃ t,PE (oG CX P w K mg base N qual scope f (.ref c') cl A outer s H E) body t/\t (ws.map some) H Q) :
  FnOk P w K mg base CX (k+1) f (W.kla_fn name qual params body scope cl pm (.ref c') ctv) [] sp:=by
 refine⟨len,fun A outer s H args us vs Q E hr e0 hb r hsp=>?_⟩;have hl:=len _ _ _ _ hsp;obtain rfl:vs=[]:=List.length_eq_zero_iff.mp hl;have keep:∀ b o,base.get? b=some o->s.heap.get? b=some o:=fun b o e=>(e0.bs b o e).1;have lim:s.heap.NoLimit:=e0.mod.nolimit.keeps keep;refine W.kla_callFunE hr.depth (keep _ _ lk) rfl L.co L.gen rfl (hcd.keeps keep) (hb _ _ _ _ ?_);refine wpAny_newFunctionEnv L.own (fun x hx=>by simp at hx) (fun h1 hns hsb=>?_) L.kind;have hk1:∀ b o,s.heap.get? b=some o->h1.get? b=some o:=fun b o e=>hsb.extBut b o (K4z (J4z e)) (Heap.get?_push_of_some _ e);refine⟨lim.keeps hk1,?_⟩;show codeAny _ _ (.expr body (W.envX qual scope s.heap.objs.size f (.ref c') cl)) _ _;obtain⟨t,ht,hq⟩:=hbody A outer s H Q E (hr.deeper _) hsp;have noA:∀ b:Addr,b∉(oG CX P w K mg base N qual scope f (.ref c') cl A outer s H E).ex:=fun b z=>absurd (show b∈([]:List Addr) from z) (by simp);have hlook:∀ x,(W.envX qual scope s.heap.objs.size f (.ref c') cl).kindOf x=scope.names.lookup x:=fun _=>rfl;have nocell:∀ x,scope.names.lookup x≠some .cell:=fun x e=>L.own _ (B1z e) rfl
 have I:Inv (oG CX P w K mg base N qual scope f (.ref c') cl A outer s H E) [] (ws.map some) H { s with heap:=h1,toks:=s.toks+0 }:=by
  refine⟨⟨e0.mod,L.kind,rfl,rfl,T4z _,fun y z c h1 h2=>L.inj y z c h1 h2,fun y hy=>?_,fun y c z _=>(nomatch z),fun _=>hr.hd,Around.frames_deeper e0.frames,.inr ⟨rfl,rfl⟩,fun b z=>absurd z (noA b),e0.bs,e0.bsz,fun b _ _=>noA b,fun b z=>absurd z (noA b),e0.funs,e0.frf⟩,
   rfl,e0.bare,Un.kept hk1,⟨_,hns,fun i y v a1 a2 a3=>?_⟩,fun y c a=>?_,e0.hok.fresh (T4z _),fun y c a=>?_,fun p hp=>absurd (show p∈([]:List (Addr×Obj)) from hp) (by simp),e0.hok.kept hk1,?_⟩
  .have hy:scope.names.lookup y=some .cell\/scope.names.lookup y=some .free:=hy
   rcases hy with hy | hy
   .exact absurd hy (nocell y)
   .exact L.has y hy
  .have a2':ws[i]?=some v:=by
    rw[List.getElem?_map] at a2
    cases e:ws[i]? with
    | none=>rw[e] at a2;cases a2
    | some b=>rw[e] at a2;cases a2;rfl
   obtain⟨b1,c,u,b2,b3,b4⟩:=L.val i y v a1 a2';exact⟨u,b3,.inr ⟨.inr b1,c,b2,eY (eY b4 keep) hk1⟩⟩
  .obtain⟨v,b1⟩:=L.cell y c a
   exact⟨v,eY (eY b1 keep) hk1⟩
  .obtain⟨v,o,b1,_⟩:=L.cell y c a
   exact(e0.bs _ _ b1).2
  .rw[E3z]
   exact L.len
 refine W.kla_codeExpr (Z4z (ht [] _ (ws.map some) H _ I hq) (fun u s' hs=>?_) fun e s' hs=>hs);obtain⟨v,H',J,rv,q⟩:=hs;exact⟨v,H',J.os,J.bare,J.base,J.hok,rv,q⟩
def jB(P:Addr)(ps:Array Value):HO:=.ext fun h=>h.get? P=some (W.tabObj ps)
theorem Ei{p:Program}{w:World}{H:Hp}{h:Heap}{P:Addr}{ps:Array Value}(e:h.get? P=some (W.tabObj ps)):cJ p w H h P (jB P ps) :=
 ⟨e,⟨_,e⟩,fun h1 h2 a b=>b _ a⟩
def Aq(h:Heap)(H:Hp)(fs:List Addr):Heap:=W.hideAll (wz h H) fs
theorem oU{h:Heap}{H:Hp}{fs:List Addr}{b:Addr}{o:Obj}(e:h.get? b=some o)(n:H b=none)(f:b∉fs):(Aq h H fs).get? b=some o:=X0z _ (uJ e n) f
theorem MJ{h:Heap}{H:Hp}{fs:List Addr}{b:Addr}{o:Obj}(e:(Aq h H fs).get? b=some o):h.get? b=some o/\H b=none:=yE (H1z _ e)
theorem qt{h base base':Heap}:∀ {l:List Env},h.FunFrames base l->(∀ b∈frs l,base'.get? b=none)->h.FunFrames base' l
 | [],_,_=>trivial
 | env::r,hl,hb=>by
  obtain⟨hk,⟨L,o,hf,hn,ho,hd⟩,hr⟩:=hl;refine⟨hk,⟨L,o,hf,hb L ?_,ho,hd⟩,qt hr fun b z=>hb b ?_⟩
  .unfold frs;rw[Y0z,hf];exact I1z
  .unfold frs at z ⊢;rw[Y0z,hf];exact S0z _ z
section
variable {X:Cx} {z0:List (Addr×Obj)} {Y:St} {H:Hp} {s:Shared}
theorem Inv.inBig(I:Inv X z0 Y H s):∀ b o,X.base.get? b=some o->(Aq s.heap H (frs X.stack)).get? b=some o:=fun b o e=>by
 obtain⟨h1,h2⟩:=I.bs b o e;refine oU h1 h2 fun z=>?_;obtain⟨n,_⟩:=I.stack.mem z;rw[n] at e;cases e
theorem Inv.modBig(I:Inv X z0 Y H s):Mod X.K X.mg (Aq s.heap H (frs X.stack)):=by
 have k:=I.inBig;obtain⟨mb,b1,b2⟩:=I.mod.blt;exact⟨I.mod.kin.keeps k,I.mod.glob.keeps k,⟨mb,b1.keeps k,b2⟩,I.mod.nolimit.keeps k⟩
theorem Inv.env0Big(I:Inv X z0 Y H s):Env0 X.prog X.w X.K X.mg (Aq s.heap H (frs X.stack)) X.A X.stack s H :=
 ⟨I.ok.frames,I.modBig,fun b o e=>MJ e,by unfold Aq;rw[W.hideAll_size,qp];exact T4z _,qt I.stack fun b hb=>W.hideAll_none _ hb,I.stkFree,I.hok,I.bare⟩
theorem Dh{params:Arguments}{body:Expr}{scope:Scope}{pos:Pos}{c P:Addr}{ps:Array Value}{clos:List (Str×Addr)}{R:Value->Shared->Prop}(I:Inv X z0 Y H s)
  (hdef:defaultsOf params X.env=([],[])) (hcode:X.env.code=.ref c) (C:W.CodeHd X.base c P) (hcl:closureFor scope X.env=pure clos) (hb:X.base.BuiltinsAt X.mg P) (hge:X.env.globals=mainGlobals)
  (hP:H P=some (jB P ps)) (ht:TriplesOk ps.toList) (hn:codeAmong pos ps.toList=none)
  (h : ∀ (f c' : Addr) (ctv pm : Value) (s' : Shared), Inv X z0 Y (upd H P (jB P (ps ++ #[rawInt pos.line, rawInt pos.col, .ref c']))) s' ->
   s'.heap.get? f=some (W.kla_obj "<lambda>" (X.env.qual++"<lambda>") params body scope clos pm c' ctv)->s'.heap.CodeRec (.ref c') (X.env.qual++"<lambda>")->(∃ o,s'.heap.get? c'=some o)->s.heap.objs.size<=f->s.heap.objs.size<=c' ->
   (∀ b o,b≠P->s.heap.get? b=some o->s'.heap.get? b=some o)->R (.ref f) s') :
  wpAny (model X.prog X.w) X.A (eval (.Lambda params body scope pos) X.env) R X.xe s:=by
 have hg:s.heap.Ns mainGlobals X.mg:=I.mod.glob.keeps I.bk;have hPt:s.heap.get? P=some (W.tabObj ps):=(I.hok P _ hP).1
 have hgP:mainGlobals≠P:=fun q=>by
  obtain⟨o,es,ep,e,hd,_⟩:=I.mod.glob;rw[q] at e;have:=(I.bs _ _ e).2;rw[hP] at this;cases this
 obtain⟨bm,ob,b1,b2,b3,b4,b5,b6,b7,b8⟩:=hb;refine W.kla_eval hdef (W.kla_makeFunction (mg:=X.mg) hcl hge hg hcode (C.keeps I.bk) hPt ht hn hgP ⟨bm,ob,b1,b2,b3,b4,I.bk _ _ b5,b6,b7,b8⟩ fun c' ctv h' tk hx hge hlt hrec htb=>?_);have keep:∀ b o,b≠P->s.heap.get? b=some o->(h'.push (W.kla_obj "<lambda>" (X.env.qual++"<lambda>") params body scope clos ((X.mg "__name__").getD .none) c' ctv)).get? b=some o:=fun b o hbP e=>Heap.get?_push_of_some _ (hx b o hbP e);have hnew:=Heap.get?_push_of_some (W.kla_obj "<lambda>" (X.env.qual++"<lambda>") params body scope clos ((X.mg "__name__").getD .none) c' ctv) htb;refine h h'.objs.size c' ctv _ _ (I.write (x:=P) (e:=P) (by rw[hP];exact trivial) (.inl rfl) (fun b u hb e=>keep b u hb e) ⟨_,hnew⟩ (Ei hnew)) (Heap.get?_push_size _ rfl) ?_ ?_ (L4z hge (M4z hlt)) hge keep
 .obtain⟨c2,oc,vs,t,e1,e2,e3,e4⟩:=hrec
  exact⟨c2,oc,vs,t,e1,Heap.get?_push_of_some _ e2,e3,e4⟩
 .obtain⟨c2,oc,vs,t,e1,e2,e3,e4⟩:=hrec
  cases e1;exact⟨oc,Heap.get?_push_of_some _ e2⟩
end
section
variable {X:Cx} {z0:List (Addr×Obj)} {Y:St} {H:Hp} {s:Shared}
theorem Inv.track{c:Addr}{o:HO}(I:Inv X z0 Y H s)(f:u9 X z0 H c)(ok:cJ X.prog X.w (upd H c o) s.heap c o):Inv X z0 Y (upd H c o) s:=by
 have hn:H c=none:=f.1
 refine I.call' (s':=s) (ch:=[c]) rfl ?_ ?_ I.bare fun b hb=>by
  have e:b=c:=by simpa using hb
  subst e;exact⟨f.2.2.2.1,f.2.1,f.2.2.2.2.1,f.2.2.2.2.2⟩
 .refine⟨fun b u e _ _ hc=>e,fun b u e _ _ hc=>⟨u.slots,e⟩,fun b u e n hc=>?_,fun b u e hc=>⟨u,e⟩,fun b xs e=>?_,fun b u xs e=>?_,fun b ps e=>⟨#[],?_⟩⟩
  .rw[aj (fun z=>hc (by simp[z]))];exact n
  .rw[aj (ak e hn)];exact e
  .rw[aj (ak e hn)];exact e
  .rw[aj (ak e hn),e];simp
 .intro b u e
  by_cases hb:b=c
  .subst hb;rw[aB] at e;cases e;exact ok
  .rw[aj hb] at e
   exact(I.hok b u e).stay (fun _ v _ q=>q) (fun d q=>by rw[aj (ak q hn)];exact q) fun d xs q=>by rw[aj (ak q hn)];exact q
def wA(c':Addr)(qual:Str):HO:=.ext fun h=>h.CodeRec (.ref c') qual
theorem Oo{p:Program}{w:World}{H:Hp}{h:Heap}{c':Addr}{qual:Str}(e:h.CodeRec (.ref c') qual):cJ p w H h c' (wA c' qual):=by
 obtain⟨c2,oc,vs,t,a1,a2,a3,a4⟩:=e;cases a1;refine⟨⟨c',oc,vs,t,rfl,a2,a3,a4⟩,⟨oc,a2⟩,fun h1 h2 q k=>?_⟩;obtain⟨c3,od,vs',t',b1,b2,b3,b4⟩:=q;cases b1;exact⟨c',od,vs',t',rfl,k _ b2,b3,b4⟩
theorem wA.rec{p:Program}{w:World}{H:Hp}{h:Heap}{c':Addr}{qual:Str}(ok:HOk p w H h)(e:H c'=some (wA c' qual)):h.CodeRec (.ref c') qual:=(ok c' _ e).1
theorem yS{params:Arguments}{body:Expr}{scope:Scope}{pos:Pos}{c P c':Addr}{ps:Array Value}{clos:List (Str×Addr)}{R:Value->Shared->Prop}(I:Inv X z0 Y H s)
  (hdef:defaultsOf params X.env=([],[])) (hcode:X.env.code=.ref c) (C:W.CodeHd X.base c P) (hcl:closureFor scope X.env=pure clos) (hb:X.base.BuiltinsAt X.mg P) (hge:X.env.globals=mainGlobals)
  (hP:H P=some (jB P ps)) (ht:TriplesOk ps.toList) (hn:codeAmong pos ps.toList=some (.ref c'))
  (h : ∀ (f : Addr) (ctv pm : Value) (s' : Shared), Inv X z0 Y H s' -> s'.heap.get? f = some (W.kla_obj "<lambda>" (X.env.qual ++ "<lambda>") params body scope clos pm c' ctv) -> s.heap.objs.size <= f ->
   (∀ b o,s.heap.get? b=some o->s'.heap.get? b=some o)->R (.ref f) s') :
  wpAny (model X.prog X.w) X.A (eval (.Lambda params body scope pos) X.env) R X.xe s:=by
 have hg:s.heap.Ns mainGlobals X.mg:=I.mod.glob.keeps I.bk;have hPt:s.heap.get? P=some (W.tabObj ps):=(I.hok P _ hP).1;obtain⟨bm,ob,b1,b2,b3,b4,b5,b6,b7,b8⟩:=hb;refine W.kla_eval hdef (W.kla_makeFunctionHit (mg:=X.mg) hcl hge hg hcode (C.keeps I.bk) hPt ht hn ⟨bm,ob,b1,b2,b3,b4,I.bk _ _ b5,b6,b7,b8⟩ fun ctv h' tk hx hsz=>?_);have keep:∀ b o,s.heap.get? b=some o->(h'.push (W.kla_obj "<lambda>" (X.env.qual++"<lambda>") params body scope clos ((X.mg "__name__").getD .none) c' ctv)).get? b=some o:=fun b o e=>Heap.get?_push_of_some _ (hx b o e);exact h h'.objs.size ctv _ _ (I.kept keep) (Heap.get?_push_size _ rfl) hsz keep
theorem yR{params:Arguments}{body:Expr}{scope:Scope}{pos:Pos}{c P:Addr}{ps:Array Value}{clos:List (Str×Addr)}{R:Value->Shared->Prop}(I:Inv X z0 Y H s)
  (hdef:defaultsOf params X.env=([],[])) (hcode:X.env.code=.ref c) (C:W.CodeHd X.base c P) (hcl:closureFor scope X.env=pure clos) (hb:X.base.BuiltinsAt X.mg P) (hge:X.env.globals=mainGlobals)
  (hP:H P=some (jB P ps)) (ht:TriplesOk ps.toList) (hn:codeAmong pos ps.toList=none)
  (h : ∀ (f c' : Addr) (ctv pm : Value) (s' : Shared), H c' = none -> c' ≠ P -> Inv X z0 Y (upd (upd H P (jB P (ps ++ #[rawInt pos.line, rawInt pos.col, .ref c']))) c' (wA c' (X.env.qual ++ "<lambda>"))) s' ->
   s'.heap.get? f=some (W.kla_obj "<lambda>" (X.env.qual++"<lambda>") params body scope clos pm c' ctv)->s.heap.objs.size<=f->f≠c' ->
   (∀ b o,b≠P->s.heap.get? b=some o->s'.heap.get? b=some o)->R (.ref f) s') :
  wpAny (model X.prog X.w) X.A (eval (.Lambda params body scope pos) X.env) R X.xe s:=by
 refine Dh I hdef hcode C hcl hb hge hP ht hn fun f c' ctv pm s' J e1 e2 e3 e4 e5 keep=>?_;have hPlt:P<s.heap.objs.size:=I.hok.lt hP
 have hcP:c'≠P:=fun z=>by rw[z] at e5;exact absurd (G1z hPlt e5) (Y3z _)
 have fp:=I.fpOk e5 (I.hok.fresh e5);have hcn:H c'=none:=I.hok.fresh e5;refine h f c' ctv pm s' hcn hcP (J.track ⟨by rw[aj hcP];exact hcn,fp.2⟩ (Oo e2)) e1 e4 (fun z=>?_) keep;obtain⟨c2,oc,vs,t,a1,a2,a3,a4⟩:=e2;cases a1;rw[z,a2] at e1;have:=congrArg (fun o:Option Obj=>o.map Obj.data) e1;simp only[I3z,W.kla_obj] at this;rw[C3z this] at a3;cases a3
end
def mX(p a:Addr)(h:Heap):Prop:=h.IsItemsView p a
theorem Gn{P:Program}{w:World}{H:Hp}{h:Heap}{p a:Addr}(x:mX p a h):cJ P w H h p (.ext (mX p a)) :=
 ⟨x,let ⟨o,e,_⟩:=x;⟨o,e⟩,fun _ _ ⟨o,e,r⟩ k=>⟨o,k o e,r⟩⟩
def La(K:Z3)(td:TE):TE:=fun Y H Q=>td Y H fun x H1=>∃ (a:Addr) (kvs:List (Key×V)),x=.ref a/\DAt K H1 a kvs/\∀ p,H1 p=none->Q (.ref p) (upd H1 p (.ext (mX p a)))
theorem J1{prog:Program}{w:World}{d:Addr}(hd:(d==sysModules)=false):MeetsIn prog w (Builtin.«dict.items» ⟨[.ref d],[]⟩) (fun _ R s=>s.TypeIs (.ref d) "dict" /\
   R (.ok (.ret (.ref s.heap.objs.size))) { s with heap:=s.heap.push { cls:=.type "dict_items",data:=.fields #[.ref d] } }) :=
 .of_wp fun A R s ⟨ht,q⟩=>by
  unfold Builtin.«dict.items» Builtin.Dict.noArgs;refine A5z (A5z (wpAny_notOrdered_dict ht ?_));show wpAny _ _ (pure d) _ _ s;apply B5z;show wpAny _ _ (Builtin.Dict.showsAll d >>=_) _ _ s;unfold Builtin.Dict.showsAll;simp only[hd,Q1z,I5z];exact A5z (B5z (A5z (Z1z (B5z ⟨_,rfl,q⟩))))
section
variable {X:Cx} {z0:List (Addr×Obj)} {Y:St} {H:Hp} {s:Shared}
theorem Ck{o:Expr}{td:TE}{apos cpos:Pos}(kw:KnW X.K X.w)(ho:PE X o td)(hbase:attributeBase o "items" X.env (eval o X.env)=eval o X.env)(hline:(apos.endLine==cpos.line)=true) :
  PE X (.Call (.Attribute o "items" apos) [] [] cpos) (La X.K td):=by
 intro z0 s Y H Q I h;refine wpAny_Call_method0_late hbase hline (thn (ho z0 s Y H _ I h) fun v s1 ⟨x,H1,I1,r1,a,kvs,ex,e1,q1⟩=>?_);subst ex;cases (show v=Value.ref a from r1);obtain⟨hd,vs,rel,dd⟩:=d8 I1 kw e1;have t1:s1.TypeIs (.ref a) "dict":=dd.typeIs
 have t2:∀ b,Value.ref a=.ref b->∃ ob,s1.heap.get? b=some ob/\ob.dict=none:=fun b q=>by
  cases q;obtain⟨ob,_,_,h1,h2,_⟩:=dd;exact⟨ob,h1,h2.2.1⟩
 refine⟨"dict","dict.items",E0z,PySem.F.slot_dict_items,PySem.F.type_dict_items,t1,t2,L0z rfl (PySem.evalArgs_none ?_)⟩;refine call_meetsIn PySem.F.slot_dict_items t1 PySem.F.entry_dict_items (PySem.F.args_dict_items_1 _) (J1 hd) ⟨t1,?_⟩;refine⟨.ref s1.heap.objs.size,_,I1.laid (a:=s1.heap.objs.size) (o:=.ext (mX s1.heap.objs.size a)) (t':=s1.toks) (fun _ _ q=>Heap.get?_push_of_some _ q) (T4z _) (Gn ⟨_,Heap.get?_push_size _ rfl,rfl,rfl⟩),rfl,q1 _ (I1.hok.fresh (T4z _))⟩
def Bv:List (Key×V)->Hp->(List Addr->Hp->Prop)->Prop
 | [],H,Q=>Q [] H
 | (k,v)::r,H,Q=>∀ b,H b=none->Bv r (upd H b (.tup [kV k,v])) fun bs H'=>Q (b::bs) H'
theorem pQ{P:Program}{w:World}{k:Key}{u:Value}(h:(aQ P w).is k u=true):RelV (kV k) u:=by
 rw[mF] at h;rcases bD h with⟨i,t,e1,e2⟩ | ⟨z,t,e1,e2⟩
 .subst e1 e2;exact⟨t,rfl⟩
 .subst e1 e2;exact⟨t,rfl⟩
theorem pF{s0:Shared}{H0:Hp}(I0:Inv X z0 Y H0 s0):∀ {kvs:List (Key×V)} {vs:List (Key×Value)} {as:List Addr} {H:Hp} {Q:List Addr->Hp->Prop},KV kvs vs->as.length=vs.length->as.Pairwise (· < ·)->(∀ a∈as,s0.heap.objs.size<=a/\H a=none) ->
  (∀ (j:Nat) (a:Addr),as[j]?=some a->∃ key k x,vs[j]?=some (k,x)/\(aQ X.prog X.w).is k key=true/\s.heap.get? a=some { cls:=.type "tuple",data:=.seq #[key,x] })->Inv X z0 Y H s->Bv kvs H Q->∃ H',Inv X z0 Y H' s/\Q as H'/\∀ b,b∉as->H' b=H b
 | [],_,as,H,Q,.nil,hl,_,_,_,I,q=>by
  cases as with
  | nil=>exact⟨H,I,q,fun _ _=>rfl⟩
  | cons _ _=>simp at hl
 | (k,v)::r,_,as,H,Q,.cons (b:=(k0,x)) hr t,hl,hp,hf,hg,I,q=>by
  obtain⟨rfl,rx⟩:k=k0/\RelV v x:=hr
  cases as with
  | nil=>simp at hl
  | cons a as =>
   obtain⟨key,k',x',e1,e2,e3⟩:=hg 0 a rfl;cases e1;obtain⟨f1,f2⟩:=hf a (I1z ..);have I2:Inv X z0 Y (upd H a (.tup [kV k,v])) s:=I.track (I0.fpOk f1 f2) ⟨by show 2<=sizeLine;decide,[key,x],.cons (pQ e2) (.cons rx .nil),⟨_,e3,rfl,0,rfl⟩⟩;have hne:∀ b∈as,b≠a:=fun b hb=>N4z (List.rel_of_pairwise_cons hp hb)
   obtain⟨H',I',q',k'⟩:=pF I0 t (by simpa using hl) (List.Pairwise.of_cons hp) (fun b hb=>⟨(hf b (S0z _ hb)).1,by rw[aj (hne b hb)];exact(hf b (S0z _ hb)).2⟩) (fun j b e=>by
    obtain⟨key',k',x',e1,e2,e3⟩:=hg (j+1) b (by simpa using e)
    exact⟨key',k',x',by simpa using e1,e2,e3⟩) I2 (q a f2)
   refine⟨H',I',q',fun b hb=>?_⟩;rw[k' b (fun z=>hb (S0z _ z)),aj (fun z=>hb (by rw[z];exact I1z ..))]
theorem mj(hc:X.calm=true)(kw:KnW X.K X.w):dw X (.type "list") (fun xs H Q=>∃ (v a:Addr) (kvs:List (Key×V)),xs=[.ref v]/\H v=some (.ext (mX v a))/\DAt X.K H a kvs/\kvs.length<=1000/\Bv kvs H fun bs H'=>∀ l,H' l=none->Q (.ref l) (upd H' l (.lst (bs.map V.ref)))):=by
 intro z0 s Y H xs us Q I r h;obtain⟨v,a,kvs,rfl,hv,hd,hz,q⟩:=h
 obtain⟨u,rfl,rfl⟩:∃ u,us=[u]/\u=Value.ref v:=by
  cases r with
  | cons r1 r2=>cases r2;exact⟨_,rfl,r1⟩
 obtain⟨lo,vs,rel,dd⟩:=d8 I kw hd;obtain⟨ep,hat⟩:=dd.dictAt;have hvw:s.heap.IsItemsView v a:=(I.hok v _ hv).1;have hl:vs.length=kvs.length:=rel.length.symm
 have hz2:(1000:Nat)<=sizeLine:=by decide
 refine W.kdx_call (knd:=aQ X.prog X.w) (I.ok.hd hc) hvw hat (by omega) fun h' tk acc c as keep hS hal hG hacc=>?_;have I1:Inv X z0 Y H { s with heap:=h',toks:=tk }:=I.kept keep;obtain⟨H',I2,q2,k2⟩:=pF (s:={ s with heap:=h',toks:=tk }) I rel (by rw[hal]) hG.rise (fun b hb=>⟨M4z (hG.above b hb),I.hok.fresh (M4z (hG.above b hb))⟩) hG.pairs I1 q
 have hn:H' s.heap.objs.size=none:=by
  rw[k2 _ fun z=>Y3z _ (hG.above _ z)];exact I.hok.fresh (T4z _)
 refine⟨.ref s.heap.objs.size,_,I2.track (o:=.lst (as.map V.ref)) (I.fpOk (T4z _) hn) ⟨by rw[E3z];omega,acc.toList,c,?_,by simpa using hS⟩,rfl,q2 _ hn⟩
 rw[hacc];exact vals_refs as
where
 vals_refs:∀ as:List Addr,Vals (as.map V.ref) (as.map Value.ref)
  | []=>.nil
  | a::r=>.cons rfl (vals_refs r)
end
def Ko(K:Z3)(H:Hp)(d:Addr)(kvs:List (Key×V))(o:Obj):Prop:=H d=some (.frz o (.dK kvs))\/(K.lookup d=some o/\KDc K d kvs)
theorem DAt.obj{K:Z3}{H:Hp}{d:Addr}{kvs:List (Key×V)}(h:DAt K H d kvs):∃ o,Ko K H d kvs o:=by
 rcases h with⟨o,h⟩ | h
 .exact⟨o,.inl h⟩
 .obtain⟨o,es,n,h1,r⟩:=id h
  exact⟨o,.inr ⟨h1,h⟩⟩
def Itk(K:Z3)(d:Addr)(kvs:List (Key×V))(o:Obj):It :=
 ⟨fun i H=>Ko K H d kvs o/\i<kvs.length,fun i H x H'=>H'=H/\∃ k v,kvs[i]?=some (k,v)/\x=kV k,fun i H=>Ko K H d kvs o/\i=kvs.length⟩
theorem Ws{kvs:List (Key×V)}{vs:List (Key×Value)}(r:KV kvs vs){i:Nat}{k:Key}{v:V}(h:kvs[i]?=some (k,v)):∃ u,vs[i]?=some (k,u)/\RelV v u:=by
 induction r generalizing i with
 | nil=>cases h
 | @cons p q ps qs hq t ih =>
  cases i with
  | zero =>
   cases h;obtain⟨q1,q2⟩:=q;obtain⟨rfl,h2⟩:k=q1/\RelV v q2:=hq;exact⟨q2,rfl,h2⟩
  | succ i=>exact ih (i:=i) (by simpa using h)
theorem sW{X:Cx}{z0:List (Addr×Obj)}{Y:St}{H:Hp}{s:Shared}{d:Addr}{kvs:List (Key×V)}{o:Obj}(I:Inv X z0 Y H s)(kw:KnW X.K X.w)(e:Ko X.K H d kvs o):(d==sysModules)=false/\d<s.heap.objs.size/\∃ es ep vs,o.data=.dict es ep/\KV kvs vs/\s.heap.DictAt (aQ X.prog X.w) d vs ep:=by
 rcases e with e | ⟨e,o',es,n,h1,h2,h3,h4,h5,h6⟩
 .obtain⟨h1,_,hS,vs,rel,o',es',ep',h2,r1,r2,r3⟩:=I.hok d _ e
  rw[h1] at h2;cases h2;exact⟨hS,J4z h1,es',ep',vs,r2,rel,o,es',h1,r1,r2,r3⟩
 .rw[h1] at e
  cases e;obtain⟨vs,g1,g2,g3,g4⟩:=qg (P:=X.prog) h6 (kw.at h1 h3);exact⟨h4,J4z (I.kIn d o h1),es,n,vs,h3,g1,o,es,I.kIn d o h1,h2,h3,fun e he=>g4 e (by simpa using he),g2,by rw[g3];exact h5⟩
theorem wM{P:Program}{w:World}{K:Z3}{tg:Expr}{d it:Addr}{kvs:List (Key×V)}{o:Obj}{es:Array DictEntry}{ep:Nat}(kw:KnW K w)(hd:o.data=.dict es ep)(hne:d≠it) :
  Turn P w K tg (Itk K d kvs o) [it] it (fun i h=>h.IsKeyIter it d i kvs.length ep) where
 mem:=by simp
 obj:=fun i h st b hb=>by
  have e:b=it:=by simpa using hb
  subst e;obtain⟨o,e,c,d⟩:=st;exact⟨o,e,fun v z=>by rw[d] at z;cases z⟩
 keep:=fun i h h' st k=>st.at fun o e=>k it (by simp) o e
 item:=by
  intro X hP hw hK hc i z0 s Y H E I hf st hg;subst hP hw hK;obtain⟨e,hi⟩:=hg;obtain⟨_,_,es',ep',vs,hd',rel,hat⟩:=sW I kw e;rw[hd] at hd';cases hd';obtain⟨⟨k,v⟩,hx⟩:∃ p,kvs[i]?=some p:=⟨kvs[i],List.getElem?_eq_getElem hi⟩;obtain⟨u,hu,_⟩:=Ws rel hx;obtain⟨f0,f1,f2,f3,f4,f5⟩:=hf it (by simp);refine wpAny_pyNext_dict_item (knd:=aQ X.prog X.w) (by rw[<- rel.length];exact st) hat hu fun key h' hkey st' sb=>?_;have I1:Inv X z0 Y H { s with heap:=h' }:=I.turned (t':=s.toks) (fun b o hb e=>(sb.2 b hb).trans e) f0 f1 f3 f4 f5;rw[<- rel.length] at st';obtain⟨oi,ei,ci,di⟩:=id st';exact⟨key,rfl,vN (s:={ s with heap:=h' }) ei ci di (by decide) ⟨kV k,H,I1,pQ hkey,⟨rfl,k,v,hx,rfl⟩,st',fun b hb=>(hf b hb).1⟩⟩
 done:=by
  intro X hP hw hK hc i z0 s Y H E I hf st hg;subst hP hw hK;obtain⟨e,hi⟩:=hg;obtain⟨_,_,es',ep',vs,hd',rel,hat⟩:=sW I kw e;rw[hd] at hd';cases hd';obtain⟨f0,f1,f2,f3,f4,f5⟩:=hf it (by simp);exact wpAny_pyNext_dict_end (knd:=aQ X.prog X.w) (I.ok.hd hc) (by rw[<- rel.length];exact st) hat (by have:=rel.length;simp;omega) fun h' eb=>⟨rfl,I.turned (t':=s.toks) (fun b o hb e=>eb b o hb e) f0 f1 f3 f4 f5⟩
 self:=fun _ _ _ _ _ st h=>wpAny_pyIter_keyiter st h
def Wz(K:Z3)(td:TE):TI:=fun Y H R=>td Y H fun x H1=>∃ a kvs o,x=.ref a/\Ko K H1 a kvs o/\R (Itk K a kvs o) H1
theorem HF{X:Cx}{tg o:Expr}{td:TE}(kw:KnW X.K X.w)(ho:PE X o td):PI X tg o (Wz X.K td):=by
 intro z0 s Y H R I h;refine thn (ho z0 s Y H _ I h) fun v s1 ⟨x,H1,I1,r1,a,kvs,ob,ex,e1,q1⟩=>?_;subst ex;cases (show v=Value.ref a from r1);obtain⟨hS,lt,es,ep,vs,hd,rel,hat⟩:=sW I1 kw e1;refine wpAny_pyIter_dict hS hat ?_;refine⟨s1.heap.objs.size,[s1.heap.objs.size],_,_,H1,rfl,I1.kept (t':=s1.toks) fun b o e=>Heap.get?_push_of_some _ e,wM (o:=ob) (es:=es) (ep:=ep) kw hd (K4z lt),?_,fun b hb=>?_,q1⟩
 .rw[rel.length]
  exact⟨_,Heap.get?_push_size _ rfl,rfl,rfl⟩
 .have e:b=s1.heap.objs.size:=by simpa using hb
  subst e;exact I1.fpOk (T4z _) (I1.hok.fresh (T4z _))
def Le:TE:=fun _ H Q=>∀ p ob,H p=none->Q (.ref p) (upd H p (.frz ob (.dK [])))
theorem uw{X:Cx}{pos:Pos}:PE X (.Dict [] [] pos) Le:=fun z0 s Y H Q I h =>
 wpAny_Dict_empty ⟨.ref s.heap.objs.size,_,I.laid (a:=s.heap.objs.size) (o:=.frz _ (.dK [])) (t':=s.toks) (fun _ _ q=>Heap.get?_push_of_some _ q) (T4z _) ⟨Heap.get?_push_size _ rfl,uP s.heap I.big⟩,rfl,h _ _ (I.hok.fresh (T4z _))⟩
end L2
namespace DE
open PySem
theorem zu{a:Str}{l2:List Str}:∀ (l1:List Str),l1++a::l2∈ins a (l1++l2)
 | []=>by cases l2<;>simp[ins]
 | b::r=>by
  simp only[List.cons_append,ins,H4z,List.mem_map];exact .inr ⟨_,zu r,rfl⟩
theorem pW:∀ {l ks:List Str},l.Perm ks->l∈perms ks
 | l,[],h=>by rw[h.eq_nil];simp[perms]
 | l,a::r,h=>by
  obtain⟨l1,l2,rfl⟩:=List.append_of_mem (h.symm.subset (I1z ..));have h2:(l1++l2).Perm r:=(List.perm_cons a).mp (List.perm_middle.symm.trans h);simp only[perms,List.mem_flatMap];exact⟨_,pW h2,zu l1⟩
theorem xJ{l ks x:List Str}(h:Bj ks=some x)(hp:l.Perm ks)(hs:PyProof.Rows.sortedS l=true):l=x:=by
 unfold Bj at h;split at h
 .rename_i y e
  cases h;have:l∈(perms ks).filter PyProof.Rows.sortedS:=List.mem_filter.mpr ⟨pW hp,hs⟩;rw[e] at this;simpa using this
 .cases h
theorem tW:∀ {ks:List (Sum Int Str)} {l:List Str},pJ ks=some l->ks=l.map Sum.inr
 | [],_,h=>by cases h;rfl
 | .inr k::r,l,h=>by
  obtain⟨l',h1,rfl⟩:=M0z.mp (show(pJ r).map (k::·)=some l from h);rw[tW h1];rfl
 | .inl _::_,_,h=>by cases h
end DE
namespace L2
open PySem PySem.Spec PyProof.Rows DE
section
variable {X:Cx}
theorem Mu(kw:KnW X.K X.w):OpR X (compareOp .In) (fun u v H Q=>∃ (a:Addr) (kvs:List (Key×V)) (k:Key),u=kV k/\v=.ref a/\DAt X.K H a kvs/\Q (.bl (jk kvs k).isSome) H):=by
 intro z0 s Y H u v w z Q I ru rv h;obtain⟨a,kvs,k,rfl,rfl,hd,q⟩:=h;cases (show z=Value.ref a from rv);obtain⟨hS,vs,rel,dd⟩:=d8 I kw hd;refine wpAny_in_of (lD ru) hS dd.mapOf ?_;rw[<- (rel.val k).isSome_eq];exact⟨.bl _,H,I.tok _,rfl,q⟩
theorem yw(kw:KnW X.K X.w):OpR X (compareOp .NotIn) (fun u v H Q=>∃ (a:Addr) (kvs:List (Key×V)) (k:Key),u=kV k/\v=.ref a/\DAt X.K H a kvs/\Q (.bl (!(jk kvs k).isSome)) H):=by
 intro z0 s Y H u v w z Q I ru rv h;obtain⟨a,kvs,k,rfl,rfl,hd,q⟩:=h;cases (show z=Value.ref a from rv);obtain⟨hS,vs,rel,dd⟩:=d8 I kw hd;refine wpAny_notIn_of (lD ru) hS dd.mapOf ?_;rw[<- (rel.val k).isSome_eq];exact⟨.bl _,H,I.tok _,rfl,q⟩
theorem pD{K:Z3}{H:Hp}{k:Key}{kvs:List (Key×V)}{ks:List Key}{ds:List D}(e:kvs.map (·.1)=ks)(h:aJ K H ds (kvs.map (·.2))):(jk kvs k).isSome=(j4 ks ds k).isSome:=by
 rcases m9 (k:=k) e h with⟨h1,h2⟩ | ⟨d,v,h1,h2,_⟩<;>rw[h1,h2]<;>rfl
theorem yg{K:Z3}{H:Hp}:∀ {xs:List D} {vs:List V} {l:List (Sum Int Str×D)},iH xs=some l->aJ K H xs vs->∃ kvs:List (Key×V),wk K H vs kvs/\kvs.map (·.1)=l.map (·.1)/\aJ K H (l.map (·.2)) (kvs.map (·.2))
 | [],vs,l,h,r=>by
  cases h;cases (show vs=[] from r);exact⟨[],rfl,rfl,rfl⟩
 | x::xs,vs,l,h,r=>by
  obtain⟨v,q,rfl,r1,r2⟩:=r;unfold iH at h;split at h
  .rename_i heq;cases heq
  .rename_i k d r' heq
   cases heq;obtain⟨l',h1,rfl⟩:=M0z.mp h;obtain⟨kvs,a1,a2,a3⟩:=yg h1 r2;obtain⟨b,ws,rfl,b1,b2⟩:=r1;obtain⟨w1,t1,rfl,c1,c2⟩:=b2;obtain⟨w2,t2,rfl,c3,c4⟩:=c2;cases (show t2=[] from c4);cases (show w1=.str k by simpa[Rep] using c1);exact⟨(.inr k,w2)::kvs,⟨b,.inr k,w2,kvs,rfl,rfl,b1,a1⟩,by simp[a2],⟨w2,_,rfl,c3,a3⟩⟩
  .cases h
theorem ud{K:Z3}{H:Hp}{k:Key}{d:D}{v:V}(r:Rep K H d v):∀ {l:List (Sum Int Str×D)} {kvs:List (Key×V)},kvs.map (·.1)=l.map (·.1)->aJ K H (l.map (·.2)) (kvs.map (·.2)) ->
  (kvs.map fun kv=>if kv.1=k then(kv.1,v) else kv).map (·.1)=(l.map fun q=>if q.1=k then(q.1,d) else q).map (·.1)/\aJ K H ((l.map fun q=>if q.1=k then(q.1,d) else q).map (·.2)) ((kvs.map fun kv=>if kv.1=k then(kv.1,v) else kv).map (·.2))
 | [],kvs,e,h=>by
  cases kvs with
  | nil=>exact⟨rfl,rfl⟩
  | cons _ _=>simp at e
 | (k1,d1)::l,kvs,e,h=>by
  cases kvs with
  | nil=>simp at e
  | cons q kvs =>
   obtain⟨k2,v2⟩:=q;simp only[A4z,List.cons.injEq] at e;obtain⟨rfl,e⟩:=e;obtain⟨v',t,e',h1,h2⟩:=h;cases e';obtain⟨a1,a2⟩:=ud r e h2;simp only[A4z]
   by_cases hk:k2=k
   .rw[L5z hk,L5z hk]
    exact⟨by rw[a1],⟨v,_,rfl,r,a2⟩⟩
   .rw[M5z hk,M5z hk]
    exact⟨by rw[a1],⟨v2,_,rfl,h1,a2⟩⟩
theorem Hx{K:Z3}{H:Hp}{k:Key}{d:D}{v:V}(r:Rep K H d v){l:List (Sum Int Str×D)}{kvs:List (Key×V)}(e:kvs.map (·.1)=l.map (·.1))(h:aJ K H (l.map (·.2)) (kvs.map (·.2))):(putK kvs k v).map (·.1)=(putD l k d).map (·.1)/\aJ K H ((putD l k d).map (·.2)) ((putK kvs k v).map (·.2)):=by
 have key:(kvs.any fun kv=>decide (kv.1=k))=l.any fun q=>decide (q.1=k):=by
  have:(kvs.map (·.1)).any (fun x=>decide (x=k))=(l.map (·.1)).any fun x=>decide (x=k):=by rw[e]
  simpa[List.any_map,Function.comp_def] using this
 unfold putK putD;rw[key];split
 .exact ud r e h
 .refine⟨by simp[e],?_⟩
  rw[O3z,O3z];exact h.append ⟨v,[],rfl,r,rfl⟩
theorem qd{K:Z3}{H:Hp}:∀ {l:List (Sum Int Str×D)} {kvs:List (Key×V)} {l0:List (Sum Int Str×D)} {kvs0:List (Key×V)},kvs.map (·.1)=l.map (·.1)->aJ K H (l.map (·.2)) (kvs.map (·.2))->kvs0.map (·.1)=l0.map (·.1)->aJ K H (l0.map (·.2)) (kvs0.map (·.2)) ->
  (gM kvs0 kvs).map (·.1)=(l.foldl (fun a q=>putD a q.1 q.2) l0).map (·.1)/\aJ K H ((l.foldl (fun a q=>putD a q.1 q.2) l0).map (·.2)) ((gM kvs0 kvs).map (·.2))
 | [],kvs,l0,kvs0,e,h,e0,h0=>by
  cases kvs with
  | nil=>exact⟨e0,h0⟩
  | cons _ _=>simp at e
 | (k1,d1)::l,kvs,l0,kvs0,e,h,e0,h0=>by
  cases kvs with
  | nil=>simp at e
  | cons q kvs =>
   obtain⟨k2,v2⟩:=q;simp only[A4z,List.cons.injEq] at e;obtain⟨rfl,e⟩:=e;obtain⟨v',t,e',h1,h2⟩:=h;cases e';obtain⟨a1,a2⟩:=Hx (k:=k2) h1 e0 h0;exact qd (l0:=putD l0 k2 d1) (kvs0:=putK kvs0 k2 v2) e h2 a1 a2
end
end L2
namespace L2
open PySem PySem.Spec PyProof.Rows DE PySem.SeqAt
section
variable {X:Cx} {U:Rho} {cx:Cxt} {k:Nat} {sc:Scope}
theorem aq{e:Expr}{es:List Expr}{env:Env}(h:aG e=true):starEach (e::es) env=(false,eval e env)::starEach es env:=by
 cases e<;>first | rfl | (simp[aG] at h)
theorem jP{e:Expr}(h:aG e=true):Bf e:=by
 intro o i
 cases e<;>first | rfl | (simp[aG] at h)
theorem iG{e:Expr}{env:Env}(h:aG e=true)(x:Value):foldedSetIterable e env x=pure x:=by
 cases e<;>first | rfl | (simp[aG] at h)
theorem cH{e:Expr}{op:CmpOp}(h:aG e=true):behindInMarks op e=false:=by
 cases e<;>first | rfl | (simp[aG] at h)
theorem dH{env:Env}{pos:Pos}:∀ {es:List Expr},(∀ e∈es,aG e=true)->(backTo pos (starEach es env)).any (·.1)=false
 | [],_=>rfl
 | e::es,h=>by
  rw[aq (h e I1z)];have ih:=dH (env:=env) (pos:=pos) fun e' he=>h e' (S0z _ he);show((false:Bool)||(backTo pos (starEach es env)).any (·.1))=false;rw[ih];rfl
theorem aV:∀ {n:Nat} {U:Rho} {e:Expr} {d:D},ev cx n sc U e=some d->aG e=true
 | 0,_,_,_,h=>by simp[ev] at h
 | n+1,U,e,d,h=>by
  cases e<;>first | rfl | (exact nomatch (show(Option.none:Option D)=some d from h))
def ni(X:Cx)(e:Expr):TT:=fun Y H Q=>∀ whole z0 s,Inv X z0 Y H s->wpAny (model X.prog X.w) X.A (isTrue e X.env whole) (TP X z0 Y Q) X.xe s
def EvW(X:Cx)(U:Rho)(e:Expr)(b:Bool):Prop:=∀ Y H Hs Q,Same Hs H->bJ X.K Hs U Y->(∀ H' Hs',Ext Hs H Hs' H'->Q b H')->ni X e Y H Q
theorem kJ{e:Expr}:PW X e (ni X e):=fun whole z0 s Y H Q I h=>h whole z0 s I
theorem PW.sem{e:Expr}{t:TT}{Y:St}{H:Hp}{Q:Bool->Hp->Prop}(h:PW X e t)(q:t Y H Q):ni X e Y H Q:=fun whole z0 s I=>h whole z0 s Y H Q I q
theorem EvW.t{e:Expr}{b:Bool}(h:EvW X U e b):EvT X U e b:=fun Y H Hs Q hs hr hq z0 s I=>h Y H Hs Q hs hr hq _ z0 s I
theorem zN{e:Expr}{b:Bool}(h:Ev X U e (.bl b))(he:∀ whole,isTrue e X.env whole=(do let v <- whole;standAt e.pos;holding [v] (truthy v))):EvT X U e b:=fun Y H Hs Q hs hr hq =>
 (yc au he).sem (h Y H Hs _ hs hr fun v H' Hs' E1 r1=>⟨b,dz r1,hq H' Hs' E1⟩)
theorem FQ{a:Expr}{b:Bool}{pos:Pos}(h:Ev X U a (.bl b)):Ev X U (.UnaryOp .Not a pos) (.bl (!b)):=fun Y H Hs Q hs hr hq =>
 (Mi au).sem (h Y H Hs _ hs hr fun v H' Hs' E1 r1=>⟨b,dz r1,hq _ H' Hs' E1 (by simp[Rep])⟩)
theorem zO{a:Expr}{b:Bool}{pos:Pos}(h:EvT X U a b):EvT X U (.UnaryOp .Not a pos) (!b):=fun Y H Hs Q hs hr hq =>
 (yd cY).sem (h Y H Hs _ hs hr fun H' Hs' E1=>hq H' Hs' E1)
theorem N7{a:Expr}{i:Int}{pos:Pos}(h:Ev X U a (.int i)):Ev X U (.UnaryOp .USub a pos) (.int (-i)):=fun Y H Hs Q hs hr hq =>
 (QS KY au).sem (h Y H Hs _ hs hr fun v H' Hs' E1 r1=>⟨i,aX r1,hq _ H' Hs' E1 (by simp[Rep])⟩)
theorem lK{op:BoolOp}{f:Expr->Option D}{pos:Pos}:∀ {es:List Expr} {d:D},(∀ e∈es,∀ d,f e=some d->Ev X U e d/\∀ b,d=.bl b->EvT X U e b)->cN op f es=some d ->
  Ev X U (.BoolOp op es pos) d/\∀ b,d=.bl b->EvW X U (.BoolOp op es pos) b
 | [],d,_,h=>by simp[cN] at h
 | [e],d,hf,h=>by
  obtain⟨h1,h2⟩:=hf e (by simp) d (by simpa[cN] using h);refine⟨fun Y H Hs Q hs hr hq=>(Mh au).sem (h1 Y H Hs Q hs hr hq),fun b hb Y H Hs Q hs hr hq=>?_⟩
  cases op with
  | And=>exact(Hw cY).sem (h2 b hb Y H Hs Q hs hr hq)
  | Or=>exact(Es cY).sem (h2 b hb Y H Hs Q hs hr hq)
 | e::e'::r,d,hf,h=>by
  simp only[cN] at h
  cases he:f e with
  | none=>rw[he] at h;simp at h
  | some x =>
   rw[he] at h
   cases x with
   | bl c =>
    obtain⟨h1,h2⟩:=hf e (by simp) _ he;have h2':=h2 c rfl;simp only[asB,X2z,Option.bind_eq_bind,bind,Option.bind] at h;have ih:=fun d' (q:cN op f (e'::r)=some d')=>lK (pos:=pos) (es:=e'::r) (fun a ha=>hf a (S0z _ ha)) q
    cases op with
    | And =>
     cases c with
     | true =>
      simp only[K5z] at h;obtain⟨i1,i2⟩:=ih d h;refine⟨fun Y H Hs Q hs hr hq=>(Fe au au).sem (h1 Y H Hs _ hs hr fun v H' Hs' E1 r1=>⟨true,dz r1,ql (i1 Y H' Hs' Q E1.sub (hr.same E1.vis) fun w H2 Hs2 E2 r2=>hq w H2 Hs2 (E1.trans E2) r2)⟩),fun b hb Y H Hs Q hs hr hq=>?_⟩;exact(Et cY kJ).sem (h2' Y H Hs _ hs hr fun H' Hs' E1=>ql (i2 b hb Y H' Hs' Q E1.sub (hr.same E1.vis) fun H2 Hs2 E2=>hq H2 Hs2 (E1.trans E2)))
     | false =>
      simp only[Q1z,I5z,I2z] at h;subst h;refine⟨fun Y H Hs Q hs hr hq=>(Fe au au).sem (h1 Y H Hs _ hs hr fun v H' Hs' E1 r1=>⟨false,dz r1,mK (hq _ H' Hs' E1 (by simp[Rep]))⟩),fun b hb Y H Hs Q hs hr hq=>?_⟩;cases hb;exact(Et cY kJ).sem (h2' Y H Hs _ hs hr fun H' Hs' E1=>mK (hq H' Hs' E1))
    | Or =>
     cases c with
     | true =>
      simp only[K5z,I2z] at h;subst h;refine⟨fun Y H Hs Q hs hr hq=>(Mg au au).sem (h1 Y H Hs _ hs hr fun v H' Hs' E1 r1=>⟨true,dz r1,ql (hq _ H' Hs' E1 (by simp[Rep]))⟩),fun b hb Y H Hs Q hs hr hq=>?_⟩;cases hb;exact(BZ cY kJ).sem (h2' Y H Hs _ hs hr fun H' Hs' E1=>ql (hq H' Hs' E1))
     | false =>
      simp only[Q1z,I5z] at h;obtain⟨i1,i2⟩:=ih d h;refine⟨fun Y H Hs Q hs hr hq=>(Mg au au).sem (h1 Y H Hs _ hs hr fun v H' Hs' E1 r1=>⟨false,dz r1,mK (i1 Y H' Hs' Q E1.sub (hr.same E1.vis) fun w H2 Hs2 E2 r2=>hq w H2 Hs2 (E1.trans E2) r2)⟩),fun b hb Y H Hs Q hs hr hq=>?_⟩;exact(BZ cY kJ).sem (h2' Y H Hs _ hs hr fun H' Hs' E1=>mK (i2 b hb Y H' Hs' Q E1.sub (hr.same E1.vis) fun H2 Hs2 E2=>hq H2 Hs2 (E1.trans E2)))
   | _=>simp[asB] at h
def QJ(X:Cx)(op:CmpOp):R2:=fun u v H Q=>∃ Hs x y d,Same Hs H/\Rep X.K Hs x u/\Rep X.K Hs y v/\cmpop op x y=some d/\∃ b,d=.bl b/\Q (.bl b) H
theorem nG{K:Z3}{H:Hp}{v:V}(h:Rep K H .non v):v=.non:=by simpa[Rep] using h
theorem uI{K:Z3}{H:Hp}{x:D}{v:V}(h:Rep K H x v):Jl x=decide (v=V.non):=by
  cases x with
  | non=>rw[nG h];rfl
  | bl b=>rw[dz h];rfl
  | int b=>rw[aX h];rfl
  | str b => have e : v = .str b := by simpa [Rep] using h
             rw[e];rfl
  | tup b=>obtain⟨a,vs,e,_⟩:=cu h;rw[e];rfl
  | lst b=>obtain⟨a,vs,e,_⟩:=cT h;rw[e];rfl
  | exc c=>simp only[Rep] at h;obtain⟨a,C,e,_⟩:=h;rw[e];rfl
  | dic k x=>simp only[Rep] at h;obtain⟨a,C,e,_⟩:=h;rw[e];rfl
  | obj a => have e : v = .ref a := by simpa [Rep] using h
             rw[e];rfl
theorem oV{K:Z3}{H:Hp}:∀ {ds:List D} {ns:List Int} {vs:List V},oW ds=some ns->aJ K H ds vs->vs=ns.map V.int
 | [],ns,vs,h,r=>by
  simp only[oW,I2z] at h;subst h
  simpa[aJ] using r
 | .int i::ds,ns,vs,h,r=>by
  simp only[oW,M0z] at h;obtain⟨ms,h1,rfl⟩:=h;simp only[aJ] at r;obtain⟨v,r',rfl,h2,h3⟩:=r;rw[aX h2,oV h1 h3];rfl
 | .non::ds,ns,vs,h,r=>by simp[oW] at h
 | .bl _::ds,ns,vs,h,r=>by simp[oW] at h
 | .str _::ds,ns,vs,h,r=>by simp[oW] at h
 | .tup _::ds,ns,vs,h,r=>by simp[oW] at h
 | .lst _::ds,ns,vs,h,r=>by simp[oW] at h
 | .exc _::ds,ns,vs,h,r=>by simp[oW] at h
 | .dic _ _::ds,ns,vs,h,r=>by simp[oW] at h
 | .obj _::ds,ns,vs,h,r=>by simp[oW] at h
theorem iI(hr:Room k X.A)(kw:KnW X.K X.w)(op:CmpOp):OpR X (compareOp op) (QJ X op):=by
 intro z0 s Y H u v w z Q I ru rv h;obtain⟨Hs,x,y,d,hs,rx,ry,hc,b,rfl,q⟩:=h;have rx':=Rep.same hs x u rx;have ry':=Rep.same hs y v ry;unfold cmpop at hc;split at hc
 .split at hc
  .rename_i hd
   rw[U2z,U2z,H2z,H2z] at hd;obtain⟨⟨hd1,hd2⟩,kk⟩:=hd;cases hc;exact(oJ I X.A rx' ry' ru rv (by have:=hr.un;omega) (by omega) (by omega) kk).1 _ _ _ _ ⟨.bl _,H,I,rfl,q⟩
  .cases hc
 .split at hc
  .rename_i hd
   rw[U2z,U2z,H2z,H2z] at hd;obtain⟨⟨hd1,hd2⟩,kk⟩:=hd;cases hc;exact(oJ I X.A rx' ry' ru rv (by have:=hr.un;omega) (by omega) (by omega) kk).2 _ _ _ _ ⟨.bl _,H,I,rfl,q⟩
  .cases hc
 .cases hc;exact QV z0 s Y H u v w z Q I ru rv ⟨_,_,aX rx,aX ry,q⟩
 .cases hc;exact QW z0 s Y H u v w z Q I ru rv ⟨_,_,aX rx,aX ry,q⟩
 .cases hc;rw[uI rx] at q;exact Ig z0 s Y H u v w z Q I ru rv ⟨nG ry,q⟩
 .rename_i a b
  cases hc
  have ex:u=.str a:=by simpa[Rep] using rx
  have ey:v=.str b:=by simpa[Rep] using ry
  exact yx z0 s Y H u v w z Q I ru rv ⟨_,_,ex,ey,q⟩
 .rename_i a ks ds
  cases hc
  have ex:u=.str a:=by simpa[Rep] using rx
  obtain⟨p,kvs,rfl,g1,g2,g3⟩:=ry';rw[<- pD g2 g3] at q;exact Mu kw z0 s Y H u _ w z Q I ru rv ⟨p,kvs,.inr a,ex,rfl,g1,q⟩
 .rename_i a ks ds
  cases hc
  have ex:u=.str a:=by simpa[Rep] using rx
  obtain⟨p,kvs,rfl,g1,g2,g3⟩:=ry';rw[<- pD g2 g3] at q;exact yw kw z0 s Y H u _ w z Q I ru rv ⟨p,kvs,.inr a,ex,rfl,g1,q⟩
 .cases hc
theorem Ga{op:CmpOp}{x y d:D}(h:cmpop op x y=some d):∃ b,d=.bl b:=by
 unfold cmpop at h
 split at h<;>first | (cases h;exact⟨_,rfl⟩) | (obtain⟨_,_,rfl⟩:=M0z.mp h;exact⟨_,rfl⟩) | (split at h<;>first | (cases h;exact⟨_,rfl⟩) | cases h) | cases h
theorem JL{a b:Expr}{op:CmpOp}{x y d:D}{pos:Pos}(hr:Room k X.A)(kw:KnW X.K X.w)(ha:Ev X U a x)(hb:Ev X U b y)(hm:aG b=true)(h:cmpop op x y=some d):Ev X U (.Compare a [op] [b] pos) d/\∀ c,d=.bl c->EvT X U (.Compare a [op] [b] pos) c:=by
 obtain⟨c,rfl⟩:=Ga h;refine⟨fU ha hb (rK (iI hr kw op) au au (cH hm)) fun u v H Hs Q hs r1 r2 hq=>⟨Hs,x,y,_,hs,r1,r2,h,c,rfl,hq _ H Hs (.refl hs) (by simp[Rep])⟩,fun c' hc' Y H Hs Q hs hst hq=>?_⟩;cases hc';refine(kO (iI hr kw op) au au (cH hm)).sem (ha Y H Hs _ hs hst fun u H1 Hs1 E1 r1=>hb Y H1 Hs1 _ E1.sub (hst.same E1.vis) fun v H2 Hs2 E2 r2=>?_);exact⟨Hs2,x,y,_,E2.sub,Rep.same E2.vis x u r1,r2,h,c,rfl,c,rfl,hq H2 Hs2 (E1.trans E2)⟩
theorem yP{op op':CmpOp}{b c:Expr}(h:aG c=true):lastMarks [op,op'] [b,c]=false:=cH h
theorem zM{a b e:Expr}{op op':CmpOp}{x y d:D}{c:Bool}{pos:Pos}(hr:Room k X.A)(kw:KnW X.K X.w)(ha:Ev X U a x)(hb:Ev X U b y)(hm:aG e=true)(h:cmpop op x y=some (.bl c))(hd:(c=true->∃ z,Ev X U e z/\cmpop op' y z=some d)/\(c=false->d=.bl false)) :
  Ev X U (.Compare a [op,op'] [b,e] pos) d/\∀ c,d=.bl c->EvT X U (.Compare a [op,op'] [b,e] pos) c:=by
 have core:∀ Y H Hs Q,Same Hs H->bJ X.K Hs U Y->(∀ v H' Hs',Ext Hs H Hs' H'->Rep X.K Hs' d v->Q v H')->wZ (QJ X op) (QJ X op') (iB X a) (iB X b) (iB X e) Y H Q:=by
  intro Y H Hs Q hs hst hq;refine ha Y H Hs _ hs hst fun u H1 Hs1 E1 r1=>hb Y H1 Hs1 _ E1.sub (hst.same E1.vis) fun v H2 Hs2 E2 r2=>?_;refine⟨Hs2,x,y,_,E2.sub,Rep.same E2.vis x u r1,r2,h,c,rfl,c,rfl,?_⟩
  cases c with
  | false=>rw[hd.2 rfl] at hq;exact mK (hq _ H2 Hs2 (E1.trans E2) (by simp[Rep]))
  | true =>
   obtain⟨z,hz,hc⟩:=hd.1 rfl;obtain⟨c',rfl⟩:=Ga hc;refine ql (hz Y H2 Hs2 _ E2.sub ((hst.same E1.vis).same E2.vis) fun w H3 Hs3 E3 r3=>?_);exact⟨Hs3,y,z,_,E3.sub,Rep.same E3.vis y v r2,r3,hc,c',rfl,hq _ H3 Hs3 (E1.trans (E2.trans E3)) (by simp[Rep])⟩
 refine⟨fun Y H Hs Q hs hst hq=>(Cr (iI hr kw op) (iI hr kw op') au au au (yP hm)).sem (core Y H Hs Q hs hst hq),fun c' hc' Y H Hs Q hs hst hq=>?_⟩;subst hc';exact(Ca (iI hr kw op) (iI hr kw op') au au au (yP hm)).sem (core Y H Hs _ hs hst fun v H' Hs' E1 r1=>⟨c',dz r1,hq H' Hs' E1⟩)
theorem Ob{c a b:Expr}{t:Bool}{d:D}{pos:Pos}(hc:EvT X U c t)(ha:t=true->Ev X U a d)(hb:t=false->Ev X U b d):Ev X U (.IfExp c a b pos) d:=fun Y H Hs Q hs hst hq =>
 (ur cY au au).sem (hc Y H Hs _ hs hst fun H1 Hs1 E1=>by
  cases t with
  | true=>exact ql (ha rfl Y H1 Hs1 Q E1.sub (hst.same E1.vis) fun v H' Hs' E2 r=>hq v H' Hs' (E1.trans E2) r)
  | false=>exact mK (hb rfl Y H1 Hs1 Q E1.sub (hst.same E1.vis) fun v H' Hs' E2 r=>hq v H' Hs' (E1.trans E2) r))
theorem FW{c a b:Expr}{t r:Bool}{pos:Pos}(hc:EvT X U c t)(ha:t=true->EvT X U a r)(hb:t=false->EvT X U b r):EvT X U (.IfExp c a b pos) r:=by
 intro Y H Hs Q hs hst hq z0 s I;refine isTrue_IfExp (thn (hc Y H Hs (fun b' H'=>b'=t/\∃ Hs',Ext Hs H Hs' H') hs hst (fun H1 Hs1 E1=>⟨rfl,Hs1,E1⟩) z0 s I) fun b' s2 ⟨H2,I2,e2,Hs2,E2⟩=>?_);subst e2
 cases b' with
 | true=>exact ql (ha rfl Y H2 Hs2 Q E2.sub (hst.same E2.vis) (fun H' Hs' E3=>hq H' Hs' (E2.trans E3)) z0 s2 I2)
 | false=>exact mK (hb rfl Y H2 Hs2 Q E2.sub (hst.same E2.vis) (fun H' Hs' E3=>hq H' Hs' (E2.trans E3)) z0 s2 I2)
theorem dJ{f:Expr->Option D}:∀ {es:List Expr} {ds:List D},(∀ e∈es,∀ d,f e=some d->Ev X U e d/\aG e=true)->jH f es=some ds->EvA X U es ds/\(∀ e∈es,aG e=true)
 | [],ds,_,h=>by
  simp only[jH,I2z] at h;subst h;exact⟨fun Y H Hs Q hs hst hq=>aO.sem (hq [] H Hs (.refl hs) .nil),fun e he=>absurd he (by simp)⟩
 | e::es,ds,hf,h=>by
  simp only[jH,bind,Option.bind] at h
  cases he:f e with
  | none=>rw[he] at h;cases h
  | some d =>
   rw[he] at h;simp only at h
   cases hr:jH f es with
   | none=>rw[hr] at h;cases h
   | some dr =>
    rw[hr] at h;simp only[I2z] at h;subst h;obtain⟨h1,hp⟩:=hf e (by simp) d he;obtain⟨h2,hps⟩:=dJ (fun a ha=>hf a (S0z _ ha)) hr;refine⟨fun Y H Hs Q hs hst hq=>(aA au cL (aq hp)).sem (h1 Y H Hs _ hs hst fun v H1 Hs1 E1 r1=>h2 Y H1 Hs1 _ E1.sub (hst.same E1.vis) fun vs H2 Hs2 E2 r2=>?_),fun a ha=>?_⟩
    .exact hq _ H2 Hs2 (E1.trans E2) (.cons (Rep.same E2.vis d v r1) r2)
    .rcases H4z.mp ha with rfl | ha
     .exact hp
     .exact hps a ha
theorem Dr{es:List Expr}{ds:List D}{j:Nat}{pos:Pos}(h:EvA X U es ds)(hz:szl ds.length=true):Ev X U (.Tuple es j pos) (.tup ds):=fun Y H Hs Q hs hst hq =>
 (uq cL).sem (h Y H Hs _ hs hst fun vs H1 Hs1 E1 r1=>⟨by rw[<- r1.length];exact j6 hz,fun p hp=>gW E1.sub r1 hp fun w H' Hs' E2 r2=>hq w H' Hs' (E1.trans E2) r2⟩)
theorem zL{es:List Expr}{ds:List D}{pos:Pos}(h:EvA X U es ds)(hz:szl ds.length=true):Ev X U (.List es pos) (.lst ds):=fun Y H Hs Q hs hst hq =>
 (pX cL).sem (h Y H Hs _ hs hst fun vs H1 Hs1 E1 r1=>⟨by rw[<- r1.length];exact j6 hz,fun p hp=>nQ E1.sub r1 hp fun w H' Hs' E2 r2=>hq w H' Hs' (E1.trans E2) r2⟩)
theorem NP(n:Nat)(i:Int):ixD n i=ixN n i:=rfl
theorem Ax{K:Z3}{H:Hp}{ds:List D}{vs:List V}{i:Int}{d:D}(h:aJ K H ds vs)(e:atD ds i=some d):∃ v,atI vs i=some v/\Rep K H d v:=by
 unfold atD at e;rw[NP,h.length] at e
 cases q:ixN vs.length i with
 | none=>rw[q] at e;cases e
 | some j =>
  rw[q] at e;obtain⟨v,h1,h2⟩:=h.get (i:=j) (d:=d) e;exact⟨v,by unfold atI;rw[q];exact h1,h2⟩
theorem Ht{K:Z3}{H:Hp}{ks:List (Sum Int Str)}{ds:List D}{v:V}(h:Rep K H (.dic ks ds) v):∃ (a:Addr) (kvs:List (Key×V)),v=.ref a/\DAt K H a kvs/\kvs.map (·.1)=ks/\aJ K H ds (kvs.map (·.2)):=by simpa[Rep] using h
theorem wJ{K:Z3}{H:Hp}{k:Key}{d:D}:∀ {kvs:List (Key×V)} {ds:List D},aJ K H ds (kvs.map (·.2))->j4 (kvs.map (·.1)) ds k=some d->∃ v,jk kvs k=some v/\Rep K H d v
 | [],ds,r,h=>by simp[j4] at h
 | (k',v')::kvs,ds,r,h=>by
  cases ds with
  | nil=>simp[j4] at h
  | cons d' ds =>
   simp only[A4z,aJ] at r;obtain⟨v,rr,e,h2,h3⟩:=r;cases e;unfold j4 at h;simp only[A4z,T1z,List.find?_cons] at h;unfold jk;rw[List.find?_cons]
   by_cases q:k'=k
   .simp only[q,decide_true] at h ⊢
    simp only[I3z,I2z] at h ⊢;subst h;exact⟨v',rfl,h2⟩
   .simp only[q,decide_false] at h ⊢
    exact wJ h3 h
theorem Ji{K:Z3}{H:Hp}{d:D}{v:V}{k:Key}(h:PL d=some k)(r:Rep K H d v):v=kV k:=by
 cases d<;>simp[PL] at h
 .subst h;exact aX r
 .subst h
  rename_i x
  have e:v=.str x:=by simpa[Rep] using r
  exact e
theorem JH{a b:Expr}{ks:List (Sum Int Str)}{ds:List D}{y d:D}{k':Key}{pos:Pos}(kw:KnW X.K X.w)(ha:Ev X U a (.dic ks ds))(hb:Ev X U b y)(hp:aG b=true)(hk:PL y=some k')(hd:j4 ks ds k'=some d):Ev X U (.Subscript a b pos) d:=by
 intro Y H Hs Q hs hst hq;refine PE.sem (HX kw au au fun ov iv=>jP hp ov iv) (ha Y H Hs _ hs hst fun v H1 Hs1 E1 r1=>hb Y H1 Hs1 _ E1.sub (hst.same E1.vis) fun u H2 Hs2 E2 r2=>?_);have rdE:∀ {H1 H2:Hp} {a:Addr} {u:List (Key×V)},Same H1 H2->DAt X.K H1 a u->DAt X.K H2 a u:=fun e r=>r.elim (fun⟨o,q⟩=>.inl ⟨o,e _ _ q⟩) .inr;obtain⟨p,kvs,rfl,h1,rfl,h3⟩:=Ht (Rep.same E2.vis _ v r1);obtain⟨w,h4,h5⟩:=wJ h3 hd;exact⟨p,w,kvs,k',rfl,rdE E2.sub h1,Ji hk r2,h4.symm,hq w H2 Hs2 (E1.trans E2) h5⟩
theorem n8{a b:Expr}{x d:D}{i:Int}{xs:List D}{pos:Pos}(ha:Ev X U a x)(hb:Ev X U b (.int i))(hp:aG b=true)(hx:items x=some xs)(hd:atD xs i=some d):Ev X U (.Subscript a b pos) d:=by
 cases x with
 | tup ys =>
  simp only[items,I2z] at hx;subst hx;refine fU ha hb (HY Fq au au (jP hp)) fun u v H Hs Q hs r1 r2 hq=>?_;obtain⟨p,vs,rfl,h1,h2⟩:=cu r1;obtain⟨w,h3,h4⟩:=Ax h2 hd;exact⟨p,vs,i,w,rfl,aX r2,hs.tup h1,h3,hq w H Hs (.refl hs) h4⟩
 | lst ys =>
  simp only[items,I2z] at hx;subst hx;refine fU ha hb (HY Jj au au (jP hp)) fun u v H Hs Q hs r1 r2 hq=>?_;obtain⟨p,vs,rfl,h1,h2⟩:=cT r1;obtain⟨w,h3,h4⟩:=Ax h2 hd;exact⟨p,vs,i,w,rfl,aX r2,hs.seq h1,h3,hq w H Hs (.refl hs) h4⟩
 | _=>simp[items] at hx
theorem Ho{x d:D}{lo hi:Option Expr}{oi:Option Int}(h:Px x lo hi oi=some d):lo=none/\hi=none/\oi=some (-1)/\∃ us,x=.tup us/\d=.tup us.reverse:=by
 unfold Px at h;split at h
 .split at h
  .rename_i i q
   cases h
   have e:i=(-1:Int):=by simpa using q
   subst e;exact⟨rfl,rfl,rfl,_,rfl,rfl⟩
  .cases h
 .cases h
theorem aJ.rev{K:Z3}{H:Hp}:∀ {ds:List D} {vs:List V},aJ K H ds vs->aJ K H ds.reverse vs.reverse
 | [],vs,h=>by
  have:vs=[]:=by simpa[aJ] using h
  subst this;simpa[aJ] using h
 | d::ds,vs,h=>by
  simp only[aJ] at h;obtain⟨w,r,rfl,h1,h2⟩:=h;rw[C2z,C2z];exact(aJ.rev h2).append (.cons h1 .nil)
theorem JD{a c:Expr}{us:List D}{p2 pos:Pos}(ha:Ev X U a (.tup us))(hc:Ev X U c (.int (-1))):Ev X U (.Subscript a (.Slice none none (some c) p2) pos) (.tup us.reverse):=by
 intro Y H Hs Q hs hst hq;refine(HW au au).sem (ha Y H Hs _ hs hst fun u H1 Hs1 E1 r1=>hc Y H1 Hs1 _ E1.sub (hst.same E1.vis) fun v H2 Hs2 E2 r2=>?_);obtain⟨p,ws,rfl,g1,g2⟩:=cu (Rep.same E2.vis _ _ r1);exact⟨p,ws,rfl,aX r2,E2.sub.tup g1,fun q hq'=>gW E2.sub g2.rev hq' fun w H' Hs' E r=>hq w H' Hs' ((E1.trans E2).trans E) r⟩
theorem JM{f:Str}{es:List Expr}{ds:List D}{d:D}{p pos:Pos}(G:Good cx k X sc)(hg:Gl X f)(hf:cx.fns.contains f=true)(hne:es≠[])(h:EvA X U es ds)(hp:∀ e∈es,aG e=true)(hc:cx.call f ds=some d) :
  Ev X U (.Call (.Name f p) es [] pos) d:=by
 obtain⟨hdb,a,fd,ps,har,_,hm,hk,hb,F⟩:=G.fns f hf
 cases es with
 | nil=>exact absurd rfl hne
 | cons e es =>
  intro Y H Hs Q hs hst hq;refine(dI F G.room hg hm hk hb .nil nO cL hdb (aq (hp e (by simp))) (dH fun e' he=>hp e' (S0z _ he))).sem (h Y H Hs _ hs hst fun vs H1 Hs1 E1 r1=>?_);refine⟨?_,Hs1,ds,E1.sub,?_,.inl ⟨d,hc,fun v H' Hs' E2 r2=>hq v H' Hs' (E1.trans E2) r2⟩⟩
  .rw[F3z,<- r1.length,har ds d hc]
  .rw[F3z];exact r1
def Py(X:Cx)(f:Value):List V->Hp->VK->Prop:=fun vs H Q=>∀ z0 s Y us,Inv X z0 Y H s->Vals vs us->wpAny (model X.prog X.w) X.A (call f us) (EP X z0 Y Q) X.xe s
theorem cI{f:Value}:dw X f (Py X f):=fun z0 s Y H xs us Q I r h=>h z0 s Y us I r
theorem dw.sem{f:Value}{r:List V->Hp->VK->Prop}{vs:List V}{H:Hp}{Q:VK}(h:dw X f r)(q:r vs H Q):Py X f vs H Q:=fun z0 s Y us I rv=>h z0 s Y H vs us Q I rv q
def EvC(X:Cx)(f:Value)(ds:List D)(d:D):Prop:=∀ vs H Hs Q,Same Hs H->aJ X.K Hs ds vs->(∀ v H' Hs',Ext Hs H Hs' H'->Rep X.K Hs' d v->Q v H')->Py X f vs H Q
theorem repL1{K:Z3}{H:Hp}{d:D}{vs:List V}(h:aJ K H [d] vs):∃ v,vs=[v]/\Rep K H d v:=by
 simp only[aJ] at h;obtain⟨v,r,rfl,h1,h2⟩:=h;subst h2;exact⟨v,rfl,h1⟩
theorem repL2{K:Z3}{H:Hp}{d e:D}{vs:List V}(h:aJ K H [d,e] vs):∃ v w,vs=[v,w]/\Rep K H d v/\Rep K H e w:=by
 simp only[aJ] at h;obtain⟨v,r,rfl,h1,w,r2,rfl,h2,h3⟩:=h;subst h3;exact⟨v,w,rfl,h1,h2⟩
theorem pO{K:Z3}{H:Hp}{d:D}{l:List D}{v:V}(h:Rep K H d v)(e:items d=some l):∃ a vs,v=.ref a/\(SqL K H a vs\/SqT K H a vs)/\aJ K H l vs:=by
 cases d with
 | tup xs=>simp only[items,I2z] at e;subst e;obtain⟨a,vs,e1,e2,e3⟩:=cu h;exact⟨a,vs,e1,.inr e2,e3⟩
 | lst xs=>simp only[items,I2z] at e;subst e;obtain⟨a,vs,e1,e2,e3⟩:=cT h;exact⟨a,vs,e1,.inl e2,e3⟩
 | _=>simp[items] at e
theorem jY{K:Z3}{H:Hp}:∀ {ds:List D} {bs:List Bool} {vs:List V},qW ds=some bs->aJ K H ds vs->vs=bs.map V.bl
 | [],ns,vs,h,r=>by
  simp only[qW,I2z] at h;subst h
  simpa[aJ] using r
 | .bl i::ds,ns,vs,h,r=>by
  simp only[qW,M0z] at h;obtain⟨ms,h1,rfl⟩:=h;simp only[aJ] at r;obtain⟨v,r',rfl,h2,h3⟩:=r;rw[dz h2,jY h1 h3];rfl
 | .non::ds,ns,vs,h,r=>by simp[qW] at h
 | .int _::ds,ns,vs,h,r=>by simp[qW] at h
 | .str _::ds,ns,vs,h,r=>by simp[qW] at h
 | .tup _::ds,ns,vs,h,r=>by simp[qW] at h
 | .lst _::ds,ns,vs,h,r=>by simp[qW] at h
 | .exc _::ds,ns,vs,h,r=>by simp[qW] at h
 | .dic _ _::ds,ns,vs,h,r=>by simp[qW] at h
 | .obj _::ds,ns,vs,h,r=>by simp[qW] at h
theorem lR:∀ {bs:List Bool} {us:List Value},Vals (bs.map V.bl) us->LSm.BoolsAre us bs
 | [],us,r=>by rw[P4z] at r;cases r;exact .nil
 | b::bs,us,r=>by
  rw[A4z] at r
  cases r with
  | cons r1 r2 =>
   cases (show _=Value.bool b from r1);exact .cons b (lR r2)
theorem Ah(hc:X.calm=true):dw X (.builtin "sum") (fun xs H Q=>∃ (p:Addr) (ns:List Int),xs=[.ref p]/\SqL X.K H p (ns.map V.int)/\Q (.int ns.sum) H):=by
 intro z0 s Y H xs us Q I r h;obtain⟨p,ns,rfl,hq,q⟩:=h;obtain⟨u,rfl,rx⟩:=vals1 r;cases (show u=Value.ref p from rx);obtain⟨its,r',pl,hz⟩:=I.list hq;have hi:=intsAre_of r';obtain⟨zs,hx⟩:=hi.allInts.items;have hl':s.heap.IsList p (intItems zs):=hx▸pl.isList;refine sum_intListG (I.ok.hd hc) hl' fun h' tk t' hk=>⟨.int ns.sum,H,I.kept hk,⟨t',?_⟩,q⟩
 have e1:ns=zs.toList.map (·.1):=by
  rw[<- nums_intItems,<- hx];exact(show numsOf its.toArray.toList=ns from hi.numsOf).symm
 rw[preSum_eq,List.take_of_length_le (by simp),e1]
theorem Aj(hc:X.calm=true):dw X (.builtin "all") (fun xs H Q=>∃ (p:Addr) (bs:List Bool),xs=[.ref p]/\SqL X.K H p (bs.map V.bl)/\Q (.bl (bs.all id)) H):=by
 intro z0 s Y H xs us Q I r h;obtain⟨p,bs,rfl,hq,q⟩:=h;obtain⟨u,rfl,rx⟩:=vals1 r;cases (show u=Value.ref p from rx);obtain⟨its,r',pl,hz⟩:=I.list hq;have hb:=lR r';have hl:=pl.isList
 have hlt:p<s.heap.objs.size:=by obtain⟨_,e,_⟩:=hl;exact J4z e
 refine call_all_walk (wpAny_pyIter_list hl ⟨s.heap.objs.size,[s.heap.objs.size,p],[s.heap.objs.size],its.toArray.size,_,_,fun i=>(bs[i]?).getD true,rfl,Walks.list (A:=X.A.in1) (I.ok.hd hc) _ p (K4z hlt) its.toArray,⟨⟨_,Heap.get?_push_size _ rfl,rfl,rfl⟩,hl.push _⟩,fun i v s' Q' E' hP hQ=>?_,fun h' tk hk=>?_⟩)
 .obtain⟨b,e,rfl⟩:=hb.get i v (by simpa using hP)
  simp only[e,Option.getD_some] at hQ;exact Y1z hQ
 .have e:((List.range its.toArray.size).all fun i=>(bs[i]?).getD true)=bs.all id:=by rw[B2z,hb.length];exact LSm.range_all bs
  rw[e];exact⟨.bl _,H,I.kept (LSm.kept_iter hk),rfl,q⟩
theorem Jz{d0:D}{l:List D}(hl:items d0=some l):EvC X (.type "tuple") [d0] (.tup l):=by
 intro vs H Hs Q hs hr hq;obtain⟨v,rfl,r1⟩:=repL1 hr;refine dw.sem oN ?_
 cases d0 with
 | tup xs =>
  simp only[items,I2z] at hl;subst hl
  obtain⟨a,us,rfl,h1,h2⟩:=cu r1;exact⟨a,us,rfl,.inr ⟨hs.tup h1,hq _ H Hs (.refl hs) r1⟩⟩
 | lst xs =>
  simp only[items,I2z] at hl;subst hl
  obtain⟨a,us,rfl,h1,h2⟩:=cT r1;exact⟨a,us,rfl,.inl ⟨hs.seq h1,fun p hp=>gW hs h2 hp hq⟩⟩
 | _=>simp[items] at hl
def Zq:String->Value
 | "tuple"=>.type "tuple"
 | "list"=>.type "list"
 | "int"=>.type "int"
 | "dict"=>.type "dict"
 | b=>.builtin b
theorem uM(hc:X.calm=true){xs:List D}{l:List (Sum Int Str×D)}(h:iH xs=some l):EvC X (.type "dict") [.lst xs] (sX (Kw l)):=by
 intro vs H Hs Q hs hr hq
 obtain⟨v,rfl,a,us,rfl,h1,h2⟩:∃ v,vs=[v]/\Rep X.K Hs (.lst xs) v:=by
  obtain⟨v,t,rfl,r1,r2⟩:=hr;cases (show t=[] from r2);exact⟨v,rfl,r1⟩
 obtain⟨kvs,p1,p2,p3⟩:=yg h h2;obtain⟨m1,m2⟩:=qd (l0:=[]) (kvs0:=[]) p2 p3 rfl rfl;refine dw.sem (vY hc) ⟨a,us,kvs,rfl,hs.seq h1,prs_same hs p1,fun p ob hp=>?_⟩;have E:=Ext.new hs (.frz ob (.dK (gM [] kvs))) hp;exact hq _ _ _ E ⟨p,_,rfl,.inl ⟨ob,aB⟩,m1,aJ.same E.vis _ _ m2⟩
where
 prs_same {K:Z3} {Hs H:Hp} (hs:Same Hs H):∀ {vs:List V} {kvs:List (Key×V)},wk K Hs vs kvs->wk K H vs kvs
  | [],_,h=>h
  | _::_,_,h=>by
   obtain⟨b,k,v,q,e1,e2,e3,e4⟩:=h
   exact⟨b,k,v,q,e1,e2,hs.tup e3,prs_same hs e4⟩
theorem Dt(hc:X.calm=true)(kw:KnW X.K X.w){ks:List (Sum Int Str)}{ds:List D}{l l':List Str}(h1:pJ ks=some l)(h2:l.length<64)(h3:Bj l=some l'):EvC X (.builtin "sorted") [.dic ks ds] (.lst (l'.map .str)):=by
 intro vs H Hs Q hs hr hq
 obtain⟨v,rfl,a,kvs,rfl,g1,g2,g3⟩:∃ v,vs=[v]/\Rep X.K Hs (.dic ks ds) v:=by
  obtain⟨v,t,rfl,r1,r2⟩:=hr;cases (show t=[] from r2);exact⟨v,rfl,r1⟩
 have g1':DAt X.K H a kvs:=g1.elim (fun⟨o,q⟩=>.inl ⟨o,hs _ _ q⟩) .inr;refine dw.sem (jz hc) ⟨a,kvs,l,rfl,fun _ _ _ I=>d8 I kw g1',by rw[g2,tW h1],h2,fun p ss hp hperm hsort=>?_⟩;have e:=xJ h3 hperm hsort;rw[e];have E:=Ext.new hs (.lst (l'.map V.str)) hp;refine hq _ _ _ E ⟨p,_,rfl,.inl (.inl aB),?_⟩;exact strs_rep l'
where
 strs_rep {K:Z3} {H:Hp}:∀ ss:List Str,aJ K H (ss.map D.str) (ss.map V.str)
  | []=>rfl
  | s::r=>⟨_,_,rfl,by simp[Rep],strs_rep r⟩
theorem Od{b:String}{ds:List D}{d:D}(hc:X.calm=true)(kw:KnW X.K X.w)(h:DE.blt b ds=some d):EvC X (Zq b) ds d:=by
 intro vs H Hs Q hs hr hq;unfold DE.blt at h;split at h
 .split at h
  .rename_i x hz
   cases h;obtain⟨v,rfl,r1⟩:=repL1 hr
   have e:v=.str x:=by simpa[Rep] using r1
   subst e;exact dw.sem qL ⟨x,rfl,j6 hz,hq _ H Hs (.refl hs) (by simp[Rep])⟩
  .cases h
 .simp only[bind,Option.bind] at h
  split at h
  .cases h
  .rename_i l hl
   cases h;obtain⟨v,rfl,r1⟩:=repL1 hr;obtain⟨a,us,rfl,h1,h2⟩:=pO r1 hl;refine dw.sem fZ ⟨a,us,rfl,h1.imp hs.seq hs.tup,?_⟩;rw[<- h2.length];exact hq _ H Hs (.refl hs) (by simp[Rep])
 .simp only[bind,Option.bind] at h
  split at h
  .cases h
  .rename_i l hl
   cases h;obtain⟨v,rfl,r1⟩:=repL1 hr;obtain⟨a,us,rfl,h1,h2⟩:=cT r1;have e:=jY hl h2;subst e;exact dw.sem (Aj hc) ⟨a,_,rfl,hs.seq h1,hq _ H Hs (.refl hs) (by simp[Rep])⟩
 .simp only[bind,Option.bind] at h
  split at h
  .cases h
  .rename_i l hl
   cases h;obtain⟨v,rfl,r1⟩:=repL1 hr;obtain⟨a,us,rfl,h1,h2⟩:=cT r1;have e:=oV hl h2;subst e;exact dw.sem (Ah hc) ⟨a,_,rfl,hs.seq h1,hq _ H Hs (.refl hs) (by simp[Rep])⟩
 .simp only[bind,Option.bind] at h
  split at h
  .cases h
  .rename_i l hl
   cases h;exact Jz hl vs H Hs Q hs hr hq
 .simp only[bind,Option.bind] at h
  split at h
  .cases h
  .rename_i l hl
   cases h;obtain⟨v,rfl,r1⟩:=repL1 hr;obtain⟨a,us,rfl,h1,h2⟩:=pO r1 hl;exact dw.sem qK ⟨a,us,rfl,h1.imp hs.seq hs.tup,fun p hp=>nQ hs h2 hp hq⟩
 .obtain⟨l,h1,rfl⟩:=M0z.mp h
  exact uM hc h1 vs H Hs Q hs hr hq
 .obtain⟨l',h1,rfl⟩:=M0z.mp h
  obtain⟨l,h2,h3⟩:=Option.bind_eq_some_iff.mp h1;split at h3
  .rename_i hz
   exact Dt hc kw h2 (J2z hz) h3 vs H Hs Q hs hr hq
  .cases h3
 .cases h
end
section
variable {X:Cx} {U:Rho} {cx:Cxt} {k:Nat} {sc:Scope}
theorem cV{x:Str}{b:String}(G:Good cx k X sc)(h:bV cx sc x=some b):Gl X x/\X.mg x=none/\x=Str.ofString b:=by
 unfold bV qZ at h;split at h
 .rename_i hg
  have e:sc.names.lookup x=some .globalImplicit:=by simpa using hg
  refine⟨?_,G.blt x b h⟩;show X.env.scope.names.lookup x=_;rw[G.sce,e]
 .cases h
theorem Am{b:String}{ds:List D}{d:D}(h:DE.blt b ds=some d):b="len"\/b="all"\/b="sum"\/b="tuple"\/b="list"\/b="min"\/b="max"\/b="abs"\/b="int"\/b="any"\/b="dict"\/b="sorted":=by
 unfold DE.blt at h
 split at h<;>first | (simp;done) | cases h
theorem Dy{x:Str}{b:String}{e:Expr}{es:List Expr}{ds:List D}{d:D}{p pos:Pos}(G:Good cx k X sc)(hx:bV cx sc x=some b)(h:EvA X U (e::es) ds)(hp:∀ a∈e::es,aG a=true)(hd:DE.blt b ds=some d) :
  Ev X U (.Call (.Name x p) (e::es) [] pos) d:=by
 obtain⟨hg,hm,rfl⟩:=cV G hx;have c:=Od (X:=X) G.calm G.kw hd;have s1:=aq (env:=X.env) (es:=es) (hp e (by simp));have s2:=dH (env:=X.env) (pos:=pos) fun a ha=>hp a (S0z _ ha)
 have fin:∀ f:Value,Zq b=f->PE X (.Call (.Name (Str.ofString b) p) (e::es) [] pos) (tCB (Py X f) (wY X (e::es)))->Ev X U (.Call (.Name (Str.ofString b) p) (e::es) [] pos) d:=by
  intro f hf hpe Y H Hs Q hs hst hq;rw[hf] at c;refine hpe.sem (h Y H Hs _ hs hst fun vs H1 Hs1 E1 r1=>?_);exact c vs H1 Hs1 Q E1.sub r1 fun v H' Hs' E2 r2=>hq v H' Hs' (E1.trans E2) r2
 rcases Am hd with rfl | rfl | rfl | rfl | rfl | rfl | rfl | rfl | rfl | rfl | rfl | rfl
 .exact fin (.builtin "len") rfl (bY cI hg hm (by decide +kernel) cL (by decide) (by decide) s1 s2)
 .exact fin (.builtin "all") rfl (bY cI hg hm (by decide +kernel) cL (by decide) (by decide) s1 s2)
 .exact fin (.builtin "sum") rfl (bY cI hg hm (by decide +kernel) cL (by decide) (by decide) s1 s2)
 .exact fin (.type "tuple") rfl (eG cI hg hm (by decide +kernel) cL (by decide) (by decide) s1 s2)
 .exact fin (.type "list") rfl (eG cI hg hm (by decide +kernel) cL (by decide) (by decide) s1 s2)
 .exact fin (.builtin "min") rfl (bY cI hg hm (by decide +kernel) cL (by decide) (by decide) s1 s2)
 .exact fin (.builtin "max") rfl (bY cI hg hm (by decide +kernel) cL (by decide) (by decide) s1 s2)
 .exact fin (.builtin "abs") rfl (bY cI hg hm (by decide +kernel) cL (by decide) (by decide) s1 s2)
 .exact fin (.type "int") rfl (eG cI hg hm (by decide +kernel) cL (by decide) (by decide) s1 s2)
 .exact fin (.builtin "any") rfl (bY cI hg hm (by decide +kernel) cL (by decide) (by decide) s1 s2)
 .exact fin (.type "dict") rfl (eG cI hg hm (by decide +kernel) cL (by decide) (by decide) s1 s2)
 .exact fin (.builtin "sorted") rfl (bY cI hg hm (by decide +kernel) cL (by decide) (by decide) s1 s2)
def Z8(K:Z3)(T:String):List V->Hp->VK->Prop:=fun xs H Q=>∃ x d,xs=[x,.ty T]/\Rep K H d x/\isExc d=false/\Q (.bl (PN T d)) H
theorem tU{T:String}(h:j5 T=true):T="int"\/T="bool"\/T="tuple"\/T="list"\/T="str":=by
 unfold j5 at h
 split at h<;>first | (simp;done) | cases h
theorem pC{x:V}{vs:List V}{us:List Value}(r:Vals (x::vs) us):∃ u w,us=u::w/\RelV x u/\Vals vs w:=by
 cases r with
 | cons r rr=>exact⟨_,_,rfl,r,rr⟩
theorem DY{T:String}(hk:j5 T=true):dw X (.builtin "isinstance") (Z8 X.K T):=by
 intro z0 s Y H xs us Q I r h;obtain⟨x,d,rfl,rd,hne,q⟩:=h;obtain⟨u,w1,rfl,rx,rr⟩:=pC r;obtain⟨c,w2,rfl,rc,rr2⟩:=pC rr;cases rr2;cases (show c=Value.type T from rc);have fin:∀ b,b=PN T d->∀ tk,EP X z0 Y Q (.bool b) { s with toks:=tk }:=fun b hb tk=>⟨.bl _,H,I.tok _,by rw[hb];rfl,q⟩;have ks:=tU hk
 cases d with
 | exc c=>exact absurd hne (by simp[isExc])
 | dic _ _=>exact absurd hne (by simp[isExc])
 | obj _=>exact absurd hne (by simp[isExc])
 | non =>
  cases nG rd;cases (show u=Value.none from rx)
  rcases ks with rfl | rfl | rfl | rfl | rfl<;>exact P3z (b:=false) W.kitx_none I.kIn True.intro rfl (fun z=>nomatch z) (fin _ rfl)
 | bl y =>
  cases dz rd;cases (show u=Value.bool y from rx)
  rcases ks with rfl | rfl | rfl | rfl | rfl
  .exact P3z (b:=true) K2z I.kIn True.intro rfl (fun z=>nomatch z) (fin _ rfl)
  .exact P3z (b:=true) K2z I.kIn True.intro rfl (fun z=>nomatch z) (fin _ rfl)
  .exact P3z (b:=false) K2z I.kIn True.intro rfl (fun z=>nomatch z) (fin _ rfl)
  .exact P3z (b:=false) K2z I.kIn True.intro rfl (fun z=>nomatch z) (fin _ rfl)
  .exact P3z (b:=false) K2z I.kIn True.intro rfl (fun z=>nomatch z) (fin _ rfl)
 | int y =>
  cases aX rd;obtain⟨t,e⟩:=(show ∃ t,u=Value.int y t from rx);cases e;rcases ks with rfl | rfl | rfl | rfl | rfl
  .exact P3z (b:=true) Y2z I.kIn True.intro rfl (fun z=>nomatch z) (fin _ rfl)
  .exact P3z (b:=false) Y2z I.kIn True.intro rfl (fun z=>nomatch z) (fin _ rfl)
  .exact P3z (b:=false) Y2z I.kIn True.intro rfl (fun z=>nomatch z) (fin _ rfl)
  .exact P3z (b:=false) Y2z I.kIn True.intro rfl (fun z=>nomatch z) (fin _ rfl)
  .exact P3z (b:=false) Y2z I.kIn True.intro rfl (fun z=>nomatch z) (fin _ rfl)
 | str y =>
  have ev:x=.str y:=by simpa[Rep] using rd
  subst ev;obtain⟨t,e⟩:=(show ∃ t,u=Value.str y t from rx);cases e;rcases ks with rfl | rfl | rfl | rfl | rfl
  .exact P3z (b:=false) Z2z I.kIn True.intro rfl (fun z=>nomatch z) (fin _ rfl)
  .exact P3z (b:=false) Z2z I.kIn True.intro rfl (fun z=>nomatch z) (fin _ rfl)
  .exact P3z (b:=false) Z2z I.kIn True.intro rfl (fun z=>nomatch z) (fin _ rfl)
  .exact P3z (b:=false) Z2z I.kIn True.intro rfl (fun z=>nomatch z) (fin _ rfl)
  .exact P3z (b:=true) Z2z I.kIn True.intro rfl (fun z=>nomatch z) (fin _ rfl)
 | tup ds =>
  obtain⟨a,vs,rfl,h1,h2⟩:=cu rd;cases (show u=Value.ref a from rx);obtain⟨its,_,o,g1,g2,_⟩:=isT I h1;rcases ks with rfl | rfl | rfl | rfl | rfl
  .exact P3z (b:=false) U1z I.kIn ⟨o,g1,g2⟩ rfl (fun z=>nomatch z) (fin _ rfl)
  .exact P3z (b:=false) U1z I.kIn ⟨o,g1,g2⟩ rfl (fun z=>nomatch z) (fin _ rfl)
  .exact P3z (b:=true) U1z I.kIn ⟨o,g1,g2⟩ rfl (fun z=>nomatch z) (fin _ rfl)
  .exact P3z (b:=false) U1z I.kIn ⟨o,g1,g2⟩ rfl (fun z=>nomatch z) (fin _ rfl)
  .exact P3z (b:=false) U1z I.kIn ⟨o,g1,g2⟩ rfl (fun z=>nomatch z) (fin _ rfl)
 | lst ds =>
  obtain⟨a,vs,rfl,h1,h2⟩:=cT rd;cases (show u=Value.ref a from rx);obtain⟨its,_,o,g1,g2,_⟩:=isL I h1;rcases ks with rfl | rfl | rfl | rfl | rfl
  .exact P3z (b:=false) L2z I.kIn ⟨o,g1,g2⟩ rfl (fun z=>nomatch z) (fin _ rfl)
  .exact P3z (b:=false) L2z I.kIn ⟨o,g1,g2⟩ rfl (fun z=>nomatch z) (fin _ rfl)
  .exact P3z (b:=false) L2z I.kIn ⟨o,g1,g2⟩ rfl (fun z=>nomatch z) (fin _ rfl)
  .exact P3z (b:=true) L2z I.kIn ⟨o,g1,g2⟩ rfl (fun z=>nomatch z) (fin _ rfl)
  .exact P3z (b:=false) L2z I.kIn ⟨o,g1,g2⟩ rfl (fun z=>nomatch z) (fin _ rfl)
theorem N8{x t:Str}{T:String}{a:Expr}{d:D}{p pt pos:Pos}(G:Good cx k X sc)(hx:bV cx sc x=some "isinstance")(ht:bV cx sc t=some T)(hk:j5 T=true)(ha:Ev X U a d)(hp:aG a=true)(hne:isExc d=false) :
  Ev X U (.Call (.Name x p) [a,.Name t pt] [] pos) (.bl (PN T d)):=by
 obtain⟨hg,hm,rfl⟩:=cV G hx;obtain⟨hg2,hm2,rfl⟩:=cV G ht
 have htv:PE X (.Name (Str.ofString T) pt) (tC (.ty T)):=by
  rcases tU hk with rfl | rfl | rfl | rfl | rfl<;>exact rN hg2 hm2 (by decide +kernel) rfl
 intro Y H Hs Q hs hst hq;refine(bY (DY (X:=X) hk) hg hm (by decide +kernel) (aA au (aA htv aO (aq rfl)) (aq hp)) (by decide) (by decide) (aq hp) rfl).sem ?_;exact ha Y H Hs _ hs hst fun v H1 Hs1 E1 r1=>⟨v,d,rfl,Rep.same E1.sub d v r1,hne,hq _ H1 Hs1 E1 (by simp[Rep])⟩
def QG(K:Z3)(cv:V)(C:Addr)(b:Bool):List V->Hp->VK->Prop:=fun xs H Q=>∃ a,xs=[.ref a,cv]/\H a=some (.ext (isX a (.ref C)))/\Q (.bl b) H
theorem qM{cv:V}{c:Value}{C:Addr}{b:Bool}(hA:m8 X.K C=true)(hc:∀ u,RelV cv u->u=c)(e:W.kitOne X.K (.ref C) c=some b):dw X (.builtin "isinstance") (QG X.K cv C b):=by
 intro z0 s Y H xs us Q I r h;obtain⟨a,rfl,ha,q⟩:=h;obtain⟨u,w1,rfl,rx,rr⟩:=pC r;obtain⟨u2,w2,rfl,rc,rr2⟩:=pC rr;cases rr2;cases (show u=Value.ref a from rx);cases hc u2 rc;exact P3z (Dj hA) I.kIn (I.hok _ _ ha).1 e (fun z=>nomatch z) fun tk=>⟨.bl _,H,I.tok _,rfl,q⟩
theorem sI{x c:Str}{t a:Expr}{tv:TE}{cv:V}{cw:Value}{b:Bool}{p pos:Pos}(G:Good cx k X sc)(hx:bV cx sc x=some "isinstance")(hc:cx.exs.contains c=true)(ht:PE X t (tC cv))(hpt:aG t=true)(hcv:∀ u,RelV cv u->u=cw)
  (hk:∀ C,W.nsIn X.K mainGlobals c=some (some (.ref C))->W.kitOne X.K (.ref C) cw=some b) (ha:Ev X U a (.exc c)) (hp:aG a=true):Ev X U (.Call (.Name x p) [a,t] [] pos) (.bl b):=by
 obtain⟨hg,hm,rfl⟩:=cV G hx;obtain⟨C,M,e1,_,_,e2,_⟩:=G.exs.cls c hc;intro Y H Hs Q hs hst hq;refine(bY (qM (X:=X) (cv:=cv) e2 hcv (hk C e1)) hg hm (by decide +kernel) (aA au (aA ht aO (aq hpt)) (aq hp)) (by decide) (by decide) (aq hp) (by rw[aq hpt];rfl)).sem ?_;refine ha Y H Hs _ hs hst fun v H1 Hs1 E1 r1=>?_;have r2:=Rep.same E1.sub _ v r1;simp only[Rep] at r2;obtain⟨a0,C0,rfl,f1,f2⟩:=r2;rw[e1] at f1;cases f1;exact⟨a0,rfl,f2,hq _ H1 Hs1 E1 (by simp[Rep])⟩
theorem JG{x t c:Str}{a:Expr}{p pt pos:Pos}(G:Good cx k X sc)(hx:bV cx sc x=some "isinstance")(ht:bV cx sc t=some "ValueError")(hc:cx.exs.contains c=true)(ha:Ev X U a (.exc c))(hp:aG a=true):Ev X U (.Call (.Name x p) [a,.Name t pt] [] pos) (.bl true):=by
 obtain⟨hg2,hm2,rfl⟩:=cV G ht;refine sI (tv:=tC (.ty "ValueError")) (cv:=.ty "ValueError") (cw:=.type "ValueError") G hx hc (rN hg2 hm2 (by decide +kernel) rfl) rfl (fun u r=>r) (fun C e=>?_) ha hp;obtain⟨C',M,e1,_,_,_,_,_,e2⟩:=G.exs.cls c hc;rw[e] at e1;cases e1;exact e2
theorem Ef{t:Expr}{c':Str}(h:xOf cx sc t=some c'):∃ pt,t=.Name c' pt/\qZ cx sc c'=true/\(cx.exs.contains c'=true\/c'=cx.top)/\(c'==("__debug__":Str))=false:=by
 unfold xOf at h;split at h
 .rename_i y pt
  split at h
  .rename_i q
   cases h;rw[U2z,U2z,N3z] at q;have q2:=q.2;unfold aH at q2;rw[U2z,E5z] at q2;exact⟨pt,rfl,q.1.1,q.1.2.imp id (fun z=>by simpa using z),by simpa using q2.1⟩
  .cases h
 .cases h
theorem JF{x c c':Str}{t a:Expr}{p pos:Pos}(G:Good cx k X sc)(hx:bV cx sc x=some "isinstance")(ht:xOf cx sc t=some c')(hc:cx.exs.contains c=true)(ha:Ev X U a (.exc c))(hp:aG a=true):Ev X U (.Call (.Name x p) [a,t] [] pos) (.bl (wC cx.top c c')):=by
 obtain⟨pt,rfl,hgl,hin,hd⟩:=Ef ht
 have hg:Gl X c':=by
  have e:sc.names.lookup c'=some .globalImplicit:=by unfold qZ at hgl;simpa using hgl
  show X.env.scope.names.lookup c'=_;rw[G.sce,e]
 by_cases htop:c'=cx.top
 .subst htop
  obtain⟨C,M,e1,e2,_,_,_,e3,_⟩:=G.exs.cls c hc
  have:wC cx.top c cx.top=true:=by unfold wC;simp
  rw[this];refine sI (tv:=tC (.ref M)) (cv:=.ref M) (cw:=.ref M) G hx hc (kY hg (G.exs.glob _ _ e2) rfl hd) rfl (fun u r=>r) (fun C' e=>?_) ha hp;rw[e] at e1;cases e1;exact e3
 .have hin':cx.exs.contains c'=true:=hin.resolve_right htop
  obtain⟨C,C',e1,e2,e3⟩:=G.exs.sub c c' hc hin'
  have:wC cx.top c c'=(c==c'):=by
   unfold wC
   have:(c'==cx.top)=false:=by simpa using htop
   rw[this,Bool.or_false]
  rw[this];refine sI (tv:=tC (.ref C')) (cv:=.ref C') (cw:=.ref C') G hx hc (kY hg (G.exs.glob _ _ e2) rfl hd) rfl (fun u r=>r) (fun C'' e=>?_) ha hp;rw[e] at e1;cases e1;exact e3
end
section
variable {X:Cx} {U:Rho} {cx:Cxt} {k:Nat} {sc:Scope}
theorem wI:∀ {vs:List V} {us:List Value},vs.length=us.length->(∀ (i:Nat) (v:V) (u:Value),vs[i]?=some v->us[i]?=some u->RelV v u)->Vals vs us
 | [],[],_,_=>.nil
 | [],u::us,h,_=>by simp at h
 | v::vs,[],h,_=>by simp at h
 | v::vs,u::us,h,hr=>.cons (hr 0 v u rfl rfl) (wI (by simpa using h) fun i a b e1 e2=>hr (i+1) a b (by simpa using e1) (by simpa using e2))
theorem uf{α:Type}{K:Z3}{H:Hp}{f:α->D}{g:α->V}(h:∀ x,Rep K H (f x) (g x)):∀ l:List α,aJ K H (l.map f) (l.map g)
 | []=>.nil
 | x::r=>.cons (h x) (uf h r)
theorem Ep{i:Int}(h:pN i=true):-(2^62)<=i/\i<2^62:=by
 unfold pN at h;rw[U2z,H2z,H2z] at h;exact h
theorem CT{wr:List Addr}{s s':Shared}(m:Moved wr (fun a b=>b=a) s s'):s'={ s with heap:=s'.heap,toks:=s'.toks }:=by
 have h1:=m.gens;have h2:=m.drawn;have h3:=m.os;cases s;cases s';simp at h1 h2 h3;subst h1 h2 h3;rfl
theorem JB{x y:Str}{a:Expr}{xs:List D}{p q q' pos:Pos}(G:Good cx k X sc)(hx:bV cx sc x=some "tuple")(hy:bV cx sc y=some "reversed")(ha:Ev X U a (.tup xs))(hp:aG a=true) :
  Ev X U (.Call (.Name x p) [.Call (.Name y q) [a] [] q'] [] pos) (.tup xs.reverse):=by
 obtain⟨hg,hm,rfl⟩:=cV G hx;obtain⟨hg2,hm2,rfl⟩:=cV G hy;intro Y H Hs Q hs hst hq z0 s I;refine Call_ (jx I hg hm (show bootBuiltins "tuple"=some (.type "tuple") by decide +kernel) (A0z ?_ rfl rfl));show wpAny _ _ (spliced [(false,eval (.Call (.Name _ q) [a] [] q') X.env)]) _ _ _;refine L1z ?_;refine Call_ (jx I hg2 hm2 boot_reversed (A0z ?_ (aq hp) rfl))
 refine thn ((aA au aO (aq hp)) q' z0 s Y H (fun vs H1=>∃ Hs1 b ws,vs=[.ref b]/\SqT X.K Hs1 b ws/\aJ X.K Hs1 xs ws/\Ext Hs H Hs1 H1) I (ha Y H Hs _ hs hst fun v H1 Hs1 E1 r1=>by
  obtain⟨b,ws,rfl,h1,h2⟩:=cu r1
  exact⟨Hs1,b,ws,rfl,h1,h2,E1⟩)) fun us s1 ⟨vs,H1,I1,r1,Hs1,b,ws,e1,t1,r2,E1⟩=>?_
 subst e1;obtain⟨u,w1,rfl,rx,rr⟩:=pC r1;cases rr;cases (show u=Value.ref b from rx);obtain⟨its,rv,pt,hz⟩:=I1.tuple (E1.sub.tup t1);have hl:=rv.length;refine qJ pt (by simp;omega) fun tk=>A2z ?_;have st:dR (s1.heap.push (BW b ((its.toArray.size:Int)-1))) s1.heap.objs.size b ((its.toArray.size:Int)-1):=Heap.get?_push_size _ rfl;have I2:Inv X z0 Y H1 { s1 with heap:=s1.heap.push (BW b ((its.toArray.size:Int)-1)),toks:=tk }:=I1.kept (t':=tk) fun b o e=>Heap.get?_push_of_some _ e;have hfr:H1 s1.heap.objs.size=none:=I1.hok.fresh (T4z _);obtain⟨f0,f1,f2,f3,f4,f5⟩:=I1.fpOk (T4z _) hfr
 have pt2:IsTup (s1.heap.push (BW b ((its.toArray.size:Int)-1))) b its.toArray:=by
  obtain⟨o,e1,e2⟩:=pt;exact⟨o,Heap.get?_push_of_some _ e1,e2⟩
 refine lO (I1.ok.hd G.calm) (s:={ s1 with heap:=s1.heap.push (BW b ((its.toArray.size:Int)-1)),toks:=tk }) st pt2 (by simp;omega) fun s' acc hm hacc=>?_
 have I3:Inv X z0 Y H1 s':=by
  rw[CT hm];exact I2.turned (fun c o hc e=>hm.heap c o (by simpa using hc) e) f0 f1 f3 f4 f5
 have hv:Vals ws.reverse acc.toList:=by
  have ha:acc.toList.length=its.length:=by
   have:=hacc.1;simpa using this
  refine wI (by rw[D1z,ha];exact hl) fun i v u e1 e2=>?_
  have e3:=hacc.2 i u (by simpa using e2);rw[B2z,List.getElem?_toArray] at e3
  have hi:i<ws.length:=by have:=(List.getElem?_eq_some_iff.mp e1).1;simpa using this
  rw[List.getElem?_reverse hi] at e1;obtain⟨u',e4,e5⟩:=rv.get e1;rw[hl] at e4;rw[e3] at e4;cases e4;exact e5
 have hz2:ws.reverse.length<=sizeLine:=by simpa using hz
 have I4:Inv X z0 Y (upd H1 s'.heap.objs.size (.tup ws.reverse)) { s' with heap:=s'.heap.push { cls:=.type "tuple",data:=.seq acc } } :=
  I3.laid (t':=s'.toks) (fun b o e=>Heap.get?_push_of_some _ e) (T4z _) (show cJ X.prog X.w _ _ _ (.tup ws.reverse) from⟨hz2,acc.toList,hv,by simpa using IsTup.new s'.heap acc⟩)
 exact⟨.ref s'.heap.objs.size,_,I4,rfl,gW E1.sub r2.reverse (I3.hok.fresh (T4z _)) fun w H' Hs' E2 r2=>hq w H' Hs' (E1.trans E2) r2⟩
variable {tg iter a b:Expr}
theorem JR{d:D}{l:List D}(h:Ev X U iter d)(hl:items d=some l):EvI X U tg iter l:=by
 intro Y H Hs R hs hst hq
 cases d with
 | lst xs =>
  simp only[items,I2z] at hl;subst hl
  refine(yq (tg:=tg) au).sem (h Y H Hs _ hs hst fun v H1 Hs1 E1 r1=>?_);obtain⟨p,vs,rfl,h1,h2⟩:=cT r1;refine⟨p,rfl,⟨vs,E1.sub.seq h1⟩,hq _ H1 Hs1 E1 fun Hs' H' e1 e2=>⟨⟨vs,e2.seq (e1.seq h1),by rw[h2.length];exact T4z _⟩,fun i d hd=>?_⟩⟩;obtain⟨v,g1,g2⟩:=h2.get hd;refine⟨⟨vs,v,e2.seq (e1.seq h1),g1⟩,fun x H2 y=>?_⟩;obtain⟨rfl,y⟩:=y;have:=y vs (e2.seq (e1.seq h1));rw[g1] at this;cases this;exact⟨Hs',.refl e2,Rep.same e1 d v g2⟩
 | tup xs =>
  simp only[items,I2z] at hl;subst hl
  refine(LR (tg:=tg) au).sem (h Y H Hs _ hs hst fun v H1 Hs1 E1 r1=>?_);obtain⟨p,vs,rfl,h1,h2⟩:=cu r1;refine⟨p,rfl,⟨vs,E1.sub.tup h1⟩,hq _ H1 Hs1 E1 fun Hs' H' e1 e2=>⟨⟨vs,e2.tup (e1.tup h1),by rw[h2.length];exact T4z _⟩,fun i d hd=>?_⟩⟩;obtain⟨v,g1,g2⟩:=h2.get hd;refine⟨⟨vs,v,e2.tup (e1.tup h1),g1⟩,fun x H2 y=>?_⟩;obtain⟨rfl,y⟩:=y;have:=y vs (e2.tup (e1.tup h1));rw[g1] at this;cases this;exact⟨Hs',.refl e2,Rep.same e1 d v g2⟩
 | _=>simp[items] at hl
theorem JQ{d:D}{l:List D}(kw:KnW X.K X.w)(h:Ev X U iter d)(hl:mJ d=some l):EvI X U tg iter l:=by
 cases d with
 | dic ks ds =>
  cases hl;intro Y H Hs R hs hst hq;refine(HF (tg:=tg) kw au).sem (h Y H Hs _ hs hst fun v H1 Hs1 E1 r1=>?_);obtain⟨a,kvs,rfl,g1,g2,g3⟩:=r1;obtain⟨o,ho⟩:=g1.obj;have up:∀ {H1 H2:Hp},Same H1 H2->Ko X.K H1 a kvs o->Ko X.K H2 a kvs o:=fun e r=>r.elim (fun q=>.inl (e _ _ q)) .inr;refine⟨a,kvs,o,rfl,up E1.sub ho,hq _ H1 Hs1 E1 fun Hs' H' e1 e2=>⟨⟨up e2 (up e1 ho),by rw[E3z,<- g2,E3z]⟩,fun i d hd=>?_⟩⟩;rw[<- g2,R4z,List.getElem?_map] at hd;obtain⟨q,h1,rfl⟩:=M0z.mp hd;have hi:i<kvs.length:=(List.getElem?_eq_some_iff.mp h1).1;refine⟨⟨up e2 (up e1 ho),hi⟩,fun y H2 hy=>?_⟩;obtain⟨rfl,k,v,h2,rfl⟩:=hy;rw[h1] at h2;cases h2;refine⟨Hs',.refl e2,?_⟩
  cases k with
  | inl n=>simp[Rep,kD,kV]
  | inr n=>simp[Rep,kD,kV]
 | str x =>
  simp only[mJ] at hl;split at hl
  .rename_i ha
   cases hl;intro Y H Hs R hs hst hq;refine(Ma (tg:=tg) au).sem (h Y H Hs _ hs hst fun v H1 Hs1 E1 r1=>?_)
   have e:v=.str x:=by simpa[Rep] using r1
   subst e;refine⟨x,rfl,ha,hq _ H1 Hs1 E1 fun Hs' H' e1 e2=>⟨?_,fun i d hd=>?_⟩⟩
   .show x.cps.size<=_
    simp
   .rw[List.getElem?_map] at hd
    obtain⟨c,h1,rfl⟩:=M0z.mp hd
    have hi:i<x.cps.size:=by
     have:=(List.getElem?_eq_some_iff.mp h1).1;simpa using this
    refine⟨hi,fun y H2 hy=>?_⟩;obtain⟨rfl,c',h2,rfl⟩:=hy
    have:c'=c:=by
     rw[<- Array.getElem?_toList] at h2;rw[h1] at h2;cases h2;rfl
    subst this;exact⟨Hs',.refl e2,by simp[Rep]⟩
  .cases hl
 | _=>exact JR h hl
theorem su{K:Z3}{Hs0:Hp}{lo hi:Int}{n:Nat}(hn:n=(hi-lo).toNat):Kl K (Itr lo n) Hs0 (dW lo hi):=by
 have hl:(dW lo hi).length=n:=by rw[hn];simp[dW]
 intro Hs H e1 e2;refine⟨by show n<=_;rw[hl];exact T4z _,fun i d hd=>?_⟩
 have hi:i<n:=by have:=(List.getElem?_eq_some_iff.mp hd).1;rw[hl] at this;exact this
 refine⟨hi,fun x H' y=>?_⟩;obtain⟨rfl,rfl⟩:=y;refine⟨Hs,.refl e2,?_⟩;unfold dW at hd;rw[List.getElem?_map] at hd;obtain⟨j,e3,rfl⟩:=M0z.mp hd;rw[List.getElem?_eq_some_iff] at e3;obtain⟨_,e3⟩:=e3;rw[List.getElem_range] at e3;subst e3;simp[Rep]
theorem vQ{x:Str}{j:Int}{p pos:Pos}(G:Good cx k X sc)(hx:bV cx sc x=some "range")(ha:Ev X U a (.int j))(hp:aG a=true)(hj:pN j=true):EvI X U tg (.Call (.Name x p) [a] [] pos) (dW 0 j):=by
 obtain⟨hg,hm,rfl⟩:=cV G hx;intro Y H Hs R hs hst hq;have q:=yp (tg:=tg) (p:=p) (pos:=pos) hg hm (aA (au (X:=X) (e:=a)) aO (aq hp)) (aq hp);refine PI.sem q (ha Y H Hs _ hs hst fun v H1 Hs1 E1 r1=>?_);exact⟨j,by rw[aX r1],(Ep hj).1,(Ep hj).2,hq _ H1 Hs1 E1 (su (by simp))⟩
theorem JT{x:Str}{xs:List D}{p pos:Pos}(G:Good cx k X sc)(hx:bV cx sc x=some "reversed")(ha:Ev X U a (.tup xs))(hp:aG a=true):EvI X U tg (.Call (.Name x p) [a] [] pos) xs.reverse:=by
 obtain⟨hg,hm,rfl⟩:=cV G hx;intro Y H Hs R hs hst hq;have q:=Mf (tg:=tg) (p:=p) (pos:=pos) hg hm (aA (au (X:=X) (e:=a)) aO (aq hp)) (aq hp);refine PI.sem q (ha Y H Hs _ hs hst fun v H1 Hs1 E1 r1=>?_);obtain⟨b,vs,rfl,h1,h2⟩:=cu r1;have hl:=h2.length;refine⟨b,vs,rfl,E1.sub.tup h1,hq _ H1 Hs1 E1 fun Hs' H' e1 e2=>⟨by show _=_;rw[D1z,hl],fun i d hd=>?_⟩⟩
 have hi:i<xs.length:=by have:=(List.getElem?_eq_some_iff.mp hd).1;simpa using this
 rw[List.getElem?_reverse hi] at hd;obtain⟨v,g1,g2⟩:=h2.get hd;rw[hl] at g1;refine⟨⟨vs,e2.tup (e1.tup h1),rfl,by rw[<- hl];exact hi⟩,fun x H2 y=>?_⟩;obtain⟨rfl,y⟩:=y;have:=y vs (e2.tup (e1.tup h1));rw[g1] at this;cases this;exact⟨Hs',.refl e2,Rep.same e1 d v g2⟩
theorem JN{x:Str}{xs ys:List D}{p pos pt:Pos}{es:List Expr}{kt:Nat}(G:Good cx k X sc)(hx:bV cx sc x=some "zip")(ha:Ev X U a (.tup xs))(hp:aG a=true)(hb:Ev X U b (.tup ys))(hpb:aG b=true) :
  EvI X U (.Tuple es kt pt) (.Call (.Name x p) [a,b] [] pos) ((xs.zip ys).map fun q=>.tup [q.1,q.2]):=by
 obtain⟨hg,hm,rfl⟩:=cV G hx;intro Y H Hs R hs hst hq;have q:=LQ (es:=es) (kt:=kt) (pt:=pt) (p:=p) (pos:=pos) hg hm (aA (au (X:=X) (e:=a)) (aA (au (X:=X) (e:=b)) aO (aq hpb)) (aq hp)) (by rw[aq hp,aq hpb];rfl) (aq hpb);refine PI.sem q (ha Y H Hs _ hs hst fun v H1 Hs1 E1 r1=>hb Y H1 Hs1 _ E1.sub (hst.same E1.vis) fun v' H2 Hs2 E2 r2=>?_);obtain⟨c,vs,rfl,h1,h2⟩:=cu (Rep.same E2.vis _ _ r1);obtain⟨d,us,rfl,h3,h4⟩:=cu r2;have l1:=h2.length;have l2:=h4.length;refine⟨c,d,rfl,⟨vs,E2.sub.tup h1⟩,⟨us,E2.sub.tup h3⟩,hq _ H2 Hs2 (E1.trans E2) fun Hs' H' e1 e2=>⟨⟨vs,us,e2.tup (e1.tup h1),e2.tup (e1.tup h3),?_⟩,fun i z hz=>?_⟩⟩
 .rw[E3z,Q3z]
  omega
 .rw[List.getElem?_map] at hz
  obtain⟨⟨x1,y1⟩,e3,rfl⟩:=M0z.mp hz;rw[List.getElem?_zip_eq_some] at e3;obtain⟨v1,g1,g2⟩:=h2.get e3.1;obtain⟨v2,g3,g4⟩:=h4.get e3.2;refine⟨⟨vs,us,v1,v2,e2.tup (e1.tup h1),e2.tup (e1.tup h3),g1,g3⟩,fun w H3 y=>?_⟩;obtain⟨p,hp',rfl,y⟩:=y;rw[y vs us v1 v2 (e2.tup (e1.tup h1)) (e2.tup (e1.tup h3)) g1 g3];refine⟨_,Ext.new e2 (.tup [v1,v2]) hp',?_⟩;have sm:=(Ext.new e2 (.tup [v1,v2]) hp').vis;simp only[Rep];exact⟨p,[v1,v2],rfl,.of aB,.cons (Rep.same sm _ _ (Rep.same e1 _ _ g2)) (.cons (Rep.same sm _ _ (Rep.same e1 _ _ g4)) .nil)⟩
end
theorem aZ{α β:Type}{x:Option α}{f:α->Option β}{y:β}(h:(x >>=f)=some y):∃ a,x=some a/\f a=some y:=by
 cases x with
 | none=>cases h
 | some a=>exact⟨a,rfl,h⟩
def Jr(X:Cx)(tg:Expr):TG:=fun v Y H Q=>∀ z0 s u,Inv X z0 Y H s->RelV v u->wpAny (model X.prog X.w) X.A (assign tg X.env u) (fun _ s'=>∃ Y' H',Inv X z0 Y' H' s'/\Q Y' H') X.xe s
def Jm(X:Cx)(es:List Expr):TGs:=fun vs Y H Q=>∀ z0 s us,Inv X z0 Y H s->Vals vs us->wpAny (model X.prog X.w) X.A (assignInOrder ((assignEach es X.env).map (·.2)) us) (fun _ s'=>∃ Y' H',Inv X z0 Y' H' s'/\Q Y' H') X.xe s
section
variable {X:Cx} {tg:Expr} {es:List Expr}
theorem mC:PG X tg (Jr X tg):=fun z0 s Y H v u Q I r h=>h z0 s u I r
theorem PG.sem{t:TG}{v:V}{Y:St}{H:Hp}{Q:St->Hp->Prop}(h:PG X tg t)(q:t v Y H Q):Jr X tg v Y H Q:=fun z0 s u I r=>h z0 s Y H v u Q I r q
theorem rH:PGs X es (Jm X es):=fun z0 s Y H v u Q I r h=>h z0 s u I r
theorem PGs.sem{t:TGs}{v:List V}{Y:St}{H:Hp}{Q:St->Hp->Prop}(h:PGs X es t)(q:t v Y H Q):Jm X es v Y H Q:=fun z0 s u I r=>h z0 s Y H v u Q I r q
end
theorem aP:∀ (U:Rho) (x:Str) (v:Sl),(fG U x v).map (·.1)=U.map (·.1)
 | [],_,_=>rfl
 | (y,s)::r,x,v=>by
  unfold fG;split
  .rfl
  .simp[aP r x v]
theorem bW:∀ {U:Rho} {x:Str} {v:Sl} {i:Nat},(U.map (·.1)).Nodup->(U.map (·.1))[i]?=some x->∀ j:Nat,(fG U x v)[j]?=if j=i then some (x,v) else U[j]?
 | [],x,v,i,_,h,_=>by simp at h
 | (y,s)::r,x,v,0,hn,h,j=>by
  simp at h;subst h
  cases j with
  | zero=>simp[fG]
  | succ j=>simp[fG]
 | (y,s)::r,x,v,i+1,hn,h,j=>by
  rw[A4z,H3z] at hn
  have h':(r.map (·.1))[i]?=some x:=by simpa using h
  have hne:(x==y)=false:=by
   rw[C1z];intro e;subst e;exact hn.1 (List.mem_of_getElem? h')
  simp only[fG,hne,Q1z,I5z]
  cases j with
  | zero=>simp
  | succ j =>
   have:=bW (v:=v) hn.2 h' j;simp only[List.getElem?_cons_succ,this,Nat.add_right_cancel_iff]
theorem cR{l:List Str}{x:Str}(h:l.contains x=true):∃ i:Nat,l[i]?=some x:=by
 have:=List.mem_of_elem_eq_true h;exact List.mem_iff_getElem?.mp this
structure Owns (X:Cx) (scope:Scope):Prop where
 own:∀ x,ownIn scope x=true->Loc X.env.scope x/\(X.fn x=true\/X.env.scope.names.lookup x=some .local)
def m7(K:Z3)(Hs:Hp)(scope:Scope)(P:Rho->St->Prop):Prop:=∀ U Y (i:Nat) x d v,(U.map (·.1)).Nodup->(U.map (·.1))[i]?=some x->ownIn scope x=true->P U Y->Rep K Hs d v->P (fG U x (.sh d)) (Y.set i (some v))
section
variable {X:Cx} {scope:Scope} {Hs H:Hp} {P:Rho->St->Prop} {Q:St->Hp->Prop}
theorem qO{x:Str}{pos:Pos}{U U':Rho}{Y:St}{d:D}{v:V}(hO:Owns X scope)(hnd:X.N.Nodup)(hN:X.N=U.map (·.1))(KE:m7 X.K Hs scope P)(hb:(if ownIn scope x&&(U.map (·.1)).contains x then some (fG U x (.sh d)) else none)=some U')(hp:P U Y)(rd:Rep X.K Hs d v)
  (hq:∀ Y',X.N=U'.map (·.1)->P U' Y'->Q Y' H):Jr X (.Name x pos) v Y H Q:=by
 split at hb
 .rename_i hc
  cases hb;rw[U2z] at hc;obtain⟨i,hi⟩:=cR hc.2;obtain⟨h1,h2⟩:=hO.own x hc.1;exact PG.sem (HN (i:=i) hnd (by rw[hN];exact hi) h1 h2) (hq _ (by rw[aP];exact hN) (KE U Y i x d v (by rw[<- hN];exact hnd) hi hc.1 hp rd))
 .cases hb
theorem gj{env:Env}:∀ {es:List Expr} {ds:List D} {U U':Rho},bindNames scope es ds U=some U'->(assignEach es env).length=es.length/\(assignEach es env).findIdx? (·.1)=none/\es.length=ds.length
 | [],[],_,_,_=>⟨rfl,rfl,rfl⟩
 | [],d::ds,U,U',h=>by simp[bindNames] at h
 | e::es,[],U,U',h=>by cases e<;>simp[bindNames] at h
 | e::es,d::ds,U,U',h=>by
  cases e<;>try (simp[bindNames] at h;done)
  rename_i x pos;simp only[bindNames] at h;split at h
  .obtain⟨h1,h2,h3⟩:=gj (env:=env) h
   refine⟨by show(assignEach es env).length+1=_;rw[h1];rfl,?_,by simp[h3]⟩
   show((false,assign (.Name x pos) env)::assignEach es env).findIdx? (·.1)=none;rw[List.findIdx?_cons];simp only[Q1z,I5z,h2];rfl
  .cases h
theorem jm(hO:Owns X scope)(hnd:X.N.Nodup)(KE:m7 X.K Hs scope P):∀ {es:List Expr} {ds:List D} {vs:List V} {U U':Rho} {Y:St},X.N=U.map (·.1)->bindNames scope es ds U=some U'->P U Y->aJ X.K Hs ds vs->(∀ Y',X.N=U'.map (·.1)->P U' Y'->Q Y' H)->Jm X es vs Y H Q
 | [],[],vs,U,U',Y,hN,h,hp,rd,hq=>by
  simp only[bindNames,I2z] at h;subst h;simp only[aJ] at rd;exact PGs.sem HJ ⟨rd,hq _ hN hp⟩
 | [],d::ds,vs,U,U',Y,hN,h,hp,rd,hq=>by simp[bindNames] at h
 | e::es,[],vs,U,U',Y,hN,h,hp,rd,hq=>by cases e<;>simp[bindNames] at h
 | e::es,d::ds,vs,U,U',Y,hN,h,hp,rd,hq=>by
  cases e<;>try (simp[bindNames] at h;done)
  rename_i x pos;simp only[bindNames] at h;split at h
  .rename_i hc
   simp only[aJ] at rd;obtain⟨v,r,rfl,r1,r2⟩:=rd;refine PGs.sem (Cg mC rH) ⟨v,r,rfl,?_⟩;exact qO hO hnd hN KE (U':=fG U x (.sh d)) (by rw[L5z hc]) hp r1 fun Y' hN' hp'=>jm hO hnd KE hN' h hp' r2 hq
  .cases h
theorem tL{tg:Expr}{U U':Rho}{Y:St}{d:D}{v:V}(hc:X.calm=true)(hO:Owns X scope)(hnd:X.N.Nodup)(hs:Same Hs H)(hN:X.N=U.map (·.1))(KE:m7 X.K Hs scope P)(hb:gJ scope tg d U=some U')(hp:P U Y)(rd:Rep X.K Hs d v)
  (hq:∀ Y',X.N=U'.map (·.1)->P U' Y'->Q Y' H):Jr X tg v Y H Q:=by
 unfold gJ at hb;split at hb
 .exact qO hO hnd hN KE hb hp rd hq
 .rename_i es k pos ds
  obtain⟨a,vs,rfl,h1,h2⟩:=cu rd;obtain⟨e1,e2,e3⟩:=gj (env:=X.env) hb;exact PG.sem (EY hc rH e1 e2) ⟨a,vs,rfl,hs.tup h1,by rw[<- h2.length,e3],jm hO hnd KE hN hb hp h2 hq⟩
 .cases hb
end
section
variable {X Xc:Cx} {scope sc:Scope} {cx:Cxt} {k:Nat} {U:Rho}
theorem fO:∀ {l:List Str},kZ l=true->l.Nodup
 | [],_=>.nil
 | x::r,h=>by
  unfold kZ at h;rw[U2z] at h;refine H3z.mpr ⟨fun hm=>?_,fO h.2⟩
  have:r.contains x=true:=by simpa using hm
  rw[this] at h;exact absurd h.1 (by decide)
theorem fW(G:Good cx k X sc)(h:iW sc scope=true):scope.kind=.function/\(scope.names.map (·.1)).Nodup/\∀ x,(x,NameKind.free)∈scope.names->X.env.kindOf x=some .cell\/X.env.kindOf x=some .free:=by
 unfold iW at h;rw[U2z,U2z] at h;refine⟨by simpa using h.1.1,fO h.1.2,fun x hx=>?_⟩;have:=A3z.mp h.2 _ hx;show X.env.scope.names.lookup x=_\/X.env.scope.names.lookup x=_;rw[G.sce];simpa using this
theorem Lw(G:Good cx k X sc):relabel scope X.env=pR scope sc:=by
 unfold relabel pR Env.kindOf;rw[G.sce]
theorem Good.comp(G:Good cx k X sc)(C:CompOf X scope Xc)(h:iW sc scope=true):Good cx k Xc (pR scope sc) where
 calm:=C.calm
 room:=by rw[C.A];exact G.room
 sce:=by rw[C.sc,Lw G]
 kind:=(fW G h).1
 nd:=by rw[C.N];exact(fW G h).2.1
 cst:=by rw[C.mg,C.K];exact G.cst
 blt:=by rw[C.mg];exact G.blt
 exs:=by rw[C.mg,C.K];exact G.exs
 fns:=by rw[C.mg,C.prog,C.w,C.K,C.base];exact G.fns
 kw:=by rw[C.K,C.w];exact G.kw
theorem Owns.comp(G:Good cx k X sc)(C:CompOf X scope Xc):Owns Xc scope where
 own:=fun x hx=>by
  unfold ownIn at hx;rw[N3z] at hx
  have look:∀ kd,scope.names.lookup x=some kd->kd≠.free->Xc.env.scope.names.lookup x=some kd:=fun kd e hne=>by
   rw[C.sc];show(scope.names.map _).lookup x=_;rw[d9,e];simp[hne]
  rcases hx with hx | hx
  .have e:scope.names.lookup x=some .local:=by simpa using hx
   have e2:=look _ e (by decide);exact⟨.inl e2,.inr e2⟩
  .have e:scope.names.lookup x=some .cell:=by simpa using hx
   have e2:=look _ e (by decide);refine⟨.inr e2,.inl ?_⟩;rw[C.fn];show(scope.names.lookup x==some .cell)=true;rw[e];rfl
theorem iV:(cG scope U).map (·.1)=scope.names.map (·.1):=by
 unfold cG;rw[R4z];rfl
theorem tD{K:Z3}{Hs:Hp}{Y:St}{N:List Str}(hN:N=U.map (·.1))(h:bJ K Hs U Y):bJ K Hs (cG scope U) (yJ N scope.names Y):=by
 intro i x d e;unfold cG at e;rw[List.getElem?_map] at e;obtain⟨p,e1,e2⟩:=M0z.mp e
 cases hk:p.2==NameKind.free with
 | false=>rw[hk] at e2;simp at e2
 | true =>
  rw[hk] at e2;simp only[K5z,Prod.mk.injEq] at e2;obtain⟨rfl,e2⟩:=e2
  have e3:U.lookup p.1=some (.sh d):=by
   cases q:U.lookup p.1 with
   | none=>rw[q] at e2;simp[Ks] at e2
   | some sl =>
    rw[q] at e2
    cases sl<;>simp[Ks] at e2
    rw[e2]
  obtain⟨j,g1,g2⟩:=eO e3;obtain⟨v,g3,g4⟩:=h j _ d g1;refine⟨v,?_,g4⟩;unfold yJ;rw[List.getElem?_map,e1];simp only[I3z,hk,K5z];unfold tZ;rw[hN,g2];simp[g3]
def CSt(K:Z3)(Hs:Hp)(n:Nat)(U0:Rho):Rho->St->Prop:=fun U Y=>Y.length=n/\bJ K Hs U Y/\bJ K Hs U0 Y
theorem pP{K:Z3}{Hs:Hp}{U:Rho}{Y:St}{i:Nat}{x:Str}{d:D}{v:V}(hn:(U.map (·.1)).Nodup)(hi:(U.map (·.1))[i]?=some x)(hl:i<Y.length)(h:bJ K Hs U Y)(r:Rep K Hs d v):bJ K Hs (fG U x (.sh d)) (Y.set i (some v)):=by
 intro j y d' e;rw[bW hn hi j] at e;split at e
 .rename_i hj
  subst hj;cases e;exact⟨v,by rw[List.getElem?_set_self hl],r⟩
 .rename_i hj
  obtain⟨w,h1,h2⟩:=h j y d' e;exact⟨w,by rw[List.getElem?_set_ne (fun z=>hj z.symm)];exact h1,h2⟩
theorem vM{K:Z3}{Hs:Hp}{n:Nat}(hnd:(scope.names.map (·.1)).Nodup)(hn:n=scope.names.length):m7 K Hs scope (fun U1 Y=>U1.map (·.1)=scope.names.map (·.1)/\CSt K Hs n (cG scope U) U1 Y):=by
 intro U1 Y i x d v h1 h2 h3 ⟨h4,h5,h6,h7⟩ r;refine⟨by rw[aP];exact h4,by rw[R3z];exact h5,?_,?_⟩
 .have hi:i<Y.length:=by
   rw[h5,hn];have:=(List.getElem?_eq_some_iff.mp h2).1;rw[h4] at this;simpa using this
  exact pP h1 h2 hi h6 r
 .intro j y d' e
  obtain⟨w,g1,g2⟩:=h7 j y d' e;refine⟨w,?_,g2⟩
  have hj:i≠j:=by
   intro z;subst z;rw[h4] at h2;unfold cG at e;rw[List.getElem?_map] at e;rw[List.getElem?_map] at h2;obtain⟨p,e1,e2⟩:=M0z.mp e;rw[e1] at h2
   have ex:p.1=x:=by simpa using h2
   cases hk:p.2==NameKind.free with
   | false=>rw[hk] at e2;simp at e2
   | true =>
    have ek:p.2=.free:=by simpa using hk
    have hm:=List.mem_of_getElem? e1;have:=cC (c:=p.2) hnd (by rw[show p=(x,p.2) from by rw[<- ex]] at hm;exact hm);unfold ownIn at h3;rw[this,ek] at h3;exact absurd h3 (by decide)
  rw[List.getElem?_set_ne hj];exact g1
def zy(X:Cx)(ifs:List Expr):TT:=fun Y H Q=>∀ z0 s,Inv X z0 Y H s->wpAny (model X.prog X.w) X.A (forIn ifs true fun c r=>if r=true then do let ok <- isTrue c X.env (eval c X.env);pure (ForInStep.yield ok) else pure (ForInStep.yield r)) (TP X z0 Y Q) X.xe s
theorem um{ifs:List Expr}:Ec X ifs (zy X ifs):=fun z0 s Y H Q I h=>h z0 s I
theorem Ec.sem{ifs:List Expr}{t:TT}{Y:St}{H:Hp}{Q:Bool->Hp->Prop}(h:Ec X ifs t)(q:t Y H Q):zy X ifs Y H Q:=fun z0 s I=>h z0 s Y H Q I q
theorem Ext.acc{Hs H Hs' H':Hp}{acc:Addr}{o:HO}(E:Ext Hs H Hs' H')(h:H acc=none)(h':Hs' acc=none):Ext Hs H Hs' (upd H' acc o) where
 vis:=E.vis
 all:=fun b u e=>by rw[aj (ak e h)];exact E.all b u e
 sub:=fun b u e=>by rw[aj (ak e h')];exact E.sub b u e
 hid:=E.hid
theorem tE{f:D->Option (Option D)}{d:D}{r out:List D}(h:bQ f (d::r)=some out):(∃ v o',f d=some (some v)/\bQ f r=some o'/\out=v::o')\/(f d=some none/\bQ f r=some out):=by
 simp only[bQ,bind,Option.bind] at h
 cases hf:f d with
 | none=>rw[hf] at h;cases h
 | some o =>
  rw[hf] at h
  cases o with
  | none=>exact .inr ⟨rfl,h⟩
  | some v =>
   simp only[M0z] at h;obtain⟨o',h1,rfl⟩:=h;exact .inl ⟨v,o',rfl,h1,rfl⟩
def tG(E:Rho->Expr->Option D)(scope:Scope)(U:Rho)(tg elt:Expr)(ifs:List Expr):D->Option (Option D):=fun d=>do
 let U1 <- gJ scope tg d (cG scope U)
 let b <- lZ (E U1) ifs
 if b then(E U1 elt).map some else some none
abbrev Om(cx:Cxt)(n:Nat)(sc scope:Scope)(U:Rho)(tg elt:Expr)(ifs:List Expr):D->Option (Option D):=tG (ev cx n (pR scope sc)) scope U tg elt ifs
def O8(Hs0 H0:Hp)(X:Cx)(U:Rho)(e:Expr)(d:D):Prop:=∀ Y H Hs Q,Ext Hs0 H0 Hs H->bJ X.K Hs U Y->(∀ v H' Hs',Ext Hs H Hs' H'->Rep X.K Hs' d v->Q v H')->iB X e Y H Q
def Km(Hs0 H0:Hp)(X:Cx)(U:Rho)(e:Expr)(b:Bool):Prop:=∀ Y H Hs Q,Ext Hs0 H0 Hs H->bJ X.K Hs U Y->(∀ H' Hs',Ext Hs H Hs' H'->Q b H')->lW X e Y H Q
theorem Oa{f:Expr->Option D}{ifs:List Expr}{b:Bool}{Hs0 H0:Hp}(hf:∀ e,e∈ifs->∀ d,f e=some d->O8 Hs0 H0 X U e d/\∀ b,d=.bl b->Km Hs0 H0 X U e b)(h:lZ f ifs=some b){Y:St}{H Hs:Hp}{Q:Bool->Hp->Prop}(hs:Ext Hs0 H0 Hs H)(hst:bJ X.K Hs U Y)(hq:∀ H' Hs',Ext Hs H Hs' H'->Q b H'):zy X ifs Y H Q:=by
 unfold lZ at h;split at h
 .cases h
  exact Ec.sem Ce (hq H Hs (.refl hs.sub))
 .rename_i c
  cases hc:f c with
  | none=>rw[hc] at h;cases h
  | some d =>
   rw[hc] at h
   cases d<;>simp[asB] at h
   subst h;exact Ec.sem (Cd cY) ((hf c (by simp) _ hc).2 _ rfl Y H Hs Q hs hst hq)
 .cases h
theorem mV{tg iter elt:Expr}{ifs:List Expr}{l out:List D}{E:Rho->Expr->Option D}{Y:St}{H Hs:Hp}{Q:VK}(G:Good cx k X sc)(hN:X.N=U.map (·.1))(hok:iW sc scope=true)(hI:∀ R,(∀ J H' Hs',Ext Hs H Hs' H'->Kl X.K J Hs' l->R J H')->vq X tg iter Y H R)(hz:szl l.length=true)(hgo:bQ (tG E scope U tg elt ifs) l=some out)
    (hE : ∀ Xc, CompOf X scope Xc -> ∀ U1 : Rho, Xc.N = U1.map (·.1) -> ∀ e, (e = elt \/ e ∈ ifs) -> ∀ d, E U1 e = some d -> O8 Hs H Xc U1 e d /\ ∀ b, d = .bl b -> Km Hs H Xc U1 e b)
     (hst:bJ X.K Hs U Y) (hq:∀ acc vs Hs' H',Ext Hs H Hs' H'->H acc=none->Hs' acc=none->H' acc=some (.lst vs)->aJ X.K Hs' out vs->Q (.ref acc) H') :
    Bw X scope (vq X tg iter) (yJ X.N scope.names) (fun Xc=>Jr Xc tg) (fun Xc=>zy Xc ifs) (fun Xc=>iB Xc elt) Y H Q:=by
  obtain⟨ok1,ok2,ok3⟩:=fW G hok
  refine hI _ fun J H1 Hs1 E1 hJ acc hacc Xc C=>?_
  have GC:=G.comp C hok
  have OC:=Owns.comp (scope:=scope) G C
  have hNc:∀ U1:Rho,U1.map (·.1)=scope.names.map (·.1)->Xc.N=U1.map (·.1):=fun U1 h=>by rw[C.N,h]
  have a1:Hs1 acc=none:=E1.sub.free hacc
  have a0:H acc=none:=E1.all.free hacc
  let W:Nat->Nat->St->Hp->Prop:=fun i m Yc H=>m=l.length-i/\i<=l.length/\∃ Hs3 ys pre rest,Ext Hs1 H1 Hs3 H/\Hs3 acc=none/\H acc=some (.lst ys)/\aJ X.K Hs3 pre ys/\bQ (tG E scope U tg elt ifs) (l.drop i)=some rest/\pre++rest=out/\pre.length<=i/\Yc.length=scope.names.length/\bJ X.K Hs3 (cG scope U) Yc
  refine⟨W,⟨l.length,rfl,V4z _,Hs1,[],[],out,Ext.acc (.refl E1.sub) hacc a1,a1,aB,.nil,by simpa using hgo,rfl,T4z _,by simp[yJ],tD hN (hst.same E1.vis)⟩,?_⟩
  rintro i m Yc H3 ⟨rfl,hi,Hs3,ys,pre,rest,E3,b3,c3,r3,g3,p3,q3,l3,s3⟩
  obtain⟨st3,go3⟩:=hJ Hs3 H3 E3.vis E3.sub
  by_cases hlt:i<l.length
  . have hd:l[i]?=some l[i]:=List.getElem?_eq_getElem hlt
    obtain⟨gi,yi⟩:=go3 i l[i] hd
    refine .inr ⟨gi,fun Y' H'=>W (i+1) (l.length-(i+1)) Y' H',fun Y' H' w=>⟨_,by omega,w⟩,fun x H4 y4=>?_⟩
    obtain⟨Hs4,E4,rx⟩:=yi x H4 y4
    have b4:Hs4 acc=none:=E4.hid acc _ c3 b3
    have c4:H4 acc=some (.lst ys):=E4.all _ _ c3
    rw[List.drop_eq_getElem_cons hlt] at g3
    have key:∃ U1,gJ scope tg l[i] (cG scope U)=some U1/\∃ b,lZ (E U1) ifs=some b/\((b=true/\∃ v o',E U1 elt=some v/\bQ (tG E scope U tg elt ifs) (l.drop (i+1))=some o'/\rest=v::o')\/(b=false/\bQ (tG E scope U tg elt ifs) (l.drop (i+1))=some rest)):=by
      have inv:∀ o,tG E scope U tg elt ifs l[i]=some o->∃ U1,gJ scope tg l[i] (cG scope U)=some U1/\∃ b,lZ (E U1) ifs=some b/\(if b then(E U1 elt).map some else some none)=some o:=by
        intro o h
        obtain⟨U1,h1,h⟩:=aZ h
        obtain⟨b,h2,h⟩:=aZ h
        exact⟨U1,h1,b,h2,h⟩
      rcases tE g3 with⟨v,o',f1,f2,f3⟩ | ⟨f1,f2⟩
      . obtain⟨U1,h1,b,h2,h3⟩:=inv _ f1
        refine⟨U1,h1,b,h2,?_⟩
        cases b with
        | false=>simp at h3
        | true =>
          simp only[K5z,M0z] at h3
          obtain⟨w,h3,h4⟩:=h3
          have h5:w=v:=C3z h4
          subst h5
          exact .inl ⟨rfl,w,o',h3,f2,f3⟩
      . obtain⟨U1,h1,b,h2,h3⟩:=inv _ f1
        refine⟨U1,h1,b,h2,?_⟩
        cases b with
        | true=>simp at h3
        | false=>exact .inr ⟨rfl,f2⟩
    obtain⟨U1,k1,b,k2,k3⟩:=key
    have s4:bJ X.K Hs4 (cG scope U) Yc:=s3.same E4.vis
    have KE:=vM (K:=Xc.K) (Hs:=Hs4) (U:=U) (n:=scope.names.length) ok2 rfl
    refine tL (X:=Xc) (scope:=scope) (Hs:=Hs4) GC.calm OC GC.nd E4.sub (hNc _ iV) KE k1 ⟨iV,l3,by rw[C.K];exact s4,by rw[C.K];exact s4⟩ (by rw[C.K];exact rx) fun Y5 hN5 p5=>?_
    obtain⟨_,l5,s5,s5'⟩:=p5
    have hev:=hE Xc C U1 hN5
    refine Oa (fun e he=>hev e (.inr he)) k2 (E1.trans (E3.trans E4)) s5 fun H6 Hs6 E6=>?_
    have b6:Hs6 acc=none:=E6.hid acc _ c4 b4
    have c6:H6 acc=some (.lst ys):=E6.all _ _ c4
    have s6:bJ X.K Hs6 (cG scope U) Y5:=by rw[<- C.K];exact s5'.same E6.vis
    rcases k3 with⟨rfl,v,o',k3,k4,k5⟩ | ⟨rfl,k3⟩
    . refine ql ((hev elt (.inl rfl) v k3).1 Y5 H6 Hs6 _ (E1.trans (E3.trans (E4.trans E6))) (s5.same E6.vis) fun w H7 Hs7 E7 r7=>?_)
      have b7:Hs7 acc=none:=E7.hid acc _ c6 b6
      have c7:H7 acc=some (.lst ys):=E7.all _ _ c6
      refine⟨ys,c7,?_,rfl,hlt,Hs7,ys++[w],pre++[v],o',Ext.acc (E3.trans (E4.trans (E6.trans E7))) hacc b7,b7,aB,?_,k4,?_,by simp;omega,l5,s6.same E7.vis⟩
      . have:=r3.length
        have:=Ej hz
        omega
      . rw[<- C.K]
        refine aJ.append ?_ (.cons r7 .nil)
        rw[C.K]
        exact aJ.same (E4.trans (E6.trans E7)).vis pre ys r3
      . rw[<- p3,k5];simp
    . refine mK ?_
      exact⟨rfl,hlt,Hs6,ys,pre,rest,E3.trans (E4.trans E6),b6,c6,aJ.same (E4.trans E6).vis pre ys r3,k3,p3,by omega,l5,s6⟩
  . have hi':i=l.length:=by omega
    subst hi'
    refine .inl ⟨st3,?_⟩
    rw[List.drop_length] at g3
    simp only[bQ,I2z] at g3
    subst g3
    rw[F3z] at p3
    subst p3
    exact hq acc ys Hs3 H3 (E1.trans E3) a0 b3 c3 r3
theorem O8.of{Xc:Cx}{U1:Rho}{e:Expr}{d:D}{Hs0 H0:Hp}(h:Ev Xc U1 e d/\∀ b,d=.bl b->EvT Xc U1 e b):O8 Hs0 H0 Xc U1 e d/\∀ b,d=.bl b->Km Hs0 H0 Xc U1 e b:=⟨fun Y H Hs Q E=>h.1 Y H Hs Q E.sub,fun b hb Y H Hs Q E=>h.2 b hb Y H Hs Q E.sub⟩
theorem Ab{tg iter elt:Expr}{ifs:List Expr}{l out:List D}{n:Nat}(G:Good cx k X sc)(hN:X.N=U.map (·.1))(hok:iW sc scope=true)(hI:EvI X U tg iter l)(hz:szl l.length=true)(hgo:bQ (Om cx n sc scope U tg elt ifs) l=some out)
  (hE:∀ Xc,CompOf X scope Xc->∀ U1:Rho,Xc.N=U1.map (·.1)->∀ e d,ev cx n (pR scope sc) U1 e=some d->Ev Xc U1 e d/\∀ b,d=.bl b->EvT Xc U1 e b)
  {Y:St} {H Hs:Hp} {Q:VK} (hs:Same Hs H) (hst:bJ X.K Hs U Y) (hq:∀ acc vs Hs' H',Ext Hs H Hs' H'->H acc=none->Hs' acc=none->H' acc=some (.lst vs)->aJ X.K Hs' out vs->Q (.ref acc) H') :
  Bw X scope (vq X tg iter) (yJ X.N scope.names) (fun Xc=>Jr Xc tg) (fun Xc=>zy Xc ifs) (fun Xc=>iB Xc elt) Y H Q :=
 mV G hN hok (fun R k=>hI Y H Hs R hs hst k) hz hgo (fun Xc C U1 h e _ d q=>O8.of (hE Xc C U1 h e d q)) hst hq
end
def bIs(b:Bool):Value->Bool
 | .bool y=>y==b
 | _=>false
theorem rC:∀ {bs:List Bool} {its:List Value},Vals (bs.map V.bl) its->its=bs.map Value.bool
 | [],its,r=>by cases r;rfl
 | b::bs,its,r=>by
  obtain⟨u,w,rfl,r1,r2⟩:=pC r;cases (show u=Value.bool b from r1);rw[rC r2];rfl
theorem FZ(b:Bool):∀ bs:List Bool,(bs.map Value.bool).countP (bIs b)=cntB b bs
 | []=>rfl
 | c::bs=>by
  rw[A4z,List.countP_cons,FZ b bs];unfold cntB;rw[T2z];show _+(if(c==b)=true then 1 else 0)=_
  cases c==b<;>simp
theorem Zc{b:Bool}:∀ (bs:List Bool) (m:Nat) (h:m<bs.length),m<bs.idxOf b->(bs[m]==b)=false
 | [],m,h,_=>absurd h (by simp)
 | c::bs,m,h,hl=>by
  rw[List.idxOf_cons] at hl
  cases hc:c==b with
  | true=>rw[hc] at hl;simp at hl
  | false =>
   cases m with
   | zero=>simpa using hc
   | succ m =>
    rw[hc] at hl;simp only[cond_false] at hl;simpa using Zc bs m (by simpa using h) (by omega)
section
variable {X:Cx} {U:Rho} {cx:Cxt} {k:Nat} {sc scope:Scope}
def Lz(K:Z3):V->List V->Hp->VK->Prop:=fun x vs H Q=>∃ (l:Addr) (bs:List Bool) (b:Bool),x=.ref l/\vs=[.bl b]/\SqL K H l (bs.map V.bl)/\Q (.int (cntB b bs:Nat)) H
theorem CQ:MtM X "list.count" (Lz X.K):=by
 intro z0 s Y H x vs v us Q I rx rv h;obtain⟨l,bs,b,rfl,rfl,hB,q⟩:=h;cases (show v=Value.ref l from rx);obtain⟨u,rfl,ru⟩:=rv.one;cases (show u=Value.bool b from ru);obtain⟨its2,r2,pl,hz2⟩:=I.list hB;have ei:=rC r2;subst ei;obtain⟨⟨c2,dd2,data2,sl2⟩,n2,e2,hc2,hd2,hs2⟩:=pl;simp only at hc2 hs2;obtain⟨h3,h4⟩:=(show dd2=none/\data2=.seq (bs.map Value.bool).toArray n2 from⟨hd2,hs2⟩);subst hc2 h4;refine D5z F.slot_list_count ⟨_,e2,rfl⟩ F.entry_list_count (F.args_list_count_2 _ _) (list_countAt l (bs.map Value.bool).toArray n2 dd2 sl2 (.bool b) (bIs b)) ⟨e2,fun y hy=>?_,?_⟩
 .have hy':y∈bs.map Value.bool:=by simpa using hy
  obtain⟨c,_,rfl⟩:=List.mem_map.mp hy';exact EqAt.bool_bool c b
 .rw[show(bs.map Value.bool).toArray.toList=bs.map Value.bool from rfl,FZ]
  exact⟨.int _,H,I.tok _,⟨_,rfl⟩,q⟩
def Ly(K:Z3):V->List V->Hp->VK->Prop:=fun x vs H Q=>∃ (l:Addr) (bs:List Bool) (b:Bool),x=.ref l/\vs=[.bl b]/\SqL K H l (bs.map V.bl)/\bs.contains b=true/\Q (.int (bs.idxOf b:Nat)) H
theorem CP:MtM X "list.index" (Ly X.K):=by
 intro z0 s Y H x vs v us Q I rx rv h;obtain⟨l,bs,b,rfl,rfl,hB,hin,q⟩:=h;cases (show v=Value.ref l from rx);obtain⟨u,rfl,ru⟩:=rv.one;cases (show u=Value.bool b from ru);obtain⟨its2,r2,pl,hz2⟩:=I.list hB;have ei:=rC r2;subst ei;obtain⟨⟨c2,dd2,data2,sl2⟩,n2,e2,hc2,hd2,hs2⟩:=pl;simp only at hc2 hs2;obtain⟨h3,h4⟩:=(show dd2=none/\data2=.seq (bs.map Value.bool).toArray n2 from⟨hd2,hs2⟩);subst hc2 h4;have hj:bs.idxOf b<bs.length:=List.idxOf_lt_length_iff.mpr (by simpa using hin);have hn:=qe
 have hz3:bs.length<=sizeLine:=by simpa using hz2
 refine D5z F.slot_list_index ⟨_,e2,rfl⟩ F.entry_list_index (F.args_list_index_2 _ _) (list_indexAt l (bs.map Value.bool).toArray n2 dd2 sl2 (.bool b) (bIs b) (bs.idxOf b) (by simpa using hj) (by omega) ?_ ?_) ⟨e2,fun y hy=>?_,?_⟩
 .simp only[List.getElem_toArray,List.getElem_map,bIs]
  simpa using List.getElem_idxOf hj
 .intro m hm hlt
  simp only[List.getElem_toArray,List.getElem_map,bIs];exact Zc bs m (by simpa using hm) hlt
 .have hy':y∈bs.map Value.bool:=by simpa using hy
  obtain⟨c,_,rfl⟩:=List.mem_map.mp hy';exact EqAt.bool_bool c b
 .exact⟨.int _,H,I.tok _,⟨_,rfl⟩,q⟩
def iIs(i:Int):Value->Bool
 | .int j _=>j==i
 | _=>false
theorem Ad(i:Int):∀ {ns:List Int} {its:List Value},Vals (ns.map V.int) its->its.countP (iIs i)=(ns.filter (· ==i)).length
 | [],its,r=>by rw[P4z] at r;cases r;rfl
 | n::ns,its,r=>by
  rw[A4z] at r;obtain⟨u,w,rfl,r1,r2⟩:=pC r;obtain⟨t,e⟩:=(show ∃ t,u=Value.int n t from r1);subst e;rw[List.countP_cons,Ad i r2,T2z];show _+(if(n==i)=true then 1 else 0)=_
  cases n==i<;>simp
theorem zq:∀ {ns:List Int} {its:List Value},Vals (ns.map V.int) its->∀ y∈its,∃ n t,y=Value.int n t
 | [],its,r,y,hy=>by rw[P4z] at r;cases r;simp at hy
 | n::ns,its,r,y,hy=>by
  rw[A4z] at r;obtain⟨u,w,rfl,r1,r2⟩:=pC r;obtain⟨t,e⟩:=(show ∃ t,u=Value.int n t from r1);subst e;rcases H4z.mp hy with rfl | hy
  .exact⟨n,t,rfl⟩
  .exact zq r2 y hy
def Hu(K:Z3):V->List V->Hp->VK->Prop:=fun x vs H Q=>∃ (l:Addr) (ns:List Int) (i:Int),x=.ref l/\vs=[.int i]/\SqL K H l (ns.map V.int)/\Q (.int ((ns.filter (· ==i)).length:Nat)) H
theorem yI:MtM X "list.count" (Hu X.K):=by
 intro z0 s Y H x vs v us Q I rx rv h;obtain⟨l,ns,i,rfl,rfl,hB,q⟩:=h;cases (show v=Value.ref l from rx);obtain⟨u,rfl,ru⟩:=rv.one;obtain⟨tu,eu⟩:=(show ∃ t,u=Value.int i t from ru);subst eu;obtain⟨its2,r2,pl,hz2⟩:=I.list hB;obtain⟨⟨c2,dd2,data2,sl2⟩,n2,e2,hc2,hd2,hs2⟩:=pl;simp only at hc2 hs2;obtain⟨h3,h4⟩:=(show dd2=none/\data2=.seq its2.toArray n2 from⟨hd2,hs2⟩);subst hc2 h4;refine D5z F.slot_list_count ⟨_,e2,rfl⟩ F.entry_list_count (F.args_list_count_2 _ _) (list_countAt l its2.toArray n2 dd2 sl2 (.int i tu) (iIs i)) ⟨e2,fun y hy=>?_,?_⟩
 .obtain⟨n,t,rfl⟩:=zq r2 y (by simpa using hy)
  exact fun P w Q E q=>wpAny_eqBool_int q
 .rw[show its2.toArray.toList=its2 from rfl,Ad i r2]
  exact⟨.int _,H,I.tok _,⟨_,rfl⟩,q⟩
theorem Du{y:Str}{m:Str}{e:Expr}{x z d:D}{py ap cp:Pos}(ha:Ev X U (.Name y py) x)(he:Ev X U e z)(hp:aG e=true)(hline:(ap.endLine==cp.line)=true)(h:rT m x z=some d):Ev X U (.Call (.Attribute (.Name y py) m ap) [e] [] cp) d:=by
 unfold rT at h;split at h
 .rename_i xs b
  obtain⟨bs,hb,h2⟩:=aZ h;clear h;intro Y H Hs Q hs hst hq;split at h2
  .rename_i hm
   have em:m="count":=by simpa using hm
   subst em;cases h2;refine(vH F0z PySem.F.slot_list_count PySem.F.type_list_count CQ au (aA au aO (aq hp)) rfl (by rw[aq hp];rfl) hline (aq hp) rfl).sem ?_;refine ha Y H Hs _ hs hst fun v H1 Hs1 E1 r1=>?_;obtain⟨l,vs,rfl,g1,g2⟩:=cT r1;have ev:=jY hb g2;subst ev;refine⟨.inl ⟨rfl,_,E1.sub.seq g1⟩,?_⟩;refine he Y H1 Hs1 _ E1.sub (hst.same E1.vis) fun v2 H2 Hs2 E2 r2=>?_;rw[dz r2];exact⟨l,bs,b,rfl,rfl,E2.sub.seq (E2.vis.seq g1),hq _ H2 Hs2 (E1.trans E2) (by simp[Rep])⟩
  .split at h2
   .rename_i hm
    rw[U2z] at hm
    have em:m="index":=by simpa using hm.1
    subst em;cases h2;refine(vH F0z PySem.F.slot_list_index PySem.F.type_list_index CP au (aA au aO (aq hp)) rfl (by rw[aq hp];rfl) hline (aq hp) rfl).sem ?_;refine ha Y H Hs _ hs hst fun v H1 Hs1 E1 r1=>?_;obtain⟨l,vs,rfl,g1,g2⟩:=cT r1;have ev:=jY hb g2;subst ev;refine⟨.inl ⟨rfl,_,E1.sub.seq g1⟩,?_⟩;refine he Y H1 Hs1 _ E1.sub (hst.same E1.vis) fun v2 H2 Hs2 E2 r2=>?_;rw[dz r2];exact⟨l,bs,b,rfl,rfl,E2.sub.seq (E2.vis.seq g1),hm.2,hq _ H2 Hs2 (E1.trans E2) (by simp[Rep])⟩
   .cases h2
 .rename_i xs i
  obtain⟨ns,hb,h2⟩:=aZ h;clear h;intro Y H Hs Q hs hst hq;split at h2
  .rename_i hm
   have em:m="count":=by simpa using hm
   subst em;cases h2;refine(vH F0z PySem.F.slot_list_count PySem.F.type_list_count yI au (aA au aO (aq hp)) rfl (by rw[aq hp];rfl) hline (aq hp) rfl).sem ?_;refine ha Y H Hs _ hs hst fun v H1 Hs1 E1 r1=>?_;obtain⟨l,vs,rfl,g1,g2⟩:=cT r1;have ev:=oV hb g2;subst ev;refine⟨.inl ⟨rfl,_,E1.sub.seq g1⟩,?_⟩;refine he Y H1 Hs1 _ E1.sub (hst.same E1.vis) fun v2 H2 Hs2 E2 r2=>?_;rw[aX r2];exact⟨l,ns,i,rfl,rfl,E2.sub.seq (E2.vis.seq g1),hq _ H2 Hs2 (E1.trans E2) (by simp[Rep])⟩
  .cases h2
 .cases h
end
theorem Ext.shown{Hs H Hs' H':Hp}{acc:Addr}{o:HO}(E:Ext Hs H Hs' H')(h:H acc=none)(h1:Hs' acc=none)(h2:H' acc=some o):Ext Hs H (upd Hs' acc o) H' where
 vis:=fun b u e=>by rw[aj (ak (E.vis b u e) h1)];exact E.vis b u e
 all:=E.all
 sub:=fun b u e=>by
  by_cases hb:b=acc
  .subst hb;rw[aB] at e;rw[h2];exact e
  .rw[aj hb] at e;exact E.sub b u e
 hid:=fun b u e n=>by rw[aj (ak e h)];exact E.hid b u e n
section
variable {X:Cx} {U:Rho} {cx:Cxt} {k:Nat} {sc scope:Scope}
theorem JK{tg iter elt:Expr}{ifs:List Expr}{l out:List D}{n:Nat}{pos:Pos}(G:Good cx k X sc)(hN:X.N=U.map (·.1))(hok:iW sc scope=true)(hI:EvI X U tg iter l)(hp:aG iter=true)(hz:szl l.length=true)(hgo:bQ (Om cx n sc scope U tg elt ifs) l=some out)
  (hE:∀ Xc,CompOf X scope Xc->∀ U1:Rho,Xc.N=U1.map (·.1)->∀ e d,ev cx n (pR scope sc) U1 e=some d->Ev Xc U1 e d/\∀ b,d=.bl b->EvT Xc U1 e b) :
  Ev X U (.ListComp elt [⟨tg,iter,ifs,0⟩] scope pos) (.lst out):=by
 obtain⟨ok1,ok2,ok3⟩:=fW G hok;intro Y H Hs Q hs hst hq;refine PE.sem (yr G.calm ok1 ok2 ok3 uo (fun Xc C=>⟨mC,um,au⟩) (iG hp)) (Ab G hN hok hI hz hgo hE hs hst fun acc vs Hs' H' E1 h1 h2 h3 r=>?_);have E2:=E1.shown h1 h2 h3;refine hq _ H' _ E2 ?_;simp only[Rep];refine⟨acc,vs,rfl,.of aB,aJ.same (fun b u e=>?_) out vs r⟩;rw[aj (ak e h2)];exact e
def WkP (cx : Cxt) (sc : Scope) (e : Expr) : Wk -> Prop
    | .r1 a=>∃ x p pos,e=.Call (.Name x p) [a] [] pos/\bV cx sc x=some "range"
    | .zp a b=>∃ x p pos,e=.Call (.Name x p) [a,b] [] pos/\bV cx sc x=some "zip"
    | .rv a=>∃ x p pos,e=.Call (.Name x p) [a] [] pos/\bV cx sc x=some "reversed"
    | .sq=>True
theorem KR{e:Expr}:WkP cx sc e (vh cx sc e):=by
 unfold vh;split
 .rename_i x p args pos
  split
  .rename_i h
   split
   .exact⟨x,p,pos,rfl,h⟩
   .trivial
  .rename_i h
   split
   .exact⟨x,p,pos,rfl,h⟩
   .trivial
  .rename_i h
   split
   .exact⟨x,p,pos,rfl,h⟩
   .trivial
  .trivial
 .trivial
theorem jd{x:Option D}{i:Int}(h:x.bind asI=some i):x=some (.int i):=by
 obtain⟨d,h1,h2⟩:=aZ (show(x >>=asI)=some i from h)
 cases d<;>simp[asI] at h2
 subst h2;exact h1
theorem fj{x:Option D}{i:Bool}(h:x.bind asB=some i):x=some (.bl i):=by
 obtain⟨d,h1,h2⟩:=aZ (show(x >>=asB)=some i from h)
 cases d<;>simp[asB] at h2
 subst h2;exact h1
theorem pG{x:Option D}{i:List D}(h:x.bind tupI=some i):x=some (.tup i):=by
 obtain⟨d,h1,h2⟩:=aZ (show(x >>=tupI)=some i from h)
 cases d<;>simp[tupI] at h2
 subst h2;exact h1
theorem zP{f:Expr->Option D}{tg e:Expr}{l:List D}(G:Good cx k X sc)(hf:∀ e d,f e=some d->Ev X U e d/\aG e=true)(h:evI cx (dX tg) f sc e=some l):EvI X U tg e l/\aG e=true:=by
 unfold evI at h;have w:=KR (cx:=cx) (sc:=sc) (e:=e);split at h
 .rename_i a hw
  rw[hw] at w;obtain⟨x,p,pos,rfl,hx⟩:=w;obtain⟨j,h1,h⟩:=aZ h;split at h
  .rename_i hj
   cases h;obtain⟨ha,hp⟩:=hf _ _ (jd h1);exact⟨vQ G hx ha hp hj,rfl⟩
  .cases h
 .rename_i a b hw
  rw[hw] at w;obtain⟨x,p,pos,rfl,hx⟩:=w;obtain⟨d1,h1,h⟩:=aZ h;obtain⟨d2,h2,h⟩:=aZ (show(f b >>=fun y=>if dX tg=true then Pb d1 y else none)=some l from h);have h':(if dX tg=true then Pb d1 d2 else none)=some l:=h;clear h;split at h'
  .rename_i ht
   obtain⟨ha,hp⟩:=hf _ _ h1;obtain⟨hb,hpb⟩:=hf _ _ h2
   cases tg<;>simp[dX] at ht
   unfold Pb at h';split at h'
   .cases h';exact⟨JN G hx ha hp hb hpb,rfl⟩
   .cases h'
  .cases h'
 .rename_i a hw
  rw[hw] at w;obtain⟨x,p,pos,rfl,hx⟩:=w;obtain⟨xs,h1,h⟩:=aZ h;cases h;obtain⟨ha,hp⟩:=hf _ _ (pG h1);exact⟨JT G hx ha hp,rfl⟩
 .obtain⟨d,h1,h2⟩:=aZ (show(f e >>=mJ)=some l from h)
  obtain⟨ha,hp⟩:=hf _ _ h1;exact⟨JQ G.kw ha h2,hp⟩
theorem wK{t:Expr}{T:String}(h:tyOf cx sc t=some T):∃ x p,t=.Name x p/\bV cx sc x=some T:=by
 unfold tyOf at h;split at h
 .exact⟨_,_,rfl,h⟩
 .cases h
def WcP (cx : Cxt) (sc : Scope) (b : String) (args : List Expr) : Wc -> Prop
    | .tv a=>∃ x p pos,args=[.Call (.Name x p) [a] [] pos]/\bV cx sc x=some "reversed"/\b="tuple"
    | .li a=>∃ y py ap p,a=.Name y py/\args=[.Call (.Attribute (.Name y py) "items" ap) [] [] p]/\(ap.endLine==p.line)=true/\b="list"
    | .al=>True
theorem Qk{b:String}{args:List Expr}:WcP cx sc b args (Bo cx sc b args):=by
 unfold Bo;split
 .rename_i e
  have w:=KR (cx:=cx) (sc:=sc) (e:=e);split
  .rename_i hw
   rw[hw] at w;obtain⟨x,p,pos,rfl,hx⟩:=w;exact⟨x,p,pos,rfl,hx,rfl⟩
  .split
   .rename_i a ha
    unfold Zg at ha;split at ha
    .rename_i y py m ap p _
     split at ha
     .rename_i hb
      rw[U2z] at hb;cases ha;have em:=eq_of_beq hb.1;subst em;exact⟨y,py,ap,p,rfl,rfl,hb.2,rfl⟩
     .cases ha
    .cases ha
   .trivial
  .trivial
 .trivial
theorem tV{K:Z3}:∀ {kvs:List (Key×V)} {ds:List D} {Hs H:Hp} {Q:List Addr->Hp->Prop},Same Hs H->aJ K Hs ds (kvs.map (·.2))->(∀ bs H' Hs',Ext Hs H Hs' H'->aJ K Hs' (((kvs.map (·.1)).zip ds).map fun q=>.tup [kD q.1,q.2]) (bs.map V.ref)->Q bs H')->Bv kvs H Q
 | [],ds,Hs,H,Q,hs,h,q=>by
  cases ds with
  | nil=>exact q [] H Hs (.refl hs) rfl
  | cons _ _=>obtain⟨_,_,e,_⟩:=h;cases e
 | (k,v)::r,ds,Hs,H,Q,hs,h,q=>by
  cases ds with
  | nil=>cases (show(v::r.map (·.2))=[] from h)
  | cons d ds =>
   obtain⟨v',t,e,h1,h2⟩:=h;cases e;intro b hb;have E:=Ext.new hs (.tup [kV k,v]) hb;refine tV E.sub (aJ.same E.vis _ _ h2) fun bs H' Hs' E' r'=>q (b::bs) H' Hs' (E.trans E') ⟨.ref b,_,rfl,⟨b,[kV k,v],rfl,.inl (.inl (E'.vis _ _ aB)),⟨_,_,rfl,?_,⟨_,_,rfl,h1.same ((E.trans E').vis),rfl⟩⟩⟩,r'⟩
   cases k with
   | inl n=>simp[Rep,kD,kV]
   | inr n=>simp[Rep,kD,kV]
theorem Dv{x y:Str}{p py ap pp pos:Pos}{ks:List (Sum Int Str)}{ds:List D}(G:Good cx k X sc)(hx:bV cx sc x=some "list")(hl:(ap.endLine==pp.line)=true)(ha:Ev X U (.Name y py) (.dic ks ds))(hz:ks.length<=1000) :
  Ev X U (.Call (.Name x p) [.Call (.Attribute (.Name y py) "items" ap) [] [] pp] [] pos) (.lst ((ks.zip ds).map fun q=>.tup [kD q.1,q.2])):=by
 obtain⟨hg,hm,rfl⟩:=cV G hx;intro Y H Hs Q hs hst hq;refine(eG (mj G.calm G.kw) hg hm (by decide +kernel) (aA (Ck G.kw au rfl hl) aO rfl) (by decide) (by decide) rfl rfl).sem (ha Y H Hs _ hs hst fun v H1 Hs1 E1 r1=>?_);obtain⟨a,kvs,rfl,g1,rfl,g3⟩:=r1;have g1':DAt X.K H1 a kvs:=g1.elim (fun⟨o,q⟩=>.inl ⟨o,E1.sub _ _ q⟩) .inr;refine⟨a,kvs,rfl,g1',fun w hw=>?_⟩;have E2:Ext Hs1 H1 Hs1 (upd H1 w (.ext (mX w a))):=⟨.refl _,fun b u q=>by rw[aj (ak q hw)];exact q,fun b u q=>by rw[aj (ak (E1.sub b u q) hw)];exact E1.sub b u q,fun _ _ _ z=>z⟩;refine⟨w,a,kvs,rfl,aB,g1'.elim (fun⟨o,q⟩=>.inl ⟨o,E2.all _ _ q⟩) .inr,by simpa using hz,tV E2.sub g3 fun bs H' Hs' E3 r3 l hl'=>?_⟩;have E4:=Ext.new E3.sub (.lst (bs.map V.ref)) hl';exact hq _ _ _ (E1.trans (E2.trans (E3.trans E4))) ⟨l,_,rfl,.inl (.inl aB),aJ.same E4.vis _ _ r3⟩
end
theorem dD(cx:Cxt):∀ (n:Nat) {k:Nat} {X:Cx} {sc:Scope} {U:Rho} {e:Expr} {d:D},Good cx k X sc->X.N=U.map (·.1)->ev cx n sc U e=some d->Ev X U e d/\∀ b,d=.bl b->EvT X U e b
 | 0,k,X,sc,U,e,d,_,_,h=>by exact nomatch (show(Option.none:Option D)=some d from h)
 | n+1,k,X,sc,U,e,d,G,hN,h=>by
  have ih:∀ e d,ev cx n sc U e=some d->Ev X U e d/\∀ b,d=.bl b->EvT X U e b:=fun e d h=>dD cx n G hN h;have ihp:∀ e d,ev cx n sc U e=some d->Ev X U e d/\aG e=true:=fun e d h=>⟨(ih e d h).1,aV h⟩;have val:∀ {e d},(∀ whole,isTrue e X.env whole=(do let v <- whole;standAt e.pos;holding [v] (truthy v)))->Ev X U e d->Ev X U e d/\∀ b,d=.bl b->EvT X U e b:=fun he h1=>⟨h1,fun b hb=>by subst hb;exact zN h1 he⟩
  cases e with
  | Name x pos =>
   simp only[ev] at h;split at h
   .rename_i hp
    refine val (fun _=>rfl) ?_
    have fin:∀ kd,sc.names.lookup x=some kd->(kd=.local\/kd=.cell\/kd=.free)->(match U.lookup x with | some (.sh d)=>some d | _=>none)=some d->Ev X U (.Name x pos) d:=by
     intro kd hk hkd hm;split at hm
     .rename_i d' hl
      cases hm;refine zK hN ?_ hp hl;unfold Vis;rw[G.sce,hk];rcases hkd with rfl | rfl | rfl
      .exact .inl rfl
      .exact .inr (.inl rfl)
      .exact .inr (.inr rfl)
     .cases hm
    split at h
    .rename_i hk;exact fin _ hk (.inl rfl) h
    .rename_i hk;exact fin _ hk (.inr (.inl rfl)) h
    .rename_i hk;exact fin _ hk (.inr (.inr rfl)) h
    .rename_i hk
     obtain⟨v,u,h0,h1,h2⟩:=G.cst x d h;exact Oc (show X.env.scope.names.lookup x=_ by rw[G.sce];exact hk) h0 h1 h2 hp
    .cases h
   .cases h
  | Constant c j pos =>
   simp only[ev] at h;exact val (fun _=>rfl) (uN h)
  | BinOp a op b pos =>
   simp only[ev] at h;obtain⟨x,h1,h⟩:=aZ h;obtain⟨y,h2,h⟩:=aZ h;exact val (fun _=>rfl) (uO (ih _ _ h1).1 (ih _ _ h2).1 h)
  | UnaryOp op a pos =>
   simp only[ev] at h;obtain⟨x,h1,h⟩:=aZ h
   cases op<;>simp only[M0z] at h<;>try (cases h;done)
   .obtain⟨b,h2,rfl⟩:=h
    cases x<;>simp[asB] at h2
    subst h2;refine⟨FQ (ih _ _ h1).1,fun c hc=>?_⟩;cases hc;exact zO ((ih _ _ h1).2 _ rfl)
   .obtain⟨i,h2,rfl⟩:=h
    cases x<;>simp[asI] at h2
    subst h2;exact val (fun _=>rfl) (N7 (ih _ _ h1).1)
  | BoolOp op es pos =>
   simp only[ev] at h;obtain⟨h1,h2⟩:=lK (pos:=pos) (fun e _ d hd=>ih e d hd) h;exact⟨h1,fun b hb=>(h2 b hb).t⟩
  | Compare a ops bs pos =>
   simp only[ev] at h;split at h
   .obtain⟨x,h1,h⟩:=aZ h
    obtain⟨y,h2,h⟩:=aZ h;exact JL G.room G.kw (ih _ _ h1).1 (ih _ _ h2).1 (aV h2) h
   .split at h
    .cases h
    rename_i e3 hpl
    have hpl':aG e3=true:=by simpa using hpl
    obtain⟨x,h1,h⟩:=aZ h;obtain⟨y,h2,h⟩:=aZ h;obtain⟨c,h3,h⟩:=aZ h;have h3':=fj h3
    cases c with
    | false =>
     simp only[Q1z,I5z,I2z] at h;subst h;exact zM G.room G.kw (ih _ _ h1).1 (ih _ _ h2).1 hpl' h3' ⟨fun q=>(nomatch q),fun _=>rfl⟩
    | true =>
     simp only[K5z] at h;obtain⟨z,h4,h⟩:=aZ h;exact zM G.room G.kw (ih _ _ h1).1 (ih _ _ h2).1 (aV h4) h3' ⟨fun _=>⟨z,(ih _ _ h4).1,h⟩,fun q=>nomatch q⟩
   .cases h
  | IfExp c a b pos =>
   simp only[ev] at h;obtain⟨t,h1,h⟩:=aZ h;have h1':=(ih _ _ (fj h1)).2 _ rfl
   cases t with
   | true =>
    simp only[K5z] at h;refine⟨Ob h1' (fun _=>(ih _ _ h).1) (fun q=>nomatch q),fun r hr=>FW h1' (fun _=>(ih _ _ h).2 r hr) (fun q=>nomatch q)⟩
   | false =>
    simp only[Q1z,I5z] at h;refine⟨Ob h1' (fun q=>nomatch q) (fun _=>(ih _ _ h).1),fun r hr=>FW h1' (fun q=>nomatch q) (fun _=>(ih _ _ h).2 r hr)⟩
  | Tuple es j pos =>
   simp only[ev] at h;obtain⟨ds,h1,h⟩:=aZ h;split at h
   .rename_i hz
    cases h;exact val (fun _=>rfl) (Dr (dJ (fun e _ d hd=>ihp e d hd) h1).1 hz)
   .cases h
  | Dict ks vs pos =>
   simp only[ev] at h;split at h
   .rename_i hc
    rw[U2z,List.isEmpty_iff,List.isEmpty_iff] at hc;obtain⟨rfl,rfl⟩:=hc;cases h;refine⟨fun Y H Hs Q hs hst hq=>uw.sem fun p ob hp=>?_,fun b hb=>by cases hb⟩;have E:=Ext.new hs (.frz ob (.dK [])) hp;exact hq _ _ _ E ⟨p,[],rfl,.inl ⟨ob,aB⟩,rfl,rfl⟩
   .cases h
  | List es pos =>
   simp only[ev] at h;obtain⟨ds,h1,h⟩:=aZ h;split at h
   .rename_i hz
    cases h;exact val (fun _=>rfl) (zL (dJ (fun e _ d hd=>ihp e d hd) h1).1 hz)
   .cases h
  | Subscript a b pos =>
   simp only[ev] at h;obtain⟨x,h1,h⟩:=aZ h;split at h
   .split at h
    .simp at h
    .obtain⟨rfl,rfl,hc,us,rfl,rfl⟩:=Ho h
     exact val (fun _=>rfl) (JD (ih _ _ h1).1 (ih _ _ (jd hc)).1)
   .obtain⟨y,h2,h⟩:=aZ h
    have hp2:=aV h2;have hr:=G.room;unfold Kr at h;split at h
    .exact val (fun _=>rfl) (n8 (ih _ _ h1).1 (ih _ _ h2).1 hp2 rfl h)
    .exact val (fun _=>rfl) (n8 (ih _ _ h1).1 (ih _ _ h2).1 hp2 rfl h)
    .obtain⟨k',h3,h4⟩:=Option.bind_eq_some_iff.mp h
     exact val (fun _=>rfl) (JH G.kw (ih _ _ h1).1 (ih _ _ h2).1 hp2 h3 h4)
    .cases h
  | Call f args kws pos =>
   refine val (fun _=>rfl) ?_;simp only[ev] at h;split at h
   .rename_i x p
    split at h
    .rename_i hg
     have hb:∀ {b},cx.blt.lookup x=some b->bV cx sc x=some b:=fun q=>by unfold bV;rw[L5z hg];exact q
     split at h
     .rename_i hx
      split at h
      .obtain⟨d',h1,h⟩:=aZ h
       split at h
       .rename_i c' hxo
        split at h
        .rename_i c
         split at h
         .rename_i hin
          cases h;exact JF G (hb hx) hxo hin (ih _ _ h1).1 (aV h1)
         .cases h
        .cases h
       .obtain⟨T,h2,h5⟩:=aZ h
        clear h;obtain⟨t,pt,rfl,ht⟩:=wK h2;split at h5
        .rename_i c
         split at h5
         .rename_i hc
          rw[U2z] at hc
          have eT:T="ValueError":=by simpa using hc.2
          subst eT;cases h5;exact JG G (hb hx) ht hc.1 (ih _ _ h1).1 (aV h1)
         .cases h5
        .cases h5
        .cases h5
        .rename_i hne hne2 hne3
         split at h5
         .rename_i hk
          cases h5;refine N8 G (hb hx) ht hk (ih _ _ h1).1 (aV h1) ?_
          cases d'<;>first | rfl | exact absurd rfl (hne _) | exact absurd rfl (hne2 _ _) | exact absurd rfl (hne3 _)
         .cases h5
      .cases h
     .rename_i b _ hx
      have wc:=Qk (cx:=cx) (sc:=sc) (b:=b) (args:=args);split at h
      .rename_i a hw
       rw[hw] at wc;obtain⟨y,q,q',rfl,hy,rfl⟩:=wc;obtain⟨xs,h1,h⟩:=aZ h;cases h;have h1':=pG h1;exact JB G (hb hx) hy (ih _ _ h1').1 (aV h1')
      .rename_i a hw
       rw[hw] at wc;obtain⟨y,py,ap,q,rfl,rfl,hy,rfl⟩:=wc;obtain⟨d',h1,h2⟩:=Option.bind_eq_some_iff.mp h;unfold Ww at h2;split at h2
       .split at h2
        .rename_i hz
         cases h2;exact Dv G (hb hx) hy (ih _ _ h1).1 (J2z hz)
        .cases h2
       .cases h2
      .split at h
       .cases h
       .rename_i hne
        obtain⟨ds,h1,h2⟩:=aZ h;obtain⟨ha,hp⟩:=dJ (fun e _ d hd=>ihp e d hd) h1
        cases args with
        | nil=>exact absurd rfl hne
        | cons e es=>exact Dy G (hb hx) ha hp h2
     .split at h
      .rename_i hf
       rw[U2z] at hf;obtain⟨ds,h1,h⟩:=aZ h;obtain⟨ha,hp⟩:=dJ (fun e _ d hd=>ihp e d hd) h1
       have hgl:Gl X x:=by
        have e:sc.names.lookup x=some .globalImplicit:=by unfold qZ at hg;simpa using hg
        show X.env.scope.names.lookup x=_;rw[G.sce,e]
       refine JM G hgl hf.1 (fun q=>?_) ha hp h;rw[q] at hf;exact absurd hf.2 (by decide)
      .cases h
    .cases h
   .cases h
  | ListComp elt gens scope pos =>
   refine val (fun _=>rfl) ?_;simp only[ev] at h;split at h
   .rename_i tg iter ifs a
    split at h
    .rename_i hok
     rw[U2z] at hok
     have ea:a=0:=by simpa using hok.1
     subst ea;obtain⟨l,h1,h⟩:=aZ h;split at h
     .rename_i hz
      obtain⟨out,h2,h⟩:=aZ h;cases h;obtain⟨hI,hp⟩:=zP (tg:=tg) G ihp h1;exact JK G hN hok.2 hI hp hz h2 fun Xc C U1 hN1 e d he=>dD cx n (G.comp C hok.2) hN1 he
     .cases h
    .cases h
   .cases h
  | _=>exact nomatch (show(Option.none:Option D)=some d from h)
end L2
namespace L2
open PySem PySem.Spec PyProof.Rows
structure LamT (H:Hp) (P:Addr) (qual:Str) (l:List (Pos×Addr)):Prop where
 tab:H P=some (jB P (triples l).toArray)
 cod:∀ q∈l,H q.2=some (wA q.2 qual)
theorem f9:∀ l:List (Pos×Addr),TriplesOk (triples l)
 | []=>trivial
 | (p,c)::r=>f9 r
theorem lU(pos:Pos):∀ l:List (Pos×Addr),codeAmong pos (triples l)=none\/∃ q∈l,codeAmong pos (triples l)=some (.ref q.2)
 | []=>.inl rfl
 | (p,c)::r=>by
  have e:codeAmong pos (triples ((p,c)::r))=if(((p.line:Nat):Int)==((pos.line:Nat):Int)&&((p.col:Nat):Int)==((pos.col:Nat):Int))=true then some (.ref c) else codeAmong pos (triples r):=rfl;rw[e];split
  .exact .inr ⟨(p,c),I1z,rfl⟩
  .rcases lU pos r with h | ⟨q,hq,h⟩
   .exact .inl h
   .exact .inr ⟨q,S0z _ hq,h⟩
theorem LamT.same{H H':Hp}{P:Addr}{qual:Str}{l:List (Pos×Addr)}(h:LamT H P qual l)(e:∀ b o,H b=some o->H' b=some o):LamT H' P qual l:=⟨e _ _ h.tab,fun q hq=>e _ _ (h.cod q hq)⟩
theorem LamT.upd{H:Hp}{P a:Addr}{qual:Str}{l:List (Pos×Addr)}{us vs:List V}(h:LamT H P qual l)(e:H a=some (.lst us)):LamT (upd H a (.lst vs)) P qual l:=by
 refine⟨?_,fun q hq=>?_⟩
 .rw[aj fun z=>by rw[<- z,h.tab] at e;cases e];exact h.tab
 .rw[aj fun z=>by rw[<- z,h.cod q hq] at e;cases e];exact h.cod q hq
theorem LamT.ne{p':Program}{w:World}{h:Heap}{H:Hp}{P:Addr}{qual:Str}{l:List (Pos×Addr)}(T:LamT H P qual l)(ok:HOk p' w H h){p:Pos×Addr}(hp:p∈l):p.2≠P:=fun z=>by
 have e:=T.cod p hp;rw[z,T.tab] at e;have:=C3z e;unfold jB wA at this;have q:=HO.ext.inj this;have hc:=wA.rec ok (T.cod p hp);rw[z] at hc;have ht:=(ok P _ T.tab).1;obtain⟨c2,oc,vs,t,a1,a2,a3,a4⟩:=hc;cases a1;rw[ht] at a2;cases a2;have a3':Data.fields (triples l).toArray=Data.fields vs:=a3;injection a3' with a3';subst a3';have k:=f9 l
 cases l with
 | nil=>cases hp
 | cons x r =>
  obtain⟨p0,c0⟩:=x;simp[triples,rawInt] at a4
section
variable {X:Cx} {z0:List (Addr×Obj)} {Y:St} {H:Hp} {s:Shared}
theorem Jh{params:Arguments}{body:Expr}{scope:Scope}{pos:Pos}{c P:Addr}{l:List (Pos×Addr)}{clos:List (Str×Addr)}{R:Value->Shared->Prop}(I:Inv X z0 Y H s)
  (hdef:defaultsOf params X.env=([],[])) (hcode:X.env.code=.ref c) (C:W.CodeHd X.base c P) (hcl:closureFor scope X.env=pure clos) (hb:X.base.BuiltinsAt X.mg P) (hge:X.env.globals=mainGlobals)
  (T:LamT H P (X.env.qual++"<lambda>") l)
  (h : ∀ (f c' : Addr) (ctv pm : Value) (s' : Shared) (H' : Hp) (l' : List (Pos × Addr)), Inv X z0 Y H' s' -> LamT H' P (X.env.qual ++ "<lambda>") l' -> H' c' = some (wA c' (X.env.qual ++ "<lambda>")) -> c' ≠ P -> (H c' = none \/ ∃ q ∈ l, q.2 = c') -> (∀ q ∈ l', q ∈ l \/ q.2 = c') -> (∀ b o, b ≠ P -> H b = some o -> H' b = some o) ->
   s'.heap.get? f=some (W.kla_obj "<lambda>" (X.env.qual++"<lambda>") params body scope clos pm c' ctv)->s.heap.objs.size<=f->H' f=none->(∀ b o,b≠P->s.heap.get? b=some o->s'.heap.get? b=some o)->R (.ref f) s') :
  wpAny (model X.prog X.w) X.A (eval (.Lambda params body scope pos) X.env) R X.xe s:=by
 have hPlt:P<s.heap.objs.size:=I.hok.lt T.tab;rcases lU pos l with hn | ⟨q,hq,hn⟩
 .refine yR I hdef hcode C hcl hb hge T.tab (by rw[E1z];exact f9 l) (by rw[E1z];exact hn) fun f c' ctv pm s' hcn hcP J e1 e4 hfc keep=>?_
  have hfP:f≠P:=fun z=>by rw[z] at e4;exact absurd (G1z hPlt e4) (Y3z _)
  refine h f c' ctv pm s' _ (l++[(pos,c')]) J ⟨?_,fun p hp=>?_⟩ aB hcP (.inl hcn) (fun q hq=>(List.mem_append.mp hq).imp id fun z=>by rw[X1z.mp z]) (fun b o hbP e=>?_) e1 e4 ?_ keep
  .rw[aj hcP.symm,aB,triples_append]
   simp
  .rcases List.mem_append.mp hp with hp | hp
   .have e:=T.cod p hp
    have n1:p.2≠c':=ak e hcn;have n2:p.2≠P:=T.ne I.hok hp;rw[aj n1,aj n2];exact e
   .have e:p=(pos,c'):=by simpa using hp
    subst e;exact aB
  .rw[aj (ak e hcn),aj hbP];exact e
  .rw[aj hfc,aj hfP];exact I.hok.fresh e4
 .refine yS I hdef hcode C hcl hb hge T.tab (by rw[E1z];exact f9 l) (by rw[E1z];exact hn) fun f ctv pm s' J e1 e4 keep=>?_
  exact h f q.2 ctv pm s' H l J T (T.cod q hq) (T.ne I.hok hq) (.inr ⟨q,hq,rfl⟩) (fun _ z=>.inl z) (fun _ _ _ e=>e) e1 e4 (I.hok.fresh e4) fun b o _ e=>keep b o e
end
end L2
namespace L2
open PySem PySem.Spec PyProof.Rows DE PySem.SeqAt
section
variable {prog:Program} {w:World} {A:Around} {E:Value->Shared->Prop}
end
section
variable {X:Cx} {es:List Expr} {k:Nat} {t:TGs} {n:Nat} {pos:Pos}
end
structure Hd (K:Z3) (lm:Option (Addr×Str)) (Hs0 H0 Hs H:Hp) (U:Rho) (Y:St):Prop where
 ext:Ext Hs0 H0 Hs H
 len:Y.length=U.length
 sh:bJ K Hs U Y
 ow:∀ (i:Nat) (x:Str) (ds:List D),U[i]?=some (x,.ow ds)->∃ a vs,Y[i]?=some (some (.ref a))/\H a=some (.lst vs)/\aJ K Hs ds vs/\Hs a=none/\H0 a=none
 dis:∀ (i j:Nat) (x y:Str) (ds es:List D) (a:Addr),i≠j->U[i]?=some (x,.ow ds)->U[j]?=some (y,.ow es)->Y[i]?=some (some (.ref a))->Y[j]?=some (some (.ref a))->False
 oo:∀ (i:Nat) (x:Str) (dss:List (List D)),U[i]?=some (x,.oo dss)->False
 lam:∀ p,lm=some p->H0 p.1=none/\∃ l,LamT H p.1 p.2 l/\Hs p.1=none/\∀ q∈l,Hs q.2=none
section
variable {K:Z3} {lm:Option (Addr×Str)} {Hs0 H0 Hs H Hs' H':Hp} {U:Rho} {Y:St}
theorem Hd.step(h:Hd K lm Hs0 H0 Hs H U Y)(E:Ext Hs H Hs' H'):Hd K lm Hs0 H0 Hs' H' U Y where
 ext:=h.ext.trans E
 len:=h.len
 sh:=h.sh.same E.vis
 ow:=fun i x ds e=>by
  obtain⟨a,vs,h1,h2,h3,h4,h5⟩:=h.ow i x ds e;exact⟨a,vs,h1,E.all _ _ h2,aJ.same E.vis ds vs h3,E.hid a _ h2 h4,h5⟩
 dis:=h.dis
 oo:=h.oo
 lam:=fun p hp=>by
  obtain⟨h0,l,T,n1,n2⟩:=h.lam p hp;exact⟨h0,l,T.same E.all,E.hid _ _ T.tab n1,fun q hq=>E.hid _ _ (T.cod q hq) (n2 q hq)⟩
def LmT(lm:Option (Addr×Str))(H:Hp):Prop:=∀ p,lm=some p->∃ l,LamT H p.1 p.2 l
theorem Hd.lmt(h:Hd K lm Hs0 H0 Hs H U Y):LmT lm H:=fun p hp=>by
 obtain⟨_,l,T,_⟩:=h.lam p hp;exact⟨l,T⟩
theorem lH{n:Nat}{e:Expr}{i:Nat}{x:Str}{s:Sl}(h:(frz n e U)[i]?=some (x,s)):(U[i]?=some (x,s)/\(g8 s=false->fP n x e=false))\/(∃ ds,s=.sh (.lst ds)/\U[i]?=some (x,.ow ds)/\fP n x e=true)\/∃ dss,s=.sh (.lst (dss.map .lst))/\U[i]?=some (x,.oo dss)/\fP n x e=true:=by
 unfold frz at h;rw[List.getElem?_map] at h;obtain⟨⟨y,t⟩,h1,h2⟩:=M0z.mp h
 cases t with
 | no=>simp at h2;obtain⟨rfl,rfl⟩:=h2;exact .inl ⟨h1,fun z=>nomatch z⟩
 | sh d=>simp at h2;obtain⟨rfl,rfl⟩:=h2;exact .inl ⟨h1,fun z=>nomatch z⟩
 | ow ds =>
  simp only at h2
  cases hm:fP n y e with
  | true =>
   rw[hm,L5z rfl] at h2;cases h2;exact .inr (.inl ⟨ds,rfl,h1,hm⟩)
  | false =>
   rw[hm] at h2;simp at h2;obtain⟨rfl,rfl⟩:=h2;exact .inl ⟨h1,fun _=>hm⟩
 | oo dss =>
  simp only at h2
  cases hm:fP n y e with
  | true =>
   rw[hm,L5z rfl] at h2;cases h2;exact .inr (.inr ⟨dss,rfl,h1,hm⟩)
  | false =>
   rw[hm] at h2;simp at h2;obtain⟨rfl,rfl⟩:=h2;exact .inl ⟨h1,fun _=>hm⟩
theorem bH(n:Nat)(e:Expr):(frz n e U).map (·.1)=U.map (·.1):=by
 unfold frz;rw[R4z];apply F1z;intro p _;obtain⟨x,s⟩:=p
 cases s<;>simp<;>(split<;>rfl)
open Classical in
theorem Hd.frozen2(n:Nat)(e:Expr)(h:Hd K lm Hs0 H0 Hs H U Y):∃ Hs1,Same Hs Hs1/\(∀ b o,Hs1 b=some o->Hs b=some o\/∃ vs,o=.lst vs)/\Hd K lm Hs0 H0 Hs1 H (frz n e U) Y:=by
 let Fo:Addr->Prop:=fun b=>∃ (i:Nat) (x:Str) (ds:List D),U[i]?=some (x,Sl.ow ds)/\fP n x e=true/\Y[i]?=some (some (V.ref b))
 let Hs1:Hp:=fun b=>if Fo b then H b else Hs b
 have vis:Same Hs Hs1:=fun b o q=>by
  show(if Fo b then H b else Hs b)=some o;split
  .exact h.ext.sub b o q
  .exact q
 have sub:Same Hs1 H:=fun b o q=>by
  have q':(if Fo b then H b else Hs b)=some o:=q;split at q'
  .exact q'
  .exact h.ext.sub b o q'
 have fz:∀ b,Fo b->∃ vs,H b=some (.lst vs)/\H0 b=none:=fun b ⟨i,x,ds,g1,_,g3⟩=>by
  obtain⟨a,vs,k1,k2,k3,k4,k5⟩:=h.ow i x ds g1;rw[k1] at g3;cases g3;exact⟨vs,k2,k5⟩
 have shp:∀ b o,Hs1 b=some o->Hs b=some o\/∃ vs,o=.lst vs:=fun b o q=>by
  have q':(if Fo b then H b else Hs b)=some o:=q;split at q'
  .rename_i f
   obtain⟨vs,k2,_⟩:=fz b f;rw[k2] at q';cases q';exact .inr ⟨vs,rfl⟩
  .exact .inl q'
 have hz:∀ (b:Addr) (u:Heap->Prop),H b=some (.ext u)->Hs b=none->Hs1 b=none:=fun b u q n=>by
  show(if Fo b then H b else Hs b)=none;rw[M5z fun f=>?_]
  .exact n
  .obtain⟨vs,k2,_⟩:=fz b f
   rw[k2] at q;cases q
 refine⟨Hs1,vis,shp,⟨h.ext.vis.trans vis,h.ext.all,sub,fun b o q z=>?_⟩,by rw[h.len];simp[frz],fun i x d q=>?_,fun i x ds q=>?_,fun i j x y ds es a hij q1 q2=>?_,fun i x dss q=>?_,fun p hp=>by obtain⟨h0,l,T,n1,n2⟩:=h.lam p hp;exact⟨h0,l,T,hz _ _ T.tab n1,fun q hq=>hz _ _ (T.cod q hq) (n2 q hq)⟩⟩
 .show(if Fo b then H b else Hs b)=none
  rw[M5z fun f=>by obtain⟨_,_,k⟩:=fz b f;rw[k] at q;cases q]
  exact h.ext.hid b o q z
 .rcases lH q with⟨q,_⟩ | ⟨ds,e1,q2,hm⟩ | ⟨dss,e1,q2,hm⟩
  .obtain⟨v,k1,k2⟩:=h.sh i x d q
   exact⟨v,k1,Rep.same vis d v k2⟩
  .cases e1
   obtain⟨a,vs,k1,k2,k3,k4,k5⟩:=h.ow i x ds q2;refine⟨_,k1,?_⟩;simp only[Rep];refine⟨a,vs,rfl,.of ?_,aJ.same vis ds vs k3⟩;show(if Fo a then H a else Hs a)=_;rw[L5z ⟨i,x,ds,q2,hm,k1⟩];exact k2
  .exact(h.oo i x dss q2).elim
 .rcases lH q with⟨q,hm⟩ | ⟨ds',e1,q,hm⟩ | ⟨ds',e1,q,hm⟩
  .obtain⟨a,vs,k1,k2,k3,k4,k5⟩:=h.ow i x ds q
   refine⟨a,vs,k1,k2,aJ.same vis ds vs k3,?_,k5⟩;show(if Fo a then H a else Hs a)=none;rw[M5z]
   .exact k4
   .rintro⟨j,y,es,g1,g2,g3⟩
    by_cases hij:i=j
    .subst hij
     rw[q] at g1;cases g1;rw[hm rfl] at g2;cases g2
    .exact h.dis i j x y ds es a hij q g1 k1 g3
  .cases e1
  .cases e1
 .rcases lH q1 with⟨q1,_⟩ | ⟨ds',e1,_⟩ | ⟨ds',e1,_⟩
  .rcases lH q2 with⟨q2,_⟩ | ⟨ds',e1,_⟩ | ⟨ds',e1,_⟩
   .exact h.dis i j x y ds es a hij q1 q2
   .cases e1
   .cases e1
  .cases e1
  .cases e1
 .rcases lH q with⟨q,_⟩ | ⟨ds',e1,_⟩ | ⟨ds',e1,_⟩
  .exact h.oo i x dss q
  .cases e1
  .cases e1
theorem Hd.frozen(n:Nat)(e:Expr)(h:Hd K lm Hs0 H0 Hs H U Y):∃ Hs1,Same Hs Hs1/\Hd K lm Hs0 H0 Hs1 H (frz n e U) Y :=
 let ⟨Hs1,a,_,b⟩:=h.frozen2 n e
 ⟨Hs1,a,b⟩
theorem Hd.set{x:Str}{i:Nat}{d:D}{v:V}(h:Hd K lm Hs0 H0 Hs H U Y)(hn:(U.map (·.1)).Nodup)(hi:(U.map (·.1))[i]?=some x)(r:Rep K Hs d v):Hd K lm Hs0 H0 Hs H (fG U x (.sh d)) (Y.set i (some v)):=by
 have hl:i<Y.length:=by have:=(List.getElem?_eq_some_iff.mp hi).1;rw[h.len];simpa using this
 refine⟨h.ext,by rw[R3z,h.len];have:=congrArg List.length (aP U x (.sh d));simpa using this.symm,pP hn hi hl h.sh r,fun j y ds e=>?_,fun j j' y y' ds es a hjj e1 e2 e3 e4=>?_,fun j y dss e=>?_,h.lam⟩
 .rw[bW hn hi j] at e
  split at e
  .cases e
  .rename_i hj
   obtain⟨a,vs,k1,k⟩:=h.ow j y ds e;exact⟨a,vs,by rw[List.getElem?_set_ne (fun z=>hj z.symm)];exact k1,k⟩
 .rw[bW hn hi] at e1 e2
  split at e1
  .cases e1
  .rename_i hj
   split at e2
   .cases e2
   .rename_i hj'
    rw[List.getElem?_set_ne (fun z=>hj z.symm)] at e3;rw[List.getElem?_set_ne (fun z=>hj' z.symm)] at e4;exact h.dis j j' y y' ds es a hjj e1 e2 e3 e4
 .rw[bW hn hi j] at e
  split at e
  .cases e
  .rename_i hj
   exact h.oo j y dss e
theorem Hd.own{x:Str}{i:Nat}{ds:List D}{vs:List V}{acc:Addr}(h:Hd K lm Hs0 H0 Hs H U Y)(hn:(U.map (·.1)).Nodup)(hi:(U.map (·.1))[i]?=some x)(h1:H acc=some (.lst vs))(r:aJ K Hs ds vs)(h2:Hs acc=none)(h3:H0 acc=none)
  (no:∀ (j:Nat) y dss,j≠i->U[j]?=some (y,.oo dss)->False) (ap:∀ (j:Nat) y es,j≠i->U[j]?=some (y,.ow es)->Y[j]?=some (some (.ref acc))->False):Hd K lm Hs0 H0 Hs H (fG U x (.ow ds)) (Y.set i (some (.ref acc))):=by
 have hl:i<Y.length:=by have:=(List.getElem?_eq_some_iff.mp hi).1;rw[h.len];simpa using this
 refine⟨h.ext,by rw[R3z,h.len];have:=congrArg List.length (aP U x (.ow ds));simpa using this.symm,fun j y d e=>?_,fun j y es e=>?_,fun j j' y y' ds' es a hjj e1 e2 e3 e4=>?_,fun j y dss e=>?_,h.lam⟩
 .rw[bW hn hi j] at e
  split at e
  .cases e
  .rename_i hj
   obtain⟨v,k1,k2⟩:=h.sh j y d e;exact⟨v,by rw[List.getElem?_set_ne (fun z=>hj z.symm)];exact k1,k2⟩
 .rw[bW hn hi j] at e
  split at e
  .rename_i hj
   subst hj;cases e;exact⟨acc,vs,by rw[List.getElem?_set_self hl],h1,r,h2,h3⟩
  .rename_i hj
   obtain⟨a,vs',k1,k⟩:=h.ow j y es e;exact⟨a,vs',by rw[List.getElem?_set_ne (fun z=>hj z.symm)];exact k1,k⟩
 .rw[bW hn hi] at e1 e2
  split at e1
  .rename_i hj
   split at e2
   .rename_i hj'
    exact hjj (hj.trans hj'.symm)
   .rename_i hj'
    subst hj;rw[List.getElem?_set_self hl] at e3;cases e3;rw[List.getElem?_set_ne (fun z=>hj' z.symm)] at e4;exact ap j' y' es hj' e2 e4
  .rename_i hj
   split at e2
   .rename_i hj'
    subst hj';rw[List.getElem?_set_self hl] at e4;cases e4;rw[List.getElem?_set_ne (fun z=>hj z.symm)] at e3;exact ap j y ds' hj e1 e3
   .rename_i hj'
    rw[List.getElem?_set_ne (fun z=>hj z.symm)] at e3;rw[List.getElem?_set_ne (fun z=>hj' z.symm)] at e4;exact h.dis j j' y y' ds' es a hjj e1 e2 e3 e4
 .rw[bW hn hi j] at e
  split at e
  .cases e
  .rename_i hj
   exact(no j y dss hj e).elim
theorem Hd.app{x:Str}{i:Nat}{ds es:List D}{vs:List V}{a:Addr}(h:Hd K lm Hs0 H0 Hs H U Y)(hn:(U.map (·.1)).Nodup)(hi:U[i]?=some (x,.ow ds))(hY:Y[i]?=some (some (.ref a)))(r:aJ K Hs es vs):Hd K lm Hs0 H0 Hs (upd H a (.lst vs)) (fG U x (.ow es)) Y:=by
 obtain⟨a',vs',k1,k2,k3,k4,k5⟩:=h.ow i x ds hi;rw[hY] at k1;cases k1
 have hi':(U.map (·.1))[i]?=some x:=by rw[List.getElem?_map,hi];rfl
 refine⟨Ext.acc h.ext k5 k4,by rw[h.len];have:=congrArg List.length (aP U x (.ow es));simpa using this.symm,fun j y d e=>?_,fun j y es' e=>?_,fun j j' y y' ds' es' b hjj e1 e2 e3 e4=>?_,fun j y dss e=>?_,fun p hp=>by obtain⟨h0,l,T,n⟩:=h.lam p hp;exact⟨h0,l,T.upd k2,n⟩⟩
 .rw[bW hn hi' j] at e
  split at e
  .cases e
  .exact h.sh j y d e
 .rw[bW hn hi' j] at e
  split at e
  .rename_i hj
   subst hj;cases e;exact⟨a,vs,hY,aB,r,k4,k5⟩
  .rename_i hj
   obtain⟨b,us,g1,g2,g⟩:=h.ow j y es' e;refine⟨b,us,g1,?_,g⟩;rw[aj]
   .exact g2
   .rintro rfl
    exact h.dis j i y x es' ds b hj e hi g1 hY
 .rw[bW hn hi'] at e1 e2
  split at e1
  .rename_i hj
   split at e2
   .rename_i hj'
    exact hjj (hj.trans hj'.symm)
   .subst hj
    exact h.dis j j' x y' ds es' b hjj hi e2 e3 e4
  .split at e2
   .rename_i hj'
    subst hj';exact h.dis j j' y x ds' ds b hjj e1 hi e3 e4
   .exact h.dis j j' y y' ds' es' b hjj e1 e2 e3 e4
 .rw[bW hn hi' j] at e
  split at e
  .cases e
  .rename_i hj
   exact h.oo j y dss e
theorem IK{x:Str}{i:Nat}(hn:(U.map (·.1)).Nodup)(hi:(U.map (·.1))[i]?=some x)(h:oZ U x=true):∀ (j:Nat) y dss,j≠i->U[j]?=some (y,.oo dss)->False:=fun j y dss hj e=>by
 have:=A3z.mp h _ (List.mem_of_getElem? e);rw[N3z] at this;rcases this with q | q
 .have ey:y=x:=by simpa using q
  have e':(U.map (·.1))[j]?=some x:=by rw[List.getElem?_map,e,<- ey];rfl
  exact hj ((List.getElem?_inj (List.getElem?_eq_some_iff.mp e').1 hn).mp (e'.trans hi.symm))
 .exact nomatch q
theorem nW{scope:Scope}:m7 K Hs scope (fun U Y=>Hd K lm Hs0 H0 Hs H U Y):=fun U Y i x d v hn hi _ h r=>h.set hn hi r
end
end L2
namespace L2
open PySem PySem.Spec PyProof.Rows PySem.SeqAt
open DE hiding st
def nC(X:Cx)(s:Stmt):TS:=fun D Y H=>∀ z0 s0,Inv X z0 Y H s0->wpAny (model X.prog X.w) X.A (exec s X.env) (SP X z0 D) X.xe s0
def dU(X:Cx)(s:List Stmt):TS:=fun D Y H=>∀ z0 s0,Inv X z0 Y H s0->wpAny (model X.prog X.w) X.A (execs s X.env) (SP X z0 D) X.xe s0
section
variable {X:Cx} {s:Stmt} {ss:List Stmt} {t:TS} {D:Ends} {Y:St} {H:Hp}
theorem jt:PS X s (nC X s):=fun z0 s Y H D I h=>h z0 s I
theorem PS.sem(h:PS X s t)(q:t D Y H):nC X s D Y H:=fun z0 s I=>h z0 s Y H D I q
theorem bL:PSs X ss (dU X ss):=fun z0 s Y H D I h=>h z0 s I
theorem PSs.sem(h:PSs X ss t)(q:t D Y H):dU X ss D Y H:=fun z0 s I=>h z0 s Y H D I q
end
def Runs(X:Cx)(Hs0 H0:Hp)(U:Rho)(fl:Fl)(t:TS):Prop:=∀ Y H Hs D,Hd X.K X.lm Hs0 H0 Hs H U Y->X.N=U.map (·.1)->(∀ U' Y' Hs' H',fl=.nxt U'->Same Hs Hs'->X.N=U'.map (·.1)->Hd X.K X.lm Hs0 H0 Hs' H' U' Y'->D.nx Y' H') ->
 (∀ d v Hs' H',fl=.ret d->Ext Hs0 H0 Hs' H'->Rep X.K Hs' d v->LmT X.lm H'->D.rt v H')->t D Y H
structure GoodS (cx:Cxt) (k:Nat) (X:Cx) (sc:Scope):Prop where
 good:Good cx k X sc
 own:Owns X sc
 pass:PassesOwn (model X.prog X.w) X.A X.env X.xe
 stk:X.stack=X.env::X.outer/\X.env.frame=some X.env.locals
section
variable {X:Cx} {U:Rho} {cx:Cxt} {k F:Nat} {sc scope:Scope} {Hs0 H0:Hp} {e:Expr} {d:D}
theorem Ds(G:GoodS cx k X sc)(hN:X.N=U.map (·.1))(he:ev cx F sc (frz F e U) e=some d){Y:St}{H Hs:Hp}{Q:VK}(h:Hd X.K X.lm Hs0 H0 Hs H U Y)(q:∀ v Hs' H',Same Hs Hs'->Hd X.K X.lm Hs0 H0 Hs' H' (frz F e U) Y->Rep X.K Hs' d v->Q v H'):iB X e Y H Q:=by
 obtain⟨Hs1,sm1,h1⟩:=h.frozen F e;exact(dD cx F G.good (by rw[bH];exact hN) he).1 Y H Hs1 Q h1.ext.sub h1.sh fun v H' Hs' E r=>q v Hs' H' (sm1.trans E.vis) (h1.step E) r
theorem JC(G:GoodS cx k X sc)(hN:X.N=U.map (·.1)){b:Bool}(he:ev cx F sc (frz F e U) e=some (.bl b)){Y:St}{H Hs:Hp}{Q:Bool->Hp->Prop}(h:Hd X.K X.lm Hs0 H0 Hs H U Y)(q:∀ Hs' H',Same Hs Hs'->Hd X.K X.lm Hs0 H0 Hs' H' U Y->Q b H'):lW X e Y H Q:=by
 obtain⟨Hs1,sm1,shp,h1⟩:=h.frozen2 F e;refine(dD cx F G.good (by rw[bH];exact hN) he).2 b rfl Y H Hs1 Q h1.ext.sub h1.sh fun H' Hs' E=>?_;exact q Hs H' (.refl _) (h.step ⟨.refl _,E.all,h.ext.sub.trans E.all,fun _ _ _ z=>z⟩)
theorem j7{t:Option Expr}{l:Nat}{env:Env}(he:ev cx F sc U e=some d)(hc:∀ a b c p,e≠.ListComp a b c p):swapsWith e t l env=pure false:=by
 cases F with
 | zero=>simp[ev] at he
 | succ F =>
  cases e<;>first | rfl | (exact nomatch (show(Option.none:Option D)=some d from he)) | (exact absurd rfl (hc _ _ _ _))
theorem Bx(h:bU e=false):nq e d=.sh d:=by
 unfold nq;split
 .rw[h];rfl
 .rfl
def OwnE(X:Cx)(U:Rho)(e:Expr)(ds:List D):Prop:=∀ Y H Hs Q,Same Hs H->bJ X.K Hs U Y->(∀ acc vs Hs' H',Ext Hs H Hs' H'->H acc=none->Hs' acc=none->H' acc=some (.lst vs)->aJ X.K Hs' ds vs->Q (.ref acc) H')->iB X e Y H Q
theorem Cv{es:List Expr}{ds:List D}{pos:Pos}(h:EvA X U es ds)(hz:szl ds.length=true):OwnE X U (.List es pos) ds:=fun Y H Hs Q hs hst hq =>
 (pX cL).sem (h Y H Hs _ hs hst fun vs H1 Hs1 E1 r1=>⟨by rw[<- r1.length];exact j6 hz,fun p hp =>
  hq p vs Hs1 _ (Ext.acc E1 (E1.all.free hp) (E1.sub.free hp)) (E1.all.free hp) (E1.sub.free hp) aB r1⟩)
theorem Lj{x:Str}{ds:List D}{px pos:Pos}(G:GoodS cx k X sc)(hN:X.N=U.map (·.1))(hx:ownIn sc x=true)(hc:(U.map (·.1)).contains x=true)(hno:oZ (frz F e U) x=true)
  (hrun:∀ (i:Nat),X.N[i]?=some x->∀ Y H Hs D,Same Hs H->bJ X.K Hs (frz F e U) Y->(∀ acc vs Hs' H',Ext Hs H Hs' H'->H acc=none->Hs' acc=none->H' acc=some (.lst vs)->aJ X.K Hs' ds vs->D.nx (Y.set i (some (.ref acc))) H')->nC X (.Assign [.Name x px] e pos) D Y H) :
  Runs X Hs0 H0 U (.nxt (fG (frz F e U) x (.ow ds))) (nC X (.Assign [.Name x px] e pos)):=by
 intro Y H Hs D h _ hn hr;obtain⟨i,hi⟩:=cR hc;obtain⟨Hs1,sm1,h1⟩:=h.frozen F e
 have hnd:((frz F e U).map (·.1)).Nodup:=by rw[bH,<- hN];exact G.good.nd
 refine hrun i (by rw[hN];exact hi) Y H Hs1 D h1.ext.sub h1.sh fun acc vs Hs' H' E a1 a2 a3 r=>?_
 refine hn _ _ Hs' H' rfl (sm1.trans E.vis) (by rw[aP,bH];exact hN) ((h1.step E).own hnd (by rw[bH];exact hi) a3 r a2 (h1.ext.all.free a1) (IK hnd (by rw[bH];exact hi) hno) fun j y es hj q1 q2=>?_)
 obtain⟨b,us,k1,k2,_⟩:=h1.ow j y es q1;rw[k1] at q2;cases q2;rw[a1] at k2;cases k2
theorem Gy{x:Str}{px pos:Pos}(G:GoodS cx k X sc)(hN:X.N=U.map (·.1))(hx:ownIn sc x=true)(hc:(U.map (·.1)).contains x=true)(hlc:ooE cx sc e=false)(hno:bU e=true->oZ (frz F e U) x=true)(he:ev cx F sc (frz F e U) e=some d) :
  Runs X Hs0 H0 U (.nxt (fG (frz F e U) x (nq e d))) (nC X (.Assign [.Name x px] e pos)):=by
 obtain⟨ox,of⟩:=G.own.own x hx
 have hN':X.N=(frz F e U).map (·.1):=by rw[bH];exact hN
 by_cases hfr:bU e=true
 .cases F with
  | zero=>simp[ev] at he
  | succ F =>
   cases e with
   | List es p2 =>
    simp only[ev] at he;obtain⟨ds,h1,he⟩:=aZ he;split at he
    .rename_i hz
     cases he;have hA:=(dJ (fun e _ d hd=>⟨(dD cx F G.good hN' hd).1,aV hd⟩) h1).1;refine Lj G hN hx hc (hno rfl) fun i hi Y H Hs D hs hst hq=>?_;refine PS.sem (jr G.good.nd hi ox au rfl of) (Cv hA hz Y H Hs _ hs hst fun acc vs Hs' H' E a1 a2 a3 r=>hq acc vs Hs' H' E a1 a2 a3 r)
    .cases he
   | ListComp elt gens scope p2=>cases hlc
   | _=>simp[bU] at hfr
 .have hfr':bU e=false:=by simpa using hfr
  rw[Bx hfr'];intro Y H Hs D h _ hn hr;obtain⟨i,hi⟩:=cR hc
  have hsw:=j7 (t:=some (.Name x px)) (l:=pos.line) (env:=X.env) he fun a b c p q=>by rw[q] at hfr';cases hfr'
  refine PS.sem (jr (i:=i) G.good.nd (by rw[hN];exact hi) ox au hsw of) (Ds G hN he h fun v Hs' H' sm h' r=>?_)
  exact hn _ _ Hs' H' rfl sm (by rw[aP];exact hN') (h'.set (by rw[<- hN'];exact G.good.nd) (by rw[bH];exact hi) r)
theorem vZ{es:List Expr}{l:List D}{U':Rho}{Y:St}{v:V}{Hs H:Hp}{P:Rho->St->Prop}{Q:St->Hp->Prop}{kt:Nat}{pos:Pos}(G:GoodS cx k X sc)(hs:Same Hs H)(hN:X.N=U.map (·.1))(KE:m7 X.K Hs sc P)(hl:tupI d=some l)(hb:bindNames sc es l U=some U')(hp:P U Y)(rd:Rep X.K Hs d v)
  (hq:∀ Y',X.N=U'.map (·.1)->P U' Y'->Q Y' H):Jr X (.Tuple es kt pos) v Y H Q:=by
 obtain⟨e1,e2,e3⟩:=gj (env:=X.env) hb
 cases d with
 | tup xs =>
  simp only[tupI,I2z] at hl;subst hl
  obtain⟨a,vs,rfl,h1,h2⟩:=cu rd;exact PG.sem (EY G.good.calm rH e1 e2) ⟨a,vs,rfl,hs.tup h1,by rw[<- h2.length,e3],jm G.own G.good.nd KE hN hb hp h2 hq⟩
 | _=>simp[tupI] at hl
theorem uz{n:Nat}(h:nc0 e=true):foldedForSure n e=false/\constantsAlone n e=false:=by
 cases e<;>simp[nc0] at h<;>(constructor<;>simp[foldedForSure,constantsAlone,h])
theorem Nk{n:Nat}(h:nc1 e=true):constantsAlone (n+1) e=false:=by
 unfold nc1 at h;split at h
 .simp[constantsAlone,(uz (n:=n) h).2]
 .exact(uz h).2
theorem CK(h:nc e=true):foldedForSure 8 e=false/\constantsAlone 8 e=false:=by
 unfold nc at h;split at h
 .rw[N3z] at h
  refine⟨by simp[foldedForSure],?_⟩
  rcases h with h | h<;>simp[constantsAlone,(uz (n:=7) h).2]
 .rw[N3z] at h
  refine⟨by simp[foldedForSure],?_⟩
  rcases h with h | h<;>simp[constantsAlone,(Nk (n:=6) h)]
 .exact uz h
theorem Ea(G:Good cx k X sc):X.env.blockKind=.function:=by
 unfold Env.blockKind;rw[G.sce,G.kind];rfl
theorem Lg{es:List Expr}{kt:Nat}{pt:Pos}(G:Good cx k X sc)(h:swp sc es e=some false):swappedStores [.Tuple es kt pt] e X.env=pure none:=by
 cases e with
 | Tuple vs k2 p2 =>
  simp only[swp] at h;split at h
  .split at h
   .split at h<;>cases h
   .cases h
  .cases h
 | _=>rfl
theorem w6{es:List Expr}{kt:Nat}{pt:Pos}(G:Good cx k X sc)(h:swp sc es e=some true):∃ x px y py a b k2 p2,es=[.Name x px,.Name y py]/\e=.Tuple [a,b] k2 p2/\X.env.scope.names.lookup x=some .local/\X.env.scope.names.lookup y=some .local/\x≠y/\aG a=true/\aG b=true /\
    swappedStores [.Tuple es kt pt] e X.env=pure (some [x,y]):=by
  cases e with
  | Tuple vs k2 p2 =>
    simp only[swp] at h
    split at h
    . rename_i x px y py a b
      split at h
      . rename_i hl
        split at h
        . rename_i hq
          rw[U2z] at hl
          rw[U2z,U2z,U2z,U2z,N3z] at hq
          obtain⟨⟨⟨⟨q1,q2⟩,q3⟩,q4⟩,q5⟩:=hq
          have l1:X.env.kindOf x=some .local:=by unfold Env.kindOf;rw[G.sce];simpa using hl.1
          have l2:X.env.kindOf y=some .local:=by unfold Env.kindOf;rw[G.sce];simpa using hl.2
          have hxy:x≠y:=by simpa using q2
          have hpl : py.line = px.line := by have : px.line = py.line := by simpa using q1
                                             exact this.symm
          have f1:(foldedForSure 8 a&&foldedForSure 8 b)=false:=by
            rcases q3 with q | q
            . rw[(CK q).1];rfl
            . rw[(CK q).1,X3z]
          have f2:(constantsAlone 8 a&&constantsAlone 8 b)=false:=by
            rcases q3 with q | q
            . rw[(CK q).2];rfl
            . rw[(CK q).2,X3z]
          refine⟨x,px,y,py,a,b,k2,p2,rfl,rfl,l1,l2,hxy,q4,q5,?_⟩
          unfold swappedStores
          have ed:([x,y]:List Str).eraseDups.length=2:=by
            have:(y==x)=false:=by simpa using hxy.symm
            simp[List.eraseDups_cons,this]
          have al1:[a,b].all (foldedForSure 8)=false:=by simpa using f1
          have al2:[a,b].all (constantsAlone 8)=false:=by simpa using f2
          simp only[al1,al2,Ea G]
          generalize hst:[a,b].any _=sb
          have hsb:sb=false:=by
            rw[<- hst,E4z,E4z,List.any_nil,Bool.or_false,Bool.or_eq_false_iff]
            clear hst f1 f2 al1 al2 q3
            refine⟨?_,?_⟩
            . cases a<;>first | rfl | (simp[aG] at q4)
            . cases b<;>first | rfl | (simp[aG] at q5)
          generalize hf:List.filterMap _ [Expr.Name x px,Expr.Name y py]=nm
          have hnm:nm=[x,y]:=by
            rw[<- hf]
            simp[Y0z,l1,l2,hpl,Expr.pos]
          rw[hsb,hnm]
          simp only[ed]
          rfl
        . cases h
      . cases h
    . cases h
  | _=>simp[swp] at h
end
def XOk(X:Cx)(Y:St)(E:XK):Prop:=∀ z0 H s e s',Inv X z0 Y H s->CX1 X.prog X.w X.stack H s E e s'->X.xe e s'
def Bd(X:Cx)(Y:St)(E:XK):Prop:=∀ z0 H s (C e:Addr) h' args,Inv X z0 Y H s->Heap.MadeExcOf s.heap h' e (.ref C) args->E (.ref C) none H->X.xe (.ref e) { s with heap:=h' }
def EX(X:Cx)(c:Str)(Hs H:Hp)(E:XK):Prop:=∀ C H' Hs',W.nsIn X.K mainGlobals c=some (some (.ref C))->Ext Hs H Hs' H'->E (.ref C) none H'
theorem EX.step{X:Cx}{c:Str}{Hs H Hs1 H1:Hp}{E:XK}(h:EX X c Hs H E)(e:Ext Hs H Hs1 H1):EX X c Hs1 H1 E:=fun C H' Hs' hn e'=>h C H' Hs' hn (e.trans e')
def EvX(X:Cx)(U:Rho)(e:Expr)(c:Str):Prop:=∀ Y H Hs E,Same Hs H->bJ X.K Hs U Y->EX X c Hs H E->XOk X Y E->∀ Q,iB X e Y H Q
def Zv(X:Cx)(U:Rho)(es:List Expr)(c:Str):Prop:=∀ Y H Hs E,Same Hs H->bJ X.K Hs U Y->EX X c Hs H E->XOk X Y E->∀ Q,wY X es Y H Q
section
variable {X:Cx} {U:Rho} {cx:Cxt} {k:Nat} {sc scope:Scope}
theorem xV{f:Addr}{fd:FuncData}{ps:List Str}{sp:Sp}{E:XK}{z0:List (Addr×Obj)}{Y:St}{H:Hp}{s:Shared}{Q:VK}{us:List Value}{vs:List V}(F:FnOk X.prog X.w X.K X.mg X.base (CX1 X.prog X.w) k f fd ps sp)(hr:Room k X.A)(hb:Binds X.K fd ps [])(hx:XOk X Y E)
  (I:Inv X z0 Y H s) (r:Vals vs us) (h:sp vs H Q E):wpAny (model X.prog X.w) X.A (call (.ref f) us) (EP X z0 Y Q) X.xe s:=by
 have hl:(us++([]:List Value)).length=ps.length:=by rw[F3z,<- r.length];exact F.len _ _ _ _ h
 have hb':=hb s us I.kIn hl;rw[F3z] at hb';refine wpAny_call (O4z (F.run X.A X.stack s H ⟨us,[]⟩ us vs Q E hr I.env0 hb' r h) fun r s' hq=>?_)
 cases r with
 | error e=>exact hx z0 H s e s' I hq
 | ok fl =>
  cases fl with
  | ret u=>exact I.after hq
  | next=>exact False.elim hq
  | brk=>exact False.elim hq
  | cont=>exact False.elim hq
theorem Gg{f:Expr->Option D}{g:Expr->Option Str}{c:Str}(hf:∀ e d,f e=some d->Ev X U e d)(hg:∀ e c,g e=some c->EvX X U e c):∀ {es:List Expr},(∀ e∈es,aG e=true)->v7 f g es=some c->Zv X U es c
 | [],_,h=>by simp[v7] at h
 | e::es,hp,h=>by
  simp only[v7] at h;intro Y H Hs E hs hst hE hx Q;refine(aA au cL (aq (hp e (by simp)))).sem ?_
  cases he:f e with
  | some d =>
   rw[he] at h;exact hf e d he Y H Hs _ hs hst fun v H1 Hs1 E1 _=>Gg hf hg (fun e' h'=>hp e' (S0z _ h')) h Y H1 Hs1 E E1.sub (hst.same E1.vis) (hE.step E1) hx _
  | none =>
   rw[he] at h;exact hg e c h Y H Hs E hs hst hE hx _
theorem Dw{f:Str}{es:List Expr}{c:Str}{p pos:Pos}(G:Good cx k X sc)(hg:Gl X f)(hf:cx.fns.contains f=true)(hne:es≠[])(hp:∀ e∈es,aG e=true)(h:Zv X U es c\/∃ ds,EvA X U es ds/\cx.callx f ds=some c) :
  EvX X U (.Call (.Name f p) es [] pos) c:=by
 obtain⟨hdb,a,fd,ps,_,har,hm,hk,hb,F⟩:=G.fns f hf
 cases es with
 | nil=>exact absurd rfl hne
 | cons e es =>
  intro Y H Hs E hs hst hE hx Q z0 s I;refine M1z (fQ I hg hm ?_ hdb);refine N1z (h₀:=X.base) I.ok.mod.kin hk ?_ (aq (hp e (by simp))) (dH fun e' he=>hp e' (S0z _ he));rcases h with h | ⟨ds,hA,hc⟩
  .exact thn (h Y H Hs E hs hst hE hx (fun _ _=>False) pos z0 s I) fun us s1 ⟨vs,H1,I1,r,q⟩=>q.elim
  .refine thn (hA Y H Hs (fun vs H1=>∃ Hs1,Ext Hs H Hs1 H1/\aJ X.K Hs1 ds vs) hs hst (fun vs H1 Hs1 E1 r1=>⟨Hs1,E1,r1⟩) pos z0 s I) fun us s1 ⟨vs,H1,I1,r,Hs1,E1,r1⟩=>⟨I1.kIn,?_⟩
   exact xV F G.room hb hx I1 r ⟨by rw[<- r1.length,har ds c hc],Hs1,ds,E1.sub,r1,.inr ⟨c,hc,hE.step E1⟩⟩
theorem FP(cx:Cxt):∀ (n:Nat) {k:Nat} {X:Cx} {sc:Scope} {U:Rho} {e:Expr} {c:Str},Good cx k X sc->X.N=U.map (·.1)->evx cx n sc U e=some c->EvX X U e c
 | 0,k,X,sc,U,e,c,_,_,h=>by exact nomatch (show(Option.none:Option Str)=some c from h)
 | n+1,k,X,sc,U,e,c,G,hN,h=>by
  have ih:∀ e d,ev cx n sc U e=some d->Ev X U e d/\∀ b,d=.bl b->EvT X U e b:=fun e d h=>dD cx n G hN h;simp only[evx] at h;split at h
  .rename_i x p args pos
   split at h
   .rename_i hc
    simp only[U2z] at hc;obtain⟨⟨⟨hgl,hne⟩,hpl⟩,hfn⟩:=hc
    have hg:Gl X x:=by
     have e:sc.names.lookup x=some .globalImplicit:=by unfold qZ at hgl;simpa using hgl
     show X.env.scope.names.lookup x=_;rw[G.sce,e]
    have hp:∀ e∈args,aG e=true:=fun e he=>A3z.mp hpl e he;refine Dw G hg hfn (fun q=>by rw[q] at hne;exact absurd hne (by decide)) hp ?_;split at h
    .rename_i ds hds
     exact .inr ⟨ds,(dJ (fun e _ d hd=>⟨(ih e d hd).1,aV hd⟩) hds).1,h⟩
    .exact .inl (Gg (fun e d h=>(ih e d h).1) (fun e c h=>FP cx n G hN h) hp h)
   .cases h
  .cases h
end
section
variable {X:Cx} {pos:Pos}
end
section
variable {X:Cx} {U:Rho} {cx:Cxt} {k F:Nat} {sc scope:Scope} {Hs0 H0:Hp} {e:Expr} {d:D}
theorem Li{es:List Expr}{l:List D}{U':Rho}{kt:Nat}{pt pos:Pos}(G:GoodS cx k X sc)(hN:X.N=U.map (·.1))(hs:(swp sc es e).isSome=true)(he:ev cx F sc (frz F e U) e=some d)(hl:tupI d=some l)(hb:bindNames sc es l (frz F e U)=some U') :
  Runs X Hs0 H0 U (.nxt U') (nC X (.Assign [.Tuple es kt pt] e pos)):=by
 have hN':X.N=(frz F e U).map (·.1):=by rw[bH];exact hN
 obtain⟨b,hb'⟩:=Option.isSome_iff_exists.mp hs
 cases b with
 | false =>
  have hw:=Lg (kt:=kt) (pt:=pt) G.good hb'
  have hso:swapsWithSole [.Tuple es kt pt] e pos.line X.env=pure false:=by
   show swapsWith e (some (.Tuple es kt pt)) pos.line X.env=pure false
   by_cases hc:∃ a b c p,e=.ListComp a b c p
   .obtain⟨a,b,c,p,rfl⟩:=hc
    rfl
   .exact j7 he fun a b c p q=>hc ⟨a,b,c,p,q⟩
  intro Y H Hs D h _ hn hr;exact PS.sem (LK au mC hso hw rfl) (Ds G hN he h fun v Hs' H' sm h' r=>vZ G h'.ext.sub hN' nW hl hb h' r fun Y' hN2 p=>hn U' Y' Hs' H' rfl sm hN2 p)
 | true =>
  obtain⟨x,px,y,py,a,b,k2,p2,rfl,rfl,lx,ly,hxy,pa,pb,hw⟩:=w6 (kt:=kt) (pt:=pt) G.good hb'
  cases F with
  | zero=>simp[ev] at he
  | succ F =>
   simp only[ev] at he;obtain⟨ds,h1,he⟩:=aZ he;split at he
   .cases he
    simp only[tupI,I2z] at hl;subst hl;have hA:=(dJ (fun e _ d hd=>⟨(dD cx F G.good hN' hd).1,aV hd⟩) h1).1
    have hlen:ds.length=2:=by have:=(gj (env:=X.env) hb).2.2;simpa using this.symm
    obtain⟨d1,d2,rfl⟩:∃ d1 d2,ds=[d1,d2]:=by
     match ds,hlen with
     | [d1,d2],_=>exact⟨d1,d2,rfl⟩
    simp only[bindNames] at hb;split at hb
    .rename_i c1
     split at hb
     .rename_i c2
      cases hb;rw[U2z] at c1 c2;rw[aP] at c2;obtain⟨i,hi⟩:=cR c1.2;obtain⟨j,hj⟩:=cR c2.2
      have hij:i≠j:=fun z=>by rw[z,hj] at hi;cases hi;exact hxy rfl
      intro Y H Hs D h _ hn hr;obtain⟨Hs1,sm1,h1'⟩:=h.frozen (F+1) (.Tuple [a,b] k2 p2);refine PS.sem (Ew G.good.calm G.good.nd (by rw[hN'];exact hi) (by rw[hN'];exact hj) hij lx ly cL hw rfl) (hA Y H Hs1 _ h1'.ext.sub h1'.sh fun vs H' Hs' E r=>?_);obtain⟨v,w,rfl,r1,r2⟩:=repL2 r
      have nd:((frz (F+1) (.Tuple [a,b] k2 p2) U).map (·.1)).Nodup:=by rw[<- hN'];exact G.good.nd
      have g1:=(h1'.step E).set nd hi r1;have g2:=g1.set (by rw[aP];exact nd) (by rw[aP];exact hj) r2;exact⟨v,w,rfl,hn _ _ Hs' H' rfl (sm1.trans E.vis) (by rw[aP,aP];exact hN') g2⟩
     .cases hb
    .cases hb
   .cases he
theorem xH{x:Str}{ds:List D}{px ap cp pos:Pos}(G:GoodS cx k X sc)(hN:X.N=U.map (·.1))(hx:(frz F e U).lookup x=some (.ow ds))(ho:ownIn sc x=true)(hp:aH x=true)(hline:(ap.endLine==cp.line)=true)(hz:szl (ds.length+1)=true)(he:ev cx F sc (frz F e U) e=some d) :
  Runs X Hs0 H0 U (.nxt (fG (frz F e U) x (.ow (ds++[d])))) (nC X (.Expr (.Call (.Attribute (.Name x px) "append" ap) [e] [] cp) pos)):=by
 have hN':X.N=(frz F e U).map (·.1):=by rw[bH];exact hN
 obtain⟨i,hi,_⟩:=eO hx
 have nd:((frz F e U).map (·.1)).Nodup:=by rw[<- hN'];exact G.good.nd
 have hpl:=aV he;intro Y H Hs D h _ hn hr;obtain⟨Hs1,sm1,h1⟩:=h.frozen F e;obtain⟨a,vs,k1,k2,k3,k4,k5⟩:=h1.ow i x ds hi;unfold aH at hp;rw[U2z,E5z,E5z] at hp;have vis:Vis X.env.scope x:=(G.own.own x ho).1.elim .inl fun q=>.inr (.inl q);refine PS.sem (cP (vH F0z PySem.F.slot_list_append PySem.F.type_list_append lg (mD (i:=i) (by rw[hN',List.getElem?_map,hi];rfl) vis (by simpa using hp.1) (by simpa using hp.2)) (aA au aO (aq hpl)) rfl (by rw[aq hpl];rfl) hline (aq hpl) rfl) rfl) ?_;refine⟨_,k1,.inl ⟨rfl,vs,.of k2⟩,?_⟩;refine(dD cx F G.good hN' he).1 Y H Hs1 _ h1.ext.sub h1.sh fun v H' Hs' E r=>?_;have h2:=h1.step E;refine⟨a,vs,v,rfl,rfl,E.all _ _ k2,by have:=k3.length;have:=Ej hz;omega,?_⟩;exact hn _ _ Hs' _ rfl (sm1.trans E.vis) (by rw[aP];exact hN') (h2.app nd hi k1 (aJ.append (aJ.same E.vis ds vs k3) (.cons r .nil)))
theorem vP(l:Addr)(xs:Array Value)(n:Nat)(b:Addr)(ys:Array Value)(m:Nat)(dd:Option Addr)(sl:Array (Option Value))(c0:¬(!xs.isEmpty&&Builtin.List.listTooLong (xs.size+ys.size))=true)(c1:xs.size<=sizeLine)(c2:xs.size+ys.size<=sizeLine+1) :
  Meets (Builtin.«list.extend» ⟨[.ref l,.ref b],[]⟩) (fun _ R s=>s.heap.get? l=some { cls:=.type "list",data:=.seq xs n }/\s.heap.get? b=some { cls:=.type "tuple",dict:=dd,data:=.seq ys m,slots:=sl } /\
   R (.ok (.ret Value.none)) { s with heap:=s.heap.update l (Obj.mapSeq fun x=>x++ys),toks:=s.toks }) :=
 .of_wp fun prog w A R s h=>by
  obtain⟨hp,g,d,tk,os⟩:=s;obtain⟨hl,hb,h⟩:=h;have f1:=sub_list_list;have f2:=AutoSeq1.sub_tuple_list;have f3:=AutoSeq1.sub_list_tuple;have f4:=isSubtype_tuple_tuple
  have z:(xs++ys).size<=sizeLine+1:=by rw[Array.size_append];exact c2
  wp_walk using(wpAny_updateSeq hl rfl (hz:=c1) (_hz':=z)),AutoSeq1.wpAny_loadPart' hl,AutoSeq1.wpAny_loadPart' hb;exact⟨_,rfl,h⟩
def QH(K:Z3):V->List V->Hp->VK->Prop:=fun x vs H Q=>∃ l b xs zs,x=.ref l/\vs=[.ref b]/\H l=some (.lst xs)/\SqT K H b zs/\xs.length+zs.length<=sizeLine/\Q .non (upd H l (.lst (xs++zs)))
theorem IW:MtM X "list.extend" (QH X.K):=by
 intro z0 s Y H x vs v us Q I rx rv h;obtain⟨l,b,xs,zs,rfl,rfl,hH,hB,hz,q⟩:=h;cases (show v=Value.ref l from rx);obtain⟨u,rfl,ru⟩:=rv.one;cases (show u=Value.ref b from ru);obtain⟨z,its,n,r,hl,e⟩:=I.lstM hH;obtain⟨its2,r2,pl,hz2⟩:=I.tuple hB;have hl2:=r2.length;obtain⟨⟨c2,dd2,data2,sl2⟩,e2,hc2,n2,hs2⟩:=pl;simp only at hc2 hs2
 have hsz:its.toArray.size+its2.toArray.size<=sizeLine:=by rw[B2z,B2z];omega
 have lng:¬ (!its.toArray.isEmpty&&Builtin.List.listTooLong (its.toArray.size+its2.toArray.size))=true:=fun w=>by
  rw[CG hsz,X3z] at w;cases w
 subst hc2 hs2;refine D5z F.slot_list_extend ⟨_,e,rfl⟩ F.entry_list_extend (F.args_list_extend_2 _ _) (vP l its.toArray n b its2.toArray n2 dd2 sl2 lng (by rw[B2z];omega) (by omega)) ⟨e,e2,?_⟩;exact⟨.non,_,I.lset (its':=its++its2) hH e (by simp) (r.append r2) (by rw[O1z];omega),rfl,q⟩
theorem vA{x:Str}{ds zs:List D}{px ap cp pos:Pos}(G:GoodS cx k X sc)(hN:X.N=U.map (·.1))(hx:(frz F e U).lookup x=some (.ow ds))(ho:ownIn sc x=true)(hp:aH x=true)(hline:(ap.endLine==cp.line)=true)(hz:szl (ds.length+zs.length)=true)(he:ev cx F sc (frz F e U) e=some (.tup zs)) :
  Runs X Hs0 H0 U (.nxt (fG (frz F e U) x (.ow (ds++zs)))) (nC X (.Expr (.Call (.Attribute (.Name x px) "extend" ap) [e] [] cp) pos)):=by
 have hN':X.N=(frz F e U).map (·.1):=by rw[bH];exact hN
 obtain⟨i,hi,_⟩:=eO hx
 have nd:((frz F e U).map (·.1)).Nodup:=by rw[<- hN'];exact G.good.nd
 have hpl:=aV he;intro Y H Hs D h _ hn hr;obtain⟨Hs1,sm1,h1⟩:=h.frozen F e;obtain⟨a,vs,k1,k2,k3,k4,k5⟩:=h1.ow i x ds hi;unfold aH at hp;rw[U2z,E5z,E5z] at hp;have vis:Vis X.env.scope x:=(G.own.own x ho).1.elim .inl fun q=>.inr (.inl q);refine PS.sem (cP (vH F0z PySem.F.slot_list_extend PySem.F.type_list_extend IW (mD (i:=i) (by rw[hN',List.getElem?_map,hi];rfl) vis (by simpa using hp.1) (by simpa using hp.2)) (aA au aO (aq hpl)) rfl (by rw[aq hpl];rfl) hline (aq hpl) rfl) rfl) ?_;refine⟨_,k1,.inl ⟨rfl,vs,.of k2⟩,?_⟩;refine(dD cx F G.good hN' he).1 Y H Hs1 _ h1.ext.sub h1.sh fun v H' Hs' E r=>?_;have h2:=h1.step E;obtain⟨b,us,rfl,g1,g2⟩:=cu r;refine⟨a,b,vs,us,rfl,rfl,E.all _ _ k2,E.sub.tup g1,by have:=k3.length;have:=g2.length;have:=j6 hz;omega,?_⟩;exact hn _ _ Hs' _ rfl (sm1.trans E.vis) (by rw[aP];exact hN') (h2.app nd hi k1 (aJ.append (aJ.same E.vis ds vs k3) g2))
theorem Gz{pos:Pos}(G:GoodS cx k X sc)(hN:X.N=U.map (·.1))(he:ev cx F sc (frz F e U) e=some d)(hc:∀ a b c p,e≠.ListComp a b c p):Runs X Hs0 H0 U (.nxt (frz F e U)) (nC X (.Expr e pos)):=by
 intro Y H Hs D h _ hn hr;exact PS.sem (cP au (j7 he hc)) (Ds G hN he h fun v Hs' H' sm h' r=>hn _ _ Hs' H' rfl sm (by rw[bH];exact hN) h')
theorem Jo{f:Rho->Stmt->Option Fl}(hf:∀ U s fl,X.N=U.map (·.1)->f U s=some fl->Runs X Hs0 H0 U fl (nC X s)):∀ (l:List Stmt) (U:Rho) (fl:Fl),X.N=U.map (·.1)->jO f l U=some fl->Runs X Hs0 H0 U fl (dU X l)
 | [],U,fl,hN,h=>by
  simp only[jO,I2z] at h;subst h;intro Y H Hs D h _ hn hr;exact PSs.sem gR (hn _ _ Hs H rfl (.refl _) hN h)
 | s::r,U,fl,hN,h=>by
  simp only[jO] at h;obtain⟨fl1,h1,h2⟩:=aZ h;intro Y H Hs D hd _ hn hr;refine PSs.sem (aM jt bL) (hf U s fl1 hN h1 Y H Hs _ hd hN (fun U' Y' Hs' H' q sm hN' hd'=>?_) fun d v Hs' H' q E rr lm'=>?_)
  .subst q
   exact Jo hf r U' fl hN' h2 Y' H' Hs' D hd' hN' (fun U2 Y2 Hs2 H2 q2 sm2=>hn U2 Y2 Hs2 H2 q2 (sm.trans sm2)) hr
  .subst q
   cases h2;exact hr d v Hs' H' rfl E rr lm'
theorem Lk{tg iter:Expr}{body:List Stmt}{l:List D}{fl:Fl}{pos:Pos}{f:D->Rho->Option Fl}(G:GoodS cx k X sc)(hN:X.N=U.map (·.1))(hI:evI cx (dX tg) (ev cx F sc (frz F iter U)) sc iter=some l)
  (hf:∀ d U1 fl,f d U1=some fl->X.N=U1.map (·.1)->∃ U2,gJ sc tg d U1=some U2/\(X.N=U2.map (·.1)->Runs X Hs0 H0 U2 fl (dU X body))) (h:eZ f l (frz F iter U)=some fl):Runs X Hs0 H0 U fl (nC X (.For tg iter body [] pos)):=by
 have hN':X.N=(frz F iter U).map (·.1):=by rw[bH];exact hN
 obtain⟨hI',hp⟩:=zP (tg:=tg) (U:=frz F iter U) G.good (fun e d h=>⟨(dD cx F G.good hN' h).1,aV h⟩) hI;intro Y H Hs D hd _ hn hr;obtain⟨Hs1,sm1,h1⟩:=hd.frozen F iter;refine PS.sem (Ey G.pass G.good.calm uo mC bL (iG hp)) (hI' Y H Hs1 _ h1.ext.sub h1.sh fun J H2 Hs2 E2 hJ=>?_)
 let W:Nat->Nat->St->Hp->Prop:=fun i m Y H=>m=l.length-i/\i<=l.length/\∃ Ui Hsi,Same Hs2 Hsi/\Hd X.K X.lm Hs0 H0 Hsi H Ui Y/\X.N=Ui.map (·.1)/\eZ f (l.drop i) Ui=some fl
 refine⟨W,⟨l.length,rfl,V4z _,_,Hs2,.refl _,h1.step E2,hN',by simpa using h⟩,?_⟩;rintro i m Yi Hi ⟨rfl,hi,Ui,Hsi,sm,hdi,hNi,gi⟩;obtain⟨stp,go⟩:=hJ Hsi Hi sm hdi.ext.sub
 by_cases hlt:i<l.length
 .obtain⟨g1,g2⟩:=go i l[i] (List.getElem?_eq_getElem hlt)
  refine .inr ⟨g1,fun Y' H'=>W (i+1) (l.length-(i+1)) Y' H',fun Y' H' w=>⟨_,by omega,w⟩,fun x H' y=>?_⟩;obtain⟨Hs3,E3,rx⟩:=g2 x H' y;rw[List.drop_eq_getElem_cons hlt] at gi;simp only[eZ] at gi;obtain⟨fl1,b1,b2⟩:=aZ gi;obtain⟨U2,c1,c2⟩:=hf _ _ _ b1 hNi;have hd3:=hdi.step E3;refine tL G.good.calm G.own G.good.nd hd3.ext.sub hNi (nW (Hs0:=Hs0) (H0:=H0) (H:=H')) c1 hd3 rx fun Y' hN2 p=>?_;refine c2 hN2 Y' H' Hs3 _ p hN2 (fun U' Y'' Hs' H'' q sm4 hN3 hd4=>?_) fun d v Hs' H'' q E rr lm'=>?_
  .subst q
   exact⟨rfl,hlt,U',Hs',sm.trans (E3.vis.trans sm4),hd4,hN3,b2⟩
  .subst q
   cases b2;exact hr d v Hs' H'' rfl E rr lm'
 .have hi':i=l.length:=by omega
  subst hi';refine .inl ⟨stp,?_⟩;rw[List.drop_length] at gi;simp only[eZ,I2z] at gi;exact hn Ui Yi Hsi Hi gi.symm (sm1.trans (E2.vis.trans sm)) hNi hdi
end
section
variable {X:Cx} {U:Rho} {cx:Cxt} {k F:Nat} {sc scope:Scope} {Hs0 H0:Hp} {e:Expr} {d:D}
theorem Ql{s:Stmt}{D:Ends}{Y:St}{H:Hp}(h:nC X.nox s D Y H):nC X s D Y H:=fun z0 s0 I=>Z4z (h z0 s0 (I.wish _)) (fun _ _ q=>q.unwish) fun _ _ z=>False.elim z
abbrev Cx.pinned(X:Cx)(pn:List (Addr×Obj))(xe:Value->Shared->Prop):Cx:={ X with pn:=pn,xe:=xe }
theorem Inv.repin{pn pn' z0 pins':List (Addr×Obj)}{xe xe':Value->Shared->Prop}{Y:St}{H:Hp}{s:Shared}(I:Inv (X.pinned pn xe) z0 Y H s)(h:∀ p∈pn'++pins',p∈pn++z0):Inv (X.pinned pn' xe') pins' Y H s :=
 ⟨⟨I.ok.mod,I.ok.kind,I.ok.glob,I.ok.blt,I.ok.above,I.ok.inj,I.ok.has,I.ok.cab,I.ok.hd,I.ok.frames,I.ok.stk,I.ok.exf,I.ok.bs,I.ok.bsz,I.ok.noex,I.ok.exfs,I.ok.funs,I.ok.frf⟩,I.os,I.bare,I.base,I.loc,I.cell,I.free,I.freeC,fun p hp=>I.pin p (h p hp),I.hok,I.len⟩
def Eb(rs:Bool)(X:Cx)(Hs0 H0:Hp)(U:Rho)(c:Str)(U':Rho)(t:TS):Prop:=∀ Y H Hs D,Hd X.K X.lm Hs0 H0 Hs H U Y->X.N=U.map (·.1) ->
 (∀ Y' Hs' H',Same Hs Hs'->X.N=U'.map (·.1)->Hd X.K X.lm Hs0 H0 Hs' H' U' Y'->∃ E,EX X c Hs' H' E/\XOk X Y' E/\(rs=true->Bd X Y' E))->t D Y H
theorem zF{rs:Bool}{f:Rho->Stmt->Option Fl}{g:Rho->Stmt->Option (Str×Rho)}{c:Str}{U':Rho}(hf:∀ U s fl,X.N=U.map (·.1)->f U s=some fl->Runs X.nox Hs0 H0 U fl (nC X.nox s))(hg:∀ U s c U',X.N=U.map (·.1)->g U s=some (c,U')->Eb rs X Hs0 H0 U c U' (nC X s)) :
  ∀ (l:List Stmt) (U:Rho),X.N=U.map (·.1)->j8 f g l U=some (c,U')->Eb rs X Hs0 H0 U c U' (dU X l)
 | [],U,hN,h=>by simp[j8] at h
 | s::r,U,hN,h=>by
  simp only[j8] at h;intro Y H Hs D hd _ hx;refine PSs.sem (aM jt bL) ?_;split at h
  .rename_i U1 h1
   refine Ql (hf U s _ hN h1 Y H Hs _ hd hN (fun U2 Y2 Hs2 H2 q sm hN2 hd2=>?_) fun d v Hs2 H2 q _ _=>nomatch q);cases q;exact zF hf hg r U1 hN2 h Y2 H2 Hs2 D hd2 hN2 fun Y3 Hs3 H3 sm3=>hx Y3 Hs3 H3 (sm.trans sm3)
  .cases h
  .exact hg U s c U' hN h Y H Hs _ hd hN hx
theorem FN{c:Str}(G:Good cx k X sc)(hN:X.N=U.map (·.1))(he:evx cx F sc (frz F e U) e=some c){Y:St}{H Hs:Hp}{rs:Bool}{Q:VK}(h:Hd X.K X.lm Hs0 H0 Hs H U Y)
  (hx:∀ Y' Hs' H',Same Hs Hs'->X.N=(frz F e U).map (·.1)->Hd X.K X.lm Hs0 H0 Hs' H' (frz F e U) Y'->∃ E,EX X c Hs' H' E/\XOk X Y' E/\(rs=true->Bd X Y' E)):iB X e Y H Q:=by
 obtain⟨Hs1,sm1,h1⟩:=h.frozen F e
 have hN':X.N=(frz F e U).map (·.1):=by rw[bH];exact hN
 obtain⟨E,e1,e2,_⟩:=hx Y Hs1 H sm1 hN' h1;exact FP cx F G hN' he Y H Hs1 E h1.ext.sub h1.sh e1 e2 Q
theorem Lh{t:Option Expr}{l:Nat}{env:Env}{c:Str}(he:evx cx F sc U e=some c)(hc:bU e=false):swapsWith e t l env=pure false:=by
 cases F with
 | zero=>exact nomatch (show(Option.none:Option Str)=some c from he)
 | succ F =>
  cases e<;>first | rfl | (exact nomatch (show(Option.none:Option Str)=some c from he)) | (exact absurd hc (by simp[bU]))
end
mutual
theorem xG(cx:Cxt)(F:Nat):∀ (n:Nat) {k:Nat} {X:Cx} {sc:Scope} {U:Rho} {s:Stmt} {fl:Fl} {Hs0 H0:Hp},GoodS cx k X sc->X.N=U.map (·.1)->DE.st cx F n sc U s=some fl->Runs X Hs0 H0 U fl (nC X s)
 | 0,k,X,sc,U,s,fl,Hs0,H0,_,_,h=>by simp[DE.st] at h
 | n+1,k,X,sc,U,s,fl,Hs0,H0,G,hN,h=>by
  have block:∀ (l:List Stmt) (U:Rho) (fl:Fl),X.N=U.map (·.1)->jO (fun U s=>DE.st cx F n sc U s) l U=some fl->Runs X Hs0 H0 U fl (dU X l):=Jo fun U s fl hN h=>xG cx F n G hN h
  cases s with
  | Pass pos =>
   simp only[DE.st,I2z] at h;subst h;intro Y H Hs D hd _ hn hr;exact PS.sem Hz (hn _ _ Hs H rfl (.refl _) hN hd)
  | Return v pos =>
   simp only[DE.st] at h
   cases v with
   | none =>
    simp only[I2z] at h;subst h;intro Y H Hs D hd _ hn hr;exact PS.sem Hy (hr .non .non Hs H rfl hd.ext (by simp[Rep]) hd.lmt)
   | some e =>
    simp only[M0z] at h;obtain⟨d,he,rfl⟩:=h;intro Y H Hs D hd _ hn hr;exact PS.sem (cU au) (Ds G hN he hd fun v Hs' H' sm h' r=>hr d v Hs' H' rfl h'.ext r h'.lmt)
  | Assign tgs e pos =>
   simp only[DE.st] at h;split at h
   .split at h
    .rename_i hc
     rw[U2z] at hc;split at h
     .cases h
     .rename_i hoo
      split at h
      .cases h
      .split at h
       .cases h
       .rename_i hno
        split at h
        .cases h
        .simp only[M0z] at h
         obtain⟨d,he,rfl⟩:=h;refine Gy G hN hc.1 hc.2 (by cases q:ooE cx sc e with | false=>rfl | true=>exact absurd (show(ooE cx sc e&&true)=true by rw[q];rfl) hoo) (fun hf=>?_) he;rw[hf,Bool.true_and] at hno;simpa using hno
    .cases h
   .split at h
    .rename_i hs
     obtain⟨d,he,h⟩:=aZ h;obtain⟨l,hl,h⟩:=aZ h;simp only[M0z] at h;obtain⟨U',hb,rfl⟩:=h;rcases N3z _ _ |>.mp hs with hs | hs
     .exact Li G hN hs he hl hb
     .cases hs
    .cases h
   .cases h
  | Expr v pos =>
   simp only[DE.st] at h;split at h
   .rename_i x px m ap e cp
    split at h
    .rename_i ds hx
     split at h
     .rename_i hc
      rw[U2z,U2z] at hc;obtain⟨⟨c1,c2⟩,c4⟩:=hc;split at h
      .rename_i hc2
       rw[U2z] at hc2;simp only[M0z] at h;obtain⟨d,he,rfl⟩:=h
       have em:m="append":=by simpa using hc2.1
       subst em;exact xH G hN hx c1 c2 c4 hc2.2 he
      .split at h
       .rename_i hc3
        obtain⟨d,he,h⟩:=aZ h
        have em:m="extend":=by simpa using hc3
        subst em;split at h
        .split at h
         .rename_i hz
          cases h;exact vA G hN hx c1 c2 c4 hz he
         .cases h
        .cases h
       .cases h
     .cases h
    .cases h
   .cases h
   .cases h
   .rename_i h1 h3 h4
    simp only[M0z] at h;obtain⟨d,he,rfl⟩:=h;exact Gz G hN he fun a b c p q=>h3 a b c p q
  | If c a b pos =>
   simp only[DE.st] at h;obtain⟨t,h1,h⟩:=aZ h;have he:=fj h1;intro Y H Hs D hd _ hn hr;refine PS.sem (nM cY bL bL) (JC G hN he hd fun Hs' H' sm h'=>?_)
   cases t with
   | true =>
    simp only[K5z] at h;exact ql (block a _ fl hN h Y H' Hs' D h' hN (fun U2 Y2 Hs2 H2 q2 sm2=>hn U2 Y2 Hs2 H2 q2 (sm.trans sm2)) hr)
   | false =>
    simp only[Q1z,I5z] at h;exact mK (block b _ fl hN h Y H' Hs' D h' hN (fun U2 Y2 Hs2 H2 q2 sm2=>hn U2 Y2 Hs2 H2 q2 (sm.trans sm2)) hr)
  | For tg iter body orelse pos =>
   simp only[DE.st] at h;split at h
   .obtain⟨l,hI,h⟩:=aZ h
    refine Lk G hN hI (fun d U1 fl hf hN1=>?_) h;obtain⟨U2,g1,g2⟩:=aZ hf;exact⟨U2,g1,fun hN2=>block body U2 fl hN2 g2⟩
   .cases h
  | While c body orelse pos =>
   simp only[DE.st] at h;split at h
   .simp at h
   .cases h
  | _=>exact nomatch (show(Option.none:Option Fl)=some fl from h)
theorem Em(cx:Cxt)(F:Nat):∀ (n:Nat) {k:Nat} {X:Cx} {sc:Scope} {U:Rho} {s:Stmt} {c:Str} {U':Rho} {Hs0 H0:Hp},GoodS cx k X.nox sc->X.N=U.map (·.1)->DE.stx cx F n sc U s=some (c,U')->Eb cx.rs X Hs0 H0 U c U' (nC X s)
 | 0,k,X,sc,U,s,c,U',Hs0,H0,_,_,h=>by simp[DE.stx] at h
 | n+1,k,X,sc,U,s,c,U',Hs0,H0,G,hN,h=>by
  have GX:Good cx k X sc:=⟨G.good.calm,G.good.room,G.good.sce,G.good.kind,G.good.nd,G.good.cst,G.good.blt,G.good.exs,G.good.fns,G.good.kw⟩
  have block:∀ (l:List Stmt) (U:Rho) (c:Str) (U':Rho),X.N=U.map (·.1)->j8 (fun U s=>DE.st cx F n sc U s) (fun U s=>DE.stx cx F n sc U s) l U=some (c,U')->Eb cx.rs X Hs0 H0 U c U' (dU X l):=fun l U c U' hN h =>
   zF (fun U s fl hN h=>xG cx F n G hN h) (fun U s c U' hN h=>Em cx F n G hN h) l U hN h
  simp only[DE.stx] at h;split at h
  .rename_i cc np txt j p1 cpos pos
   split at h
   .rename_i hc
    cases h;simp only[U2z] at hc;obtain⟨⟨⟨h1,h2⟩,h3⟩,h4⟩:=hc;obtain⟨C,M,e1,_,e2,_⟩:=GX.exs.cls c h3
    have hg:Gl X c:=by
     have e:sc.names.lookup c=some .globalImplicit:=by unfold qZ at h2;simpa using h2
     show X.env.scope.names.lookup c=_;rw[GX.sce,e]
    unfold aH at h4;rw[U2z,E5z] at h4;intro Y H Hs D hd _ hx z0 s I;obtain⟨E,x1,x2,x3⟩:=hx Y Hs H (.refl _) hN hd;exact ug I GX.room.hd hg (GX.exs.glob _ _ e1) (by simpa using h4.1) e2 fun s2 h' e args I2 hm=>x3 h1 z0 H s2 C e h' args I2 hm (x1 C H Hs e1 (.refl hd.ext.sub))
   .cases h
  .rename_i e pos
   split at h
   .cases h
   .rename_i hfr
    obtain⟨c1,h1,h2⟩:=M0z.mp h;cases h2;intro Y H Hs D hd _ hx;exact PS.sem (cP au (Lh h1 (by simpa using hfr))) (FN GX hN h1 hd hx)
  .rename_i e pos
   obtain⟨c1,h1,h2⟩:=M0z.mp h;cases h2;intro Y H Hs D hd _ hx;exact PS.sem (cU au) (FN GX hN h1 hd hx)
  .rename_i cc a b pos
   split at h
   .rename_i kk hk
    have he:=fj hk
    have hN':X.N=(frz F cc U).map (·.1):=by rw[bH];exact hN
    intro Y H Hs D hd _ hx;obtain⟨Hs1,sm1,h1⟩:=hd.frozen F cc;refine PS.sem (nM cY bL bL) ((dD cx F GX hN' he).2 kk rfl Y H Hs1 _ h1.ext.sub h1.sh fun H' Hs' E=>?_);have h2:=h1.step E
    cases kk with
    | true=>exact ql (block a _ c U' hN' h Y H' Hs' D h2 hN' fun Y3 Hs3 H3 sm3=>hx Y3 Hs3 H3 ((sm1.trans E.vis).trans sm3))
    | false=>exact mK (block b _ c U' hN' h Y H' Hs' D h2 hN' fun Y3 Hs3 H3 sm3=>hx Y3 Hs3 H3 ((sm1.trans E.vis).trans sm3))
   .cases h
  .cases h
end
structure FunAt (K:Z3) (mg:Str->Option Value) (f:Str) (fd:Fd):Prop where
 ex:∃ (nm:Str) (t:Stmt) (a:Addr) (g:FuncData),mg f=some (.ref a)/\Fun K nm nm t a g/\Binds K g fd.ps []/\fd.body=aL t/\fd.sc=ao t
 fs:FnScope fd.N fd.ps fd.sc
 nd:(f==("__debug__":Str))=false
structure Text (w:World) (K:Z3) (mg:Str->Option Value) (P:Pg):Prop where
 cst:∀ x d,P.cst.lookup x=some d->∃ v u,(∀ H,Rep K H d v)/\mg x=some u/\RelV v u
 blt:∀ x b,P.blt.lookup x=some b->mg x=none/\x=Str.ofString b
 fns:∀ f fd,P.defs.lookup f=some fd->FunAt K mg f fd
 exs:XText K mg P.exs P.top
 kw:KnW K w
def Zn(ps:List (Str×Str)):D:=.dic (ps.map fun p=>.inr p.1) (ps.map fun p=>.str p.2)
def dEs(o:Obj):Array DictEntry:=match o.data with | .dict es _=>es | _ => #[]
def dN(o:Obj):Nat:=match o.data with | .dict _ n=>n | _=>0
def isS(x:Str):Value->Bool
 | .str y _=>x==y
 | _=>false
theorem Ft{x:Str}{v:Value}(h:isS x v=true):∃ t,v=.str x t:=by
 unfold isS at h;split at h
 .rename_i y t
  have e:x=y:=by simpa using h
  subst e;exact⟨t,rfl⟩
 .cases h
def chk:List (Str×Str)->List DictEntry->Bool
 | [],[]=>true
 | p::r,e::es=>isS p.1 e.key&&isS p.2 e.val&&chk r es
 | _,_=>false
theorem Gd{K:Z3}{H:Hp}:∀ {ps:List (Str×Str)} {es:List DictEntry},chk ps es=true->∃ kvs:List (Key×V),kvs.map (·.1)=ps.map (fun p=>Sum.inr p.1)/\aJ K H (ps.map fun p=>D.str p.2) (kvs.map (·.2))/\Paired (fun(p:Key×V) (e:DictEntry)=>(∃ x t,p.1=.inr x/\e.key=.str x t)/\RelV p.2 e.val) kvs es
 | [],[],_=>⟨[],rfl,.nil,.nil⟩
 | p::r,e::es,h=>by
  simp only[chk,U2z] at h;obtain⟨⟨h1,h2⟩,h3⟩:=h;obtain⟨kvs,g1,g2,g3⟩:=Gd (K:=K) (H:=H) h3;obtain⟨t,e1⟩:=Ft h1;obtain⟨t',e2⟩:=Ft h2;exact⟨(.inr p.1,.str p.2)::kvs,by simp[g1],.cons (by simp[Rep]) g2,.cons ⟨⟨p.1,t,rfl,e1⟩,⟨t',e2⟩⟩ g3⟩
 | [],_::_,h=>by simp[chk] at h
 | _::_,[],h=>by simp[chk] at h
theorem Ot{K:Z3}{H H':Hp}{ps:List (Str×Str)}{kvs:List (Key×V)}(h:aJ K H (ps.map fun p=>D.str p.2) (kvs.map (·.2))):aJ K H' (ps.map fun p=>D.str p.2) (kvs.map (·.2)):=by
 generalize kvs.map (·.2)=vs at h ⊢
 induction ps generalizing vs with
 | nil=>simpa[aJ] using h
 | cons p r ih =>
  simp only[A4z,aJ] at h ⊢;obtain⟨v,q,h1,h2,h3⟩:=h;exact⟨v,q,h1,by simpa[Rep] using h2,ih _ h3⟩
theorem cD{K:Z3}{h:Heap}{mg:Str->Option Value}{x:Str}{ps:List (Str×Str)}(X:K.In h)(G:h.Ns mainGlobals mg)(a:Addr)(o:Obj)(e:PySem.W.nsIn K mainGlobals x=some (some (.ref a)))(l:K.lookup a=some o)(ex:o.ExactDict)(hd:o.data=.dict (dEs o) (dN o))(hc:(chk ps (dEs o).toList&&kZ (ps.map (·.1)))=true)(hs:(a==sysModules)=false) :
  ∃ v u,(∀ H,Rep K H (Zn ps) v)/\mg x=some u/\RelV v u:=by
 rw[U2z] at hc;obtain⟨kvs,g1,g2,g3⟩:=Gd (K:=K) (H:=fun _=>none) hc.1
 have nd:(kvs.map (·.1)).Nodup:=by
  rw[g1];have n:=fO hc.2
  have q:(ps.map fun p=>(Sum.inr p.1:Key))=(ps.map (·.1)).map Sum.inr:=by simp
  rw[q];exact List.Pairwise.map _ (fun a b hab z=>hab (S4z z)) n
 refine⟨.ref a,_,fun H=>?_,I4z X G e,rfl⟩;unfold Zn;simp only[Rep];exact⟨a,kvs,rfl,.inr ⟨o,dEs o,dN o,l,ex,hd,hs,nd,g3⟩,g1,Ot g2⟩
theorem gn{α:Type}:∀ {l:List (Str×α)} {x:Str},(l.map (·.1)).contains x=true->∃ a,l.lookup x=some a
 | [],x,h=>by simp at h
 | (y,a)::r,x,h=>by
  rw[O2z]
  cases hb:x==y with
  | true=>exact⟨a,rfl⟩
  | false =>
   refine gn ?_;rw[A4z,List.contains_cons,hb,Bool.false_or] at h;exact h
theorem fL{K:Z3}{H:Hp}{fd:Fd}{ds:List D}{vs:List V}(S:FnScope fd.N fd.ps fd.sc)(hl:ds.length=fd.ps.length)(r:aJ K H ds vs) :
  fd.N=(bw fd ds).map (·.1)/\(start fd.N vs).length=(bw fd ds).length/\∀ (i:Nat) (x:Str) (s:Sl),(bw fd ds)[i]?=some (x,s)->(s=.no\/∃ d v,s=.sh d/\(start fd.N vs)[i]?=some (some v)/\Rep K H d v):=by
 have lv:=r.length
 have lz:(fd.ps.zip (ds.map Sl.sh)).length=fd.ps.length:=by rw[Q3z,E3z];omega
 have hpl:fd.ps.length<=fd.N.length:=by have:=congrArg List.length S.pre;rw[List.length_take] at this;omega
 refine⟨?_,?_,fun i x s e=>?_⟩
 .unfold bw
  rw[O3z,R4z,List.map_fst_zip (by rw[E3z];omega)]
  have:(fd.N.drop fd.ps.length).map ((fun p:Str×Sl=>p.1)∘fun x=>(x,Sl.no))=fd.N.drop fd.ps.length:=by
   rw[show((fun p:Str×Sl=>p.1)∘fun x=>(x,Sl.no))=id from rfl,Y4z]
  rw[this]
  conv=>lhs;rw[<- List.take_append_drop fd.ps.length fd.N,S.pre]
 .unfold start bw
  rw[O1z,O1z,lz];simp;omega
 .unfold bw at e
  by_cases hi:i<fd.ps.length
  .rw[List.getElem?_append_left (by rw[lz];exact hi),List.getElem?_zip_eq_some] at e
   obtain⟨_,e2⟩:=e;rw[List.getElem?_map] at e2;obtain⟨d,e3,rfl⟩:=M0z.mp e2;obtain⟨v,g1,g2⟩:=r.get e3;refine .inr ⟨d,v,rfl,?_,g2⟩;unfold start;rw[List.getElem?_append_left (by rw[E3z];omega),List.getElem?_map,g1];rfl
  .rw[List.getElem?_append_right (by rw[lz];omega),List.getElem?_map] at e
   obtain⟨y,_,e3⟩:=M0z.mp e;cases e3;exact .inl rfl
section
variable {P:Program} {w:World} {K:Z3} {mg:Str->Option Value} {base:Heap} {T:Pg} {F:Nat}
abbrev vR(c:Str->List D->Option Rs):Str->List D->Option D:=fun f ds=>Rs.val? (c f ds)
abbrev xR(c:Str->List D->Option Rs):Str->List D->Option Str:=fun f ds=>Rs.exc? (c f ds)
theorem iw{o:Option Rs}{d:D}(h:Rs.val? o=some d):o=some (.val d):=by
 unfold Rs.val? at h;split at h
 .cases h;rfl
 .cases h
theorem iR{o:Option Rs}{c:Str}(h:Rs.exc? o=some c):o=some (.exc c):=by
 unfold Rs.exc? at h;split at h
 .cases h;rfl
 .cases h
theorem gC{k:Nat}{f:Str}{fd:Fd}(hf:T.defs.lookup f=some fd):∀ ds r,aR T F k f ds=some r->ds.length=fd.ps.length:=by
 intro ds d h
 cases k with
 | zero=>simp[tH] at h
 | succ k =>
  simp only[lQ,hf] at h;split at h
  .rename_i hl;simpa using hl
  .cases h
theorem Fun.okX{x qual:Str}{st:Stmt}{f:Addr}{fd:FuncData}{N ps:List Str}{k:Nat}{sp:Sp}(F:Fun K x qual st f fd)(S:FnScope N ps (ao st))(len:∀ vs H Q E,sp vs H Q E->vs.length=ps.length)
  (hbody : ∀ (cdv : Value) (A : Around) (outer : List Env) (s : Shared) (H : Hp) (vs : List V) (Q : VK) (E : XK), Room k (A.deeper (envOfC qual (ao st) s.heap.objs.size f cdv)) -> sp vs H Q E ->
   ∃ t,PSs (eF (CX1 P w) P w K mg base N qual (ao st) f cdv A outer s H E) (aL st) t/\t { nx:=fun _ H'=>Q .non H',rt:=Q } (start N vs) H):FnOk P w K mg base (CX1 P w) (k+1) f fd ps sp:=by
 obtain⟨oc,od,kV,doc,pm,an,cdv,ct,osl,rfl,lk,hcd⟩:=F.ex;exact Jy lk hcd S len fun A outer s H vs Q E hr hsp=>hbody cdv A outer s H vs Q E hr hsp
theorem Bc(X:Text w K mg T):∀ (k:Nat) (nm f:Str) (fd:Fd) (t:Stmt) (a:Addr) (g:FuncData),T.defs.lookup f=some fd->Fun K nm nm t a g->fd.body=aL t->fd.sc=ao t->FnScope fd.N fd.ps fd.sc->FnOk P w K mg base (CX1 P w) k a g fd.ps (spX K (vR (aR T F k)) (xR (aR T F k)) f fd.ps)
  | 0,nm,f,fd,t,a,g,hf,Fn,hb,hs,S=>by
    refine⟨fun vs H Q E h=>h.1,fun A outer s H args us vs Q E _ _ _ _ h=>?_⟩
    obtain⟨_,Hs,ds,_,_,⟨d,hc,_⟩ | ⟨c,hc,_⟩⟩:=h
    . have:=iw hc;simp[tH] at this
    . have:=iR hc;simp[tH] at this
  | k+1,nm,f,fd,t,a,g,hf,Fn,hb,hs,S=>by
    refine Fun.okX (N:=fd.N) Fn (by rw[<- hs];exact S) (fun vs H Q E h=>h.1) fun cdv A outer s H vs Q E hr h=>?_
    obtain⟨hlv,Hs,ds,hsm,rl,hcase⟩:=h
    have hld:ds.length=fd.ps.length:=by
      rcases hcase with⟨d,hc,_⟩ | ⟨c,hc,_⟩
      . exact gC hf ds _ (iw hc)
      . exact gC hf ds _ (iR hc)
    have unf:aR T F (k+1) f ds=qN (T.cx (aR T F k)) F fd.sc fd.body (bw fd ds):=by
      simp only[lQ,hf]
      rw[L5z (by simpa using hld)]
    obtain⟨s1,s2,s3⟩:=fL S hld rl
    refine⟨dU _ (aL t),bL,?_⟩
    have G:GoodS (T.cx (aR T F k)) k (eF (CX1 P w) P w K mg base fd.N nm (ao t) a cdv A outer s H E).nox fd.sc :=
      { good := { calm := rfl, room := hr, sce := hs.symm, kind := S.kind, nd := S.nd, cst := X.cst, blt := X.blt, exs := X.exs, kw := X.kw
                  fns:=fun f' hf'=>by
                    obtain⟨fd',hl'⟩:=gn (l:=T.defs) hf'
                    have FA:=X.fns f' fd' hl'
                    obtain⟨nm',t',a',g',m1,m2,m3,m4,m5⟩:=FA.ex
                    exact⟨FA.nd,a',g',fd'.ps,fun ds d h=>gC hl' ds _ (iw h),fun ds c h=>gC hl' ds _ (iR h),m1,m2.kp,m3,Bc X k nm' f' fd' t' a' g' hl' m2 m4 m5 FA.fs⟩ }
        own:=⟨fun x hx=>⟨by
          unfold ownIn at hx
          rw[N3z] at hx
          show(ao t).names.lookup x=_\/(ao t).names.lookup x=_
          rw[<- hs]
          exact hx.imp (fun q=>by simpa using q) (fun q=>by simpa using q),.inl rfl⟩⟩
        pass:=PassesOwn.never
        stk:=⟨rfl,rfl⟩ }
    have noow:∀ (i:Nat) (x:Str) (ds':List D),(bw fd ds)[i]?=some (x,.ow ds')->False:=fun i x ds' e=>by
      rcases s3 i x _ e with q | ⟨d',v,q,q1,q2⟩
      . cases q
      . cases q
    have hd:Hd K none Hs H Hs H (bw fd ds) (start fd.N vs):=by
      refine⟨.refl hsm,s2,fun i x d e=>?_,fun i x ds' e=>(noow i x ds' e).elim,fun i j x y ds' es a' _ e=>(noow i x ds' e).elim,(fun i x dss e=>by
        rcases s3 i x _ e with q | ⟨d',v,q,q1,q2⟩
        . cases q
        . cases q),fun p hp=>nomatch hp⟩
      rcases s3 i x _ e with q | ⟨d',v,q,q1,q2⟩
      . cases q
      . cases q
        exact⟨v,q1,q2⟩
    rcases hcase with⟨d,hc,hq⟩ | ⟨c,hc,hq⟩
    . have hc':=iw hc
      rw[unf] at hc'
      unfold qN at hc'
      intro z0 s0 I
      have fin:∀ fl,jO (fun U s=>DE.st (T.cx (aR T F k)) F F fd.sc U s) fd.body (bw fd ds)=some fl->(match fl with | .ret d'=>d'=d | .nxt _=>d=.non)->dU (eF (CX1 P w) P w K mg base fd.N nm (ao t) a cdv A outer s H E).nox (aL t) { nx:=fun _ H'=>Q .non H',rt:=Q } (start fd.N vs) H:=by
        intro fl hg hfl
        rw[hb] at hg
        refine Jo (fun U s fl hN h=>xG _ F F G hN h) (aL t) (bw fd ds) fl s1 hg (start fd.N vs) H Hs _ hd s1 (fun U' Y' Hs' H' q _ _ hd'=>?_) fun d' v Hs' H' q E' r _=>?_
        . subst q
          have e:d=.non:=hfl
          subst e
          exact hq .non H' Hs' hd'.ext (by simp[Rep])
        . subst q
          have e:d'=d:=hfl
          subst e
          exact hq v H' Hs' E' r
      have key:dU (eF (CX1 P w) P w K mg base fd.N nm (ao t) a cdv A outer s H E).nox (aL t) { nx:=fun _ H'=>Q .non H',rt:=Q } (start fd.N vs) H:=by
        split at hc'
        . rename_i d' hg;cases hc';exact fin _ hg rfl
        . rename_i U' hg;cases hc';exact fin _ hg rfl
        . split at hc'<;>cases hc'
      exact Z4z (key z0 s0 (I.wish _)) (fun _ _ q=>q.unwish) fun _ _ z=>False.elim z
    . have hc':=iR hc
      rw[unf] at hc'
      unfold qN at hc'
      split at hc'
      . cases hc'
      . cases hc'
      . split at hc'
        . rename_i c' U' hg
          cases hc'
          rw[hb] at hg
          refine zF (rs:=true) (X:=eF (CX1 P w) P w K mg base fd.N nm (ao t) a cdv A outer s H E) (fun U s fl hN h=>xG _ F F G hN h) (fun U s c U' hN h=>Em _ F F G hN h) (aL t) (bw fd ds) s1 hg (start fd.N vs) H Hs _ hd s1 fun Y1 Hs1 H1 _ _ hd1=>?_
          refine⟨E,fun C H2 Hs2 q E2=>hq C H2 Hs2 q (hd1.ext.trans E2),fun z0 H2 s2 e s3 I2 hcx=>aW z0 Y1 H2 s2 e s3 I2 hcx,fun _ z0 H2 s2 C e h' args I2 hm hE=>mz I2 hm hE⟩
        . cases hc'
end
end L2
namespace L2
open PySem PySem.Spec PyProof.Rows DE
section
variable {P:Program} {w:World} {K:Z3} {mg:Str->Option Value} {base:Heap} {N:List Str} {qual:Str} {scope:Scope} {f:Addr} {cd:Value} {cl:List (Str×Addr)} {A:Around} {outer:List Env} {s:Shared} {H:Hp} {E:XK}
theorem Cu:Passes (CX1 P w) (oG (CX1 P w) P w K mg base N qual scope f cd cl A outer s H E) E:=by
 intro z0 Y H1 s1 e s' I h;obtain⟨ea,cls,H',rfl,Fl,hn,hE⟩:=h;obtain⟨B,a0,fl,hokB,kB,tB⟩:=Fl.fly;have hfr:frs (oG (CX1 P w) P w K mg base N qual scope f cd cl A outer s H E).stack=s.heap.objs.size::frs outer:=nZ rfl;have nL:∀ b o,s.heap.get? b=some o->b≠s.heap.objs.size:=fun b o q=>K4z (J4z q)
 have nin:∀ b o,s.heap.get? b=some o->b∉frs outer->b∉frs (oG (CX1 P w) P w K mg base N qual scope f cd cl A outer s H E).stack:=fun b o q hb z=>by
  rw[hfr] at z;rcases H4z.mp z with z | z
  .exact nL b o q z
  .exact hb z
 have noex:∀ b:Addr,b∉(oG (CX1 P w) P w K mg base N qual scope f cd cl A outer s H E).ex:=fun b z=>absurd (show b∈([]:List Addr) from z) (by simp);show wpAny _ _ (leaving _ (.ref ea)) _ _ _;refine wpAny_leaves_onW I.ok.frames rfl fl fun h2 fl2 up=>?_;refine⟨ea,cls,H',rfl,⟨Fl.os.trans I.os,Fl.bare,?_,⟨B,a0,fl2,hokB,fun b o q n hb=>?_,fun b o q hb=>?_⟩,?_⟩,hn,hE⟩
 .have U1:=Un.fly Fl.un kB tB fl2.1 (yG fl.2.2.1) up
  have U0:Un (frs (oG (CX1 P w) P w K mg base N qual scope f cd cl A outer s H E).stack) [] H H1 s.heap s1.heap:=I.base.mono (fun b hb=>by rw[hfr];exact S0z _ hb) (fun b hb=>hb)
  exact(U0.trans U1).restrict fun b o hb q=>by
   rw[hfr] at hb;rcases H4z.mp hb with z | z
   .exact absurd z (nL b o q)
   .exact z
 .exact kB b o (I.base.keep b o q n hb (noex b)) (I.base.free b o q n (noex b)) (nin b o q hb)
 .obtain⟨o1,q1⟩:=I.base.there b o q (noex b)
  exact tB b o1 q1 (nin b o q hb)
 .cases q:s.heap.get? ea with
  | none=>rfl
  | some o =>
   obtain⟨o1,q1⟩:=I.base.there ea o q (noex ea);rw[Fl.fresh] at q1;cases q1
end
section
variable {P:Program} {w:World} {K:Z3} {mg:Str->Option Value} {base:Heap} {T:Pg} {F k:Nat}
def spL(K:Z3)(Hs0:Hp)(c:Str):Sp:=fun vs H Q E=>vs=[]/\Same Hs0 H/\∀ C H' Hs',W.nsIn K mainGlobals c=some (some (.ref C))->Ext Hs0 H Hs' H'->E (.ref C) none H'
end
end L2
namespace L2
open PySem PySem.Spec PyProof.Rows DE PySem.SeqAt
structure GoodC (cx:Cxt) (X:Cx) (sc:Scope):Prop where
 un:X.A.units+100<cLine
 sce:X.env.scope=sc
 nd:X.N.Nodup
 blt:∀ x b,cx.blt.lookup x=some b->X.mg x=none/\x=Str.ofString b
 exs:XText X.K X.mg cx.exs cx.top
def evC(cx:Cxt):Nat->Scope->Rho->Expr->Option D
 | 0,_,_,_=>none
 | n+1,sc,U,e=>match e with
  | .Name x _=>if aH x&&sc.names.lookup x==some .local then(match U.lookup x with | some (.sh d)=>some d | _=>none) else none
  | .Constant c _ _=>(match c with
    | .none=>some .non
    | .bool b=>some (.bl b)
    | .int i=>some (.int i)
    | .str x=>some (.str x)
    | _=>none)
  | .BinOp a op b _=>do let x <- evC cx n sc U a;let y <- evC cx n sc U b;binop op x y
  | .UnaryOp .Not a _=>do let x <- evC cx n sc U a;(asB x).map fun b=>.bl (!b)
  | .BoolOp op es _=>cN op (evC cx n sc U) es
  | .Compare a [.NotEq] [b] _=>do let i <- (evC cx n sc U a).bind asI;let j <- (evC cx n sc U b).bind asI;some (.bl (!(i==j)))
  | .List es _=>do let ds <- jH (evC cx n sc U) es;if szl ds.length then some (.lst ds) else none
  | .Subscript a b _=>do let x <- evC cx n sc U a;let i <- (evC cx n sc U b).bind asI;let xs <- items x;atD xs i
  | .Call (.Name x _) [a,t] [] _=>if bV cx sc x==some "isinstance" then do
    let d <- evC cx n sc U a
    match d with
    | .exc c=>if cx.exs.contains c then(match xOf cx sc t with
     | some c'=>some (.bl (wC cx.top c c'))
     | none=>if tyOf cx sc t==some "ValueError" then some (.bl true) else none) else none
    | _=>none
   else none
  | .Call (.Attribute (.Name y py) m ap) [e] [] p=>if ap.endLine==p.line then do
    let x <- evC cx n sc U (.Name y py)
    let z <- evC cx n sc U e
    rT m x z
   else none
  | _=>none
section
variable {X:Cx} {U:Rho} {cx:Cxt} {k:Nat} {sc:Scope}
theorem cZ:∀ {n:Nat} {U:Rho} {e:Expr} {d:D},evC cx n sc U e=some d->aG e=true
 | 0,_,_,_,h=>by simp[evC] at h
 | n+1,U,e,d,h=>by
  unfold evC at h
  cases e<;>first | rfl | (simp at h;done)
theorem Ao{x:Str}{b:String}(G:GoodC cx X sc)(h:bV cx sc x=some b):Gl X x/\X.mg x=none/\x=Str.ofString b:=by
 unfold bV qZ at h;split at h
 .rename_i hg
  have e:sc.names.lookup x=some .globalImplicit:=by simpa using hg
  obtain⟨h1,h2⟩:=G.blt x b h;exact⟨by show X.env.scope.names.lookup x=_;rw[G.sce,e],h1,h2⟩
 .cases h
theorem sy{x c:Str}{t a:Expr}{cv:V}{cw:Value}{b:Bool}{p pos:Pos}(G:GoodC cx X sc)(hx:bV cx sc x=some "isinstance")(hc:cx.exs.contains c=true)(ht:PE X t (tC cv))(hpt:aG t=true)(hcv:∀ u,RelV cv u->u=cw)
  (hk:∀ C,W.nsIn X.K mainGlobals c=some (some (.ref C))->W.kitOne X.K (.ref C) cw=some b) (ha:Ev X U a (.exc c)) (hp:aG a=true):Ev X U (.Call (.Name x p) [a,t] [] pos) (.bl b):=by
 obtain⟨hg,hm,rfl⟩:=Ao G hx;obtain⟨C,M,e1,_,_,e2,_⟩:=G.exs.cls c hc;intro Y H Hs Q hs hst hq;refine(bY (qM (X:=X) (cv:=cv) e2 hcv (hk C e1)) hg hm (by decide +kernel) (aA au (aA ht aO (aq hpt)) (aq hp)) (by decide) (by decide) (aq hp) (by rw[aq hpt];rfl)).sem ?_;refine ha Y H Hs _ hs hst fun v H1 Hs1 E1 r1=>?_;have r2:=Rep.same E1.sub _ v r1;simp only[Rep] at r2;obtain⟨a0,C0,rfl,f1,f2⟩:=r2;rw[e1] at f1;cases f1;exact⟨a0,rfl,f2,hq _ H1 Hs1 E1 (by simp[Rep])⟩
theorem Fg(hu:X.A.units<cLine):OpR X (compareOp .NotEq) (fun u v H Q=>∃ i j,u=.int i/\v=.int j/\Q (.bl (!(i==j))) H):=by
 intro z0 s Y H u v w z Q I ru rv h;obtain⟨i,j,rfl,rfl,q⟩:=h;exact(oJ (d:=.int i) (d':=.int j) I X.A (by simp[Rep]) (by simp[Rep]) ru rv (by simp only[dep];omega) (by simp[dep]) (by simp[dep]) rfl).2 _ _ _ _ ⟨.bl _,H,I,rfl,q⟩
theorem qw(G:GoodC cx X sc)(hN:X.N=U.map (·.1)):∀ (n:Nat) {e:Expr} {d:D},evC cx n sc U e=some d->Ev X U e d/\∀ b,d=.bl b->EvT X U e b
 | 0,e,d,h=>by simp[evC] at h
 | n+1,e,d,h=>by
  have ih:∀ e d,evC cx n sc U e=some d->Ev X U e d/\∀ b,d=.bl b->EvT X U e b:=fun e d h=>qw G hN n h;have ihp:∀ e d,evC cx n sc U e=some d->Ev X U e d/\aG e=true:=fun e d h=>⟨(ih e d h).1,cZ h⟩;have val:∀ {e d},(∀ whole,isTrue e X.env whole=(do let v <- whole;standAt e.pos;holding [v] (truthy v)))->Ev X U e d->Ev X U e d/\∀ b,d=.bl b->EvT X U e b:=fun he h1=>⟨h1,fun b hb=>by subst hb;exact zN h1 he⟩;simp only[evC] at h;split at h
  .split at h
   .rename_i hp
    rw[U2z] at hp;split at h
    .rename_i d' hl
     cases h;refine val (fun _=>rfl) (zK hN ?_ hp.1 hl);exact .inl (by rw[G.sce];simpa using hp.2)
    .cases h
   .cases h
  .exact val (fun _=>rfl) (uN h)
  .obtain⟨x,h1,h⟩:=aZ h
   obtain⟨y,h2,h⟩:=aZ h;exact val (fun _=>rfl) (uO (ih _ _ h1).1 (ih _ _ h2).1 h)
  .obtain⟨x,h1,h⟩:=aZ h
   obtain⟨b,h2,rfl⟩:=M0z.mp h
   cases x<;>simp[asB] at h2
   subst h2;refine⟨FQ (ih _ _ h1).1,fun c hc=>?_⟩;cases hc;exact zO ((ih _ _ h1).2 _ rfl)
  .obtain⟨h1,h2⟩:=lK (fun e _ d hd=>ih e d hd) h
   exact⟨h1,fun b hb=>(h2 b hb).t⟩
  .obtain⟨i,h1,h⟩:=aZ h
   obtain⟨j,h2,h⟩:=aZ h;cases h;have h1':=jd h1;have h2':=jd h2
   have hu:X.A.units<cLine:=by have:=G.un;omega
   refine⟨fU (ih _ _ h1').1 (ih _ _ h2').1 (rK (Fg hu) au au (cH (cZ h2'))) fun u v H Hs Q hs r1 r2 hq=>⟨i,j,aX r1,aX r2,hq _ H Hs (.refl hs) (by simp[Rep])⟩,fun c' hc' Y H Hs Q hs hst hq=>?_⟩;cases hc';refine(kO (Fg hu) au au (cH (cZ h2'))).sem ((ih _ _ h1').1 Y H Hs _ hs hst fun u H1 Hs1 E1 r1=>(ih _ _ h2').1 Y H1 Hs1 _ E1.sub (hst.same E1.vis) fun v H2 Hs2 E2 r2=>?_);exact⟨i,j,aX r1,aX r2,_,rfl,hq H2 Hs2 (E1.trans E2)⟩
  .obtain⟨ds,h1,h⟩:=aZ h
   split at h
   .rename_i hz
    cases h;exact val (fun _=>rfl) (zL (dJ (fun e _ d hd=>ihp e d hd) h1).1 hz)
   .cases h
  .obtain⟨x,h1,h⟩:=aZ h
   obtain⟨i,h2,h⟩:=aZ h;obtain⟨us,h3,h⟩:=aZ h;have h2':=jd h2;exact val (fun _=>rfl) (n8 (ih _ _ h1).1 (ih _ _ h2').1 (cZ h2') h3 h)
  .split at h
   .rename_i hb
    have hx:=eq_of_beq hb;obtain⟨d1,h1,h⟩:=aZ h;split at h
    .rename_i c
     split at h
     .rename_i hc
      refine val (fun _=>rfl) ?_;split at h
      .rename_i c' hxo
       cases h;obtain⟨pt,rfl,hgl,hin,hd⟩:=Ef hxo
       have hg:Gl X c':=by
        have e:sc.names.lookup c'=some .globalImplicit:=by unfold qZ at hgl;simpa using hgl
        show X.env.scope.names.lookup c'=_;rw[G.sce,e]
       by_cases htop:c'=cx.top
       .subst htop
        obtain⟨C,M,e1,e2,_,_,_,e3,_⟩:=G.exs.cls c hc
        have:wC cx.top c cx.top=true:=by unfold wC;simp
        rw[this];refine sy (cv:=.ref M) (cw:=.ref M) G hx hc (kY hg (G.exs.glob _ _ e2) rfl hd) rfl (fun u r=>r) (fun C' e=>?_) (ih _ _ h1).1 (cZ h1);rw[e] at e1;cases e1;exact e3
       .have hin':cx.exs.contains c'=true:=hin.resolve_right htop
        obtain⟨C,C',e1,e2,e3⟩:=G.exs.sub c c' hc hin'
        have:wC cx.top c c'=(c==c'):=by
         unfold wC
         have:(c'==cx.top)=false:=by simpa using htop
         rw[this,Bool.or_false]
        rw[this];refine sy (cv:=.ref C') (cw:=.ref C') G hx hc (kY hg (G.exs.glob _ _ e2) rfl hd) rfl (fun u r=>r) (fun C'' e=>?_) (ih _ _ h1).1 (cZ h1);rw[e] at e1;cases e1;exact e3
      .split at h
       .rename_i ht
        cases h;obtain⟨t,pt,rfl,ht'⟩:=wK (eq_of_beq ht);obtain⟨hg2,hm2,rfl⟩:=Ao G ht';refine sy (cv:=.ty "ValueError") (cw:=.type "ValueError") G hx hc (rN hg2 hm2 (by decide +kernel) rfl) rfl (fun u r=>r) (fun C e=>?_) (ih _ _ h1).1 (cZ h1);obtain⟨C',M,e1,_,_,_,_,_,e2⟩:=G.exs.cls c hc;rw[e] at e1;cases e1;exact e2
       .cases h
     .cases h
    .cases h
   .cases h
  .split at h
   .rename_i hl
    obtain⟨x,h1,h⟩:=aZ h;obtain⟨z,h2,h⟩:=aZ h;exact val (fun _=>rfl) (Du (ih _ _ h1).1 (ih _ _ h2).1 (cZ h2) hl h)
   .cases h
  .cases h
def runC(cx:Cxt)(F:Nat)(sc:Scope):List Stmt->Rho->Option D
 | [],_=>none
 | s::r,U=>match s with
  | .Assign [.Name x _] e _=>if sc.names.lookup x==some .local&&(U.map (·.1)).contains x then(match e with
    | .ListComp .. =>none
    | e=>(evC cx F sc U e).bind fun d=>runC cx F sc r (fG U x (.sh d))) else none
  | .If c [.Return (some e) _] [] _=>((evC cx F sc U c).bind asB).bind fun b=>if b then evC cx F sc U e else runC cx F sc r U
  | .Return (some e) _=>evC cx F sc U e
  | _=>none
theorem vD{K:Z3}{Hs:Hp}{U:Rho}{Y:St}{x:Str}{i:Nat}{d:D}{v:V}(h:bJ K Hs U Y)(hn:(U.map (·.1)).Nodup)(hi:(U.map (·.1))[i]?=some x)(hl:Y.length=U.length)(r:Rep K Hs d v):bJ K Hs (fG U x (.sh d)) (Y.set i (some v)):=fun j y d' e=>by
 have li:i<Y.length:=by have:=(List.getElem?_eq_some_iff.mp hi).1;rw[hl];simpa using this
 rw[bW hn hi j] at e;split at e
 .rename_i hj
  subst hj;cases e;exact⟨v,by rw[List.getElem?_set_self li],r⟩
 .rename_i hj
  obtain⟨v',q1,q2⟩:=h j y d' e;exact⟨v',by rw[List.getElem?_set_ne (fun z=>hj z.symm)];exact q1,q2⟩
theorem rG{F:Nat}(G:GoodC cx X sc):∀ (l:List Stmt) {U:Rho} {d:D} {Y:St} {H Hs:Hp} {D:Ends},X.N=U.map (·.1)->Y.length=U.length->Same Hs H->bJ X.K Hs U Y->runC cx F sc l U=some d->(∀ v H' Hs',Ext Hs H Hs' H'->Rep X.K Hs' d v->D.rt v H')->dU X l D Y H
 | [],U,d,Y,H,Hs,D,hN,hl,hs,hst,h,hq=>by simp[runC] at h
 | s::r,U,d,Y,H,Hs,D,hN,hl,hs,hst,h,hq=>by
  have nd:(U.map (·.1)).Nodup:=by rw[<- hN];exact G.nd
  simp only[runC] at h;split at h
  .rename_i x px e pos
   split at h
   .rename_i hx
    rw[U2z] at hx
    have lx:sc.names.lookup x=some .local:=by simpa using hx.1
    obtain⟨i,hi⟩:∃ i:Nat,(U.map (·.1))[i]?=some x:=List.mem_iff_getElem?.mp (by simpa using hx.2)
    have hlx:X.env.scope.names.lookup x=some .local:=by rw[G.sce];exact lx
    have go:∀ d1,evC cx F sc U e=some d1->(∀ a b c p,e≠.ListComp a b c p)->runC cx F sc r (fG U x (.sh d1))=some d->dU X (.Assign [.Name x px] e pos::r) D Y H:=fun d1 he hne hr=>by
     refine PSs.sem (aM (jr (i:=i) (te:=iB X e) G.nd (by rw[hN];exact hi) (.inl hlx) au ?_ (.inr hlx)) bL) ?_
     .cases e<;>first | rfl | exact absurd rfl (hne _ _ _ _) | (simp[evC] at he;done) | (cases F<;>simp[evC] at he;done)
     .refine(qw G hN F he).1 Y H Hs _ hs hst fun v H1 Hs1 E1 r1=>?_
      exact rG G r (by rw[aP];exact hN) (by rw[R3z,hl];have:=congrArg List.length (aP U x (.sh d1));simpa using this.symm) E1.sub (vD (hst.same E1.vis) nd hi hl r1) hr fun v' H2 Hs2 E2 r2=>hq v' H2 Hs2 (E1.trans E2) r2
    split at h
    .cases h
    .rename_i hne
     obtain⟨d1,h1,h2⟩:=Option.bind_eq_some_iff.mp h;exact go d1 h1 (fun a b c p z=>hne a b c p z) h2
   .cases h
  .rename_i c e p1 pos
   obtain⟨b,h1,h⟩:=Option.bind_eq_some_iff.mp h;have h1':=fj h1;refine PSs.sem (aM (nM cY (bx (cU au)) gR) bL) ?_;refine(qw G hN F h1').2 b rfl Y H Hs _ hs hst fun H1 Hs1 E1=>?_
   cases b with
   | true =>
    refine ql ?_;exact(qw G hN F h).1 Y H1 Hs1 _ E1.sub (hst.same E1.vis) fun v H2 Hs2 E2 r2=>hq v H2 Hs2 (E1.trans E2) r2
   | false =>
    refine mK ?_;exact rG G r hN hl E1.sub (hst.same E1.vis) h fun v' H2 Hs2 E2 r2=>hq v' H2 Hs2 (E1.trans E2) r2
  .rename_i e pos
   refine PSs.sem (aM (cU au) bL) ?_;exact(qw G hN F h).1 Y H Hs _ hs hst fun v H2 Hs2 E2 r2=>hq v H2 Hs2 E2 r2
  .cases h
end
end L2
namespace L2
open PySem PySem.Spec PyProof.Rows
abbrev Cx.unc(X:Cx):Cx:={ X with calm:=false }
structure RoomS (k:Nat) (A:Around):Prop where
 dp:A.depth+3*k+5<recursionLimit
 un:A.units+16*k+200<cLine
theorem RoomS.deeper{k:Nat}{A:Around}(r:RoomS (k+1) A)(env:Env):RoomS k (A.deeper env) :=
 ⟨by have:=r.dp;show A.depth+1+3*k+5<_;omega,by have:=r.un;show A.units+3+16*k+200<_;omega⟩
theorem RoomS.depth{k:Nat}{A:Around}(r:RoomS k A):A.depth<recursionLimit:=by have:=r.dp;omega
structure FnS (P:Program) (w:World) (K:Z3) (mg:Str->Option Value) (base:Heap) (CX:CXT) (k:Nat) (f:Addr) (fd:FuncData) (ps:List Str) (sp:Sp):Prop where
 len:∀ vs H Q E,sp vs H Q E->vs.length=ps.length
 run:∀ (A:Around) (outer:List Env) (s:Shared) (H:Hp) (args:Args) (us:List Value) (vs:List V) (Q:VK) (E:XK),RoomS k A->Env0 P w K mg base A outer s H->BindsTo s fd args (ps.zip us)->Vals vs us->sp vs H Q E ->
  codeAny (model P w) A (.call (.ref f) args) (CR CX outer P w H s Q E) s
theorem N6{CX:CXT}{P:Program}{w:World}{K:Z3}{mg:Str->Option Value}{base:Heap}{k:Nat}{f:Addr}{name qual:Str}{params:Arguments}{body:List Stmt}{scope:Scope}{dV kV doc pm cdv ct oc:Value}{an od:Option Addr}
  {osl:Array (Option Value)} {N ps:List Str} {sp:Sp} (lk:K.lookup f=some ⟨oc,od,.func (W.fnOf name qual params body scope dV kV doc pm an cdv ct),osl⟩) (hcd:W.codeIn K cdv qual=true) (S:FnScope N ps scope)
  (len:∀ vs H Q E,sp vs H Q E->vs.length=ps.length)
  (hbody : ∀ (A : Around) (outer : List Env) (s : Shared) (H : Hp) (vs : List V) (Q : VK) (E : XK), RoomS k (A.deeper (envOfC qual scope s.heap.objs.size f cdv)) -> sp vs H Q E ->
   ∃ t,PSs (eF CX P w K mg base N qual scope f cdv A outer s H E).unc body t/\t { nx:=fun _ H'=>Q .non H',rt:=Q } (start N vs) H) :
  FnS P w K mg base CX (k+1) f (W.fnOf name qual params body scope dV kV doc pm an cdv ct) ps sp:=by
 refine⟨len,fun A outer s H args us vs Q E hr e0 hb r hsp=>?_⟩;have hl:=len _ _ _ _ hsp;have KX:K.In s.heap:=e0.mod.kin.keeps fun b o e=>(e0.bs b o e).1;have lim:s.heap.NoLimit:=e0.mod.nolimit.keeps fun b o e=>(e0.bs b o e).1
 have hkind:∀ y∈ps.zip us,scope.names.lookup y.1=some .local\/(scope.names.lookup y.1=some .cell/\((cellsFrom (s.heap.objs.size+1) scope.names []).lookup y.1).isSome=true):=fun⟨n,v⟩ hy=>by
  rcases S.par n (G3z hy).1 with q | q
  .exact .inl q
  .exact .inr ⟨q,J0z _ _ _ (.inl q)⟩
 refine codeAny_call_function hr.depth (KX _ _ lk) rfl S.co S.gen rfl (W.codeRec_of KX hcd) (hb _ _ _ _ ?_);refine wpAny_newFunctionEnv_cells S.kind hkind fun env he s1 x=>?_;subst he;refine⟨lim.keeps x.toInCall.keep,codeAny_func ?_⟩;obtain⟨t,ht,hq⟩:=hbody A outer s H vs Q E (hr.deeper _) hsp;have I:Inv (eF CX P w K mg base N qual scope f cdv A outer s H E).unc [] (start N vs) H s1:=mL (c:=false) S (fun z=>nomatch z) e0 hl r x;refine Z4z (ht [] s1 (start N vs) H _ I hq) (fun fl s' hs=>?_) fun e s' hs=>hs
 have fin:∀ {Y':St} {H':Hp} {v:V} {u:Value},Inv (eF CX P w K mg base N qual scope f cdv A outer s H E).unc [] Y' H' s'->RelV v u->Q v H'->CE outer P w H s Q u s' :=
  fun {Y' H' v u} J rv q=>⟨v,H',J.os,J.bare,J.base,J.hok,rv,q⟩
 cases fl with
 | ret u =>
  obtain⟨v,Y',H',J,rv,q⟩:=hs;exact fin J rv q
 | next =>
  obtain⟨Y',H',J,q⟩:=hs;exact fin (v:=V.non) (u:=Value.none) J rfl q
 | brk =>
  obtain⟨_,_,_,q⟩:=hs;exact False.elim q
 | cont =>
  obtain⟨_,_,_,q⟩:=hs;exact False.elim q
section
variable {X:Cx} {z0:List (Addr×Obj)} {Y:St} {H H':Hp} {s s':Shared} {ea C:Addr}
theorem J4{c n:Str}{b1:Stmt}{bd:List Stmt}{ts:TS}{R:VK}{Mc:Addr}{np hp:Pos}{i:Nat}{Q:Flow->Shared->Prop}(I:Inv X z0 Y H s)(Fl:Fly X.prog X.w X.stack H s H' ea (.ref C) s')(hn:H' ea=none)(hst:X.stack=X.env::X.outer/\X.env.frame=some X.env.locals)
  (hg:Gl X c) (hm:X.mg c=some (.ref Mc)) (hcd:(c==("__debug__":Str))=false) (hx:W.exmOne X.K (.ref C) (.ref Mc)=some true) (nd:X.N.Nodup) (hi:X.N[i]?=some n)
  (ln:X.env.scope.names.lookup n=some .local) (d1:(n==("__debug__":Str))=false) (d2:(n==("__classdict__":Str))=false)
  (hps:PSs (X.inSuite (.ref ea) fun _ _=>False) (b1::bd) ts) (hts:ts { nx:=fun _ _=>False,rt:=R } (Y.set i (some (.ref ea))) (upd H' ea (.ext (isX ea (.ref C)))))
  (k:∀ s2 Y2 H2 v u,Inv X z0 Y2 H2 s2->RelV v u->R v H2->Q (.ret u) s2) :
  wpAny (model X.prog X.w) X.A (noteFrame (.ref ea) X.env) (fun _ s₂=>wpAny (model X.prog X.w) X.A (setFlight (.ref ea) none) (fun _ s₃ =>
   wpAny (model X.prog X.w) X.A (handleBy (.ref ea) X.env [.ExceptHandler (some (.Name c np)) (some n) (b1::bd) hp]) Q X.xe s₃) X.xe s₂) X.xe s':=by
 obtain⟨B,a0,fl,hokB,kB,tB⟩:=Fl.fly
 have hfr:X.A.frames=some (X.env::X.outer):=by rw[<- hst.1];exact I.ok.frames
 have fl':Heap.FlyingW B (X.env::X.outer) ea (.ref C) a0 s'.heap:=by rw[<- hst.1];exact fl
 refine wpAny_looks_onW hfr hst.2 fl' fun h4 held4 up4=>?_;refine wpAny_landsW held4 fun h5 fl5 up5=>?_;have U5:Un (frs X.stack) [] H H' s.heap h5:=Un.fly Fl.un kB tB fl5.1 (yG fl.2.2.1) (up4.trans up5);have I5:Inv X z0 Y H' { s' with heap:=h5 }:=Fly.lands I Fl hokB U5 fl5.1;refine wpAny_handleBy_cons (codeAny_handlers_test ?_) (by intro q;cases q);refine fQ (I5.inSuite (.ref ea) X.xe) hg hm ?_ hcd
 have LT:W.Looks (model X.prog X.w) h5 (typeOf (.ref ea)) (.ref C):=by
  obtain⟨ob,hob,hoc⟩:=fl5.there;exact xty hob hoc
 refine(W.exm_one I5.kIn LT hx).here ?_;refine codeAny_handlers_suite_as ?_;refine lands_againW fl5 fun h6 fl6 up6=>?_;have U6:Un (frs X.stack) [] H H' s.heap h6:=Un.fly Fl.un kB tB fl6.1 (yG fl.2.2.1) ((up4.trans up5).trans up6)
 have hX6:isX ea (.ref C) h6:=by
  obtain⟨oe,ws,e1,e2,e3,_⟩:=fl6.first
  exact⟨oe,e1,e2,ws,e3⟩
 have hok6:HOk X.prog X.w (upd H' ea (.ext (isX ea (.ref C)))) h6:=fun b u e=>by
  by_cases hb:b=ea
  .subst hb;rw[aB] at e;cases e;exact NQ hX6
  .rw[aj hb] at e
   exact((hokB.kept fl6.1) b u e).stay (fun _ _ _ q=>q) (fun b' q=>by rw[aj (ak q hn)];exact q) fun b' xs q=>by rw[aj (ak q hn)];exact q
 have U6':Un (frs X.stack) [] H (upd H' ea (.ext (isX ea (.ref C)))) s.heap h6:=by
  refine⟨U6.keep,U6.slot,fun b o q n hx=>?_,U6.there,fun b xs q=>?_,fun b o u q=>?_,fun b ps q=>?_⟩
  .rw[aj (fun z=>by rw[z,Fl.fresh] at q;cases q)]
   exact U6.free b o q n hx
  .have:=U6.tups b xs q
   rw[aj (ak this hn)];exact this
  .have:=U6.frzs b o u q
   rw[aj (ak this hn)];exact this
  .obtain⟨more,e⟩:=U6.tbls b ps q
   exact⟨more,by rw[aj (ak e hn)];exact e⟩
 have I6:Inv X z0 Y (upd H' ea (.ext (isX ea (.ref C)))) { s' with heap:=h6 }:=I.call' (s':={ s' with heap:=h6 }) Fl.os U6' hok6 Fl.bare (fun b z=>absurd z (by simp));refine iD (X:=X.inSuite (.ref ea) X.xe) (I6.inSuite (.ref ea) X.xe) nd hi (.inl ln) (v:=.ref ea) rfl (fun s7 I7=>?_) (.inr ln)
 have hiY:i<Y.length:=by rw[I.len];exact(List.getElem?_eq_some_iff.mp hi).1
 have I7':Inv (X.inSuite (.ref ea) fun _ _=>False) z0 (Y.set i (some (.ref ea))) (upd H' ea (.ext (isX ea (.ref C)))) s7:=(I7.outSuite I.ok).inSuite _ _;refine Z4z (hps z0 s7 _ _ { nx:=fun _ _=>False,rt:=R } I7' hts) (fun f s8 h8=>?_) fun _ _ z=>z.elim
 cases f with
 | next=>obtain⟨_,_,_,z⟩:=h8;exact z.elim
 | brk=>obtain⟨_,_,_,z⟩:=h8;exact z.elim
 | cont=>obtain⟨_,_,_,z⟩:=h8;exact z.elim
 | ret u =>
  obtain⟨v8,Y8,H8,I8,rv,q8⟩:=h8;have I8':Inv X z0 Y8 H8 s8:=I8.outSuite I.ok;obtain⟨m,hm8,_⟩:=id I8'.loc;refine wpAny_nameGoes_keeps ln hm8 (by rw[I.ok.kind];rfl) fun h9 v hn9 hs9=>?_;exact k _ _ _ _ _ (I8'.unbound (t':=s8.toks+1) nd hi hm8 hn9 hs9) rv q8
end
section
variable {P:Program} {w:World} {K:Z3} {mg:Str->Option Value} {base:Heap} {T:DE.Pg} {F k:Nat}
open DE hiding st
def spC(K:Z3)(c:Str)(d:D):Sp:=fun vs H Q _=>vs.length=1/\∃ Hs,Same Hs H/\aJ K Hs [.exc c] vs/\∀ v H' Hs',Ext Hs H Hs' H'->Rep K Hs' d v->Q v H'
theorem Oq{CX:CXT}(X:Text w K mg T){nm:Str}{fd:Fd}{t:Stmt}{a:Addr}{g:FuncData}{c:Str}{d:D}(Fn:Fun K nm nm t a g)(hb:fd.body=aL t)(hs:fd.sc=ao t)(S:FnScope fd.N fd.ps fd.sc)(h1:fd.ps.length=1)
  (hrun:runC (T.cx (aR T F 0)) F fd.sc fd.body (bw fd [.exc c])=some d):FnS P w K mg base CX (k+1) a g fd.ps (spC K c d):=by
 obtain⟨oc,od,kV,doc,pm,an,cdv,ct,osl,rfl,lk,hcd⟩:=Fn.ex;refine N6 lk hcd (by rw[<- hs];exact S) (fun vs H Q E h=>by rw[h.1,h1]) fun A outer s H vs Q E hr h=>?_;obtain⟨hlv,Hs,hsm,rl,hq⟩:=h;obtain⟨s1,s2,s3⟩:=fL S (by rw[h1];rfl) rl;refine⟨dU _ (aL t),bL,?_⟩;have G:GoodC (T.cx (aR T F 0)) (eF CX P w K mg base fd.N nm (ao t) a cdv A outer s H E).unc fd.sc:=⟨by have:=hr.un;show(A.deeper _).units+100<_;omega,hs.symm,S.nd,X.blt,X.exs⟩;rw[hb] at hrun;refine rG G (aL t) s1 s2 hsm (fun i x d' e=>?_) hrun fun v H' Hs' E1 r1=>hq v H' Hs' E1 r1;rcases s3 i x _ e with q | ⟨d'',v,q,q1,q2⟩
 .cases q
 .cases q
  exact⟨v,q1,q2⟩
theorem Ak{X:Cx}{i k:Nat}{x:Str}{f:Addr}{fd:FuncData}{sp:Sp}{p pos:Pos}{o:Obj}{E:XK}{Y:St}{H:Hp}{Q:VK}(F:FnOk X.prog X.w X.K X.mg X.base (CX1 X.prog X.w) k f fd [] sp)(hr:Room k X.A)(hN:X.N[i]?=some x)(hv:Vis X.env.scope x)(ho:X.base.get? f=some o)(hd:o.data=.func fd)(hb:Binds X.K fd [] [])(hx:XOk X Y E)
  (hY:Y[i]?=some (some (.ref f))) (hsp:sp [] H Q E) (hdb:(x==("__debug__":Str))=false) (hcd:(x==("__classdict__":Str))=false):iB X (.Call (.Name x p) [] [] pos) Y H Q:=by
 intro z0 s I;refine M1z ?_;refine thn (mD (X:=X) hN hv hdb hcd z0 s Y H (fun v H'=>v=.ref f/\H'=H) I ⟨.ref f,hY,rfl,rfl⟩) fun u s1 ⟨v,H1,I1,r1,e1,e2⟩=>?_;subst e1 e2;cases (show u=Value.ref f from r1);refine W.callWith_F0 ?_ (xV (us:=[]) (vs:=[]) F hr hb hx I1 .nil hsp);obtain⟨oc,od,dt,sl⟩:=o;cases (show dt=.func fd from hd);exact⟨oc,od,fd,sl,I1.bk _ _ ho⟩
end
end L2
namespace L2
open PySem PySem.Spec PyProof.Rows
open DE hiding st
section
variable {P:Program} {w:World} {K:Z3} {mg:Str->Option Value} {base:Heap} {T:DE.Pg} {F k:Nat}
def spT(K:Z3)(Hs0:Hp)(f:Addr)(d:D):Sp:=fun vs H Q _=>vs=[.ref f]/\Same Hs0 H/\∀ v H' Hs',Ext Hs0 H Hs' H'->Rep K Hs' d v->Q v H'
theorem Hg{X:Cx}{CX:CXT}{f:Addr}{fd:FuncData}{ps:List Str}{sp:Sp}{E:XK}{z0:List (Addr×Obj)}{Y:St}{H:Hp}{s:Shared}{Q:VK}{us:List Value}{vs:List V}(F:FnS X.prog X.w X.K X.mg X.base CX k f fd ps sp)(hr:RoomS k X.A)(hb:Binds X.K fd ps [])(hx:Passes CX X E)
  (I:Inv X z0 Y H s) (r:Vals vs us) (h:sp vs H Q E):wpAny (model X.prog X.w) X.A (call (.ref f) us) (EP X z0 Y Q) X.xe s:=by
 have hl:(us++([]:List Value)).length=ps.length:=by rw[F3z,<- r.length];exact F.len _ _ _ _ h
 have hb':=hb s us I.kIn hl;rw[F3z] at hb';refine wpAny_call (O4z (F.run X.A X.stack s H ⟨us,[]⟩ us vs Q E hr I.env0 hb' r h) fun r s' hq=>?_)
 cases r with
 | error e=>exact hx z0 Y H s e s' I hq
 | ok fl =>
  cases fl with
  | ret u=>exact I.after hq
  | next=>exact False.elim hq
  | brk=>exact False.elim hq
  | cont=>exact False.elim hq
theorem Gp{nm:Str}{t:Stmt}{a ac f:Addr}{g gc fd:FuncData}{dn n c cls c':Str}{p1 p2 p3 np p4 p5 p6 p7 hp pos:Pos}{kd:Nat}{Hs0:Hp}{o:Obj}{d:D}{exs:List Str}{pcs:List Str}
  (Fn:Fun K nm nm t a g) (hbody:aL t=[.Try [.Return (some (.Call (.Name dn p1) [] [] p2)) p3] [.ExceptHandler (some (.Name c np)) (some n) [.Return (some (.Call (.Name cls p4) [.Name n p5] [] p6)) p7] hp] [] [] pos])
  (S:FnScope [dn,n] [dn] (ao t)) (ld:(ao t).names.lookup dn=some .local) (ln:(ao t).names.lookup n=some .local) (lc:(ao t).names.lookup c=some .globalImplicit) (lcls:(ao t).names.lookup cls=some .globalImplicit)
  (hxs:XText K mg exs c) (hin:exs.contains c'=true) (pn:aH n=true) (pd:aH dn=true) (pc:aH c=true) (pcl:(cls==("__debug__":Str))=false)
  (mc:mg cls=some (.ref ac)) (kc:W.keepIn K (.ref ac)=true) (bc:Binds K gc pcs []) (FC:∀ (base:Heap),FnS P w K mg base (CX1 P w) 1 ac gc pcs (spC K c' d)) (hpc:pcs.length=1)
  (GD:FnOk P w K mg base (CX1 P w) kd f fd [] (spL K Hs0 c')) (hkd:1<=kd) (ho:base.get? f=some o) (hd:o.data=.func fd) (hb:Binds K fd [] []) :
  FnOk P w K mg base (CX1 P w) (kd+1) a g [dn] (spT K Hs0 f d):=by
 unfold aH at pn pd pc;rw[U2z,E5z,E5z] at pn pd pc;refine Fun.okX (N:=[dn,n]) Fn S (fun vs H Q E h=>by rw[h.1];rfl) fun cdv A outer s H vs Q E hr h=>?_;obtain⟨rfl,hsm,hq⟩:=h;refine⟨dU _ (aL t),bL,?_⟩;rw[hbody];generalize hX:eF (CX1 P w) P w K mg base [dn,n] nm (ao t) a cdv A outer s H E=X
 have xP:X.prog=P:=by rw[<- hX];rfl
 refine PSs.sem (bx jt) ?_;intro z0 s0 I;obtain⟨C,M,e1,e2,_,_,e3,_⟩:=hxs.cls c' hin;rw[arm_exec_Try];refine A5z (Z3z (wpAny_tryStmt_except ?_));subst hX
 let X:=eF (CX1 P w) P w K mg base [dn,n] nm (ao t) a cdv A outer s H E
 let D:Ends:={ nx:=fun _ H'=>Q .non H',rt:=Q }
 let hs:List ExceptHandler:=[.ExceptHandler (some (.Name c np)) (some n) [.Return (some (.Call (.Name cls p4) [.Name n p5] [] p6)) p7] hp]
 let xe:Value->Shared->Prop:=fun e s₁=>wpAny (model X.prog X.w) X.A (noteFrame e X.env) (fun _ s₂=>wpAny (model X.prog X.w) X.A (setFlight e none) (fun _ s₃=>wpAny (model X.prog X.w) X.A (handleBy e X.env hs) (SP X z0 D) X.xe s₃) X.xe s₂) X.xe s₁
 have I0:Inv (X.pinned (X.pn++z0) xe) [] (start [dn,n] [.ref f]) H s0:=Inv.repin (X:=X) (pn:=X.pn) (z0:=z0) I fun p hp=>by simpa using hp
 have run:dU (X.pinned (X.pn++z0) xe) [.Return (some (.Call (.Name dn p1) [] [] p2)) p3] { nx:=fun _ _=>False,rt:=fun _ _=>False } (start [dn,n] [.ref f]) H:=by
  refine PSs.sem (bx (cU au)) ?_;refine Ak (X:=X.pinned (X.pn++z0) xe) (i:=0) (E:=fun cls _ H2=>cls=.ref C/\∃ Hs2,Ext Hs0 H Hs2 H2) GD hr rfl (.inl ld) ho hd hb ?_ rfl ⟨rfl,hsm,fun C2 H2 Hs2 q E2=>⟨?_,Hs2,E2⟩⟩ (by simpa using pd.1) (by simpa using pd.2)
  .intro pins2 H2 s2 e s3 I2 hcx
   obtain⟨ea,cl,H3,rfl,Fl,hn3,rfl,Hs3,E3⟩:=hcx;have I2':Inv (X.pinned (X.pn++z0) X.xe) pins2 (start [dn,n] [.ref f]) H2 s2:=Inv.repin (X:=X) I2 fun p hp=>hp;have E4:Ext Hs3 H3 (upd Hs3 ea (.ext (isX ea (.ref C)))) (upd H3 ea (.ext (isX ea (.ref C)))):=Ext.new E3.sub _ hn3;have hm:mg c=some (.ref M):=hxs.glob _ _ e2;refine J4 (X:=X.pinned (X.pn++z0) X.xe) (Mc:=M) (R:=Q) I2' Fl hn3 ⟨rfl,rfl⟩ lc hm (by simpa using pc.1) e3 S.nd (i:=1) rfl ln (by simpa using pn.1) (by simpa using pn.2) (bx (cU au)) ?_ fun s4 Y2 H4 v u I4 rv q4=>?_
   ·
    intro pins5 s5 I5;refine M1z (fQ I5 lcls mc ?_ pcl);refine N1z (h₀:=base) I5.ok.mod.kin kc ?_ rfl rfl;have pa:PA ((X.pinned (X.pn++z0) X.xe).inSuite (.ref ea) fun _ _=>False) [.Name n p5] (Gw (Qn 1) K7):=aA (mD (i:=1) rfl (.inl ln) (by simpa using pn.1) (by simpa using pn.2)) aO;refine thn (pa p6 pins5 s5 _ _ (fun vs H1=>vs=[.ref ea]/\H1=upd H3 ea (.ext (isX ea (.ref C)))) I5 ⟨.ref ea,rfl,rfl,rfl⟩) fun us s6 ⟨vs,H6,I6,r6,q6,q7⟩=>⟨I6.kIn,?_⟩;subst q6 q7;refine Hg (E:=E0) (FC base) ⟨by have:=hr.dp;show(A.deeper (envOfC nm (ao t) s.heap.objs.size a cdv)).depth+3*1+5<_;omega,by have:=hr.un;show(A.deeper (envOfC nm (ao t) s.heap.objs.size a cdv)).units+16*1+200<_;omega⟩ bc nO I6 r6 ⟨rfl,upd Hs3 ea (.ext (isX ea (.ref C))),E4.sub,.cons (by simp only[Rep];exact⟨ea,C,rfl,e1,aB⟩) .nil,fun v H7 Hs7 E7 r7=>hq v H7 Hs7 ((E3.trans E4).trans E7) r7⟩
   .exact⟨v,Y2,H4,Inv.repin (X:=X) (pn':=X.pn) I4 fun p hp=>T0z _ hp,rv,q4⟩
  .have q':W.nsIn K mainGlobals c'=some (some (.ref C2)):=q
   rw[e1] at q';cases q';rfl
 refine Z4z (run [] s0 I0) (fun fl s1 q=>?_) fun e s1 q=>q
 cases fl with
 | next=>obtain⟨_,_,_,z⟩:=q;exact z.elim
 | brk=>obtain⟨_,_,_,z⟩:=q;exact z.elim
 | cont=>obtain⟨_,_,_,z⟩:=q;exact z.elim
 | ret u=>obtain⟨_,_,_,_,_,z⟩:=q;exact z.elim
end
def del(H:Hp)(c:Addr):Hp:=fun b=>if b=c then none else H b
theorem fV{H:Hp}{c b:Addr}(h:b≠c):del H c b=H b:=M5z h
theorem iU{H:Hp}{c:Addr}:del H c c=none:=L5z rfl
theorem oE{H:Hp}{c b:Addr}{o:HO}(h:del H c b=some o):H b=some o/\b≠c:=by
 unfold del at h;split at h
 .cases h
 .rename_i n;exact⟨h,n⟩
theorem d7{H:Hp}{c b:Addr}(h:H b=none):del H c b=none:=by
 unfold del;split
 .rfl
 .exact h
section
variable {X:Cx} {z0:List (Addr×Obj)} {Y:St} {H:Hp} {s:Shared} {c:Addr} {p:Heap->Prop}
theorem Inv.untrack(I:Inv X z0 Y H s)(h:H c=some (.ext p)):Inv X z0 Y (del H c) s:=by
 have ne:∀ b o,H b=some o->o≠.ext p->del H c b=some o:=fun b o e n=>by
  rw[fV fun z=>by rw[z,h] at e;cases e;exact n rfl];exact e
 refine⟨I.ok,I.os,I.bare,⟨I.base.keep,I.base.slot,fun b o q n hx=>d7 (I.base.free b o q n hx),I.base.there,fun b xs q=>ne b _ (I.base.tups b xs q) (fun z=>nomatch z),fun b o u q=>ne b _ (I.base.frzs b o u q) (fun z=>nomatch z),fun b ps q=>?_⟩,I.loc,I.cell,d7 I.free,fun x c e=>d7 (I.freeC x c e),fun p hp=>?_,fun b u e=>?_,I.len⟩
 .obtain⟨more,e⟩:=I.base.tbls b ps q
  exact⟨more,ne b _ e (fun z=>nomatch z)⟩
 .obtain⟨a1,a2,a3⟩:=I.pin p hp
  exact⟨a1,d7 a2,a3⟩
 .obtain⟨e1,e2⟩:=oE e
  exact(I.hok b u e1).stay (fun _ v _ q=>q) (fun d q=>ne d _ q (fun z=>nomatch z)) fun d xs q=>ne d _ q (fun z=>nomatch z)
theorem BL{CX:CXT}{k:Nat}{f:Addr}{fd:FuncData}{ps:List Str}{sp:Sp}{E:XK}{Q:VK}{us:List Value}{vs:List V}(h:H c=some (.ext p))(F:FnOk X.prog X.w X.K X.mg (Aq s.heap (del H c) (frs X.stack)) CX k f fd ps sp)(hr:Room k X.A)(hb:Binds X.K fd ps [])(hx:Passes CX X E)
  (I:Inv X z0 Y H s) (hfr:c∉frs X.stack) (r:Vals vs us) (hsp:sp vs (del H c) (fun v H2=>H2 c=none->Q v (upd H2 c (.ext p))) E):wpAny (model X.prog X.w) X.A (call (.ref f) us) (EP X z0 Y Q) X.xe s:=by
 have J:=I.untrack h
 have hl:us.length=ps.length:=by rw[<- r.length];exact F.len _ _ _ _ hsp
 have hb':=hb s us I.kIn (by rw[F3z];exact hl)
 rw[F3z] at hb';refine wpAny_call (O4z (F.run X.A X.stack s (del H c) ⟨us,[]⟩ us vs _ E hr J.env0Big hb' r hsp) fun r s' hq=>?_)
 cases r with
 | error e=>exact hx z0 Y (del H c) s e s' J hq
 | ok fl =>
  cases fl with
  | ret u =>
   obtain⟨v,H2,os,bare,un,hok,rv,q⟩:=hq;obtain⟨pc,⟨oc,eo⟩,st⟩:=I.hok c _ h;have hn2:H2 c=none:=un.free c oc eo iU (by simp);have e2:s'.heap.get? c=some oc:=un.keep c oc eo iU hfr (by simp)
   have kp:∀ b o,H2 b=some o->upd H2 c (.ext p) b=some o:=fun b o e=>by rw[aj (ak e hn2)];exact e
   refine⟨v,upd H2 c (.ext p),I.call' (s':=s') (ch:=[]) os ⟨fun b o q n=>un.keep b o q (d7 n),fun b o q n=>un.slot b o q (d7 n),fun b o q n hx=>?_,un.there,fun b xs q=>?_,fun b o u q=>?_,fun b ps q=>?_⟩ (fun b u e=>?_) bare (fun b z=>absurd z (by simp)),rv,q hn2⟩
   .rw[aj fun z=>by rw[z,h] at n;cases n]
    exact un.free b o q (d7 n) hx
   .exact kp _ _ (un.tups b xs (by rw[fV fun z=>by rw[z,h] at q;cases q];exact q))
   .exact kp _ _ (un.frzs b o u (by rw[fV fun z=>by rw[z,h] at q;cases q];exact q))
   .obtain⟨more,e⟩:=un.tbls b ps (by rw[fV fun z=>by rw[z,h] at q;cases q];exact q)
    exact⟨more,kp _ _ e⟩
   .by_cases hb:b=c
    .subst hb;rw[aB] at e;cases e
     exact⟨st s.heap s'.heap pc fun o q=>by rw[eo] at q;cases q;exact e2,⟨oc,e2⟩,st⟩
    .rw[aj hb] at e
     exact(hok b u e).stay (fun _ v _ q=>q) (fun d q=>kp _ _ q) fun d xs q=>kp _ _ q
  | next=>exact False.elim hq
  | brk=>exact False.elim hq
  | cont=>exact False.elim hq
end
abbrev noArgs:Arguments:=⟨[],[],none,[],[],none,[]⟩
theorem uH{K:Z3}{qual:Str}{body:Expr}{scope:Scope}{cl:List (Str×Addr)}{pm cdv ct:Value}:Binds K (W.kla_fn "<lambda>" qual noArgs body scope cl pm cdv ct) [] []:=.all fun us hl=>by
 have:us=[]:=List.length_eq_zero_iff.mp hl;subst this;rfl
def qu(lsc:Scope):List Str:=(lsc.names.filter fun p=>p.2==.free).map (·.1)
def eU(lsc:Scope)(U:Rho):Rho:=(qu lsc).map fun x=>(x,Ks (U.lookup x))
def Zh:Option Sl->Bool
 | some (.sh _)=>true
 | _=>false
def rY(sc lsc:Scope)(U:Rho):Bool :=
 lsc.kind==.function && !lsc.isCoroutine && !lsc.isGenerator&&kZ (lsc.names.map (·.1))&&kZ (qu lsc)&&lsc.names.all fun p=>p.2 !=.cell&&(p.2 !=.free||(sc.names.lookup p.1==some .cell&&Zh (U.lookup p.1)))
structure LamOk (sc lsc:Scope) (U:Rho):Prop where
 kind:lsc.kind=.function
 co:lsc.isCoroutine=false
 gen:lsc.isGenerator=false
 nd:(lsc.names.map (·.1)).Nodup
 ndf:(qu lsc).Nodup
 own:∀ x∈lsc.names,x.2≠.cell
 fr:∀ x,(x,NameKind.free)∈lsc.names->sc.names.lookup x=some .cell/\∃ d,U.lookup x=some (.sh d)
theorem Di{sc lsc:Scope}{U:Rho}(h:rY sc lsc U=true):LamOk sc lsc U:=by
 unfold rY at h;simp only[U2z] at h;obtain⟨⟨⟨⟨⟨h1,h2⟩,h3⟩,h4⟩,h5⟩,h6⟩:=h;refine⟨by simpa using h1,by simpa using h2,by simpa using h3,fO h4,fO h5,fun x hx=>?_,fun x hx=>?_⟩
 .have:=A3z.mp h6 x hx
  rw[U2z] at this;simpa using this.1
 .have:=A3z.mp h6 _ hx
  rw[U2z,N3z,U2z] at this;rcases this.2 with z | ⟨z1,z2⟩
  .simp at z
  .refine⟨by simpa using z1,?_⟩
   unfold Zh at z2;split at z2
   .rename_i d e;exact⟨d,e⟩
   .cases z2
theorem uE{lsc:Scope}{x:Str}:x∈qu lsc↔(x,NameKind.free)∈lsc.names:=by
 unfold qu;constructor
 .intro h
  obtain⟨⟨y,k⟩,h1,rfl⟩:=List.mem_map.mp h;obtain⟨h2,h3⟩:=List.mem_filter.mp h1
  have:k=.free:=by simpa using h3
  subst this;exact h2
 .intro h
  exact List.mem_map.mpr ⟨_,List.mem_filter.mpr ⟨h,by simp⟩,rfl⟩
theorem qH{K:Z3}{Hs:Hp}{U:Rho}{Y:St}{N:List Str}(hN:N=U.map (·.1))(hst:bJ K Hs U Y):∀ l:List Str,(∀ x∈l,∃ d,U.lookup x=some (.sh d)) ->
  ∃ ws:List V,ws.length=l.length/\(∀ (i:Nat) x v,l[i]?=some x->ws[i]?=some v->∃ j:Nat,N[j]?=some x/\Y[j]?=some (some v))/\bJ K Hs (l.map fun x=>(x,Ks (U.lookup x))) (ws.map some)
 | [],_=>⟨[],rfl,fun i x v h=>by simp at h,fun i x d h=>by simp at h⟩
 | y::l,h=>by
  obtain⟨ws,h1,h2,h3⟩:=qH hN hst l fun x hx=>h x (S0z _ hx);obtain⟨d,hd⟩:=h y I1z;obtain⟨j,e1,e2⟩:=eO hd;obtain⟨v,e3,e4⟩:=hst j y d e1;refine⟨v::ws,by simp[h1],fun i x v' a1 a2=>?_,fun i x d' a1=>?_⟩
  .cases i with
   | zero =>
    simp at a1 a2;subst a1 a2;exact⟨j,by rw[hN,List.getElem?_map,e1];rfl,e3⟩
   | succ i=>exact h2 i x v' (by simpa using a1) (by simpa using a2)
  .cases i with
   | zero =>
    simp at a1;obtain⟨rfl,a2⟩:=a1;rw[hd] at a2;simp[Ks] at a2;subst a2;exact⟨v,rfl,e4⟩
   | succ i =>
    obtain⟨u,q1,q2⟩:=h3 i x d' (by simpa using a1);exact⟨u,by simpa using q1,q2⟩
structure LCx (X:Cx) (p:Addr×Str):Prop where
 lm:X.lm=some p
 qual:p.2=X.env.qual++"<lambda>"
 code:∃ c,X.env.code=.ref c/\W.CodeHd X.base c p.1
 bi:X.base.BuiltinsAt X.mg p.1
 glob:X.env.globals=mainGlobals
 fn:∀ x,X.fn x=true
def mY(P:Program)(w:World)(K:Z3)(mg:Str->Option Value)(kd:Nat)(exs:List Str)(cv:Str->Option D)(tn:Str):Prop :=
 (tn==("__debug__":Str))=false/\∃ a g dn,mg tn=some (.ref a)/\W.keepIn K (.ref a)=true/\Binds K g [dn] []/\∀ (base:Heap) (f:Addr) (fd:FuncData) (o:Obj) (Hs0:Hp) (c':Str) (d:D),exs.contains c'=true->cv c'=some d->FnOk P w K mg base (CX1 P w) kd f fd [] (spL K Hs0 c')->base.get? f=some o->o.data=.func fd->Binds K fd [] []->FnOk P w K mg base (CX1 P w) (kd+1) a g [dn] (spT K Hs0 f d)
section
variable {X:Cx} {U:Rho} {T:Pg} {F k:Nat} {sc:Scope}
theorem uX{z0:List (Addr×Obj)}{Y:St}{H:Hp}{s:Shared}(I:Inv X z0 Y H s)(hfn:∀ x,X.fn x=true){x:Str}{c:Addr}{v:Option Value}(hc:X.env.cells.lookup x=some c)(h:s.heap.IsCell c v):(Aq s.heap H (frs X.stack)).IsCell c v:=by
 obtain⟨o,h1,h2⟩:=h;refine⟨o,oU h1 (I.freeC x c hc) fun z=>?_,h2⟩;rcases H4z.mp (I.stkSub c z) with e | e
 .exact I.cne x c hc e
 .obtain⟨_,o',ho,_⟩:=I.ok.funs.mem e
  exact absurd (G1z (J4z ho) (I.ok.cab x c (hfn x) hc)) (Y3z _)
end
end L2
namespace DE
open PySem
def toldOf:Expr->Option (Str×Expr×Scope)
 | .Call (.Name tn _) [.Lambda ⟨[],[],none,[],[],none,[]⟩ body lsc _] [] _=>some (tn,body,lsc)
 | _=>none
end DE
namespace L2
open PySem PySem.Spec PyProof.Rows
open DE hiding st
theorem wU{e:Expr}{tn:Str}{body:Expr}{lsc:Scope}(h:toldOf e=some (tn,body,lsc)):∃ pp lp cp,e=.Call (.Name tn pp) [.Lambda noArgs body lsc lp] [] cp:=by
 unfold toldOf at h;split at h
 .cases h;exact⟨_,_,_,rfl⟩
 .cases h
structure LamP where
 tn:Str
 cv:Str->Option D
section
variable {X:Cx} {U:Rho} {T:Pg} {F k:Nat} {sc:Scope} {Hs0 H0:Hp} {L:LamP} {p:Addr×Str}
end
abbrev Cx.relm(X:Cx)(q:Option (Addr×Str)):Cx:={ X with lm:=q }
section
variable {X:Cx} {z0:List (Addr×Obj)} {Y:St} {H:Hp} {s:Shared} {q:Option (Addr×Str)}
theorem Inv.relm(I:Inv X z0 Y H s)(q:Option (Addr×Str)):Inv (X.relm q) z0 Y H s :=
 ⟨⟨I.ok.mod,I.ok.kind,I.ok.glob,I.ok.blt,I.ok.above,I.ok.inj,I.ok.has,I.ok.cab,I.ok.hd,I.ok.frames,I.ok.stk,I.ok.exf,I.ok.bs,I.ok.bsz,I.ok.noex,I.ok.exfs,I.ok.funs,I.ok.frf⟩,I.os,I.bare,I.base,I.loc,I.cell,I.free,I.freeC,I.pin,I.hok,I.len⟩
theorem Inv.unrelm(I:Inv (X.relm q) z0 Y H s):Inv X z0 Y H s :=
 ⟨⟨I.ok.mod,I.ok.kind,I.ok.glob,I.ok.blt,I.ok.above,I.ok.inj,I.ok.has,I.ok.cab,I.ok.hd,I.ok.frames,I.ok.stk,I.ok.exf,I.ok.bs,I.ok.bsz,I.ok.noex,I.ok.exfs,I.ok.funs,I.ok.frf⟩,I.os,I.bare,I.base,I.loc,I.cell,I.free,I.freeC,I.pin,I.hok,I.len⟩
theorem SP.unrelm{D:Ends}{f:Flow}(h:SP (X.relm q) z0 D f s):SP X z0 D f s:=by
 cases f with
 | next=>obtain⟨Y',H',I,z⟩:=h;exact⟨Y',H',I.unrelm,z⟩
 | brk=>obtain⟨Y',H',I,z⟩:=h;exact⟨Y',H',I.unrelm,z⟩
 | cont=>obtain⟨Y',H',I,z⟩:=h;exact⟨Y',H',I.unrelm,z⟩
 | ret u=>obtain⟨v,Y',H',I,r,z⟩:=h;exact⟨v,Y',H',I.unrelm,r,z⟩
end
section
variable {P:Program} {w:World} {K:Z3} {mg:Str->Option Value} {base:Heap} {T:DE.Pg} {F k:Nat}
def tX(K:Z3)(Pt:Addr):Sp:=fun vs H Q _=>∃ (a:Addr) (ns:List Int),vs=[.ref a]/\SqL K H a (ns.map V.int)/\ns.length<=63/\H Pt=some (jB Pt #[])/\∀ (H':Hp) (ps':Array Value),H' Pt=some (jB Pt ps')->Q (.bl true) H'
end
section
variable {P:Program} {w:World} {K:Z3} {mg:Str->Option Value} {T:DE.Pg} {F kd:Nat}
def Zo(T:DE.Pg)(F:Nat)(fd:Fd)(c:Str):Option D:=runC (T.cx (aR T F 0)) F fd.sc fd.body (bw fd [.exc c])
theorem wV{tn cls dn n:Str}{fdT fdC:Fd}{p1 p2 p3 np p4 p5 p6 p7 hp pos:Pos}(Tx:Text w K mg T)(hT:T.defs.lookup tn=some fdT)(hC:T.defs.lookup cls=some fdC)
  (hbody:fdT.body=[.Try [.Return (some (.Call (.Name dn p1) [] [] p2)) p3] [.ExceptHandler (some (.Name T.top np)) (some n) [.Return (some (.Call (.Name cls p4) [.Name n p5] [] p6)) p7] hp] [] [] pos])
  (hN:fdT.N=[dn,n]) (hps:fdT.ps=[dn]) (ld:fdT.sc.names.lookup dn=some .local) (ln:fdT.sc.names.lookup n=some .local) (lc:fdT.sc.names.lookup T.top=some .globalImplicit) (lcls:fdT.sc.names.lookup cls=some .globalImplicit)
  (pn:aH n=true) (pd:aH dn=true) (pc:aH T.top=true) (h1:fdC.ps.length=1) (hkd:1<=kd):mY P w K mg kd T.exs (Zo T F fdC) tn:=by
 have FA:=Tx.fns tn fdT hT;obtain⟨nm,t,a,g,m1,m2,m3,m4,m5⟩:=FA.ex;have FB:=Tx.fns cls fdC hC;obtain⟨nm',t',ac,gc,q1,q2,q3,q4,q5⟩:=FB.ex;have S:=FA.fs;rw[hN,hps,m5] at S;rw[hps] at m3;refine⟨FA.nd,a,g,dn,m1,m2.kp,m3,fun base f fd o Hs0 c' d hin hcv GD ho hd hb=>?_⟩;exact Gp m2 (m4.symm.trans hbody) S (m5▸ld) (m5▸ln) (m5▸lc) (m5▸lcls) Tx.exs hin pn pd pc FB.nd q1 q2.kp q3 (fun base=>Oq (k:=0) Tx q2 q4 q5 FB.fs h1 hcv) h1 GD hkd ho hd hb
end
end L2
namespace L2
open PySem PySem.Spec PyProof.Rows
theorem yO{P:Program}{w:World}{K:Z3}{mg mb:Str->Option Value}{k:Nat}{fa a c Pt:Addr}{fd:FuncData}{x:Str}{s₁:Shared}{vs:List Value}{ns:List Int}
  (KX:K.In s₁.heap) (hns:s₁.heap.Ns mainGlobals mg) (hb:s₁.heap.Ns builtinsNs mb) (hbb:∀ x:Str,x≠"__name__"->mb x=bootBuiltins x) (hlim:s₁.heap.NoLimit) (hg:s₁.gens = #[])
  (ha:s₁.heap.get? a=some { cls:=.type "list",data:=.seq vs.toArray }) (hi:IntsAre vs ns) (hl:ns.length<=63) (hr:Room k callerA)
  (hT:s₁.heap.get? Pt=some (W.tabObj #[])) (hKP:K.lookup Pt=none) (hC:W.CodeHd s₁.heap c Pt) (hbm:s₁.heap.BuiltinsAt mg Pt)
  (F:∀ base:Heap,K.In base->base.Ns mainGlobals mg->W.CodeHd base c Pt->base.BuiltinsAt mg Pt->FnOk P w K mg base CX0 k fa fd [x] (tX K Pt)) (hbind:∀ (s:Shared) (u:Value),BindsTo s fd ⟨[u],[]⟩ [(x,u)]) :
  codeAny (model P w) callerA (.call (.ref fa) ⟨[.ref a],[]⟩) (fun r s'=>r=.ok (.ret (.bool true))/\OldK s₁.heap s'.heap/\s'.os=s₁.os/\AllBare s'.gens) s₁:=by
 have rv:=pB hi;have lenV:=hi.length
 have naP:a≠Pt:=fun z=>by rw[z,hT] at ha;cases ha
 have core:∀ H0:Hp,Only H0->SqL K H0 a (ns.map V.int)->HOk P w H0 s₁.heap->(∀ b,H0 b≠none->b=a)->(H0 a≠none->K.lookup a=none) ->
   codeAny (model P w) callerA (.call (.ref fa) ⟨[.ref a],[]⟩) (fun r s'=>r=.ok (.ret (.bool true))/\OldK s₁.heap s'.heap/\s'.os=s₁.os/\AllBare s'.gens) s₁:=by
  intro H0 hO hS hok hA hK
  have h0P:H0 Pt=none:=by
   cases q:H0 Pt with
   | none=>rfl
   | some u=>exact absurd (hA Pt (by rw[q];simp)).symm naP
  have eP:(upd H0 Pt (jB Pt #[])) Pt=some (jB Pt #[]):=aB
  have hokH:HOk P w (upd H0 Pt (jB Pt #[])) s₁.heap:=fun b u e=>by
   by_cases hb:b=Pt
   .subst hb;rw[aB] at e;cases e;exact Ei hT
   .rw[aj hb] at e
    exact(hok b u e).stay (fun c v _ q=>q) (fun c q=>by rw[aj (ak q h0P)];exact q) fun c xs q=>by rw[aj (ak q h0P)];exact q
  have hSH:SqL K (upd H0 Pt (jB Pt #[])) a (ns.map V.int):=by
   rcases hS with(e | ⟨o,e⟩) | e
   .exact .inl (.inl (by rw[aj naP];exact e))
   .exact .inl (.inr ⟨o,by rw[aj naP];exact e⟩)
   .exact .inr e
  have noH:∀ {b:Addr},b≠Pt->b≠a->(upd H0 Pt (jB Pt #[])) b=none:=fun {b} h1 h2=>by
   rw[aj h1]
   cases q:H0 b with
   | none=>rfl
   | some u=>exact absurd (hA b (by rw[q];simp)) h2
  have un_of:∀ {b:Addr} {o:Obj},s₁.heap.get? b=some o->(upd H0 Pt (jB Pt #[])) b=none->(wz s₁.heap (upd H0 Pt (jB Pt #[]))).get? b=some o:=fun e n=>uJ e n;have nsK:∀ {b:Addr} {m:Str->Option Value},s₁.heap.Ns b m->(wz s₁.heap (upd H0 Pt (jB Pt #[]))).Ns b m:=fun {b m} ⟨o,es,ep,e,d,r⟩=>⟨o,es,ep,un_of e (noH (fun z=>by rw[z,hT] at e;cases e;cases d) (fun z=>by rw[z,ha] at e;cases e;cases d)),d,r⟩
  have hKb:K.In (wz s₁.heap (upd H0 Pt (jB Pt #[]))):=fun b o e=>un_of (KX b o e) (by
   have hbP:b≠Pt:=fun z=>by rw[z,hKP] at e;cases e
   rw[aj hbP]
   cases q:H0 b with
   | none=>rfl
   | some u =>
    have e':b=a:=hA b (by rw[q];simp)
    subst e'
    rw[hK (by rw[q];simp)] at e;cases e)
  have hM:Mod K mg (wz s₁.heap (upd H0 Pt (jB Pt #[]))):=⟨hKb,nsK hns,⟨mb,nsK hb,hbb⟩,let ⟨mc,h1,h2⟩:=hlim;⟨mc,nsK h1,h2⟩⟩
  have e0:Env0 P w K mg (wz s₁.heap (upd H0 Pt (jB Pt #[]))) callerA [] s₁ (upd H0 Pt (jB Pt #[])):=⟨rfl,hM,fun b o e=>yE e,Nat.le_of_eq (qp _ _),trivial,fun b hb=>absurd (show b∈([]:List Addr) from hb) (by simp),hokH,.of_eq hg⟩
  have hCb:W.CodeHd (wz s₁.heap (upd H0 Pt (jB Pt #[]))) c Pt:=by
   obtain⟨o,vs',file,tf,flags,tg,inF,text,tt,e1,e2,r⟩:=hC;exact⟨o,vs',file,tf,flags,tg,inF,text,tt,un_of e1 (noH r.2.2.2.2.2.2.2 (fun z=>by rw[z,ha] at e1;cases e1;exact absurd (show Value.type "list"=Value.type "code" from e2) (by decide))),e2,r⟩
  have hBb:(wz s₁.heap (upd H0 Pt (jB Pt #[]))).BuiltinsAt mg Pt:=by
   obtain⟨bm,ob,b1,b2,b3,b4,b5,b6,b7,b8⟩:=hbm;exact⟨bm,ob,b1,b2,b3,b4,un_of b5 (noH b4 (fun z=>by rw[z,ha] at b5;cases b5;exact absurd (show Value.type "list"=Value.type "module" from b6) (by decide))),b6,b7,b8⟩
  refine O4z ((F _ hKb (nsK hns) hCb hBb).run callerA [] s₁ _ ⟨[.ref a],[]⟩ [.ref a] [.ref a] (fun v H'=>v=.bl true/\∃ ps',H' Pt=some (jB Pt ps')) (fun _ _ _=>False) hr e0 (hbind s₁ (.ref a)) (.cons rfl .nil) ⟨a,ns,rfl,hSH,hl,eP,fun H' ps' e=>⟨rfl,ps',e⟩⟩) fun r s' h=>?_
  cases r with
  | error e=>exact False.elim h
  | ok fl =>
   cases fl with
   | next=>exact False.elim h
   | brk=>exact False.elim h
   | cont=>exact False.elim h
   | ret u =>
    obtain⟨v,H',os,bare,un,hok',r',q,ps',hps⟩:=h;subst q;obtain rfl:u=Value.bool true:=r'
    have keep:∀ b o,s₁.heap.get? b=some o->b≠Pt->s'.heap.get? b=some o:=fun b o e hbP=>by
     by_cases hba:b=a
     .subst hba
      rcases hO b with z | ⟨ob,xs,z⟩
      .exact un.keep b o e (by rw[aj hbP];exact z) (by intro z;exact absurd (show b∈([]:List Addr) from z) (by simp)) (by simp)
      .have z1:(upd H0 Pt (jB Pt #[])) b=some (.frz ob (.lst xs)):=by rw[aj hbP];exact z
       have z2:=un.frzs b ob _ z1;obtain⟨e1,_⟩:=hok b _ z;obtain⟨e2,_⟩:=hok' b _ z2;rw[e] at e1;cases e1;exact e2
     .exact un.keep b o e (noH hbP hba) (by intro z;exact absurd (show b∈([]:List Addr) from z) (by simp)) (by simp)
    have hPt:s'.heap.get? Pt=some (W.tabObj ps'):=(hok' Pt _ hps).1;refine⟨rfl,⟨fun b o e=>?_,fun b o e=>?_⟩,os,bare⟩
    .by_cases hbP:b=Pt
     .subst hbP
      rw[hT] at e;cases e
      exact .inr (.inl ⟨(hC.tab hT).isCodeTable,rfl,#[],ps',rfl,by rw[hPt];simp⟩)
     .exact .inl (keep b o e hbP)
    .by_cases hbP:b=Pt
     .subst hbP;exact⟨_,hPt⟩
     .exact⟨o,keep b o e hbP⟩
 cases hk:K.lookup a with
 | some o =>
  have e:=KX a o hk;rw[ha] at e;cases e;refine core (fun _=>none) (fun _=>.inl rfl) (.inr ⟨_,vs.toArray,_,hk,rfl,rfl,rfl,by rw[B2z,lenV];exact L4z hl (by decide),by simpa using rv⟩) (fun b u z=>by have z':(none:Option HO)=some u:=z;cases z') (fun b z=>absurd rfl z) fun z=>absurd rfl z
 | none =>
  refine core (fun b=>if b=a then some (.frz { cls:=.type "list",data:=.seq vs.toArray } (.lst (ns.map V.int))) else none) (fun b=>?_) (.inl (.inr ⟨{ cls:=.type "list",data:=.seq vs.toArray },L5z rfl⟩)) (fun b u z=>?_) (fun b z=>?_) fun _=>hk
  .by_cases hb:b=a
   .exact .inr ⟨_,_,L5z hb⟩
   .exact .inl (M5z hb)
  .by_cases hb:b=a
   .have z':=(L5z hb).symm.trans z
    cases z';subst hb;exact⟨ha,by rw[E3z];exact L4z hl (by decide),vs,_,rv,ha⟩
   .have z':=(M5z hb).symm.trans z
    cases z'
  .by_cases hb:b=a
   .exact hb
   .exact absurd (M5z hb) z
theorem walkL{l:W.OpenLaw}{k:Nat}{q:Program}{loose:List Str}{XP:(Str->Option Value)->Heap->Prop}{YP:World->Heap->Prop}{d:DefRec}{K:Params->Z3}{x:Str}{c Pt:Addr}
    (hn:l.most=some 63) (hdf:d.params.defaults=[]) (hr:Room k callerA)
    (hY:∀ (w:World) (h:Heap),YP w h->(K w.params).In h/\h.get? Pt=some (W.tabObj #[])) (hKP:∀ P,(K P).lookup Pt=none) (hKC:∀ P,W.codeHdIn (K P) c Pt=true)
    (F:∀ (w:World) (mg:Str->Option Value) (fa:Addr) (h:Heap),(K w.params).In h->h.Ns mainGlobals mg->mg d.name=some (.ref fa) ->
      ∃ fd : FuncData, (∀ (s : Shared) (u : Value), BindsTo s fd ⟨[u], []⟩ [(x, u)]) /\
        ∀ base:Heap,(K w.params).In base->base.Ns mainGlobals mg->W.CodeHd base c Pt->base.BuiltinsAt mg Pt->FnOk l.prog w (K w.params) mg base CX0 k fa fd [x] (tX (K w.params) Pt)) :
    W.WalkO q loose XP YP l.row.toRowW d [] (fun f vs=>PySem.call f vs):=by
  refine Att.tO hn hdf fun w s₀ s₁ mg mb fa o pm cd doc a vs ns G Y ho hd hcd hmg hobj hints hlen hg=>?_
  obtain⟨KX,hT⟩:=hY w _ Y
  obtain⟨fd,hb,hF⟩:=F w mg fa _ KX G.T.g hmg
  obtain⟨bm,ob,b1,b2,b3,b4,b5,b6⟩:=G.T.bmain
  have hbP:bm≠Pt:=fun z=>by rw[z,hT] at b3;cases b3;cases b4
  have hbG:bm≠mainGlobals:=fun z=>by
    obtain⟨o,es,ep,e,hd,_⟩:=G.T.g
    rw[z,e] at b3;cases b3;rw[hd] at b6;cases b6
  exact yO KX G.T.g G.T.b G.T.builtins G.T.nolimit hg hobj hints hlen hr hT (hKP _) (W.codeHd_of_K KX (hKC _)) ⟨bm,ob,b1,b2,hbG,hbP,b3,b4,b5,b6⟩ hF hb
end L2
namespace DE
open PySem
def Ls{α:Type}(m:Nat)(h:Nat->α):List α:=(List.range m).map h
theorem bZ{α:Type}{m:Nat}{h:Nat->α}:(Ls m h).length=m:=by simp[Ls]
theorem gP{α:Type}{m i:Nat}{h:Nat->α}(hi:i<m):(Ls m h)[i]?=some (h i):=by simp[Ls,hi]
theorem u6{α:Type}{m:Nat}{h g:Nat->α}(e:∀ i,i<m->h i=g i):Ls m h=Ls m g:=by
 unfold Ls;exact F1z fun i hi=>e i (List.mem_range.mp hi)
theorem O7{α β:Type}{m:Nat}{h:Nat->α}{f:α->β}:(Ls m h).map f=Ls m fun i=>f (h i):=by
 unfold Ls;rw[R4z];rfl
theorem qX{α:Type}{m:Nat}{h:Nat->α}:(Ls m h).reverse=Ls m fun i=>h (m-1-i):=by
 apply List.ext_getElem?;intro i
 by_cases hi:i<m
 .rw[List.getElem?_reverse (by rw[bZ];exact hi),bZ,gP hi,gP (by omega)]
 .rw[List.getElem?_eq_none (by rw[D1z,bZ];omega),List.getElem?_eq_none (by rw[bZ];omega)]
theorem O6{α β:Type}{m:Nat}{h:Nat->α}{g:Nat->β}:(Ls m h).zip (Ls m g)=Ls m fun i=>(h i,g i):=by
 apply List.ext_getElem?;intro i
 by_cases hi:i<m
 .rw[gP hi,List.getElem?_zip_eq_some]
  exact⟨gP hi,gP hi⟩
 .rw[List.getElem?_eq_none (by rw[Q3z,bZ,bZ];omega),List.getElem?_eq_none (by rw[bZ];omega)]
theorem oX{α:Type}{m:Nat}{h:Nat->α}:Ls (m+1) h=Ls m h++[h m]:=by
 unfold Ls;rw[List.range_succ,O3z];rfl
theorem Gf{m:Nat}{h:Nat->D}{j:Nat}(hj:j<m):atD (Ls m h) (j:Int)=some (h j):=by
 unfold atD ixD;rw[bZ,L5z (by omega),L5z (by omega)];simp[gP hj]
theorem jq{l:List D}{j:Nat}{d:D}(h:l[j]?=some d):atD l (j:Int)=some d:=by
 have hj:=(List.getElem?_eq_some_iff.mp h).1;unfold atD ixD;rw[L5z (by omega),L5z (by omega)];simpa using h
theorem xZ{n:Nat}:dW 0 (n:Int)=Ls n fun k=>.int k:=by
 unfold dW Ls;simp
def nmOf(cx:Cxt)(sc:Scope)(U:Rho)(x:Str):Option D:=if aH x then(match sc.names.lookup x with
    | some .local=>(match U.lookup x with | some (.sh d)=>some d | _=>none)
    | some .cell=>(match U.lookup x with | some (.sh d)=>some d | _=>none)
    | some .free=>(match U.lookup x with | some (.sh d)=>some d | _=>none)
    | some .globalImplicit=>cx.cst.lookup x
    | _=>none) else none
def cnOf(c:Const):Option D:=(match c with
    | .none=>some .non
    | .bool b=>some (.bl b)
    | .int i=>some (.int i)
    | .str x=>some (.str x)
    | _=>none)
section
variable {cx:Cxt} {n:Nat} {sc scope:Scope} {U:Rho} {a b c e:Expr} {es:List Expr} {p q:Pos} {x y z d:D} {ds:List D} {nm:Str} {op op':CmpOp}
theorem xName(h:nmOf cx sc U nm=some d):ev cx (n+1) sc U (.Name nm p)=some d:=h
theorem wG{k:Const}{j:Nat}(h:cnOf k=some d):ev cx (n+1) sc U (.Constant k j p)=some d:=h
theorem eE{o:Operator}(h1:ev cx n sc U a=some x)(h2:ev cx n sc U b=some y)(h:binop o x y=some d):ev cx (n+1) sc U (.BinOp a o b p)=some d:=by
 simp only[ev,h1,h2];exact h
theorem Qg{t:Bool}(h1:ev cx n sc U a=some (.bl t)):ev cx (n+1) sc U (.UnaryOp .Not a p)=some (.bl (!t)):=by
 simp only[ev,h1];rfl
theorem KJ(h1:ev cx n sc U a=some (.bl true)):ev cx (n+1) sc U (.UnaryOp .Not a p)=some (.bl false):=Qg h1
theorem Qf(h1:ev cx n sc U a=some (.bl false)):ev cx (n+1) sc U (.UnaryOp .Not a p)=some (.bl true):=Qg h1
theorem Zx{i:Int}(h1:ev cx n sc U a=some (.int i)):ev cx (n+1) sc U (.UnaryOp .USub a p)=some (.int (-i)):=by
 simp only[ev,h1];rfl
theorem vg(h1:ev cx n sc U a=some (.bl true))(h2:cN .And (ev cx n sc U) (b::es)=some d):cN .And (ev cx n sc U) (a::b::es)=some d:=by
 simp only[cN,h1];exact h2
theorem KQ(h1:ev cx n sc U a=some (.bl false)):cN .And (ev cx n sc U) (a::b::es)=some (.bl false):=by
 simp only[cN,h1];rfl
theorem Ph(h1:ev cx n sc U a=some (.bl false))(h2:cN .Or (ev cx n sc U) (b::es)=some d):cN .Or (ev cx n sc U) (a::b::es)=some d:=by
 simp only[cN,h1];exact h2
theorem Xe(h1:ev cx n sc U a=some (.bl true)):cN .Or (ev cx n sc U) (a::b::es)=some (.bl true):=by
 simp only[cN,h1];rfl
theorem Bg{o:BoolOp}(h1:ev cx n sc U a=some d):cN o (ev cx n sc U) [a]=some d:=h1
theorem jh{o:BoolOp}(h:cN o (ev cx n sc U) es=some d):ev cx (n+1) sc U (.BoolOp o es p)=some d:=h
theorem bC(h1:ev cx n sc U a=some x)(h2:ev cx n sc U b=some y)(h:cmpop op x y=some d):ev cx (n+1) sc U (.Compare a [op] [b] p)=some d:=by
 simp only[ev,h1,h2];exact h
theorem Qh(h1:ev cx n sc U a=some x)(h2:ev cx n sc U b=some y)(h:cmpop op x y=some (.bl true))(h3:ev cx n sc U c=some z)(h4:cmpop op' y z=some d)(hp:aG c=true:=by rfl):ev cx (n+1) sc U (.Compare a [op,op'] [b,c] p)=some d:=by
 simp only[ev,h1,h2,h3,hp];show((cmpop op x y).bind asB).bind _=_;rw[h];exact h4
theorem Pk(h1:ev cx n sc U c=some (.bl true))(h2:ev cx n sc U a=some d):ev cx (n+1) sc U (.IfExp c a b p)=some d:=by
 simp only[ev,h1];exact h2
theorem Pn(h1:ev cx n sc U c=some (.bl false))(h2:ev cx n sc U b=some d):ev cx (n+1) sc U (.IfExp c a b p)=some d:=by
 simp only[ev,h1];exact h2
theorem dG{f:Expr->Option D}:jH f []=some []:=rfl
theorem aK{f:Expr->Option D}(h1:f a=some x)(h2:jH f es=some ds):jH f (a::es)=some (x::ds):=by
 simp only[jH,h1,h2];rfl
theorem oY{j:Nat}(h1:jH (ev cx n sc U) es=some ds)(hz:szl ds.length=true):ev cx (n+1) sc U (.Tuple es j p)=some (.tup ds):=by
 simp only[ev,h1];show(if szl ds.length=true then _ else _)=_;rw[L5z hz]
theorem Xf(h1:jH (ev cx n sc U) es=some ds)(hz:szl ds.length=true):ev cx (n+1) sc U (.List es p)=some (.lst ds):=by
 simp only[ev,h1];show(if szl ds.length=true then _ else _)=_;rw[L5z hz]
theorem Gx{x:D}{i:Int}{xs:List D}(h:items x=some xs):Kr x (.int i)=atD xs i:=by cases x<;>simp[items] at h<;>subst h<;>rfl
theorem xIx{i:Int}{xs:List D}(h1:ev cx n sc U a=some x)(h2:ev cx n sc U b=some (.int i))(h3:items x=some xs)(h4:atD xs i=some d)(hs:aG b=true:=by rfl):ev cx (n+1) sc U (.Subscript a b p)=some d:=by
 simp only[ev,h1];show Option.bind _ _=_
 cases b<;>first | (simp[aG] at hs;done) | (simp only[h2];show Kr x (.int i)=some d;rw[Gx h3];exact h4)
theorem vf{y:D}(h1:ev cx n sc U a=some x)(h2:ev cx n sc U b=some y)(h:Kr x y=some d)(hs:aG b=true:=by rfl):ev cx (n+1) sc U (.Subscript a b p)=some d:=by
 simp only[ev,h1];show Option.bind _ _=_
 cases b<;>first | (simp[aG] at hs;done) | (simp only[h2];exact h)
theorem jf{B:String}(hg:bV cx sc nm=some B)(hw:Bo cx sc B es=.al)(hn:(B=="isinstance"||es.isEmpty)=false)(h1:jH (ev cx n sc U) es=some ds)(h:blt B ds=some d):ev cx (n+1) sc U (.Call (.Name nm q) es [] p)=some d:=by
 rw[Bool.or_eq_false_iff] at hn;unfold bV at hg;split at hg
 .rename_i hgl
  simp only[ev,hgl,hg,K5z];split
  .rename_i he;cases he;simp at hn
  .rename_i he;cases he
   simp only[hw,hn.2,h1,Q1z,I5z];exact h
  .rename_i he;cases he
 .cases hg
theorem xTv{xs:List D}(hg:bV cx sc nm=some "tuple")(hw:Bo cx sc "tuple" es=.tv a)(h1:ev cx n sc U a=some (.tup xs)):ev cx (n+1) sc U (.Call (.Name nm q) es [] p)=some (.tup xs.reverse):=by
 unfold bV at hg;split at hg
 .rename_i hgl
  simp only[ev,hgl,hg,K5z];split
  .rename_i he;exact absurd he (by decide)
  .rename_i he;cases he
   simp only[hw,h1];rfl
  .rename_i he;cases he
 .cases hg
def isFn(cx:Cxt)(sc:Scope)(nm:Str)(es:List Expr):Bool:=qZ cx sc nm&&(cx.blt.lookup nm).isNone&&cx.fns.contains nm && !es.isEmpty
theorem aY(hf:isFn cx sc nm es=true)(h1:jH (ev cx n sc U) es=some ds)(h:cx.call nm ds=some d):ev cx (n+1) sc U (.Call (.Name nm q) es [] p)=some d:=by
 unfold isFn at hf;rw[U2z,U2z,U2z] at hf;obtain⟨⟨⟨h2,h3⟩,h4⟩,h5⟩:=hf
 have h3':cx.blt.lookup nm=none:=by simpa using h3
 simp only[ev,h2,h3',h4,h5,F4z,K5z,h1];exact h
theorem wR1{tup:Bool}{j:Int}(hw:vh cx sc e=.r1 a)(h1:ev cx n sc U a=some (.int j))(hz:pN j=true):evI cx tup (ev cx n sc U) sc e=some (dW 0 j):=by
 unfold evI;rw[hw];simp only[h1,X2z,asI];show(if pN j=true then _ else _)=_;rw[L5z hz]
theorem wZp{xs ys:List D}(hw:vh cx sc e=.zp a b)(h1:ev cx n sc U a=some (.tup xs))(h2:ev cx n sc U b=some (.tup ys)):evI cx true (ev cx n sc U) sc e=some ((xs.zip ys).map fun q=>.tup [q.1,q.2]):=by
 unfold evI;rw[hw];simp only[h1,h2,bind,X2z];rfl
theorem wRv{tup:Bool}{xs:List D}(hw:vh cx sc e=.rv a)(h1:ev cx n sc U a=some (.tup xs)):evI cx tup (ev cx n sc U) sc e=some xs.reverse:=by
 unfold evI;rw[hw];simp only[h1,X2z,tupI];rfl
theorem wSq{tup:Bool}{xs:List D}(hw:vh cx sc e=.sq)(h1:ev cx n sc U e=some x)(h2:items x=some xs):evI cx tup (ev cx n sc U) sc e=some xs:=by
 unfold evI;rw[hw];simp only[h1,X2z];exact zj h2
theorem bK{f:D->Option (Option D)}{h g:Nat->D}:∀ {m:Nat},(∀ i,i<m->f (h i)=some (some (g i)))->bQ f (Ls m h)=some (Ls m g):=by
 have key:∀ (l:List Nat),(∀ i∈l,f (h i)=some (some (g i)))->bQ f (l.map h)=some (l.map g):=by
  intro l
  induction l with
  | nil=>intro _;rfl
  | cons i r ih =>
   intro hi;simp only[A4z,bQ,hi i I1z,ih fun j hj=>hi j (S0z _ hj)];rfl
 intro m hm;exact key _ fun i hi=>hm i (List.mem_range.mp hi)
def cF(cx:Cxt)(n:Nat)(sc scope:Scope)(U:Rho)(tg elt:Expr)(ifs:List Expr):D->Option (Option D):=fun d=>do
 let U1 <- gJ scope tg d (cG scope U)
 let b <- lZ (ev cx n (pR scope sc) U1) ifs
 if b then(ev cx n (pR scope sc) U1 elt).map some else some none
theorem jc{tg elt:Expr}{U1:Rho}(h1:gJ scope tg x (cG scope U)=some U1)(h2:ev cx n (pR scope sc) U1 elt=some d):cF cx n sc scope U tg elt [] x=some (some d):=by
 simp only[cF,h1,lZ];show Option.map some (ev cx n (pR scope sc) U1 elt)=_;rw[h2];rfl
theorem J6{tg elt:Expr}{U1:Rho}{t:Bool}(h1:gJ scope tg x (cG scope U)=some U1)(h3:ev cx n (pR scope sc) U1 c=some (.bl t))(h2:ev cx n (pR scope sc) U1 elt=some d):cF cx n sc scope U tg elt [c] x=some (if t then some d else none):=by
 simp only[cF,h1,lZ,h3,h2,bind,X2z,asB]
 cases t<;>rfl
theorem gQ{tg elt iter:Expr}{ifs:List Expr}{l out:List D}(hok:iW sc scope=true)(hI:evI cx (dX tg) (ev cx n sc U) sc iter=some l)(hz:szl l.length=true)(hgo:bQ (cF cx n sc scope U tg elt ifs) l=some out) :
  ev cx (n+1) sc U (.ListComp elt [⟨tg,iter,ifs,0⟩] scope p)=some (.lst out):=by
 simp only[ev,hok,hI];show(if szl l.length=true then(bQ (cF cx n sc scope U tg elt ifs) l).bind (fun out=>some (D.lst out)) else none)=some (D.lst out);rw[L5z hz,hgo];rfl
variable {F:Nat} {f:Rho->Stmt->Option Fl} {r:List Stmt} {fl:Fl} {m:Nat}
abbrev blk(cx:Cxt)(F m:Nat)(sc:Scope):List Stmt->Rho->Option Fl:=jO (fun U s=>st cx F m sc U s)
theorem iM:blk cx F m sc [] U=some (.nxt U):=rfl
def wW(cx:Cxt)(F m:Nat)(sc:Scope)(r:List Stmt):Fl->Option Fl
 | .ret d=>some (.ret d)
 | .nxt U'=>blk cx F m sc r U'
theorem gSt{s:Stmt}{fl1:Fl}(h:st cx F m sc U s=some fl1)(k:wW cx F m sc r fl1=some fl):blk cx F m sc (s::r) U=some fl:=by
 show(st cx F m sc U s).bind _=_;rw[h]
 cases fl1<;>exact k
theorem fB(h:ev cx F sc (frz F e U) e=some d):blk cx F (m+1) sc (.Return (some e) p::r) U=some (.ret d):=by
 refine gSt (fl1:=.ret d) ?_ rfl;simp only[st,h];rfl
theorem jJ{px:Pos}(ho:(ownIn sc nm&&(U.map (·.1)).contains nm)=true)(h:ev cx F sc (frz F e U) e=some d)(k:blk cx F (m+1) sc r (fG (frz F e U) nm (nq e d))=some fl)(hoo:(ooE cx sc e&&Cw (frz F e U) nm)=false:=by rfl)(hno:(bU e && !oZ (frz F e U) nm)=false:=by rfl)(hle:Kz cx sc e=false:=by rfl)(hrd:rdA e=false:=by rfl):blk cx F (m+1) sc (.Assign [.Name nm px] e p::r) U=some fl:=by
 refine gSt (fl1:=.nxt _) ?_ k;simp only[st,h,L5z ho,hoo,hno,hle,hrd,Bool.false_and,Q1z,I5z];rfl
theorem gTup{es:List Expr}{j:Nat}{U':Rho}{l:List D}(hs:(swp sc es e).isSome=true)(h:ev cx F sc (frz F e U) e=some d)(hl:tupI d=some l)(hb:bindNames sc es l (frz F e U)=some U')(k:blk cx F (m+1) sc r U'=some fl):blk cx F (m+1) sc (.Assign [.Tuple es j q] e p::r) U=some fl:=by
 refine gSt (fl1:=.nxt _) ?_ k;simp only[st,h,hs,Bool.true_or,K5z,hl,bind,X2z,hb,I3z]
def o8:Expr->Bool
 | .Call (.Name ..) _ _ _=>true
 | _=>false
theorem Bk(hx:o8 e=true)(h:ev cx F sc (frz F e U) e=some d)(k:blk cx F (m+1) sc r (frz F e U)=some fl):blk cx F (m+1) sc (.Expr e p::r) U=some fl:=by
 unfold o8 at hx;split at hx
 .refine gSt (fl1:=.nxt _) ?_ k
  simp only[st,h,I3z]
 .cases hx
theorem Zm{px ap cp:Pos}{M:Str}{ds:List D}(hx:(frz F e U).lookup nm=some (.ow ds))(ho:(ownIn sc nm&&aH nm&&ap.endLine==cp.line)=true)(hM:(M=="append")=true)(hz:szl (ds.length+1)=true)(h:ev cx F sc (frz F e U) e=some d)(k:blk cx F (m+1) sc r (fG (frz F e U) nm (.ow (ds++[d])))=some fl) :
  blk cx F (m+1) sc (.Expr (.Call (.Attribute (.Name nm px) M ap) [e] [] cp) p::r) U=some fl:=by
 refine gSt (fl1:=.nxt _) ?_ k;simp only[st,hx,ho,hM,hz,F4z,K5z,h,I3z]
theorem lG{A B:List Stmt}{fl1:Fl}(h:ev cx F sc (frz F c U) c=some (.bl true))(k:blk cx F m sc A U=some fl1)(k2:wW cx F (m+1) sc r fl1=some fl):blk cx F (m+1) sc (.If c A B p::r) U=some fl:=by
 refine gSt ?_ k2;have k':jO (fun U s=>st cx F m sc U s) A U=some fl1:=k;simp only[st,h,bind,X2z,asB,K5z,k']
theorem uL{A B:List Stmt}{fl1:Fl}(h:ev cx F sc (frz F c U) c=some (.bl false))(k:blk cx F m sc B U=some fl1)(k2:wW cx F (m+1) sc r fl1=some fl):blk cx F (m+1) sc (.If c A B p::r) U=some fl:=by
 refine gSt ?_ k2;have k':jO (fun U s=>st cx F m sc U s) B U=some fl1:=k;simp only[st,h,bind,X2z,asB,Q1z,I5z,k']
theorem fH{A:List Stmt}(h:ev cx F sc (frz F c U) c=some (.bl false))(k:blk cx F (m+1) sc r U=some fl):blk cx F (m+1) sc (.If c A [] p::r) U=some fl :=
 uL h iM k
theorem Dp{f:D->Rho->Option Fl}{h:Nat->D}{R:Nat->Rho}{N:Nat}(hs:∀ i,i<N->f (h i) (R i)=some (.nxt (R (i+1)))):eZ f (Ls N h) (R 0)=some (.nxt (R N)):=by
  have key:∀ (j i:Nat),i+j=N->eZ f ((List.range' i j).map h) (R i)=some (.nxt (R N)):=by
    intro j
    induction j with
    | zero => intro i hi; have : i = N := by omega
              subst this;rfl
    | succ j ih =>
      intro i hi
      rw[V2z,A4z]
      simp only[eZ,hs i (by omega)]
      exact ih (i+1) (by omega)
  have:=key N 0 (by omega)
  rw[<- List.range_eq_range'] at this
  exact this
def fF(cx:Cxt)(F m:Nat)(sc:Scope)(tg:Expr)(body:List Stmt):D->Rho->Option Fl:=fun d U=>do let U1 <- gJ sc tg d U;jO (fun U s=>st cx F m sc U s) body U1
theorem Dq{tg:Expr}{body:List Stmt}{U1:Rho}(h1:gJ sc tg d U=some U1)(h2:blk cx F m sc body U1=some fl):fF cx F m sc tg body d U=some fl:=by
 have h2':jO (fun U s=>st cx F m sc U s) body U1=some fl:=h2;simp only[fF,h1];exact h2'
theorem Zj{tg iter:Expr}{body:List Stmt}{l:List D}{fl1:Fl}(hI:evI cx (dX tg) (ev cx F sc (frz F iter U)) sc iter=some l)(hgo:eZ (fF cx F m sc tg body) l (frz F iter U)=some fl1)(k2:wW cx F (m+1) sc r fl1=some fl):blk cx F (m+1) sc (.For tg iter body [] p::r) U=some fl:=by
 refine gSt ?_ k2;have hgo':eZ (fun d U=>(gJ sc tg d U).bind fun U1=>jO (fun U s=>st cx F m sc U s) body U1) l (frz F iter U)=some fl1:=hgo;simp only[st,hI,bind,X2z,hgo']
abbrev cxN(P:Pg)(F k:Nat):Cxt:=⟨P.cst,P.blt,P.defs.map (·.1),P.exs,P.top,true,aU P F k,iZ P F k⟩
theorem Aa{P:Pg}{k:Nat}:P.cx (aR P F k)=cxN P F k:=by
 have e1:aU P F k=fun f ds=>Rs.val? (aR P F k f ds):=by funext f ds;exact gD
 have e2:iZ P F k=fun f ds=>Rs.exc? (aR P F k f ds):=by funext f ds;exact jW
 unfold cxN;rw[e1,e2];rfl
theorem fK{P:Pg}{k:Nat}{f:Str}{fd:Fd}(hf:P.defs.lookup f=some fd)(hl:(ds.length==fd.ps.length)=true)(h:blk (cxN P F k) F F fd.sc fd.body (bw fd ds)=some (.ret d)):aU P F (k+1) f ds=some d:=by
 have h':jO (fun U s=>st (cxN P F k) F F fd.sc U s) fd.body (bw fd ds)=some (.ret d):=h;rw[gD];simp only[lQ,hf,hl,K5z,qN,Aa,h',Rs.val?]
theorem Gm{P:Pg}{k:Nat}{f:Str}{fd:Fd}{U':Rho}(hf:P.defs.lookup f=some fd)(hl:(ds.length==fd.ps.length)=true)(h:blk (cxN P F k) F F fd.sc fd.body (bw fd ds)=some (.nxt U')):aU P F (k+1) f ds=some .non:=by
 have h':jO (fun U s=>st (cxN P F k) F F fd.sc U s) fd.body (bw fd ds)=some (.nxt U'):=h;rw[gD];simp only[lQ,hf,hl,K5z,qN,Aa,h',Rs.val?]
def tK(cx:Cxt)(F m:Nat)(sc:Scope)(l:List Stmt)(U:Rho)(c:Str):Prop:=jO (fun U s=>st cx F m sc U s) l U=none/\∃ U',j8 (fun U s=>st cx F m sc U s) (fun U s=>stx cx F m sc U s) l U=some (c,U')
theorem jC{P:Pg}{k:Nat}{f:Str}{fd:Fd}{c:Str}(hf:P.defs.lookup f=some fd)(hl:(ds.length==fd.ps.length)=true)(h:tK (cxN P F k) F F fd.sc fd.body (bw fd ds) c):iZ P F (k+1) f ds=some c/\aU P F (k+1) f ds=none:=by
 obtain⟨h1,U',h2⟩:=h;rw[jW,gD];simp only[lQ,hf,hl,K5z,qN,Aa,h1,h2,Rs.exc?,Rs.val?];trivial
theorem uY{s:Stmt}{U1:Rho}{c:Str}(h1:st cx F m sc U s=some (.nxt U1))(h2:tK cx F m sc r U1 c):tK cx F m sc (s::r) U c:=by
 obtain⟨h3,U',h4⟩:=h2;refine⟨?_,U',?_⟩
 .show(st cx F m sc U s).bind _=_
  rw[h1];exact h3
 .simp only[j8,h1];exact h4
theorem jX{s:Stmt}{U1:Rho}{c:Str}(h1:st cx F m sc U s=none)(h2:stx cx F m sc U s=some (c,U1)):tK cx F m sc (s::r) U c:=by
 refine⟨?_,U1,?_⟩
 .show(st cx F m sc U s).bind _=_
  rw[h1];rfl
 .simp only[j8,h1];exact h2
theorem iu{A B:List Stmt}{cn:Str}{np p1 cpos rp:Pos}{txt:Str}{j:Nat}(h:ev cx F sc (frz F c U) c=some (.bl true))(hr:(cx.rs&&qZ cx sc cn&&cx.exs.contains cn&&aH cn)=true) :
  tK cx F (m+2) sc (.If c (.Raise (some (.Call (.Name cn np) [.Constant (.str txt) j p1] [] cpos)) none rp::A) B p::r) U cn:=by
 refine jX (U1:=frz F c U) ?_ ?_
 .simp only[st,h,bind,X2z,asB,K5z]
  rfl
 .simp only[stx,h,X2z,asB,K5z,j8]
  simp only[st,L5z hr]
theorem Qd{cn:Str}(hx:o8 e=true)(h:ev cx F sc (frz F e U) e=none)(h2:evx cx F sc (frz F e U) e=some cn):tK cx F (m+1) sc (.Expr e p::r) U cn:=by
 refine jX (U1:=frz F e U) ?_ ?_
 .unfold o8 at hx
  split at hx
  .simp only[st,h,Option.map_none]
  .cases hx
 .unfold o8 at hx
  split at hx
  .simp only[stx,bU,Q1z,I5z,h2,I3z]
  .cases hx
theorem Qe{cn:Str}(h:ev cx F sc (frz F e U) e=none)(h2:evx cx F sc (frz F e U) e=some cn):tK cx F (m+1) sc (.Return (some e) p::r) U cn:=by
 refine jX (U1:=frz F e U) ?_ ?_
 .simp only[st,h,Option.map_none]
 .simp only[stx,h2,I3z]
theorem jZ{c:Str}(hf:(isFn cx sc nm es&&es.all aG)=true)(h1:jH (ev cx n sc U) es=some ds)(h:cx.callx nm ds=some c)(h0:cx.call nm ds=none):evx cx (n+1) sc U (.Call (.Name nm q) es [] p)=some c/\ev cx (n+1) sc U (.Call (.Name nm q) es [] p)=none:=by
 unfold isFn at hf;simp only[U2z] at hf;obtain⟨⟨⟨⟨h2,h3⟩,h4⟩,h5⟩,h6⟩:=hf
 have h3':cx.blt.lookup nm=none:=by simpa using h3
 constructor
 .simp only[evx,h2,h5,h6,h4,F4z,K5z,h1,h]
 .simp only[ev,h2,h3',K5z,h4,h5,F4z,h1,bind,X2z,h0]
end
abbrev row(n:Nat)(f:Nat->Int):D:=.tup (Ls n fun j=>.int (f j))
abbrev tbl(m n:Nat)(f:Nat->Nat->Int):D:=.tup (Ls m fun i=>.tup (Ls n fun j=>.int (f i j)))
def xg:Nat->(Nat->Int)->Int
 | 0,_=>0
 | n+1,f=>xg n f+f n
theorem Kg{f:Nat->Int}:∀ {n:Nat},oW (Ls n fun i=>D.int (f i))=some (Ls n f):=by
 have key:∀ l:List Nat,oW (l.map fun i=>D.int (f i))=some (l.map f):=by
  intro l
  induction l with
  | nil=>rfl
  | cons a r ih=>simp only[A4z,oW,ih];rfl
 intro n;exact key _
theorem El{f:Nat->Int}:∀ {n:Nat},(Ls n f).sum=xg n f
 | 0=>rfl
 | n+1=>by rw[oX,List.sum_append,El];simp[xg]
theorem bLen{n:Nat}{h:Nat->D}:blt "len" [.tup (Ls n h)]=some (.int n):=by
 show some (D.int ((Ls n h).length:Int))=_;rw[bZ]
theorem Zt{n:Nat}{f:Nat->Int}:blt "sum" [.lst (Ls n fun i=>.int (f i))]=some (.int (xg n f)):=by
 show(oW (Ls n fun i=>D.int (f i))).bind (fun is=>some (D.int is.sum))=_;rw[Kg,X2z,El]
theorem qU{l:List D}:blt "tuple" [.lst l]=some (.tup l):=rfl
theorem Ek{n:Nat}(h:n<=100000):szl n=true:=by unfold szl;exact U3z h
theorem iC{α:Type}{n:Nat}{h:Nat->α}(hn:n<=100000):szl (Ls n h).length=true:=by rw[bZ];exact Ek hn
theorem Z5{n:Nat}(h:n<=100000):pN (n:Int)=true:=by
 unfold pN;rw[U3z (by omega),U3z (by omega)];rfl
theorem oLe{i j:Int}(h:i<=j):cmpop .LtE (.int i) (.int j)=some (.bl true):=by
 show some (D.bl (decide (i<=j)))=_;rw[U3z h]
theorem oLt{i j:Int}(h:i<j):cmpop .Lt (.int i) (.int j)=some (.bl true):=by
 show some (D.bl (decide (i<j)))=_;rw[U3z h]
theorem M7{i j:Int}(h:¬ i<j):cmpop .Lt (.int i) (.int j)=some (.bl false):=by
 show some (D.bl (decide (i<j)))=_;rw[B3z h]
theorem Kv{i j:Int}(h:i=j):cmpop .Eq (.int i) (.int j)=some (.bl true):=by
 subst h;show some (D.bl (i==i))=_;rw[P2z]
theorem M8{i j:Int}(h:i≠j):cmpop .Eq (.int i) (.int j)=some (.bl false):=by
 show some (D.bl (i==j))=_;rw[C1z.mpr h]
theorem MP{i j:Int}(h:i=j):cmpop .NotEq (.int i) (.int j)=some (.bl false):=by
 subst h;show some (D.bl (!(i==i)))=_;rw[P2z];rfl
theorem Ge{i j:Int}(h:small i=true\/small j=true):binop .Mult (.int i) (.int j)=some (.int (i*j)):=by
 show(if(small i||small j||(mid i&&mid j))=true then _ else _)=_;rw[L5z (by rw[N3z,N3z];exact .inl h)]
theorem P0{i j:Int}(h:0<j):binop .Mod (.int i) (.int j)=some (.int (i%j)):=by
 show(if decide (0<j)=true then _ else _)=_;rw[L5z (U3z h)]
theorem bDiv{i j:Int}(h:0<j)(h':j<1073741824):binop .FloorDiv (.int i) (.int j)=some (.int (i / j)):=by
 show(if(decide (0<j)&&decide (j<1073741824))=true then _ else _)=_;rw[L5z (by rw[U3z h,U3z h'];rfl)]
mutual
theorem zV:∀ d:D,dep d<1000->deq d d=true
 | .non,_=>rfl
 | .bl b,_=>by simp[deq]
 | .int i,_=>by simp[deq]
 | .str x,_=>by simp[deq]
 | .tup xs,h=>by simp only[deq];exact oh xs (by simp only[dep] at h;omega)
 | .lst xs,h=>by simp only[deq];exact oh xs (by simp only[dep] at h;omega)
 | .exc c,h=>absurd h (by simp[dep])
 | .dic _ _,h=>absurd h (by simp[dep])
 | .obj _,h=>absurd h (by simp[dep])
theorem oh:∀ ds:List D,deps ds<1000->qz ds ds=true
 | [],_=>rfl
 | d::ds,h=>by
  simp only[deps] at h;simp only[qz,zV d (by omega),oh ds (by omega),F4z]
end
theorem oEq{x y:D}(h1:dep x<=50)(h2:dep y<=50)(hk:gA x y=true:=by rfl):cmpop .Eq x y=some (.bl (deq x y)):=by
 show(if(decide (dep x<=50)&&decide (dep y<=50)&&gA x y)=true then some (D.bl (deq x y)) else none)=_;rw[U3z h1,U3z h2,hk];rfl
theorem fX:∀ {xs ys:List D},(∀ x∈xs,∀ y∈ys,gA x y=true)->oH xs ys=true
 | [],_,_=>by simp[oH]
 | _::_,[],_=>by simp[oH]
 | x::xs,y::ys,h=>by
  rw[oH,h x (I1z ..) y (I1z ..),fX fun a ha b hb=>h a (S0z _ ha) b (S0z _ hb)];rfl
theorem oNe{x y:D}(h1:dep x<=50)(h2:dep y<=50)(hk:gA x y=true:=by rfl):cmpop .NotEq x y=some (.bl (!deq x y)):=by
 show(if(decide (dep x<=50)&&decide (dep y<=50)&&gA x y)=true then some (D.bl (!deq x y)) else none)=_;rw[U3z h1,U3z h2,hk];rfl
theorem lN{b:Nat}:∀ {l:List D},(∀ d∈l,dep d<=b)->deps l<=b
 | [],_=>V4z _
 | d::r,h=>by
  simp only[deps];exact Nat.max_le.mpr ⟨h d I1z,lN fun e he=>h e (S0z _ he)⟩
theorem J2{n:Nat}{f:Nat->Int}:dep (row n f)<=1:=by
 simp only[dep]
 have:=lN (b:=0) (l:=Ls n fun j=>D.int (f j)) fun d hd=>by
  unfold Ls at hd;obtain⟨i,_,rfl⟩:=List.mem_map.mp hd;simp[dep]
 omega
theorem zZ{m n:Nat}{f:Nat->Nat->Int}:dep (tbl m n f)<=2:=by
 simp only[dep]
 have:=lN (b:=1) (l:=Ls m fun i=>D.tup (Ls n fun j=>D.int (f i j))) fun d hd=>by
  unfold Ls at hd;obtain⟨i,_,rfl⟩:=List.mem_map.mp hd;exact J2 (f:=f i)
 omega
section
variable {cx:Cxt} {n:Nat} {sc scope:Scope} {U:Rho} {a b c e:Expr} {es:List Expr} {p q:Pos} {x y z d:D} {ds:List D} {nm:Str}
theorem ZD{tup:Bool}{j:Nat}(hw:vh cx sc e=.r1 a)(h1:ev cx n sc U a=some (.int j))(hz:j<=100000):evI cx tup (ev cx n sc U) sc e=some (Ls j fun k=>.int k):=by
 rw[wR1 hw h1 (Z5 hz),xZ]
theorem Pq{m:Nat}{h g:Nat->D}(hw:vh cx sc e=.zp a b)(h1:ev cx n sc U a=some (.tup (Ls m h)))(h2:ev cx n sc U b=some (.tup (Ls m g))):evI cx true (ev cx n sc U) sc e=some (Ls m fun i=>.tup [h i,g i]):=by
 rw[wZp hw h1 h2,O6,O7]
theorem ZC{tup:Bool}{m:Nat}{h:Nat->D}(hw:vh cx sc e=.rv a)(h1:ev cx n sc U a=some (.tup (Ls m h))):evI cx tup (ev cx n sc U) sc e=some (Ls m fun i=>h (m-1-i)):=by
 rw[wRv hw h1,qX]
theorem Xg{tup:Bool}{xs:List D}(hw:vh cx sc e=.sq)(h1:ev cx n sc U e=some (.tup xs)):evI cx tup (ev cx n sc U) sc e=some xs:=wSq hw h1 rfl
theorem Zw{m:Nat}{h:Nat->D}(hg:bV cx sc nm=some "tuple")(hw:Bo cx sc "tuple" es=.tv a)(h1:ev cx n sc U a=some (.tup (Ls m h))):ev cx (n+1) sc U (.Call (.Name nm q) es [] p)=some (.tup (Ls m fun i=>h (m-1-i))):=by
 rw[xTv hg hw h1,qX]
theorem Pj{m j:Nat}{h:Nat->D}(h1:ev cx n sc U a=some (.tup (Ls m h)))(h2:ev cx n sc U b=some (.int j))(hj:j<m)(hs:aG b=true)(hd:h j=d):ev cx (n+1) sc U (.Subscript a b p)=some d:=hd▸xIx h1 h2 rfl (Gf hj) hs
theorem Zy{m:Nat}{h:Nat->D}(h1:ev cx n sc U a=some (.tup (Ls m h)))(h2:ev cx n sc U b=some (.int 0))(hj:0<m)(hs:aG b=true)(hd:h 0=d):ev cx (n+1) sc U (.Subscript a b p)=some d:=hd▸xIx h1 h2 rfl (Gf (j:=0) hj) hs
end
section
variable {cx:Cxt} {n:Nat} {sc scope:Scope} {U:Rho} {a b c e:Expr} {es:List Expr} {p q:Pos} {x y z d:D} {ds:List D} {nm:Str}
end
theorem oLeF{i j:Int}(h:¬ i<=j):cmpop .LtE (.int i) (.int j)=some (.bl false):=by
 show some (D.bl (decide (i<=j)))=_;rw[B3z h]
theorem oLeB{i j:Int}:cmpop .LtE (.int i) (.int j)=some (.bl (decide (i<=j))):=rfl
section
variable {cx:Cxt} {n:Nat} {sc scope:Scope} {U:Rho} {a b c e:Expr} {es:List Expr} {p q:Pos} {x y z d:D} {ds:List D} {nm:Str} {F m:Nat} {r:List Stmt} {fl:Fl} {op op':CmpOp}
theorem Qi(h1:ev cx n sc U a=some x)(h2:ev cx n sc U b=some y)(h:cmpop op x y=some (.bl false))(hp:aG c=true:=by rfl):ev cx (n+1) sc U (.Compare a [op,op'] [b,c] p)=some (.bl false):=by
 simp only[ev,hp,Bool.not_true,Q1z,I5z,h1,h2,bind,X2z,h,asB]
end
section
variable {cx:Cxt} {n:Nat} {sc scope:Scope} {U:Rho} {a b c e:Expr} {es:List Expr} {p q:Pos} {x y z d:D} {ds:List D} {nm:Str} {F m:Nat} {r:List Stmt} {fl:Fl}
end
section
variable {cx:Cxt} {n:Nat} {sc scope:Scope} {U:Rho} {a b c e:Expr} {p q:Pos}
end
theorem Kd{us vs:List D}(h:us.length+vs.length<=100000):binop .Add (.tup us) (.tup vs)=some (.tup (us++vs)):=by
 show(if szl (us.length+vs.length)=true then _ else _)=_;rw[L5z (Ek h)]
theorem W3{l:List D}{t:D->Bool}:blt "all" [.lst (l.map fun x=>.bl (t x))]=some (.bl (l.all t)):=by
 have key:∀ l:List D,qW (l.map fun x=>.bl (t x))=some (l.map t):=by
  intro l
  induction l with
  | nil=>rfl
  | cons a r ih=>simp only[A4z,qW,ih];rfl
 show(qW (l.map fun x=>.bl (t x))).bind (fun bs=>some (D.bl (bs.all id)))=_;rw[key,X2z,List.all_map];rfl
def nOw:Sl->Bool
 | .ow _=>false
 | .oo _=>false
 | _=>true
def jK(U:Rho):Bool:=U.all fun p=>nOw p.2
theorem iQ{F:Nat}{e:Expr}{U:Rho}(h:jK U=true):frz F e U=U:=by
 unfold frz
 conv=>rhs;rw[<- Y4z U]
 apply F1z;intro p hp;have:=A3z.mp h p hp;obtain⟨x,s⟩:=p
 cases s<;>first | rfl | simp[nOw] at this
theorem Af{U:Rho}{x:Str}(h:jK U=true):oZ U x=true:=by
 unfold oZ;rw[A3z];intro p hp;have:=A3z.mp h p hp;obtain⟨y,s⟩:=p
 cases s<;>first | (simp[nOw] at this;done) | simp[PX]
section
variable {cx:Cxt} {sc:Scope} {U:Rho} {c e:Expr} {p:Pos} {d:D} {nm:Str} {F m:Nat} {r:List Stmt} {fl:Fl}
theorem cSet{px:Pos}(hc:jK U=true)(ho:(ownIn sc nm&&(U.map (·.1)).contains nm)=true)(h:ev cx F sc U e=some d)(k:blk cx F (m+1) sc r (fG U nm (nq e d))=some fl)(hoo:(ooE cx sc e&&Cw U nm)=false:=by rfl)(hle:Kz cx sc e=false:=by rfl)(hrd:rdA e=false:=by rfl):blk cx F (m+1) sc (.Assign [.Name nm px] e p::r) U=some fl:=by
 refine jJ ho (by rw[iQ hc];exact h) ?_ (by rw[iQ hc];exact hoo) (by rw[iQ hc,Af hc];simp) hle hrd
 rw[iQ hc];exact k
theorem pY(h:bU e=false):ooE cx sc e=false:=by
 cases e<;>first | rfl | exact absurd h (by simp[bU])
theorem pL(h:bU e=false):nq e d=.sh d:=by
 unfold nq;split
 .rw[h];rfl
 .rfl
theorem WD{px:Pos}{U':Rho}(hf:frz F e U=U')(ho:(ownIn sc nm&&(U.map (·.1)).contains nm)=true)(hfr:bU e=false)(h:ev cx F sc U' e=some d)(k:blk cx F (m+1) sc r (fG U' nm (.sh d))=some fl)(hle:Kz cx sc e=false:=by rfl)(hrd:rdA e=false:=by rfl):blk cx F (m+1) sc (.Assign [.Name nm px] e p::r) U=some fl:=by
 refine jJ ho (by rw[hf];exact h) ?_ (by rw[pY hfr];rfl) (by rw[hfr];rfl) hle hrd
 rw[hf,pL hfr];exact k
theorem Dm{y:Str}{s:Sl}{U:Rho}:frz F e ((y,s)::U)=(match s with | .ow ds=>if fP F y e then(y,.sh (.lst ds)) else(y,.ow ds) | .oo dss=>if fP F y e then(y,.sh (.lst (dss.map .lst))) else(y,.oo dss) | s=>(y,s))::frz F e U:=by
 cases s<;>rfl
theorem Dn{y:Str}{s:Sl}{U:Rho}(h:nOw s=true):frz F e ((y,s)::U)=(y,s)::frz F e U:=by
 cases s<;>first | rfl | simp[nOw] at h
theorem Jx{y:Str}{ds:List D}{U:Rho}(h:fP F y e=true):frz F e ((y,.ow ds)::U)=(y,.sh (.lst ds))::frz F e U:=by
 show(if fP F y e=true then _ else _)::_=_;rw[L5z h];rfl
theorem Al{px:Pos}(hc:jK U=true)(ho:(ownIn sc nm&&(U.map (·.1)).contains nm)=true)(hfr:bU e=false)(h:ev cx F sc U e=some d)(k:blk cx F (m+1) sc r (fG U nm (.sh d))=some fl)(hle:Kz cx sc e=false:=by rfl)(hrd:rdA e=false:=by rfl):blk cx F (m+1) sc (.Assign [.Name nm px] e p::r) U=some fl:=cSet hc ho h (by rw[pL hfr];exact k) (by rw[pY hfr];rfl) hle hrd
end
theorem pA{cx:Cxt}{F m:Nat}{sc:Scope}{U:Rho}{e:Expr}{p:Pos}{r:List Stmt}{d:D}{cn:Str}(hx:o8 e=true)(h:ev cx F sc (frz F e U) e=some d)(h2:tK cx F (m+1) sc r (frz F e U) cn):tK cx F (m+1) sc (.Expr e p::r) U cn:=by
 refine uY ?_ h2;unfold o8 at hx;split at hx
 .simp only[st,h,I3z]
 .cases hx
theorem KH{cx:Cxt}{F m:Nat}{sc:Scope}{U:Rho}{e:Expr}{p:Pos}{r:List Stmt}{cn:Str}(hx:o8 e=true)(h:evx cx F sc (frz F e U) e=some cn/\ev cx F sc (frz F e U) e=none):tK cx F (m+1) sc (.Expr e p::r) U cn:=Qd hx h.2 h.1
theorem MN{a b:Nat}:cmpop .NotEq (.int a) (.int b)=some (.bl (decide (a≠b))):=by
 rw[oNe (by simp[dep]) (by simp[dep])]
 by_cases h:a=b
 .subst h;simp[deq]
 .simp[deq,h];omega
theorem Xn{d:D}(h:dep d<=50)(hk:gA d d=true):cmpop .NotEq d d=some (.bl false):=by
 rw[oNe h h hk,zV d (by omega)];rfl
theorem qD{α:Type}{f:D->Option (Option D)}{h g:α->D}:∀ {l:List α},(∀ x∈l,f (h x)=some (some (g x)))->bQ f (l.map h)=some (l.map g)
 | [],_=>rfl
 | x::l,q=>by
  simp only[A4z,bQ,q x I1z,bind,X2z,qD (l:=l) fun y hy=>q y (S0z _ hy),I3z]
def upd(f:Nat->Nat->Int)(a b:Nat)(v:Int):Nat->Nat->Int:=fun i j=>if i=a then(if j=b then v else f i j) else f i j
theorem Qj{cx:Cxt}{n:Nat}{sc:Scope}{U:Rho}{a:Expr}{es:List Expr}{nm c:Str}{q p:Pos}(hf:(isFn cx sc nm (a::es)&&(a::es).all aG)=true)(h:evx cx n sc U a=some c/\ev cx n sc U a=none):evx cx (n+1) sc U (.Call (.Name nm q) (a::es) [] p)=some c/\ev cx (n+1) sc U (.Call (.Name nm q) (a::es) [] p)=none:=by
 unfold isFn at hf;simp only[U2z] at hf;obtain⟨⟨⟨⟨h2,h3⟩,h4⟩,h5⟩,h6⟩:=hf
 have h3':cx.blt.lookup nm=none:=by simpa using h3
 have hm:jH (ev cx n sc U) (a::es)=none:=by simp only[jH,h.2,bind,Option.bind_none]
 have h6':(a::es).all aG=true:=by simpa using h6
 constructor
 .simp only[evx,h2,h5,h6',h4,F4z,K5z,hm,v7,h.2,h.1]
 .simp only[ev,h2,h3',K5z,h4,h5,F4z,hm,bind,Option.bind_none]
theorem wF{cx:Cxt}{F m:Nat}{sc:Scope}{U:Rho}{e:Expr}{p:Pos}{r:List Stmt}{cn:Str}(h:evx cx F sc (frz F e U) e=some cn/\ev cx F sc (frz F e U) e=none):tK cx F (m+1) sc (.Return (some e) p::r) U cn:=Qe h.2 h.1
theorem cTup{cx:Cxt}{sc:Scope}{U U':Rho}{e:Expr}{p q:Pos}{d:D}{F m j:Nat}{r:List Stmt}{fl:Fl}{es:List Expr}{l:List D}(hc:jK U=true)(hs:(swp sc es e).isSome=true)(h:ev cx F sc U e=some d)(hl:tupI d=some l)(hb:bindNames sc es l U=some U')(k:blk cx F (m+1) sc r U'=some fl):blk cx F (m+1) sc (.Assign [.Tuple es j q] e p::r) U=some fl:=gTup hs (by rw[iQ hc];exact h) hl (by rw[iQ hc];exact hb) k
end DE
namespace L2
open PySem PySem.Spec PyProof.Rows
open DE (D)
structure Cst where
 tabs:List (Str×D)
 don:List D
 und:List D
def qY(l:List (Str×D))(n:Str)(d:D):List (Str×D):=if(l.any fun p=>decide (p.1=n))=true then l.map (fun p=>if p.1=n then(p.1,d) else p) else l++[(n,d)]
def cQ(l:List (Str×D))(n:Str):List (Str×D):=l.filter fun p=>decide (p.1≠n)
def bR(l:List (Str×D))(n:Str):Option D:=(l.find? fun p=>decide (p.1=n)).map (·.2)
def KvR(K:Z3)(Hs:Hp):List (Str×D)->List (Key×V)->Prop
 | [],kvs=>kvs=[]
 | (n,d)::r,kvs=>∃ v q,kvs=(Sum.inr n,v)::q/\Rep K Hs d v/\KvR K Hs r q
section
variable {K:Z3} {Hs Hs' H H':Hp}
theorem KvR.same(e:Same Hs Hs'):∀ {l:List (Str×D)} {kvs:List (Key×V)},KvR K Hs l kvs->KvR K Hs' l kvs
 | [],_,h=>h
 | (n,d)::r,_,h=>by
  obtain⟨v,q,rfl,h1,h2⟩:=h;exact⟨v,q,rfl,h1.same e,KvR.same e h2⟩
theorem KvR.length:∀ {l:List (Str×D)} {kvs:List (Key×V)},KvR K Hs l kvs->kvs.length=l.length
 | [],_,h=>by cases h;rfl
 | (n,d)::r,_,h=>by
  obtain⟨v,q,rfl,h1,h2⟩:=h;simp[h2.length]
theorem KvR.keys:∀ {l:List (Str×D)} {kvs:List (Key×V)},KvR K Hs l kvs->kvs.map (·.1)=(l.map (·.1)).map Sum.inr
 | [],_,h=>by cases h;rfl
 | (n,d)::r,_,h=>by
  obtain⟨v,q,rfl,h1,h2⟩:=h;simp[h2.keys]
theorem KvR.append:∀ {l:List (Str×D)} {kvs:List (Key×V)} {n:Str} {d:D} {v:V},KvR K Hs l kvs->Rep K Hs d v->KvR K Hs (l++[(n,d)]) (kvs++[(Sum.inr n,v)])
 | [],_,n,d,v,h,r=>by cases h;exact⟨v,[],rfl,r,rfl⟩
 | (m,e)::l,_,n,d,v,h,r=>by
  obtain⟨u,q,rfl,h1,h2⟩:=h;exact⟨u,_,rfl,h1,h2.append r⟩
theorem qm{m n:Str}:((Sum.inr m:Key)=Sum.inr n)↔m=n:=⟨fun h=>by cases h;rfl,fun h=>by rw[h]⟩
theorem KvR.any{n:Str}:∀ {l:List (Str×D)} {kvs:List (Key×V)},KvR K Hs l kvs->(kvs.any fun kv=>decide (kv.1=(Sum.inr n:Key)))=(l.any fun p=>decide (p.1=n))
 | [],_,h=>by cases h;rfl
 | (m,e)::l,_,h=>by
  obtain⟨u,q,rfl,h1,h2⟩:=h;rw[E4z,E4z,h2.any];congr 1;exact decide_eq_decide.mpr qm
theorem KvR.repl{n:Str}{d:D}{v:V}(r:Rep K Hs d v):∀ {l:List (Str×D)} {kvs:List (Key×V)},KvR K Hs l kvs->KvR K Hs (l.map (fun p=>if p.1=n then(p.1,d) else p)) (kvs.map (fun kv=>if kv.1=(Sum.inr n:Key) then(kv.1,v) else kv))
 | [],_,h=>by cases h;rfl
 | (m,e)::l,_,h=>by
  obtain⟨u,q,rfl,h1,h2⟩:=h;rw[A4z,A4z]
  by_cases hm:m=n
  .rw[L5z hm,L5z (qm.mpr hm)]
   exact⟨v,_,rfl,r,KvR.repl r h2⟩
  .rw[M5z hm,M5z (fun z=>hm (qm.mp z))]
   exact⟨u,_,rfl,h1,KvR.repl r h2⟩
theorem KvR.put{l:List (Str×D)}{kvs:List (Key×V)}{n:Str}{d:D}{v:V}(h:KvR K Hs l kvs)(r:Rep K Hs d v):KvR K Hs (qY l n d) (putK kvs (Sum.inr n) v):=by
 unfold qY putK;rw[h.any];split
 .exact h.repl r
 .exact h.append r
theorem KvR.drop{n:Str}:∀ {l:List (Str×D)} {kvs:List (Key×V)},KvR K Hs l kvs->KvR K Hs (cQ l n) (sS kvs (Sum.inr n))
 | [],_,h=>by cases h;rfl
 | (m,e)::l,_,h=>by
  obtain⟨u,q,rfl,h1,h2⟩:=h;have ih:=KvR.drop (n:=n) h2;unfold cQ sS at ih ⊢
  by_cases hm:m=n
  .rw[G0z (by simpa using hm),G0z (by simpa using hm)]
   exact ih
  .rw[H0z (by simpa using hm),H0z (by simpa using hm)]
   exact⟨u,_,rfl,h1,ih⟩
theorem KvR.get{n:Str}:∀ {l:List (Str×D)} {kvs:List (Key×V)},KvR K Hs l kvs->(bR l n=none/\jk kvs (Sum.inr n)=none)\/∃ d v,bR l n=some d/\jk kvs (Sum.inr n)=some v/\Rep K Hs d v
 | [],_,h=>by cases h;exact .inl ⟨rfl,rfl⟩
 | (m,e)::l,_,h=>by
  obtain⟨u,q,rfl,h1,h2⟩:=h
  by_cases hm:m=n
  .refine .inr ⟨e,u,?_,iy (qm.mpr hm),h1⟩
   unfold bR;rw[List.find?_cons_of_pos (by simpa using hm)];rfl
  .rw[iz (fun z=>hm (qm.mp z))]
   have:bR ((m,e)::l) n=bR l n:=by
    unfold bR;rw[List.find?_cons_of_neg (by simpa using hm)]
   rw[this];exact h2.get
end
abbrev nT:Str:="tables"
abbrev nD:Str:="done"
abbrev nU:Str:="undone"
theorem n1:¬ (nT=nD):=by decide +kernel
theorem n2:¬ (nT=nU):=by decide +kernel
theorem n3:¬ (nD=nU):=by decide +kernel
abbrev fl1(d:Addr):List (Str×V):=[(nT,.ref d)]
abbrev fl2(d dn:Addr):List (Str×V):=[(nT,.ref d),(nD,.ref dn)]
abbrev o7(d dn un:Addr):List (Str×V):=[(nT,.ref d),(nD,.ref dn),(nU,.ref un)]
theorem put1(d dn:Addr):nH nD (.ref dn) (fl1 d)=fl2 d dn:=by
 show(if nT=nD then _ else _)=_;rw[M5z n1];rfl
theorem put2(d dn un:Addr):nH nU (.ref un) (fl2 d dn)=o7 d dn un:=by
 show(if nT=nU then _ else(nT,V.ref d)::(if nD=nU then _ else _))=_;rw[M5z n2,M5z n3];rfl
theorem put3(d dn un un':Addr):nH nU (.ref un') (o7 d dn un)=o7 d dn un':=by
 show(if nT=nU then _ else(nT,V.ref d)::(if nD=nU then _ else(nD,V.ref dn)::(if nU=nU then _ else _)))=_;rw[M5z n2,M5z n3,L5z rfl]
theorem rW(d dn un:Addr):(o7 d dn un).lookup nT=some (.ref d):=by rfl
theorem Nt(d dn un:Addr):(o7 d dn un).lookup nD=some (.ref dn):=by rfl
theorem Wr(d dn un:Addr):(o7 d dn un).lookup nU=some (.ref un):=by rfl
structure CRep (K:Z3) (C:Addr) (Hs H:Hp) (p d dn un:Addr) (S:Cst):Prop where
 ob:∃ dx,H p=some (.ins C dx (o7 d dn un))
 dc:∃ kvs,H d=some (.dK kvs)/\KvR K Hs S.tabs kvs
 dl:∃ vs,H dn=some (.lst vs)/\aJ K Hs S.don vs
 ul:∃ vs,H un=some (.lst vs)/\aJ K Hs S.und vs
 ne:dn≠un
 hp:Hs p=none
 hd:Hs d=none
 hn:Hs dn=none
 hu:Hs un=none
structure ExtM (p d dn un un':Addr) (Hs H Hs' H':Hp):Prop where
 vis:Same Hs Hs'
 all:∀ b o,H b=some o->b≠p->b≠d->b≠dn->b≠un->H' b=some o
 sub:Same Hs' H'
 hid:∀ b o,H b=some o->b≠p->b≠d->b≠dn->b≠un->Hs b=none->Hs' b=none
 nu:un'=un\/H un'=none
theorem cB{H H1:Hp}(E:Same H H1){b:Addr}(z:H1 b=none):H b=none:=by
 cases q:H b with
 | none=>rfl
 | some o=>rw[E _ _ q] at z;cases z
section
variable {K:Z3} {C:Addr} {Hs H Hs1 H1 Hs2 H2:Hp} {p d dn un un1 un2:Addr} {S:Cst}
theorem CRep.ext(S0:CRep K C Hs H p d dn un S)(E:Ext Hs H Hs1 H1):CRep K C Hs1 H1 p d dn un S:=by
 obtain⟨⟨dx,a1⟩,⟨kvs,b1,b2⟩,⟨vs,c1,c2⟩,⟨us,d1,d2⟩,e,f1,f2,f3,f4⟩:=S0;exact⟨⟨dx,E.all _ _ a1⟩,⟨kvs,E.all _ _ b1,b2.same E.vis⟩,⟨vs,E.all _ _ c1,aJ.same E.vis _ _ c2⟩,⟨us,E.all _ _ d1,aJ.same E.vis _ _ d2⟩,e,E.hid _ _ a1 f1,E.hid _ _ b1 f2,E.hid _ _ c1 f3,E.hid _ _ d1 f4⟩
theorem ExtM.of(E:Ext Hs H Hs1 H1):ExtM p d dn un un Hs H Hs1 H1:=⟨E.vis,fun b o e _ _ _ _=>E.all b o e,E.sub,fun b o e _ _ _ _=>E.hid b o e,.inl rfl⟩
theorem ExtM.trans(M:ExtM p d dn un un1 Hs H Hs1 H1)(N:ExtM p d dn un1 un2 Hs1 H1 Hs2 H2)(hu:un2=un1\/H un2=none\/un2=un):ExtM p d dn un un2 Hs H Hs2 H2:=by
 have nu:∀ b o,H b=some o->b≠un->b≠un1:=fun b o e h z=>by
  rcases M.nu with q | q
  .exact h (z.trans q)
  .rw[z,q] at e;cases e
 refine⟨M.vis.trans N.vis,fun b o e a1 a2 a3 a4=>N.all b o (M.all b o e a1 a2 a3 a4) a1 a2 a3 (nu b o e a4),N.sub,fun b o e a1 a2 a3 a4 n=>N.hid b o (M.all b o e a1 a2 a3 a4) a1 a2 a3 (nu b o e a4) (M.hid b o e a1 a2 a3 a4 n),?_⟩;rcases hu with h | h | h
 .rw[h];exact M.nu
 .exact .inr h
 .exact .inl h
theorem ExtM.pre(E:Ext Hs H Hs1 H1)(M:ExtM p d dn un un2 Hs1 H1 Hs2 H2):ExtM p d dn un un2 Hs H Hs2 H2:=by
 refine(ExtM.of E).trans M ?_;rcases M.nu with z | z
 .exact .inl z
 .exact .inr (.inl (cB E.all z))
theorem CRep.npd(S0:CRep K C Hs H p d dn un S):p≠d:=by obtain⟨⟨dx,a1⟩,⟨kvs,b1,b2⟩,_⟩:=S0;exact qb a1 b1 (by intro z;cases z)
theorem CRep.npn(S0:CRep K C Hs H p d dn un S):p≠dn:=by obtain⟨⟨dx,a1⟩,_,⟨vs,b1,b2⟩,_⟩:=S0;exact qb a1 b1 (by intro z;cases z)
theorem CRep.npu(S0:CRep K C Hs H p d dn un S):p≠un:=by obtain⟨⟨dx,a1⟩,_,_,⟨vs,b1,b2⟩,_⟩:=S0;exact qb a1 b1 (by intro z;cases z)
theorem CRep.ndn(S0:CRep K C Hs H p d dn un S):d≠dn:=by obtain⟨_,⟨dx,a1,_⟩,⟨vs,b1,b2⟩,_⟩:=S0;exact qb a1 b1 (by intro z;cases z)
theorem CRep.ndu(S0:CRep K C Hs H p d dn un S):d≠un:=by obtain⟨_,⟨dx,a1,_⟩,_,⟨vs,b1,b2⟩,_⟩:=S0;exact qb a1 b1 (by intro z;cases z)
theorem sH{a:Addr}{o:HO}(hs:Same Hs H)(ha:a=d\/a=dn\/a=un)(n:Hs a=none):ExtM p d dn un un Hs H Hs (upd H a o):=by
 refine⟨.refl _,fun b u e a1 a2 a3 a4=>?_,fun b u e=>?_,fun _ _ _ _ _ _ _ z=>z,.inl rfl⟩
 .rw[aj (by rcases ha with h | h | h<;>rw[h]<;>assumption)];exact e
 .rw[aj (fun z=>by rw[z,n] at e;cases e)];exact hs b u e
theorem CRep.setD{t:List (Str×D)}{kvs:List (Key×V)}(S0:CRep K C Hs H p d dn un S)(r:KvR K Hs t kvs):CRep K C Hs (upd H d (.dK kvs)) p d dn un { S with tabs:=t }:=by
 have h1:=S0.npd;have h2:=S0.ndn;have h3:=S0.ndu
 obtain⟨⟨dx,a1⟩,⟨ks,b1,b2⟩,⟨vs,c1,c2⟩,⟨us,d1,d2⟩,e,f1,f2,f3,f4⟩:=S0;exact⟨⟨dx,by rw[aj h1];exact a1⟩,⟨kvs,aB,r⟩,⟨vs,by rw[aj h2.symm];exact c1,c2⟩,⟨us,by rw[aj h3.symm];exact d1,d2⟩,e,f1,f2,f3,f4⟩
theorem CRep.setN{l:List D}{vs:List V}(S0:CRep K C Hs H p d dn un S)(r:aJ K Hs l vs):CRep K C Hs (upd H dn (.lst vs)) p d dn un { S with don:=l }:=by
 have h1:=S0.npn;have h2:=S0.ndn
 obtain⟨⟨dx,a1⟩,⟨ks,b1,b2⟩,⟨vs,c1,c2⟩,⟨us,d1,d2⟩,e,f1,f2,f3,f4⟩:=S0;exact⟨⟨dx,by rw[aj h1];exact a1⟩,⟨ks,by rw[aj h2];exact b1,b2⟩,⟨_,aB,r⟩,⟨us,by rw[aj e.symm];exact d1,d2⟩,e,f1,f2,f3,f4⟩
theorem CRep.newU{dx:Addr}(hs:Same Hs H)(S0:CRep K C Hs H p d dn un S)(hu:H un1=none):CRep K C Hs (upd (upd H un1 (.lst [])) p (.ins C dx (o7 d dn un1))) p d dn un1 { S with und:=[] }/\ExtM p d dn un un1 Hs H Hs (upd (upd H un1 (.lst [])) p (.ins C dx (o7 d dn un1))):=by
 have h1:=S0.npd;have h2:=S0.npn;have h3:=S0.npu
 obtain⟨⟨dx',a1⟩,⟨ks,b1,b2⟩,⟨vs,c1,c2⟩,⟨us,d1,d2⟩,e,f1,f2,f3,f4⟩:=S0;have k1:=ak a1 hu;have k2:=ak b1 hu;have k3:=ak c1 hu;refine⟨⟨⟨dx,aB⟩,⟨ks,by rw[aj h1.symm,aj k2];exact b1,b2⟩,⟨vs,by rw[aj h2.symm,aj k3];exact c1,c2⟩,⟨[],by rw[aj k1.symm,aB],.nil⟩,k3,f1,f2,f3,cB hs hu⟩,.refl _,fun b u q a1 a2 a3 a4=>?_,fun b u q=>?_,fun _ _ _ _ _ _ _ z=>z,.inr hu⟩
 .rw[aj a1,aj (ak q hu)];exact q
 .rw[aj (fun z=>by rw[z,f1] at q;cases q),aj (ak (hs _ _ q) hu)];exact hs b u q
end
end L2
namespace M81
open PySem L2 DE
def top(i:Nat):Stmt:=PySem.Challenge.pw_minortables_k81_whole_cases.main.body.getD i (.Pass ⟨0,0,0,0⟩)
def bf(t:Stmt):Fd:=⟨(bM t).args.map (·.arg),(bM t).args.map (·.arg)++(((ao t).names.filter fun p=>(p.2==.local||p.2==.cell) && !((bM t).args.map (·.arg)).contains p.1).map (·.1)),ao t,aL t⟩
noncomputable def cs:List (Str×D):=[("MOST_LINES",.int 4),("MOST_NUMBER",.int 99),("LETTERS",.str "abcdefghijklmnopqrstuvwxyz"),("MOST_LETTERS",.int 4)]
noncomputable def bl:List (Str×String):=[("len","len"),("all","all"),("sum","sum"),("tuple","tuple"),("list","list"),("dict","dict"),("int","int"),("bool","bool"),("str","str"),("isinstance","isinstance"),("range","range"),("zip","zip"),("reversed","reversed"),("sorted","sorted"),("ValueError","ValueError")]
structure Rw where
 (x:Str) (i:Nat) (f:Addr) (m:Value)
def m0:Value:=.str "minortables.checks" 342
def m1:Value:=.str "minortables.tables" 413
def m2:Value:=.str "minortables.joining" 484
def m3:Value:=.str "minortables.cases" 502
noncomputable def m4:Value:=.str "law_minortables_k81_whole_cases" 682
def r1:List Rw:=[⟨"is_whole",13,137,m0⟩,⟨"is_short_tuple",15,151,m0⟩,⟨"has_lines",16,156,m0⟩,⟨"numbers_of",17,163,m0⟩,⟨"has_table_form",18,168,m0⟩,⟨"need_table",19,175,m0⟩,⟨"is_small_row",24,194,m1⟩,⟨"is_table",25,199,m1⟩,⟨"columns_of",27,209,m1⟩,⟨"turned",28,216,m1⟩,⟨"flipped",29,221,m1⟩,⟨"is_name",41,265,m3⟩,⟨"need_name",42,272,m3⟩,⟨"_law_class",50,431,m4⟩,⟨"_law_told",51,438,m4⟩,⟨"_law_all_of",56,467,m4⟩,⟨"law",57,474,m4⟩]
def r2:List Rw:=[⟨"need_same_size",20,182,m0⟩,⟨"need_size",21,189,m0⟩,⟨"column_of",26,204,m1⟩,⟨"row_by_column",30,226,m1⟩,⟨"row_by_columns",31,231,m1⟩,⟨"times",32,236,m1⟩,⟨"row_plus",33,241,m1⟩,⟨"plus",34,246,m1⟩,⟨"set_below",36,253,m2⟩,⟨"set_beside",37,260,m2⟩,⟨"_law_cell",46,405,m4⟩,⟨"_law_times",49,424,m4⟩,⟨"_law_deed",52,445,m4⟩,⟨"_law_behind",54,455,m4⟩,⟨"_law_did",55,462,m4⟩]
def r3:List Rw:=[⟨"is_whole_within",14,144,m0⟩,⟨"joined",43,279,m3⟩,⟨"_law_pick",47,412,m4⟩,⟨"_law_made",53,450,m4⟩]
def r4:List Rw:=[⟨"_law_table",48,417,m4⟩]
def ro:List Rw:=r1++r2++r3++r4
def df:List (Str×Fd):=ro.map fun r=>(r.x,bf (top r.i))
noncomputable def xs:List Str:=["NoTable","NoFit","NoPlace","NoStep","NoSteps","NoText","NoName","NoBack"]
def T:Pg:=⟨cs,bl,df,xs,"MinorError"⟩
def BnO(nm:Str)(t:Stmt):Prop:=∀ (kV doc pm:Value) (an:Option Addr) (cdv ct:Value) (us:List Value),us.length=(bf t).ps.length->bindArgs (W.fnOf nm nm (bM t) (aL t) (ao t) .none kV doc pm an cdv ct) ⟨us,[]⟩=pure ((bf t).ps.zip us)
def fsB(fd:Fd):Bool:=decide (fd.sc.kind=.function) && !fd.sc.isCoroutine && !fd.sc.isGenerator&&decide fd.N.Nodup&&decide (fd.N.take fd.ps.length=fd.ps)&&fd.ps.all (fun x=>decide (fd.sc.names.lookup x=some .local)||decide (fd.sc.names.lookup x=some .cell))&&fd.sc.names.all fun y=>decide (y.2≠.free)
theorem Jw{fd:Fd}(h:fsB fd=true):FnScope fd.N fd.ps fd.sc:=by
 unfold fsB at h;simp only[U2z,H2z,G2z,A3z,N3z] at h;obtain⟨⟨⟨⟨⟨⟨h1,h2⟩,h3⟩,h4⟩,h5⟩,h6⟩,h7⟩:=h;exact⟨h1,h2,h3,h4,h5,h6,h7⟩
theorem N5{K:Z3}{h:Heap}{mg:Str->Option Value}{x nm:Str}{t:Stmt}(X:K.In h)(G:h.Ns mainGlobals mg)(f:Addr)(dc pm cd:Value)(hb:BnO nm t)(a:W.nsIn K mainGlobals x=some (some (.ref f)))
  (l:K.lookup f=some ⟨.type "function",none,.func (W.fnOf nm nm (bM t) (aL t) (ao t) .none .none dc pm none cd .none),#[]⟩) (c:(W.codeIn K cd nm&&W.keepIn K (.ref f)&&fsB (bf t) && !(x==("__debug__":Str)))=true):FunAt K mg x (bf t):=by
 simp only[U2z,G2z] at c;obtain⟨⟨⟨c,k⟩,hs⟩,hd⟩:=c;exact⟨⟨nm,t,f,_,I4z X G a,fun_mk l c k,(fun_mk l c k).binds hb,rfl,rfl⟩,Jw hs,hd⟩
theorem len1{us:List Value}(h:us.length=1):∃ a,us=[a]:=List.length_eq_one_iff.mp h
theorem len2{us:List Value}(h:us.length=2):∃ a b,us=[a,b]:=by cases us with | nil=>cases h | cons a r=>obtain⟨b,z⟩:=len1 (us:=r) (Nat.succ.inj h);exact⟨a,b,congrArg (List.cons a) z⟩
theorem PJ{us:List Value}(h:us.length=3):∃ a b c,us=[a,b,c]:=by cases us with | nil=>cases h | cons a r=>obtain⟨b,c,z⟩:=len2 (us:=r) (Nat.succ.inj h);exact⟨a,b,c,congrArg (List.cons a) z⟩
theorem Zf{us:List Value}(h:us.length=4):∃ a b c d,us=[a,b,c,d]:=by cases us with | nil=>cases h | cons a r=>obtain⟨b,c,d,z⟩:=PJ (us:=r) (Nat.succ.inj h);exact⟨a,b,c,d,congrArg (List.cons a) z⟩
theorem b55:BnO "_law_did" (top 55):=fun _ _ _ _ _ _ _ h=>by obtain⟨_,_,rfl⟩:=len2 h;rfl
theorem b57:BnO "law" (top 57):=fun _ _ _ _ _ _ _ h=>by obtain⟨_,rfl⟩:=len1 h;rfl
theorem in_of{α:Type}{Q:Str->α->Prop}:∀ {l:List (Str×α)},(∀ p∈l,Q p.1 p.2)->∀ f fd,l.lookup f=some fd->Q f fd
 | (y,e)::r,hp,f,fd,h=>by
  rw[O2z] at h
  cases hb:f==y with
  | true =>
   rw[hb] at h
   have e1:f=y:=by simpa using hb
   cases h;subst e1;exact hp _ I1z
  | false =>
   rw[hb] at h;exact in_of (fun p hm=>hp p (S0z _ hm)) f fd h
theorem aC{α:Type}{Q:α->Prop}{a:α}{l:List α}(h:Q a)(t:∀ p∈l,Q p):∀ p∈a::l,Q p:=List.forall_mem_cons.mpr ⟨h,t⟩
theorem aN{α:Type}{Q:α->Prop}:∀ p∈([]:List α),Q p:=List.forall_mem_nil _
theorem cA{K:Z3}{h:Heap}{mg:Str->Option Value}{x:Str}{i:Int}(X:K.In h)(G:h.Ns mainGlobals mg)(tk:Tok)(e:W.nsIn K mainGlobals x=some (some (.int i tk))):∃ v u,(∀ H,Rep K H (D.int i) v)/\mg x=some u/\RelV v u:=⟨.int i,_,fun _=>by simp[Rep],I4z X G e,⟨_,rfl⟩⟩
theorem cS{K:Z3}{h:Heap}{mg:Str->Option Value}{x y:Str}(X:K.In h)(G:h.Ns mainGlobals mg)(tk:Tok)(e:W.nsIn K mainGlobals x=some (some (.str y tk))):∃ v u,(∀ H,Rep K H (D.str y) v)/\mg x=some u/\RelV v u:=⟨.str y,_,fun _=>by simp[Rep],I4z X G e,⟨_,rfl⟩⟩
theorem bA{K:Z3}{h:Heap}{mg:Str->Option Value}{x:Str}{b:String}(X:K.In h)(G:h.Ns mainGlobals mg)(e:W.nsIn K mainGlobals x=some none)(q:x=Str.ofString b):mg x=none/\x=Str.ofString b:=⟨W.mg_none_of X G e,q⟩
theorem bn1:∀ r∈r1,BnO r.x (top r.i):=fun r hr kV doc pm an cdv ct us h=>by
 obtain⟨a,rfl⟩:=len1 (h.trans (J2z (A3z.mp (show(r1.all fun r=>decide ((bf (top r.i)).ps.length=1))=true by rfl') r hr)));exact List.map_inj_left.mp (show(r1.map fun r=>bindArgs (W.fnOf r.x r.x (bM (top r.i)) (aL (top r.i)) (ao (top r.i)) .none kV doc pm an cdv ct) ⟨[a],[]⟩)=r1.map fun r=>pure ((bf (top r.i)).ps.zip [a]) by rfl') r hr
theorem bn2:∀ r∈r2,BnO r.x (top r.i):=fun r hr kV doc pm an cdv ct us h=>by
 obtain⟨a,b,rfl⟩:=len2 (h.trans (J2z (A3z.mp (show(r2.all fun r=>decide ((bf (top r.i)).ps.length=2))=true by rfl') r hr)));exact List.map_inj_left.mp (show(r2.map fun r=>bindArgs (W.fnOf r.x r.x (bM (top r.i)) (aL (top r.i)) (ao (top r.i)) .none kV doc pm an cdv ct) ⟨[a,b],[]⟩)=r2.map fun r=>pure ((bf (top r.i)).ps.zip [a,b]) by rfl') r hr
theorem bn3:∀ r∈r3,BnO r.x (top r.i):=fun r hr kV doc pm an cdv ct us h=>by
 obtain⟨a,b,c,rfl⟩:=PJ (h.trans (J2z (A3z.mp (show(r3.all fun r=>decide ((bf (top r.i)).ps.length=3))=true by rfl') r hr)));exact List.map_inj_left.mp (show(r3.map fun r=>bindArgs (W.fnOf r.x r.x (bM (top r.i)) (aL (top r.i)) (ao (top r.i)) .none kV doc pm an cdv ct) ⟨[a,b,c],[]⟩)=r3.map fun r=>pure ((bf (top r.i)).ps.zip [a,b,c]) by rfl') r hr
theorem bn4:∀ r∈r4,BnO r.x (top r.i):=fun r hr kV doc pm an cdv ct us h=>by
 obtain⟨a,b,c,d,rfl⟩:=Zf (h.trans (J2z (A3z.mp (show(r4.all fun r=>decide ((bf (top r.i)).ps.length=4))=true by rfl') r hr)));exact List.map_inj_left.mp (show(r4.map fun r=>bindArgs (W.fnOf r.x r.x (bM (top r.i)) (aL (top r.i)) (ao (top r.i)) .none kV doc pm an cdv ct) ⟨[a,b,c,d],[]⟩)=r4.map fun r=>pure ((bf (top r.i)).ps.zip [a,b,c,d]) by rfl') r hr
theorem bns:∀ r∈ro,BnO r.x (top r.i):=fun r h=>(List.mem_append.mp h).elim (fun h=>(List.mem_append.mp h).elim (fun h=>(List.mem_append.mp h).elim (fun h=>bn1 r h) (bn2 r)) (bn3 r)) (bn4 r)
theorem Ju{K:Z3}{h:Heap}{mg:Str->Option Value}(X:K.In h)(G:h.Ns mainGlobals mg)(e1:(ro.map fun r=>W.nsIn K mainGlobals r.x)=ro.map fun r=>some (some (.ref r.f)))
  (e2:(ro.map fun r=>K.lookup r.f)=ro.map fun r=>some ⟨.type "function",none,.func (W.fnOf r.x r.x (bM (top r.i)) (aL (top r.i)) (ao (top r.i)) .none .none .none r.m none (.ref (r.f-1)) .none),#[]⟩)
  (e3:(ro.all fun r=>W.codeIn K (.ref (r.f-1)) r.x&&W.keepIn K (.ref r.f)&&fsB (bf (top r.i)) && !(r.x==("__debug__":Str)))=true):∀ p∈df,FunAt K mg p.1 p.2:=fun p hp=>by
 obtain⟨r,hr,rfl⟩:=List.mem_map.mp hp;exact N5 X G r.f .none r.m (.ref (r.f-1)) (bns r hr) (List.map_inj_left.mp e1 r hr) (List.map_inj_left.mp e2 r hr) (A3z.mp e3 r hr)
theorem J8{K:Z3}{h:Heap}{mg:Str->Option Value}(X:K.In h)(G:h.Ns mainGlobals mg)(e1:(bl.map fun p=>W.nsIn K mainGlobals p.1)=bl.map fun _=>some none):∀ p∈bl,mg p.1=none/\p.1=Str.ofString p.2:=fun p hp =>
 bA X G (List.map_inj_left.mp e1 p hp) (List.map_inj_left.mp (show(bl.map fun p=>p.1)=bl.map fun p=>Str.ofString p.2 by rfl') p hp)
end M81
local macro_rules | `(tactic| walk_at "xs") => `(tactic| first | exact DE.bLen | exact DE.bLenL | exact DE.Zt | rfl | assumption | omega)
local macro_rules | `(tactic| walk_at "xm") => `(tactic| first | exact DE.dG | (refine' DE.aK ?hA ?hB; (case hA => walk_at "xv"); (case hB => walk_at "xm")))
local macro_rules | `(tactic| walk_at "xi") => `(tactic| first
 | (refine' DE.Xg ?hA ?hB; (case hA => rfl); (case hB => walk_at "xv"))
 | (refine' DE.wSq ?hA ?hB ?hC; (case hA => rfl); (case hB => walk_at "xv"); (case hC => rfl))
 | (refine' DE.ZD ?hA ?hB ?hC; (case hA => rfl); (case hB => walk_at "xv"); (case hC => omega))
 | (refine' DE.Pq ?hA ?hB ?hC; (case hA => rfl); (case hB => walk_at "xv"); (case hC => walk_at "xv"))
 | (refine' DE.ZC ?hA ?hB; (case hA => rfl); (case hB => walk_at "xv"))
 | (refine' DE.wEnL ?hA ?hB; (case hA => rfl); (case hB => walk_at "xv")))
local macro_rules | `(tactic| walk_at "xl") => `(tactic| (refine' DE.gQ ?hA ?hB ?hC (DE.bK ?hD); (case hA => rfl); (case hB => walk_at "xi"); (case hC => (exact DE.iC (by omega))); (case hD => (intro i hi; refine' DE.jc ?hE ?hF; (case hE => rfl); (case hF => walk_at "xv")))))
local macro_rules | `(tactic| walk_at "xv") => `(tactic| first
 | exact DE.xName rfl
 | exact DE.wG rfl
 | (refine' DE.eE ?hA ?hB ?hC; (case hA => walk_at "xv"); (case hB => walk_at "xv"); (case hC => walk_at "xs"))
 | (refine' DE.bC ?hA ?hB ?hC; (case hA => walk_at "xv"); (case hB => walk_at "xv"); (case hC => walk_at "xs"))
 | (refine' DE.Zy ?hA ?hB ?hC ?hD ?hE; (case hA => walk_at "xv"); (case hB => walk_at "xv"); (case hC => omega); (case hD => rfl); (case hE => rfl))
 | (refine' DE.Pj ?hA ?hB ?hC ?hD ?hE; (case hA => walk_at "xv"); (case hB => walk_at "xv"); (case hC => omega); (case hD => rfl); (case hE => rfl))
 | (refine' DE.xIxLl ?hA ?hB ?hC ?hD ?hE; (case hA => walk_at "xv"); (case hB => walk_at "xv"); (case hC => omega); (case hD => rfl); (case hE => rfl))
 | (refine' DE.xIsi ?hA ?hB ?hC ?hD ?hE ?hF ?hG; (case hA => rfl); (case hB => rfl); (case hC => rfl); (case hD => walk_at "xv"); (case hE => rfl); (case hF => rfl); (case hG => rfl))
 | (refine' DE.jf ?hA ?hB ?hC ?hD ?hE; (case hA => rfl); (case hB => rfl); (case hC => rfl); (case hD => walk_at "xm"); (case hE => walk_at "xs"))
 | (refine' DE.aY ?hA ?hB ?hC; (case hA => rfl); (case hB => walk_at "xm"); (case hC => walk_at "xc"))
 | (refine' DE.Zw ?hA ?hB ?hC; (case hA => rfl); (case hB => rfl); (case hC => walk_at "xv"))
 | (refine' DE.oY ?hA ?hB; (case hA => walk_at "xm"); (case hB => rfl))
 | (refine' DE.Xf ?hA ?hB; (case hA => walk_at "xm"); (case hB => rfl))
 | walk_at "xl"
 | (refine' DE.Zx ?hA; (case hA => walk_at "xv"))
 | (refine' DE.Qg ?hA; (case hA => walk_at "xv")))
local macro_rules|`(tactic|nofun)=>`(tactic|walk_at "xv")
namespace L2
open PySem PySem.Spec PyProof.Rows
open DE (D)
inductive MR where
 | val (d:D) (S:Cst)
 | exc (c:Str)
def Gi(K:Z3)(C p d dn un:Addr)(Hs H:Hp)(Q:VK)(E:XK):MR->Prop
 | .val r S=>∀ v H' Hs' un',ExtM p d dn un un' Hs H Hs' H'->CRep K C Hs' H' p d dn un' S->Rep K Hs' r v->Q v H'
 | .exc c=>∀ Cc H' Hs',W.nsIn K mainGlobals c=some (some (.ref Cc))->Ext Hs H Hs' H'->E (.ref Cc) none H'
def spM(K:Z3)(C:Addr)(n:Nat)(f:Cst->List D->Option MR):Sp:=fun vs H Q E=>∃ (p d dn un:Addr) (Hs:Hp) (S:Cst) (ds:List D) (us:List V) (o:MR),
 vs=.ref p::us/\ds.length=n/\Same Hs H/\CRep K C Hs H p d dn un S/\aJ K Hs ds us/\f S ds=some o/\Gi K C p d dn un Hs H Q E o
theorem j9{K:Z3}{C:Addr}{n:Nat}{f:Cst->List D->Option MR}{vs:List V}{H:Hp}{Q:VK}{E:XK}(h:spM K C n f vs H Q E):vs.length=n+1:=by
 obtain⟨p,d,dn,un,Hs,S,ds,us,o,rfl,e,_,_,r,_⟩:=h;rw[M2z,<- r.length,e]
def BJ(S:Cst)(n:Str):D->Option Cst
 | .non=>if(bR S.tabs n).isSome then some { S with tabs:=cQ S.tabs n } else none
 | .obj _=>none
 | t=>if decide (S.tabs.length<1000) then some { S with tabs:=qY S.tabs n t } else none
def jD(w n:Str)(old t:D):D:=.tup [.str w,.str n,old,t]
def doS(S:Cst)(w n:Str)(t:D):Option Cst:=if decide (S.don.length<1000) then BJ { S with don:=S.don++[jD w n ((bR S.tabs n).getD .non) t],und:=[] } n t else none
structure CTxt (K:Z3) (mg:Str->Option Value) (C:Addr):Prop where
 cl:Cls K C
 nT:je K C nT
 nD:je K C nD
 nU:je K C nU
 mgC:mg "Case"=some (.ref C)
def cg(P:Program)(w:World)(K:Z3)(mg:Str->Option Value)(C:Addr)(nm:Str)(ps:List Str)(k:Nat)(sp:Sp):Prop :=
 ∃ f fd,Meth K C nm f/\Binds K fd ps []/\∀ base:Heap,FnOk P w K mg base (CX1 P w) k f fd ps sp
def ig(P:Program)(w:World)(K:Z3)(mg:Str->Option Value)(nm:Str)(ps:List Str)(k:Nat)(sp:Sp):Prop :=
 ∃ f fd,mg nm=some (.ref f)/\W.keepIn K (.ref f)=true/\Binds K fd ps []/\∀ base:Heap,FnOk P w K mg base (CX1 P w) k f fd ps sp
theorem gq{P:Program}{w:World}{K:Z3}{mg:Str->Option Value}{T:DE.Pg}{F k:Nat}{f:Str}{fd:DE.Fd}(X:Text w K mg T)(h:T.defs.lookup f=some fd):ig P w K mg f fd.ps k (spX K (vR (DE.aR T F k)) (xR (DE.aR T F k)) f fd.ps):=by
 have FA:=X.fns f fd h;obtain⟨nm',t',a',g',m1,m2,m3,m4,m5⟩:=FA.ex;exact⟨a',g',m1,m2.kp,m3,fun base=>Bc X k nm' f fd t' a' g' h m2 m4 m5 FA.fs⟩
section
variable {P:Program} {w:World} {K:Z3} {mg:Str->Option Value} {base:Heap} {N:List Str} {qual:Str} {scope:Scope} {f:Addr} {cd:Value} {A:Around} {outer:List Env} {s:Shared} {H:Hp} {E:XK}
theorem nJ{x top:Str}{exs:List Str}{np cpos pos p1:Pos}{txt:Str}{j:Nat}(XT:XText K mg exs top)(hin:exs.contains x=true)(hh:(A.deeper (envOfC qual scope s.heap.objs.size f cd)).handled=none)(hg:Gl (eF (CX1 P w) P w K mg base N qual scope f cd A outer s H E) x)(hd:(x==("__debug__":Str))=false) :
  PS (eF (CX1 P w) P w K mg base N qual scope f cd A outer s H E) (.Raise (some (.Call (.Name x np) [.Constant (.str txt) j p1] [] cpos)) none pos) (fun _ _ H1=>∀ C,W.nsIn K mainGlobals x=some (some (.ref C))->E (.ref C) none H1):=by
 intro z0 s1 Y H1 D I h;obtain⟨C,M,e1,_,e2,_⟩:=XT.cls x hin;exact ug I hh hg (XT.glob _ _ e1) hd e2 fun s2 h' e args I2 hm=>mz I2 hm (h C e1)
end
end L2
namespace M81
open PySem PySem.Spec PyProof.Rows L2
open DE (D)
abbrev kj:Stmt:=top 44
abbrev xU:Stmt:=inClass kj 1
abbrev sDo:Stmt:=inClass kj 2
section
variable {P:Program} {w:World} {K:Z3} {mg:Str->Option Value} {base:Heap} {C:Addr}
def GQ(K:Z3)(C:Addr):Sp:=fun vs H Q _=>∃ (p d dn un:Addr) (n:Str) (t:D) (v:V) (Hs:Hp) (S S':Cst),vs=[.ref p,.str n,v]/\Same Hs H/\CRep K C Hs H p d dn un S/\Rep K Hs t v/\BJ S n t=some S' /\
 ∀ H',ExtM p d dn un un Hs H Hs H'->CRep K C Hs H' p d dn un S'->Q .non H'
theorem scS:FnScope ["self","name","table"] ["self","name","table"] (ao xU):=⟨rfl,rfl,rfl,by decide +kernel,rfl,by decide +kernel,by decide +kernel⟩
theorem Mx{f:Addr}{fd:FuncData}(F:Fun K "set_to" "Case.set_to" xU f fd)(T:CTxt K mg C):FnOk P w K mg base (CX1 P w) 1 f fd ["self","name","table"] (GQ K C):=by
  refine F.okX scS (fun vs H Q E h=>?_) (fun cdv A outer s H vs Q E hr h=>?_)
  . obtain⟨p,d,dn,un,n,t,v,Hs,S,S',rfl,_⟩:=h
    rfl
  . obtain⟨p,d,dn,un,n,t,v,Hs,S,S',rfl,hs,S0,rt,h,k⟩:=h
    have hu:=Dk hr
    obtain⟨dx,h1⟩:=S0.ob
    obtain⟨kvs,h2,h3⟩:=S0.dc
    refine⟨_,bx (nM (Eu (Mp (pv 2))) (bx (cP (Cm (gK (pv 0) rfl) (pv 1) ?m1))) (bx (HB hu (gK (pv 0) rfl) (pv 1) (pv 2) rfl))),?_⟩
    case m1=>exact⟨rfl,rfl,rfl,rfl⟩
    by_cases hn:t=.non
    . subst hn
      have ev:=nG rt
      subst ev
      refine⟨_,rfl,true,rfl,ql ?_⟩
      simp only[BJ] at h
      split at h
      . rename_i hg
        cases h
        rcases h3.get (n:=n) with⟨z,_⟩ | ⟨d',v,_,e2,_⟩
        . rw[z] at hg;cases hg
        . exact⟨_,rfl,p,C,dx,_,_,rfl,h1,T.cl,T.nT,rW _ _ _,d,rfl,.inl ⟨_,.inl h2⟩,_,rfl,kvs,Sum.inr n,v,h2,rfl,e2,k _ (sH hs (.inl rfl) S0.hd) (S0.setD h3.drop)⟩
      . cases h
    . have hv:v≠.non:=fun z=>hn (by
        have e:=uI rt
        rw[z,U3z rfl] at e
        cases t<;>first | rfl | simp[DE.Jl] at e)
      have h':S.tabs.length<1000/\S'={ S with tabs:=qY S.tabs n t }:=by
        cases t<;>simp[BJ] at h hn ⊢ <;> exact⟨h.1,h.2.symm⟩
      obtain⟨h4,rfl⟩:=h'
      refine⟨_,rfl,false,by rw[B3z hv],mK ?_⟩
      have hl : kvs.length < sizeLine := by have := h3.length; have : (1000 : Nat) <= sizeLine := by decide
                                            omega
      exact⟨_,rfl,_,rfl,p,C,dx,_,_,rfl,h1,T.cl,T.nT,rW _ _ _,_,rfl,d,_,rfl,O9.k (k:=Sum.inr n) h2 hl,k _ (sH hs (.inl rfl) S0.hd) (S0.setD (h3.put rt))⟩
def GR(K:Z3)(C:Addr):Sp:=fun vs H Q _=>∃ (p d dn un:Addr) (wd n:Str) (t:D) (v:V) (Hs:Hp) (S S':Cst),vs=[.ref p,.str wd,.str n,v]/\Same Hs H/\CRep K C Hs H p d dn un S/\Rep K Hs t v/\doS S wd n t=some S' /\
 ∀ H' Hs' un',ExtM p d dn un un' Hs H Hs' H'->CRep K C Hs' H' p d dn un' S'->Q .non H'
theorem scD:FnScope ["self","word","name","table"] ["self","word","name","table"] (ao sDo):=⟨rfl,rfl,rfl,by decide +kernel,rfl,by decide +kernel,by decide +kernel⟩
theorem QX{f:Addr}{fd:FuncData}(F:Fun K "do" "Case.do" sDo f fd)(T:CTxt K mg C)(G:cg P w K mg C "set_to" ["self","name","table"] 1 (GQ K C)):FnOk P w K mg base (CX1 P w) 2 f fd ["self","word","name","table"] (GR K C):=by
 obtain⟨g,gd,mG,bG,GS⟩:=G;refine F.okX scD (fun vs H Q E h=>?_) (fun cdv A outer s H vs Q E hr h=>?_)
 .obtain⟨p,d,dn,un,wd,n,t,v,Hs,S,S',rfl,_⟩:=h
  rfl
 .obtain⟨p,d,dn,un,wd,n,t,v,Hs,S,S',rfl,hs,S0,rt,h,k⟩:=h
  have hu:=Dk hr;obtain⟨dx,h1⟩:=S0.ob;obtain⟨kvs,h2,h3⟩:=S0.dc;obtain⟨ls,h4,h5⟩:=S0.dl
  refine⟨_,aM (cP (vH F0z PySem.F.slot_list_append PySem.F.type_list_append lg (gK (pv 0) rfl) (aA (uq (aA (pv 1) (aA (pv 2) (aA (Cq hu (gK (pv 0) rfl) (pv 2) ?m1) (aA (pv 3) aO))))) aO)))
   (aM (uh (pv 0) (pX aO) rfl)
   (bx (cP (dj (pv 0) T.cl mG (GS _) hr bG .nil aW (aA (pv 2) (aA (pv 3) aO)))))),?_⟩
  case m1=>exact⟨rfl,rfl,rfl,rfl⟩
  unfold doS at h;split at h
  .rename_i hl
   have hl':S.don.length<1000:=J2z hl
   have lin:(1000:Nat)<=sizeLine:=by decide
   have hll:=h5.length;refine⟨_,rfl,p,C,dx,_,_,rfl,h1,T.cl,T.nD,Nt _ _ _,.inl ⟨rfl,_,SqL.of h4⟩,_,rfl,_,rfl,_,rfl,p,C,dx,_,_,rfl,h1,T.cl,T.nT,rW _ _ _,d,rfl,.inl ⟨_,.inl h2⟩,_,rfl,_,tQ.k (k:=Sum.inr n) h2,_,rfl,(by show 4<=sizeLine;decide),fun x hx=>?_⟩;have E1:Ext Hs H _ _:=Ext.new hs (.tup [.str wd,.str n,(jk kvs (Sum.inr n)).getD .non,v]) hx;have S1:=S0.ext E1
   have rold:Rep K Hs ((bR S.tabs n).getD .non) ((jk kvs (Sum.inr n)).getD .non):=by
    rcases h3.get (n:=n) with⟨z1,z2⟩ | ⟨d',v',z1,z2,z3⟩
    .rw[z1,z2];simp[Rep]
    .rw[z1,z2];exact z3
   have rst:Rep K (upd Hs x (.tup [.str wd,.str n,(jk kvs (Sum.inr n)).getD .non,v])) (jD wd n ((bR S.tabs n).getD .non) t) (.ref x):=by
    simp only[jD,Rep];exact⟨x,_,rfl,.inl (.inl aB),aJ.same E1.vis _ _ (.cons (by simp[Rep]) (.cons (by simp[Rep]) (.cons rold (.cons rt .nil))))⟩
   have l1:=E1.all _ _ h4;have S2:=S1.setN (aJ.append (aJ.same E1.vis _ _ h5) (.cons rst .nil));have M2:=(sH (p:=p) (d:=d) (dn:=dn) (un:=un) (o:=.lst (ls++[.ref x])) E1.sub (.inr (.inl rfl)) S1.hn).pre E1;refine⟨dn,_,_,rfl,rfl,l1,(by omega),?_⟩;refine⟨by decide,fun un' hun=>?_⟩;obtain⟨dx2,p2⟩:=S2.ob;have npu:p≠un':=ak p2 hun;refine⟨_,rfl,p,C,dx2,_,rfl,(by rw[aj npu];exact p2),T.cl,T.nU,(by show 3<1000;decide),?_⟩;rw[put3];obtain⟨S3,M3⟩:=S2.newU (dx:=dx2) M2.sub hun
   have hun0:H un'=none:=by
    have hne:un'≠dn:=fun z=>by rw[z,aB] at hun;cases hun
    rw[aj hne] at hun;exact cB E1.all hun
   have M4:=M2.trans M3 (.inr (.inl hun0));exact⟨_,rfl,p,dx2,_,rfl,aB,rfl,_,rfl,_,rfl,p,d,dn,un',n,t,v,_,_,S',rfl,M4.sub,S3,rt.same E1.vis,h,fun H' M5 S5=>k H' _ un' (M4.trans M5 (.inl rfl)) S5⟩
  .cases h
end
end M81
namespace L2
open PySem PySem.Spec PyProof.Rows
open DE (D)
theorem FnOk.weak{P:Program}{w:World}{K:Z3}{mg:Str->Option Value}{base:Heap}{CX:CXT}{k:Nat}{f:Addr}{fd:FuncData}{ps:List Str}{sp sp':Sp}(F:FnOk P w K mg base CX k f fd ps sp)(h:∀ vs H Q E,sp' vs H Q E->sp vs H Q E):FnOk P w K mg base CX k f fd ps sp' :=
 ⟨fun vs H Q E q=>F.len vs H Q E (h _ _ _ _ q),fun A outer s H args us vs Q E a b c d e=>F.run A outer s H args us vs Q E a b c d (h _ _ _ _ e)⟩
def OutR(K:Z3)(Hs H:Hp)(Q:VK)(E:XK):Sum D Str->Prop
 | .inl r=>∀ v H' Hs',Ext Hs H Hs' H'->Rep K Hs' r v->Q v H'
 | .inr c=>∀ Cc H' Hs',W.nsIn K mainGlobals c=some (some (.ref Cc))->Ext Hs H Hs' H'->E (.ref Cc) none H'
def spR(K:Z3)(C:Addr)(n:Nat)(f:Cst->List D->Option (Sum D Str)):Sp:=fun vs H Q E=>∃ (p d dn un:Addr) (Hs:Hp) (S:Cst) (ds:List D) (us:List V) (o:Sum D Str),
 vs=.ref p::us/\ds.length=n/\Same Hs H/\CRep K C Hs H p d dn un S/\aJ K Hs ds us/\f S ds=some o/\OutR K Hs H Q E o
theorem nj{K:Z3}{C:Addr}{n:Nat}{f:Cst->List D->Option (Sum D Str)}{vs:List V}{H:Hp}{Q:VK}{E:XK}(h:spR K C n f vs H Q E):vs.length=n+1:=by
 obtain⟨p,d,dn,un,Hs,S,ds,us,o,rfl,e,_,_,r,_⟩:=h;rw[M2z,<- r.length,e]
def toM(S:Cst):Sum D Str->MR
 | .inl d=>.val d S
 | .inr c=>.exc c
theorem Ln{K:Z3}{C:Addr}{n:Nat}{f:Cst->List D->Option (Sum D Str)}{vs:List V}{H:Hp}{Q:VK}{E:XK}(h:spM K C n (fun S ds=>(f S ds).map (toM S)) vs H Q E):spR K C n f vs H Q E:=by
 obtain⟨p,d,dn,un,Hs,S,ds,us,o,rfl,e,hs,S0,r,ho,k⟩:=h;obtain⟨o',h1,rfl⟩:=M0z.mp ho;refine⟨p,d,dn,un,Hs,S,ds,us,o',rfl,e,hs,S0,r,h1,?_⟩
 cases o' with
 | inl r=>exact fun v H' Hs' E1 r1=>k v H' Hs' un (.of E1) (S0.ext E1) r1
 | inr c=>exact k
section
variable (call:Str->List D->Option D) (callx:Str->List D->Option Str)
def ndN(x:D):Option (Sum Str Str):=match callx "need_name" [x] with
 | some c=>some (.inr c)
 | none=>match call "need_name" [x],x with
  | some _,.str s=>some (.inl s)
  | _,_=>none
def jg(S:Cst):List D->Option (Sum D Str)
 | [n]=>match ndN call callx n with
  | some (.inr c)=>some (.inr c)
  | some (.inl s)=>match bR S.tabs s with
   | some d=>some (.inl d)
   | none=>some (.inr "NoName")
  | none=>none
 | _=>none
def Jd(S:Cst):List D->Option MR
 | [n,t]=>match call "is_table" [t] with
  | some (.bl false)=>some (.exc "NoTable")
  | some (.bl true)=>match ndN call callx n with
   | some (.inr c)=>some (.exc c)
   | some (.inl s)=>(doS S "put" s t).map (.val (.bl (bR S.tabs s).isSome))
   | none=>none
  | _=>none
 | _=>none
def lq(S:Cst):List D->Option MR
 | [.str s]=>match jg call callx S [.str s] with
  | some (.inl d)=>(doS S "take" s .non).map (.val d)
  | some (.inr c)=>some (.exc c)
  | none=>none
 | [n]=>match jg call callx S [n] with
  | some (.inr c)=>some (.exc c)
  | _=>none
 | _=>none
def doF(fn wd:Str)(S:Cst)(s:Str)(d:D):Option MR:=match callx fn [d] with
 | some c=>some (.exc c)
 | none=>match call fn [d] with
  | some t=>(doS S wd s t).map (.val t)
  | none=>none
def eX(fn wd:Str)(S:Cst):List D->Option MR
 | [.str s]=>match jg call callx S [.str s] with
  | some (.inl d)=>doF call callx fn wd S s d
  | some (.inr c)=>some (.exc c)
  | none=>none
 | [n]=>match jg call callx S [n] with
  | some (.inr c)=>some (.exc c)
  | _=>none
 | _=>none
theorem IV{x:D}{c:Str}(h:ndN call callx x=some (.inr c)):callx "need_name" [x]=some c:=by
 unfold ndN at h;split at h
 .rename_i c' e;cases h;exact e
 .split at h
  .cases h
  .cases h
theorem CJ{x:D}{s:Str}(h:ndN call callx x=some (.inl s)):x=.str s/\∃ d,call "need_name" [x]=some d:=by
 unfold ndN at h;split at h
 .cases h
 .split at h
  .cases h;exact⟨rfl,_,by assumption⟩
  .cases h
end
end L2
namespace M81
open PySem PySem.Spec PyProof.Rows L2
open DE (D)
abbrev Qz:Stmt:=inClass kj 3
abbrev Qy:Stmt:=inClass kj 4
abbrev G7:Stmt:=inClass kj 5
section
variable {P:Program} {w:World} {K:Z3} {mg:Str->Option Value} {base:Heap} {C:Addr} {call:Str->List D->Option D} {callx:Str->List D->Option Str} {kk:Nat} {exs:List Str} {tp:Str}
theorem scT:FnScope ["self","name"] ["self","name"] (ao Qy):=⟨rfl,rfl,rfl,by decide +kernel,rfl,by decide +kernel,by decide +kernel⟩
theorem Mw{f:Addr}{fd:FuncData}(F:Fun K "table_of" "Case.table_of" Qy f fd)(T:CTxt K mg C)(XT:XText K mg exs tp)(hin:exs.contains "NoName"=true)(GN:ig P w K mg "need_name" ["thing"] kk (spX K call callx "need_name" ["thing"])) :
  FnOk P w K mg base (CX1 P w) (kk+1) f fd ["self","name"] (spR K C 1 (jg call callx)):=by
 obtain⟨fn,fdn,mgN,kN,bN,gN⟩:=GN;refine F.okX scT (fun vs H Q E h=>nj h) (fun cdv A outer s H vs Q E hr h=>?_);obtain⟨p,d,dn,un,Hs,S,ds,us,o,rfl,e,hs,S0,r,ho,k⟩:=h;obtain⟨x,rfl⟩:∃ x,ds=[x]:=List.length_eq_one_iff.mp e
 obtain⟨v,rfl,rv⟩:∃ v,us=[v]/\Rep K Hs x v:=by
  simp only[aJ] at r;obtain⟨v,q,rfl,r1,rfl⟩:=r;exact⟨v,rfl,r1⟩
 have hu:=Dk hr
 refine⟨_,aM (cP (dI (gN _) hr rfl mgN kN bN .nil aW (aA (pv 1) aO)))
  (aM (nM (Eu (yt hu (pv 1) (gK (pv 0) rfl))) (bx (nJ XT hin hr.hd rfl (by decide +kernel))) gR)
  (bx (cU (Ia hu (gK (pv 0) rfl) (pv 1) (fun _ _=>rfl))))),?_⟩
 simp only[jg] at ho;refine⟨_,rfl,rfl,Hs,[x],hs,.cons rv .nil,?_⟩;split at ho
 .rename_i c hn
  cases ho;exact .inr ⟨c,IV _ _ hn,k⟩
 .rename_i sn hn
  obtain⟨rfl,dd,hc⟩:=CJ _ _ hn;refine .inl ⟨dd,hc,fun v1 H1 Hs1 E1 _=>?_⟩;cases (show v=.str sn by simpa[Rep] using rv);have S1:=S0.ext E1;obtain⟨dx,h1⟩:=S1.ob;obtain⟨kvs,h2,h3⟩:=S1.dc;refine⟨_,rfl,_,rfl,p,C,dx,_,_,rfl,h1,T.cl,T.nT,rW _ _ _,d,_,rfl,tQ.k (k:=Sum.inr sn) h2,?_⟩;rcases h3.get (n:=sn) with⟨z1,z2⟩ | ⟨d',v',z1,z2,z3⟩
  .rw[z1] at ho
   cases ho;rw[z2];exact⟨true,rfl,ql fun Cc hC=>k Cc H1 Hs1 hC E1⟩
  .rw[z1] at ho
   cases ho;rw[z2];exact⟨false,rfl,mK ⟨_,rfl,p,C,dx,_,_,rfl,h1,T.cl,T.nT,rW _ _ _,_,rfl,d,v',rfl,z2▸tQ.k (k:=Sum.inr sn) h2,k v' H1 Hs1 E1 z3⟩⟩
 .cases ho
end
abbrev G6:Stmt:=inClass kj 7
abbrev Hf:Stmt:=inClass kj 8
theorem repL1{K:Z3}{Hs:Hp}{x:D}{us:List V}(r:aJ K Hs [x] us):∃ v,us=[v]/\Rep K Hs x v:=by
 simp only[aJ] at r;obtain⟨v,q,rfl,r1,rfl⟩:=r;exact⟨v,rfl,r1⟩
theorem repL2{K:Z3}{Hs:Hp}{x y:D}{us:List V}(r:aJ K Hs [x,y] us):∃ v u,us=[v,u]/\Rep K Hs x v/\Rep K Hs y u:=by
 simp only[aJ] at r;obtain⟨v,q,rfl,r1,u,q',rfl,r2,rfl⟩:=r;exact⟨v,u,rfl,r1,r2⟩
section
variable {P:Program} {w:World} {K:Z3} {mg:Str->Option Value} {base:Heap} {C:Addr} {call:Str->List D->Option D} {callx:Str->List D->Option Str} {kk:Nat} {exs:List Str} {tp:Str}
theorem scP:FnScope ["self","name","table","had"] ["self","name","table"] (ao Qz):=⟨rfl,rfl,rfl,by decide +kernel,rfl,by decide +kernel,by decide +kernel⟩
theorem Mz{f:Addr}{fd:FuncData}(F:Fun K "put" "Case.put" Qz f fd)(T:CTxt K mg C)(XT:XText K mg exs tp)(hin:exs.contains "NoTable"=true)(hkk:2<=kk)(GN:ig P w K mg "need_name" ["thing"] kk (spX K call callx "need_name" ["thing"]))
  (GT:ig P w K mg "is_table" ["thing"] kk (spX K call callx "is_table" ["thing"])) (GO:cg P w K mg C "do" ["self","word","name","table"] 2 (GR K C)):FnOk P w K mg base (CX1 P w) (kk+1) f fd ["self","name","table"] (spM K C 2 (Jd call callx)):=by
 obtain⟨fn,fdn,mgN,kN,bN,gN⟩:=GN;obtain⟨ft,fdt,mgT,kT,bT,gT⟩:=GT;obtain⟨fo,fdo,mO,bO,gO⟩:=GO;refine F.okX scP (fun vs H Q E h=>j9 h) (fun cdv A outer s H vs Q E hr h=>?_);obtain⟨p,d,dn,un,Hs,S,ds,us,o,rfl,e,hs,S0,r,ho,k⟩:=h
 obtain⟨x,t,rfl⟩:∃ x t,ds=[x,t]:=by
  obtain⟨x,q,rfl⟩:=List.exists_cons_of_length_eq_add_one e;obtain⟨t,rfl⟩:=List.length_eq_one_iff.mp (by simpa using e);exact⟨x,t,rfl⟩
 obtain⟨v,u,rfl,rv,ru⟩:=repL2 r;have hu:=Dk hr;have hr2:Room 2 _:=hr.mono hkk
 refine⟨_,aM (nM (yd (yc (dI (gT _) hr rfl mgT kT bT .nil aW (aA (pv 2) aO)))) (bx (nJ XT hin hr.hd rfl (by decide +kernel))) gR)
  (aM (cP (dI (gN _) hr rfl mgN kN bN .nil aW (aA (pv 1) aO)))
  (aM (jr (i:=3) scP.nd rfl (Or.inl rfl) (Ml (Mq hu (pv 1) (gK (pv 0) rfl))))
  (aM (cP (dj (pv 0) T.cl mO (gO _) hr2 bO .nil aW (aA kW (aA (pv 1) (aA (pv 2) aO)))))
  (bx (cU (pv 3)))))),?_⟩
 simp only[Jd] at ho;refine⟨_,rfl,rfl,Hs,[t],hs,.cons ru .nil,?_⟩;split at ho
 .rename_i ht
  cases ho;refine .inl ⟨_,ht,fun v1 H1 Hs1 E1 r1=>?_⟩;cases dz r1;exact⟨false,rfl,ql fun Cc hC=>k Cc H1 Hs1 hC E1⟩
 .rename_i ht
  refine .inl ⟨_,ht,fun v1 H1 Hs1 E1 r1=>?_⟩;cases dz r1;refine⟨true,rfl,mK ?_⟩;refine⟨_,rfl,rfl,Hs1,[x],E1.sub,.cons (rv.same E1.vis) .nil,?_⟩;split at ho
  .rename_i c hn
   cases ho;exact .inr ⟨c,IV _ _ hn,fun Cc H2 Hs2 hC E2=>k Cc H2 Hs2 hC (E1.trans E2)⟩
  .rename_i sn hn
   obtain⟨rfl,dd,hc⟩:=CJ _ _ hn;obtain⟨S',hd,rfl⟩:=M0z.mp ho;refine .inl ⟨dd,hc,fun v2 H2 Hs2 E2 _=>?_⟩;cases (show v=.str sn by simpa[Rep] using rv);have E12:=E1.trans E2;have S1:=S0.ext E12;obtain⟨dx,h1⟩:=S1.ob;obtain⟨kvs,h2,h3⟩:=S1.dc;refine⟨_,rfl,_,rfl,p,C,dx,_,_,rfl,h1,T.cl,T.nT,rW _ _ _,d,_,rfl,tQ.k (k:=Sum.inr sn) h2,?_⟩;refine⟨_,rfl,p,dx,_,rfl,h1,rfl,_,rfl,_,rfl,p,d,dn,un,"put",sn,t,u,Hs2,S,S',rfl,E12.sub,S1,ru.same E12.vis,hd,fun H3 Hs3 un3 M3 S3=>?_⟩;refine⟨_,rfl,k _ H3 Hs3 un3 (M3.pre E12) S3 ?_⟩;rcases h3.get (n:=sn) with⟨z1,z2⟩ | ⟨d',v',z1,z2,z3⟩
   .rw[z1,z2];simp[Rep]
   .rw[z1,z2];simp[Rep]
  .cases ho
 .cases ho
theorem scK:FnScope ["self","name","table"] ["self","name"] (ao G7):=⟨rfl,rfl,rfl,by decide +kernel,rfl,by decide +kernel,by decide +kernel⟩
theorem rF{S:Cst}{x d:D}(h:jg call callx S [x]=some (.inl d)):∃ s,x=.str s:=by
 simp only[jg] at h;split at h
 .cases h
 .rename_i s e;exact⟨s,(CJ _ _ e).1⟩
 .cases h
theorem Io{f:Addr}{fd:FuncData}(F:Fun K "take" "Case.take" G7 f fd)(T:CTxt K mg C)(hkk:1<=kk)(GT:cg P w K mg C "table_of" ["self","name"] (kk+1) (spR K C 1 (jg call callx)))(GO:cg P w K mg C "do" ["self","word","name","table"] 2 (GR K C)) :
  FnOk P w K mg base (CX1 P w) (kk+2) f fd ["self","name"] (spM K C 1 (lq call callx)):=by
 obtain⟨ft,fdt,mT,bT,gT⟩:=GT;obtain⟨fo,fdo,mO,bO,gO⟩:=GO;refine F.okX scK (fun vs H Q E h=>j9 h) (fun cdv A outer s H vs Q E hr h=>?_);obtain⟨p,d,dn,un,Hs,S,ds,us,o,rfl,e,hs,S0,r,ho,k⟩:=h;obtain⟨x,rfl⟩:∃ x,ds=[x]:=List.length_eq_one_iff.mp e;obtain⟨v,rfl,rv⟩:=repL1 r;have hr2:Room 2 _:=hr.mono (by omega);obtain⟨dx,h1⟩:=S0.ob
 refine⟨_,aM (jr (i:=2) scK.nd rfl (Or.inl rfl) (dj (pv 0) T.cl mT (gT _) hr bT .nil aW (aA (pv 1) aO)))
  (aM (cP (dj (pv 0) T.cl mO (gO _) hr2 bO .nil aW (aA kW (aA (pv 1) (aA Fb aO)))))
  (bx (cU (pv 2)))),?_⟩
 refine⟨_,rfl,p,dx,_,rfl,h1,rfl,_,rfl,p,d,dn,un,Hs,S,[x],[v],?_⟩
 cases hm:jg call callx S [x] with
 | none=>cases x<;>simp[lq,hm] at ho
 | some o' =>
  refine⟨o',rfl,rfl,hs,S0,.cons rv .nil,rfl,?_⟩
  cases o' with
  | inr c =>
   have:o=.exc c:=by cases x<;>simp[lq,hm] at ho<;>exact ho.symm
   subst this;exact k
  | inl t =>
   obtain⟨sn,rfl⟩:=rF hm;simp only[lq,hm] at ho;obtain⟨S',hd,rfl⟩:=M0z.mp ho;cases (show v=.str sn by simpa[Rep] using rv);intro v1 H1 Hs1 E1 r1;have S1:=S0.ext E1;obtain⟨dx1,h2⟩:=S1.ob;refine⟨_,rfl,p,dx1,_,rfl,h2,rfl,_,rfl,p,d,dn,un,"take",sn,.non,.non,Hs1,S,S',rfl,E1.sub,S1,by simp[Rep],hd,fun H3 Hs3 un3 M3 S3=>?_⟩;exact⟨_,rfl,k _ H3 Hs3 un3 (M3.pre E1) S3 (r1.same M3.vis)⟩
theorem scU:FnScope ["self","name","table"] ["self","name"] (ao G6):=⟨rfl,rfl,rfl,by decide +kernel,rfl,by decide +kernel,by decide +kernel⟩
theorem Im{f:Addr}{fd:FuncData}(F:Fun K "turn" "Case.turn" G6 f fd)(T:CTxt K mg C)(hkk:1<=kk)(GF:ig P w K mg "turned" ["table"] kk (spX K call callx "turned" ["table"]))(GT:cg P w K mg C "table_of" ["self","name"] (kk+1) (spR K C 1 (jg call callx)))(GO:cg P w K mg C "do" ["self","word","name","table"] 2 (GR K C)) :
  FnOk P w K mg base (CX1 P w) (kk+2) f fd ["self","name"] (spM K C 1 (eX call callx "turned" "turn")):=by
 obtain⟨ff,fdf,mgF,kF,bF,gF⟩:=GF;obtain⟨ft,fdt,mT,bT,gT⟩:=GT;obtain⟨fo,fdo,mO,bO,gO⟩:=GO;refine F.okX scU (fun vs H Q E h=>j9 h) (fun cdv A outer s H vs Q E hr h=>?_);obtain⟨p,d,dn,un,Hs,S,ds,us,o,rfl,e,hs,S0,r,ho,k⟩:=h;obtain⟨x,rfl⟩:∃ x,ds=[x]:=List.length_eq_one_iff.mp e;obtain⟨v,rfl,rv⟩:=repL1 r;have hr2:Room 2 _:=hr.mono (by omega);have hr1:Room kk _:=hr.mono (by omega);obtain⟨dx,h1⟩:=S0.ob
 refine⟨_,aM (jr (i:=2) scU.nd rfl (Or.inl rfl) (dI (gF _) hr1 rfl mgF kF bF .nil aW (aA (dj (pv 0) T.cl mT (gT _) hr bT .nil aW (aA (pv 1) aO)) aO)))
  (aM (cP (dj (pv 0) T.cl mO (gO _) hr2 bO .nil aW (aA kW (aA (pv 1) (aA (pv 2) aO)))))
  (bx (cU (pv 2)))),?_⟩
 refine⟨_,rfl,p,dx,_,rfl,h1,rfl,_,rfl,p,d,dn,un,Hs,S,[x],[v],?_⟩
 cases hm:jg call callx S [x] with
 | none=>cases x<;>simp[eX,hm] at ho
 | some o' =>
  refine⟨o',rfl,rfl,hs,S0,.cons rv .nil,rfl,?_⟩
  cases o' with
  | inr c =>
   have:o=.exc c:=by cases x<;>simp[eX,hm] at ho<;>exact ho.symm
   subst this;exact k
  | inl t =>
   obtain⟨sn,rfl⟩:=rF hm;simp only[eX,hm,doF] at ho;cases (show v=.str sn by simpa[Rep] using rv);intro v1 H1 Hs1 E1 r1;refine⟨rfl,Hs1,[t],E1.sub,.cons r1 .nil,?_⟩;split at ho
   .rename_i c hc
    cases ho;exact .inr ⟨c,hc,fun Cc H2 Hs2 hC E2=>k Cc H2 Hs2 hC (E1.trans E2)⟩
   .split at ho
    .rename_i t' ht
     obtain⟨S',hd,rfl⟩:=M0z.mp ho;refine .inl ⟨t',ht,fun v2 H2 Hs2 E2 r2=>?_⟩;have E12:=E1.trans E2;have S1:=S0.ext E12;obtain⟨dx1,h2⟩:=S1.ob;refine⟨_,rfl,p,dx1,_,rfl,h2,rfl,_,rfl,_,rfl,p,d,dn,un,"turn",sn,t',v2,Hs2,S,S',rfl,E12.sub,S1,r2,hd,fun H3 Hs3 un3 M3 S3=>?_⟩;exact⟨_,rfl,k _ H3 Hs3 un3 (M3.pre E12) S3 (r2.same M3.vis)⟩
    .cases ho
theorem scF:FnScope ["self","name","table"] ["self","name"] (ao Hf):=⟨rfl,rfl,rfl,by decide +kernel,rfl,by decide +kernel,by decide +kernel⟩
theorem Iu{f:Addr}{fd:FuncData}(F:Fun K "flip" "Case.flip" Hf f fd)(T:CTxt K mg C)(hkk:1<=kk)(GF:ig P w K mg "flipped" ["table"] kk (spX K call callx "flipped" ["table"]))(GT:cg P w K mg C "table_of" ["self","name"] (kk+1) (spR K C 1 (jg call callx)))(GO:cg P w K mg C "do" ["self","word","name","table"] 2 (GR K C)) :
  FnOk P w K mg base (CX1 P w) (kk+2) f fd ["self","name"] (spM K C 1 (eX call callx "flipped" "flip")):=by
 obtain⟨ff,fdf,mgF,kF,bF,gF⟩:=GF;obtain⟨ft,fdt,mT,bT,gT⟩:=GT;obtain⟨fo,fdo,mO,bO,gO⟩:=GO;refine F.okX scF (fun vs H Q E h=>j9 h) (fun cdv A outer s H vs Q E hr h=>?_);obtain⟨p,d,dn,un,Hs,S,ds,us,o,rfl,e,hs,S0,r,ho,k⟩:=h;obtain⟨x,rfl⟩:∃ x,ds=[x]:=List.length_eq_one_iff.mp e;obtain⟨v,rfl,rv⟩:=repL1 r;have hr2:Room 2 _:=hr.mono (by omega);have hr1:Room kk _:=hr.mono (by omega);obtain⟨dx,h1⟩:=S0.ob
 refine⟨_,aM (jr (i:=2) scF.nd rfl (Or.inl rfl) (dI (gF _) hr1 rfl mgF kF bF .nil aW (aA (dj (pv 0) T.cl mT (gT _) hr bT .nil aW (aA (pv 1) aO)) aO)))
  (aM (cP (dj (pv 0) T.cl mO (gO _) hr2 bO .nil aW (aA kW (aA (pv 1) (aA (pv 2) aO)))))
  (bx (cU (pv 2)))),?_⟩
 refine⟨_,rfl,p,dx,_,rfl,h1,rfl,_,rfl,p,d,dn,un,Hs,S,[x],[v],?_⟩
 cases hm:jg call callx S [x] with
 | none=>cases x<;>simp[eX,hm] at ho
 | some o' =>
  refine⟨o',rfl,rfl,hs,S0,.cons rv .nil,rfl,?_⟩
  cases o' with
  | inr c =>
   have:o=.exc c:=by cases x<;>simp[eX,hm] at ho<;>exact ho.symm
   subst this;exact k
  | inl t =>
   obtain⟨sn,rfl⟩:=rF hm;simp only[eX,hm,doF] at ho;cases (show v=.str sn by simpa[Rep] using rv);intro v1 H1 Hs1 E1 r1;refine⟨rfl,Hs1,[t],E1.sub,.cons r1 .nil,?_⟩;split at ho
   .rename_i c hc
    cases ho;exact .inr ⟨c,hc,fun Cc H2 Hs2 hC E2=>k Cc H2 Hs2 hC (E1.trans E2)⟩
   .split at ho
    .rename_i t' ht
     obtain⟨S',hd,rfl⟩:=M0z.mp ho;refine .inl ⟨t',ht,fun v2 H2 Hs2 E2 r2=>?_⟩;have E12:=E1.trans E2;have S1:=S0.ext E12;obtain⟨dx1,h2⟩:=S1.ob;refine⟨_,rfl,p,dx1,_,rfl,h2,rfl,_,rfl,_,rfl,p,d,dn,un,"flip",sn,t',v2,Hs2,S,S',rfl,E12.sub,S1,r2,hd,fun H3 Hs3 un3 M3 S3=>?_⟩;exact⟨_,rfl,k _ H3 Hs3 un3 (M3.pre E12) S3 (r2.same M3.vis)⟩
    .cases ho
end
end M81
namespace L2
open PySem PySem.Spec PyProof.Rows
open DE (D)
section
variable (call:Str->List D->Option D) (callx:Str->List D->Option Str)
def jw(S:Cst)(n:D)(x y w:D):Option MR:=match callx "joined" [w,x,y] with
 | some c=>some (.exc c)
 | none=>match call "joined" [w,x,y] with
  | some t=>match call "is_table" [t] with
   | some (.bl false)=>some (.exc "NoFit")
   | some (.bl true)=>match n with
    | .str s=>(doS S "join" s t).map (.val t)
    | _=>none
   | _=>none
  | none=>none
def lY(S:Cst):List D->Option MR
 | [n,w,a,b]=>match ndN call callx n with
  | some (.inr c)=>some (.exc c)
  | some (.inl _)=>match jg call callx S [a] with
   | some (.inr c)=>some (.exc c)
   | some (.inl x)=>match jg call callx S [b] with
    | some (.inr c)=>some (.exc c)
    | some (.inl y)=>jw call callx S n x y w
    | none=>none
   | none=>none
  | none=>none
 | _=>none
end
def gY(S:Cst):List D->Option (Sum D Str)
 | []=>some (.inl (.tup [.int S.don.length,.int S.und.length]))
 | _=>none
def fu(S:Cst):List D->Option (Sum D Str)
 | []=>if decide (S.tabs.length<64) then(DE.Bj (S.tabs.map (·.1))).map fun l=>.inl (.lst (l.map .str)) else none
 | _=>none
end L2
namespace M81
open PySem PySem.Spec PyProof.Rows L2
open DE (D)
abbrev G9:Stmt:=inClass kj 0
abbrev G8:Stmt:=inClass kj 6
abbrev uc:Stmt:=inClass kj 9
abbrev nF:Stmt:=inClass kj 13
theorem QF{K:Z3}{Hs:Hp}{x y z t:D}{us:List V}(r:aJ K Hs [x,y,z,t] us):∃ v u q s,us=[v,u,q,s]/\Rep K Hs x v/\Rep K Hs y u/\Rep K Hs z q/\Rep K Hs t s:=by
 simp only[aJ] at r;obtain⟨v,_,rfl,r1,u,_,rfl,r2,q,_,rfl,r3,s,_,rfl,r4,rfl⟩:=r;exact⟨v,u,q,s,rfl,r1,r2,r3,r4⟩
section
variable {P:Program} {w:World} {K:Z3} {mg:Str->Option Value} {base:Heap} {C:Addr} {call:Str->List D->Option D} {callx:Str->List D->Option Str} {kk:Nat} {exs:List Str} {tp:Str}
theorem scJ:FnScope ["self","name","word","one","other","table"] ["self","name","word","one","other"] (ao G8):=⟨rfl,rfl,rfl,by decide +kernel,rfl,by decide +kernel,by decide +kernel⟩
theorem Ip{f:Addr}{fd:FuncData}(F:Fun K "join" "Case.join" G8 f fd)(T:CTxt K mg C)(XT:XText K mg exs tp)(hin:exs.contains "NoFit"=true)(hkk:1<=kk)(GN:ig P w K mg "need_name" ["thing"] kk (spX K call callx "need_name" ["thing"]))(GB:ig P w K mg "is_table" ["thing"] kk (spX K call callx "is_table" ["thing"]))
  (GF:ig P w K mg "joined" ["word","one","other"] kk (spX K call callx "joined" ["word","one","other"])) (GT:cg P w K mg C "table_of" ["self","name"] (kk+1) (spR K C 1 (jg call callx))) (GO:cg P w K mg C "do" ["self","word","name","table"] 2 (GR K C)) :
  FnOk P w K mg base (CX1 P w) (kk+2) f fd ["self","name","word","one","other"] (spM K C 4 (lY call callx)):=by
 obtain⟨fn,fdn,mgN,kN,bN,gN⟩:=GN;obtain⟨fb,fdb,mgB,kB,bB,gB⟩:=GB;obtain⟨ff,fdf,mgF,kF,bF,gF⟩:=GF;obtain⟨ft,fdt,mT,bT,gT⟩:=GT;obtain⟨fo,fdo,mO,bO,gO⟩:=GO;refine F.okX scJ (fun vs H Q E h=>j9 h) (fun cdv A outer s H vs Q E hr h=>?_);obtain⟨p,d,dn,un,Hs,S,ds,us,o,rfl,e,hs,S0,r,ho,k⟩:=h
 match ds,e with
 | [n,wd,a,b],_ =>
 obtain⟨vn,vw,va,vb,rfl,rn,rw',ra,rb⟩:=QF r;have hr2:Room 2 _:=hr.mono (by omega);have hr1:Room kk _:=hr.mono (by omega)
 refine⟨_,aM (cP (dI (gN _) hr1 rfl mgN kN bN .nil aW (aA (pv 1) aO)))
  (aM (jr (i:=5) scJ.nd rfl (Or.inl rfl) (dI (gF _) hr1 rfl mgF kF bF .nil aW (aA (pv 2) (aA (dj (pv 0) T.cl mT (gT _) hr bT .nil aW (aA (pv 3) aO)) (aA (dj (pv 0) T.cl mT (gT _) hr bT .nil aW (aA (pv 4) aO)) aO)))))
  (aM (nM (yd (yc (dI (gB _) hr1 rfl mgB kB bB .nil aW (aA (pv 5) aO)))) (bx (nJ XT hin hr.hd rfl (by decide +kernel))) gR)
  (aM (cP (dj (pv 0) T.cl mO (gO _) hr2 bO .nil aW (aA kW (aA (pv 1) (aA (pv 5) aO)))))
  (bx (cU (pv 5)))))),?_⟩
 simp only[lY] at ho;refine⟨_,rfl,rfl,Hs,[n],hs,.cons rn .nil,?_⟩;split at ho
 .rename_i c hn
  cases ho;exact .inr ⟨c,IV _ _ hn,k⟩
 .rename_i sn hn
  obtain⟨rfl,dd,hc⟩:=CJ _ _ hn;cases (show vn=.str sn by simpa[Rep] using rn);refine .inl ⟨dd,hc,fun v1 H1 Hs1 E1 _=>?_⟩;have S1:=S0.ext E1;obtain⟨dx1,q1⟩:=S1.ob;refine⟨_,rfl,_,rfl,p,dx1,_,rfl,q1,rfl,_,rfl,p,d,dn,un,Hs1,S,[a],[va],?_⟩
  cases hm:jg call callx S [a] with
  | none=>rw[hm] at ho;cases ho
  | some o1 =>
   rw[hm] at ho;refine⟨o1,rfl,rfl,E1.sub,S1,.cons (ra.same E1.vis) .nil,rfl,?_⟩
   cases o1 with
   | inr c=>cases ho;exact fun Cc H2 Hs2 hC E2=>k Cc H2 Hs2 hC (E1.trans E2)
   | inl x =>
    intro v2 H2 Hs2 E2 r2;have E12:=E1.trans E2;have S2:=S0.ext E12;obtain⟨dx2,q2⟩:=S2.ob;refine⟨_,rfl,p,dx2,_,rfl,q2,rfl,_,rfl,p,d,dn,un,Hs2,S,[b],[vb],?_⟩
    cases hm2:jg call callx S [b] with
    | none=>simp only[hm2] at ho;cases ho
    | some o2 =>
     simp only[hm2] at ho;refine⟨o2,rfl,rfl,E2.sub,S2,.cons (rb.same E12.vis) .nil,rfl,?_⟩
     cases o2 with
     | inr c=>cases ho;exact fun Cc H2 Hs2 hC E2=>k Cc H2 Hs2 hC (E12.trans E2)
     | inl y =>
      intro v3 H3 Hs3 E3 r3;have E13:=E12.trans E3;simp only[jw] at ho;refine⟨rfl,Hs3,[wd,x,y],E3.sub,.cons (rw'.same E13.vis) (.cons (r2.same E3.vis) (.cons r3 .nil)),?_⟩;split at ho
      .rename_i c hc
       cases ho;exact .inr ⟨c,hc,fun Cc H2 Hs2 hC E2=>k Cc H2 Hs2 hC (E13.trans E2)⟩
      .split at ho
       .rename_i t ht
        refine .inl ⟨t,ht,fun v4 H4 Hs4 E4 r4=>?_⟩;have E14:=E13.trans E4;refine⟨_,rfl,rfl,Hs4,[t],E4.sub,.cons r4 .nil,?_⟩;split at ho
        .rename_i hb
         cases ho;refine .inl ⟨_,hb,fun v5 H5 Hs5 E5 r5=>?_⟩;cases dz r5;exact⟨false,rfl,ql fun Cc hC=>k Cc H5 Hs5 hC (E14.trans E5)⟩
        .rename_i hb
         refine .inl ⟨_,hb,fun v5 H5 Hs5 E5 r5=>?_⟩;cases dz r5;refine⟨true,rfl,mK ?_⟩;obtain⟨S',hd,rfl⟩:=M0z.mp ho;have E15:=E14.trans E5;have S5:=S0.ext E15;obtain⟨dx5,q5⟩:=S5.ob;refine⟨_,rfl,p,dx5,_,rfl,q5,rfl,_,rfl,_,rfl,p,d,dn,un,"join",sn,t,v4,Hs5,S,S',rfl,E15.sub,S5,r4.same E5.vis,hd,fun H6 Hs6 un6 M6 S6=>?_⟩;exact⟨_,rfl,k _ H6 Hs6 un6 (M6.pre E15) S6 (r4.same (E5.vis.trans M6.vis))⟩
        .cases ho
       .cases ho
 .cases ho
end
section
variable {P:Program} {w:World} {K:Z3} {mg:Str->Option Value} {base:Heap} {C:Addr} {kk:Nat} {exs:List Str} {tp:Str}
theorem scN:FnScope ["self"] ["self"] (ao uc):=⟨rfl,rfl,rfl,by decide +kernel,rfl,by decide +kernel,by decide +kernel⟩
theorem Cy{f:Addr}{fd:FuncData}(F:Fun K "names" "Case.names" uc f fd)(T:CTxt K mg C)(hsrt:mg "sorted"=none):FnOk P w K mg base (CX1 P w) 1 f fd ["self"] (spR K C 0 fu):=by
 refine F.okX scN (fun vs H Q E h=>nj h) (fun cdv A outer s H vs Q E hr h=>?_);obtain⟨p,d,dn,un,Hs,S,ds,us,o,rfl,e,hs,S0,r,ho,k⟩:=h;cases List.length_eq_zero_iff.mp e;cases (show us=[] by simpa[aJ] using r);obtain⟨dx,h1⟩:=S0.ob;obtain⟨kvs,h2,h3⟩:=S0.dc;simp only[fu] at ho;split at ho
 .rename_i h4
  obtain⟨l,h5,h6⟩:=M0z.mp ho;cases h6;refine⟨_,bx (cU (bY (qI rfl) rfl hsrt (by decide +kernel) (aA (gK (pv 0) rfl) aO))),?_⟩;refine⟨_,rfl,p,C,dx,_,_,rfl,h1,T.cl,T.nT,rW _ _ _,d,kvs,_,rfl,h2,h3.keys,?_,fun a ss ha hp hss=>?_⟩
  .rw[E3z]
   exact J2z h4
  .cases DE.xJ h5 hp hss
   have rl:aJ K Hs (l.map D.str) (l.map V.str):=by
    clear h5 hp hss k ho
    induction l with
    | nil=>exact .nil
    | cons a l ih=>exact .cons (by simp[Rep]) ih
   exact nQ (X:=eF (CX1 P w) P w K mg base ["self"] "Case.names" (ao uc) f cdv A outer s H E) hs rl ha fun v H' Hs' E1 r1=>k v H' Hs' E1 r1
 .cases ho
theorem scC:FnScope ["self"] ["self"] (ao nF):=⟨rfl,rfl,rfl,by decide +kernel,rfl,by decide +kernel,by decide +kernel⟩
theorem yC{f:Addr}{fd:FuncData}(F:Fun K "counts" "Case.counts" nF f fd)(T:CTxt K mg C)(hlen:mg "len"=none):FnOk P w K mg base (CX1 P w) 1 f fd ["self"] (spR K C 0 gY):=by
 refine F.okX scC (fun vs H Q E h=>nj h) (fun cdv A outer s H vs Q E hr h=>?_);obtain⟨p,d,dn,un,Hs,S,ds,us,o,rfl,e,hs,S0,r,ho,k⟩:=h;cases List.length_eq_zero_iff.mp e;cases (show us=[] by simpa[aJ] using r);obtain⟨dx,h1⟩:=S0.ob;obtain⟨ls,h2,h3⟩:=S0.dl;obtain⟨lu,h4,h5⟩:=S0.ul;simp only[gY] at ho;cases ho;refine⟨_,bx (cU (uq (aA (bY fZ rfl hlen PySem.boot_len (aA (gK (pv 0) rfl) aO)) (aA (bY fZ rfl hlen PySem.boot_len (aA (gK (pv 0) rfl) aO)) aO)))),?_⟩;refine⟨_,rfl,p,C,dx,_,_,rfl,h1,T.cl,T.nD,Nt _ _ _,dn,_,rfl,.inl (SqL.of h2),_,rfl,p,C,dx,_,_,rfl,h1,T.cl,T.nU,Wr _ _ _,un,_,rfl,.inl (SqL.of h4),(by show 2<=sizeLine;decide),fun a ha=>?_⟩;exact gW (X:=eF (CX1 P w) P w K mg base ["self"] "Case.counts" (ao nF) f cdv A outer s H E) hs (.cons (by simp[Rep,h3.length]) (.cons (by simp[Rep,h5.length]) .nil)) ha fun v H' Hs' E1 r1=>k v H' Hs' E1 r1
def En(K:Z3)(C:Addr):Sp:=fun vs H Q _=>∃ (p dx:Addr) (Hs:Hp),vs=[.ref p]/\H p=some (.ins C dx [])/\Same Hs H/\Hs p=none/\∀ (d dn un:Addr) (H':Hp),CRep K C Hs H' p d dn un ⟨[],[],[]⟩->H d=none->H dn=none->H un=none->(∀ b o,H b=some o->b≠p->H' b=some o)->Q .non H'
theorem scI:FnScope ["self"] ["self"] (ao G9):=⟨rfl,rfl,rfl,by decide +kernel,rfl,by decide +kernel,by decide +kernel⟩
theorem Ir{f:Addr}{fd:FuncData}(F:Fun K "__init__" "Case.__init__" G9 f fd)(T:CTxt K mg C):FnOk P w K mg base (CX1 P w) 1 f fd ["self"] (En K C):=by
 refine F.okX scI (fun vs H Q E h=>?_) (fun cdv A outer s H vs Q E hr h=>?_)
 .obtain⟨p,dx,Hs,rfl,_⟩:=h
  rfl
 .obtain⟨p,dx,Hs,rfl,hp,hs,hsp,k⟩:=h
  refine⟨_,aM (uh (pv 0) Cp rfl) (aM (uh (pv 0) (pX aO) rfl) (bx (uh (pv 0) (pX aO) rfl))),?_⟩;intro d hd;have npd:p≠d:=ak hp hd;refine⟨_,rfl,p,C,dx,[],rfl,(by rw[aj npd];exact hp),T.cl,T.nT,(by show 0<1000;decide),⟨by decide,fun dn hdn=>?_⟩⟩
  have npn:p≠dn:=fun z=>by subst z;rw[aB] at hdn;cases hdn
  have nnd:dn≠d:=fun z=>by subst z;rw[aj npn.symm,aB] at hdn;cases hdn
  refine⟨_,rfl,p,C,dx,fl1 d,rfl,(by rw[aj npn,aB];rfl),T.cl,T.nD,(by show 1<1000;decide),⟨by decide,fun un hun=>?_⟩⟩
  rw[put1] at hun ⊢
  have npu:p≠un:=fun z=>by subst z;rw[aB] at hun;cases hun
  have nun:un≠dn:=fun z=>by subst z;rw[aj npu.symm,aB] at hun;cases hun
  have nud:un≠d:=fun z=>by subst z;rw[aj npu.symm,aj nun,aj npu.symm,aB] at hun;cases hun
  refine⟨_,rfl,p,C,dx,fl2 d dn,rfl,(by rw[aj npu,aB]),T.cl,T.nU,(by show 2<1000;decide),?_⟩
  rw[put2]
  have hdn0:H dn=none:=by rw[aj npn.symm,aj nnd] at hdn;exact hdn
  have hun0:H un=none:=by rw[aj npu.symm,aj nun,aj npu.symm,aj nud] at hun;exact hun
  refine k d dn un _ ⟨⟨dx,aB⟩,⟨[],?_,rfl⟩,⟨[],?_,.nil⟩,⟨[],?_,.nil⟩,nun.symm,hsp,cB hs hd,cB hs hdn0,cB hs hun0⟩ hd hdn0 hun0 fun b o e hb=>?_
  .rw[aj npd.symm,aj nud.symm,aj npd.symm,aj nnd.symm,aj npd.symm,aB]
  .rw[aj npn.symm,aj nun.symm,aj npn.symm,aB]
  .rw[aj npu.symm,aB]
  .rw[aj hb,aj (ak e hun0),aj hb,aj (ak e hdn0),aj hb,aj (ak e hd)];exact e
end
end M81
namespace L2
open PySem PySem.Spec PyProof.Rows
open DE hiding st
abbrev rm:=List (Str×Nat×(Cst->List D->Option MR))
theorem nY{T:Pg}{F k k':Nat}{X:Cx}{sc:Scope}(Tx:Text X.w X.K X.mg T)(hk:k<=k')(h1:X.calm=true)(h2:Room k' X.A)(h3:X.env.scope=sc)(h4:sc.kind=.function)(h5:X.N.Nodup):Good (T.cx (aR T F k)) k' X sc :=
  { calm := h1, room := h2, sce := h3, kind := h4, nd := h5, cst := Tx.cst, blt := Tx.blt, exs := Tx.exs, kw := Tx.kw
    fns:=fun f' hf'=>by
      obtain⟨fd',hl'⟩:=gn (l:=T.defs) hf'
      have FA:=Tx.fns f' fd' hl'
      obtain⟨nm',t',a',g',m1,m2,m3,m4,m5⟩:=FA.ex
      exact⟨FA.nd,a',g',fd'.ps,fun ds d h=>gC hl' ds _ (iw h),fun ds c h=>gC hl' ds _ (iR h),m1,m2.kp,m3,(Bc Tx k nm' f' fd' t' a' g' hl' m2 m4 m5 FA.fs).mono hk⟩ }
def isNm:Expr->Bool
 | .Name _ _=>true
 | _=>false
structure CaseOk (P:Program) (w:World) (K:Z3) (mg:Str->Option Value) (k:Nat) (C:Addr) (ms:rm):Prop where
 cl:Cls K C
 met:∀ m n f,ms.lookup m=some (n,f)->(o7 0 0 0).lookup m=none/\∃ ps,cg P w K mg C m ps k (spM K C n f)
def vJ(cx:Cxt)(F:Nat)(sc:Scope)(U:Rho):Expr->Option (Addr×Str×List D)
 | .Call (.Attribute o m ap) args [] cp=>match ev cx F sc U o with
  | some (.obj a)=>if isNm o&&ap.endLine==cp.line&&decide (args.length<30) then(jH (ev cx F sc U) args).map fun ds=>(a,m,ds) else none
  | _=>none
 | _=>none
def Wq(ms:rm)(S:Cst):Addr×Str×List D->Option (Addr×MR):=fun q=>match ms.lookup q.2.1 with
 | some (n,f)=>if q.2.2.length==n then(f S q.2.2).map fun o=>(q.1,o) else none
 | none=>none
def Pz(cx:Cxt)(ms:rm)(F:Nat)(sc:Scope)(U:Rho)(S:Cst)(e:Expr):Option (Addr×MR):=(vJ cx F sc U e).bind (Wq ms S)
theorem Gi.pre{K:Z3}{C p d dn un:Addr}{Hs H Hs1 H1:Hp}{Q:VK}{E:XK}{o:MR}(h:Gi K C p d dn un Hs H Q E o)(E1:Ext Hs H Hs1 H1):Gi K C p d dn un Hs1 H1 Q E o:=by
 cases o with
 | val r S=>exact fun v H' Hs' un' M S' r'=>h v H' Hs' un' (M.pre E1) S' r'
 | exc c=>exact fun Cc H' Hs' hC E2=>h Cc H' Hs' hC (E1.trans E2)
theorem Nr(a b c:Addr){m:Str}(h:(o7 0 0 0).lookup m=none):(o7 a b c).lookup m=none:=by
 simp only[o7,List.lookup] at h ⊢
 cases e1:m==nT<;>cases e2:m==nD<;>cases e3:m==nU<;>simp[e1,e2,e3] at h ⊢
theorem v9{l:List (Bool×Sem Value)}(h:l.any (·.1)=false):l.all (fun q => !q.1)=true:=by
 rw[A3z];intro q hq;rw[List.any_eq_false] at h;simpa using h q hq
theorem Ai{x m:Str}{px ap cp:Pos}{args:List Expr}{env:Env}(hp:(backTo cp (starEach args env)).any (·.1)=false)(hl:args.length<30)(hline:(ap.endLine==cp.line)=true) :
  eval (.Call (.Attribute (.Name x px) m ap) args [] cp) env=(do
   let ov <- eval (.Name x px) env
   standAt ap.atName
   let (f,first) <- holding [ov] (getMethod ov m (do return (<- importBound (.Name x px) env).getD true))
   callWith cp f first (backTo cp (starEach args env)) (backToKw cp (keywordEach [] env))):=by
 have hf:methodCallForm (args.length+([]:List Keyword).length) (backTo cp (starEach args env)) (backToKw cp (keywordEach [] env))=true:=by
  unfold methodCallForm;rw[v9 hp];show(true&&true&&decide (args.length<30))=true;rw[U3z hl];rfl
 show(do
  let ov <- attributeBase (.Name x px) m env (eval (.Name x px) env)
  standAt ap.atName
  methodCall (.Name x px) m ap cp env ov (args.length+([]:List Keyword).length) (backTo cp (starEach args env)) (backToKw cp (keywordEach [] env)))=_
 unfold methodCall;rw[hf];unfold methodCallPos;rw[L5z (by rw[hline];rfl)];rfl
theorem jQ{cx:Cxt}{k:Nat}{X:Cx}{sc:Scope}{U:Rho}{F kM:Nat}{p C d dn un:Addr}{S:Cst}{e:Expr}{m:Str}{ds:List D}{ps:List Str}{sp:Sp}{Y:St}{H Hs:Hp}{Q:VK}{E:XK}(G:Good cx k X sc)(hN:X.N=U.map (·.1))(cl:Cls X.K C)(nf:(o7 0 0 0).lookup m=none)(MO:cg X.prog X.w X.K X.mg C m ps kM sp)(hr:Room kM X.A)(hx:Passes (CX1 X.prog X.w) X E)
  (h:vJ cx F sc U e=some (p,m,ds)) (hs:Same Hs H) (hst:bJ X.K Hs U Y) (S0:CRep X.K C Hs H p d dn un S) (k:∀ H1 Hs1 vs,Ext Hs H Hs1 H1->aJ X.K Hs1 ds vs->sp (.ref p::vs) H1 Q E):iB X e Y H Q/\aG e=true:=by
 unfold vJ at h;split at h
 .rename_i o m' ap args cp
  split at h
  .rename_i a ha
   split at h
   .rename_i hp
    rw[U2z,U2z] at hp;obtain⟨⟨hnm,hline⟩,hl30⟩:=hp;have hl30:args.length<30:=J2z hl30;obtain⟨ds',h1,h2⟩:=M0z.mp h;cases h2
    cases o with
    | Name x px =>
     have hn:=(dD cx F G hN ha).1;obtain⟨hA,hpl⟩:=dJ (X:=X) (U:=U) (fun e _ d he=>⟨(dD cx F G hN he).1,aV he⟩) h1;obtain⟨g,gd,mG,bG,GS⟩:=MO;refine⟨?_,rfl⟩
     cases args with
     | nil =>
      simp only[jH,I2z] at h1;subst h1;refine(Ci au cl mG (GS _) hr bG .nil hx (Ai rfl hl30 hline)).sem (hn Y H Hs _ hs hst fun v H1 Hs1 E1 r1=>?_);cases (show v=.ref p by simpa[Rep] using r1);obtain⟨dx,h3⟩:=(S0.ext E1).ob;exact⟨p,dx,_,rfl,h3,Nr _ _ _ nf,k H1 Hs1 [] E1 .nil⟩
     | cons e1 es =>
      refine(dj au cl mG (GS _) hr bG .nil hx cL (aq (hpl e1 (by simp))) (dH fun e' he=>hpl e' (S0z _ he)) (Ai (dH hpl) hl30 hline)).sem (hn Y H Hs _ hs hst fun v H1 Hs1 E1 r1=>?_);cases (show v=.ref p by simpa[Rep] using r1);obtain⟨dx,h3⟩:=(S0.ext E1).ob;refine⟨p,dx,_,rfl,h3,Nr _ _ _ nf,hA Y H1 Hs1 _ E1.sub (hst.same E1.vis) fun vs H2 Hs2 E2 r2=>?_⟩;rw[F3z];exact k H2 Hs2 vs (E1.trans E2) r2
    | _=>cases hnm
   .cases h
  .cases h
 .cases h
theorem vI{cx:Cxt}{F:Nat}{sc:Scope}{U:Rho}{e:Expr}{q:Addr×Str×List D}(h:vJ cx F sc U e=some q):aG e=true:=by
 unfold vJ at h;split at h
 .rfl
 .cases h
theorem Jc{P:Program}{w:World}{K:Z3}{mg:Str->Option Value}{kM:Nat}{C p p' d dn un:Addr}{ms:rm}{S:Cst}{m:Str}{ds:List D}{o:MR}{Hs H:Hp}{Q:VK}{E:XK}(CO:CaseOk P w K mg kM C ms)(h:Wq ms S (p',m,ds)=some (p,o))(hs:Same Hs H)(S0:CRep K C Hs H p d dn un S)(k:Gi K C p d dn un Hs H Q E o) :
  p'=p/\(o7 0 0 0).lookup m=none/\∃ ps sp,cg P w K mg C m ps kM sp/\∀ H1 Hs1 vs,Ext Hs H Hs1 H1->aJ K Hs1 ds vs->sp (.ref p::vs) H1 Q E:=by
 unfold Wq at h;split at h
 .rename_i n f hm
  split at h
  .rename_i hl
   obtain⟨o',h2,h5⟩:=M0z.mp h;cases h5;obtain⟨nf,ps,MO⟩:=CO.met m n f hm;exact⟨rfl,nf,ps,_,MO,fun H1 Hs1 vs E1 r=>⟨_,d,dn,un,Hs1,S,ds,vs,_,rfl,by simpa using hl,E1.sub,S0.ext E1,r,h2,k.pre E1⟩⟩
  .cases h
 .cases h
theorem yK{cx:Cxt}{k:Nat}{X:Cx}{sc:Scope}{U:Rho}{ms:rm}{F kM:Nat}{p C d dn un:Addr}{S:Cst}{e:Expr}{o:MR}{Y:St}{H Hs:Hp}{Q:VK}{E:XK}(G:Good cx k X sc)(hN:X.N=U.map (·.1))(CO:CaseOk X.prog X.w X.K X.mg kM C ms)(hr:Room kM X.A)(hx:Passes (CX1 X.prog X.w) X E)
  (h:Pz cx ms F sc U S e=some (p,o)) (hs:Same Hs H) (hst:bJ X.K Hs U Y) (S0:CRep X.K C Hs H p d dn un S) (k:Gi X.K C p d dn un Hs H Q E o):iB X e Y H Q/\aG e=true:=by
 obtain⟨⟨p',m,ds⟩,h1,h2⟩:=Option.bind_eq_some_iff.mp h;obtain⟨rfl,nf,ps,sp,MO,q⟩:=Jc CO h2 hs S0 k;exact jQ G hN CO.cl nf MO hr hx h1 hs hst S0 q
def big(Hs H:Hp)(p d dn un:Addr):Hp:=fun b=>match Hs b with
 | some o=>some o
 | none=>if b=p\/b=d\/b=dn\/b=un then H b else none
def mix(A B:Hp):Hp:=fun b=>match A b with
 | some o=>some o
 | none=>B b
section
variable {Hs H:Hp} {p d dn un:Addr}
theorem tM:Same Hs (big Hs H p d dn un):=fun b o e=>by unfold big;rw[e]
theorem oO(hs:Same Hs H):Same (big Hs H p d dn un) H:=fun b o e=>by
 unfold big at e;split at e
 .rename_i q;cases e;exact hs _ _ q
 .split at e
  .exact e
  .cases e
theorem jA{b:Addr}{o:HO}(h:b=p\/b=d\/b=dn\/b=un)(n:Hs b=none)(e:H b=some o):big Hs H p d dn un b=some o:=by
 unfold big;rw[n];simp only;rw[L5z h];exact e
theorem oR{b:Addr}(h:¬ (b=p\/b=d\/b=dn\/b=un))(n:Hs b=none):big Hs H p d dn un b=none:=by
 unfold big;rw[n];simp only;rw[M5z h]
theorem CRep.big{K:Z3}{C:Addr}{S:Cst}{H1:Hp}(S0:CRep K C Hs H p d dn un S)(sm:Same (big Hs H p d dn un) H1):CRep K C Hs H1 p d dn un S:=by
 obtain⟨⟨dx,a1⟩,⟨kvs,b1,b2⟩,⟨vs,c1,c2⟩,⟨us,d1,d2⟩,e,f1,f2,f3,f4⟩:=S0;exact⟨⟨dx,sm _ _ (jA (.inl rfl) f1 a1)⟩,⟨kvs,sm _ _ (jA (.inr (.inl rfl)) f2 b1),b2⟩,⟨vs,sm _ _ (jA (.inr (.inr (.inl rfl))) f3 c1),c2⟩,⟨us,sm _ _ (jA (.inr (.inr (.inr rfl))) f4 d1),d2⟩,e,f1,f2,f3,f4⟩
theorem Ja{Hb H1 Hs' H':Hp}(v:Same Hs Hb)(s:Same Hb H1)(E:Ext Hs H1 Hs' H'):Ext Hb H1 (mix Hs' Hb) H':=by
 have key:∀ b,Hs b=none->∀ o,Hb b=some o->Hs' b=none:=fun b n o e=>E.hid b o (s _ _ e) n;refine⟨fun b o e=>?_,E.all,fun b o e=>?_,fun b o e n=>?_⟩
 .unfold mix
  cases q:Hs b with
  | none=>rw[key b q o e];exact e
  | some o' =>
   have:=v _ _ q;rw[e] at this;cases this;rw[E.vis _ _ q]
 .unfold mix at e
  split at e
  .rename_i q;cases e;exact E.sub _ _ q
  .exact E.all _ _ (s _ _ e)
 .unfold mix
  rw[E.hid b o e (cB v n)];exact n
end
theorem CRep.noext{C p d dn un:Addr}{S:Cst}{K:Z3}{Hs H:Hp}{b:Addr}{φ:Heap->Prop}(S0:CRep K C Hs H p d dn un S)(h:H b=some (.ext φ)):¬ (b=p\/b=d\/b=dn\/b=un):=by
 obtain⟨⟨dx,a1⟩,⟨kvs,b1,b2⟩,⟨vs,c1,c2⟩,⟨us,d1,d2⟩,_⟩:=S0;rintro(rfl | rfl | rfl | rfl)
 .rw[a1] at h;cases h
 .rw[b1] at h;cases h
 .rw[c1] at h;cases h
 .rw[d1] at h;cases h
section
variable {K:Z3} {lm:Option (Addr×Str)} {Hs0 H0 Hs H Hs' H':Hp} {U:Rho} {Y:St} {C p d dn un un':Addr} {S S':Cst}
theorem CRep.core(S0:CRep K C Hs H p d dn un S):CRep K C Hs (L2.big Hs H p d dn un) p d dn un S:=by
 obtain⟨⟨dx,a1⟩,⟨kvs,b1,b2⟩,⟨vs,c1,c2⟩,⟨us,d1,d2⟩,e,f1,f2,f3,f4⟩:=S0;exact⟨⟨dx,jA (.inl rfl) f1 a1⟩,⟨kvs,jA (.inr (.inl rfl)) f2 b1,b2⟩,⟨vs,jA (.inr (.inr (.inl rfl))) f3 c1,c2⟩,⟨us,jA (.inr (.inr (.inr rfl))) f4 d1,d2⟩,e,f1,f2,f3,f4⟩
theorem CRep.qb(S0:CRep K C Hs H p d dn un S){b:Addr}(h:H b=none):b≠p/\b≠d/\b≠dn/\b≠un:=by
 obtain⟨⟨dx,a1⟩,⟨kvs,b1,b2⟩,⟨vs,c1,c2⟩,⟨us,d1,d2⟩,_⟩:=S0
 refine⟨?_,?_,?_,?_⟩<;>rintro rfl
 .rw[a1] at h;cases h
 .rw[b1] at h;cases h
 .rw[c1] at h;cases h
 .rw[d1] at h;cases h
theorem Hd.rebase{H0':Hp}(h:Hd K lm Hs0 H0 Hs H U Y)(vis:Same Hs Hs')(ext:Ext Hs' H0' Hs' H')(key:∀ b vs,H b=some (.lst vs)->Hs b=none->H0 b=none->H' b=some (.lst vs)/\Hs' b=none/\H0' b=none)(lam:∀ q,lm=some q->H0' q.1=none/\∃ l,LamT H' q.1 q.2 l/\Hs' q.1=none/\∀ r∈l,Hs' r.2=none):Hd K lm Hs' H0' Hs' H' U Y:=by
 refine⟨ext,h.len,h.sh.same vis,fun i x ds e=>?_,h.dis,fun i x dss e=>?_,lam⟩
 .obtain⟨a,vs,h1,h2,h3,h4,h5⟩:=h.ow i x ds e
  obtain⟨k1,k2,k3⟩:=key a _ h2 h4 h5;exact⟨a,vs,h1,k1,aJ.same vis ds vs h3,k2,k3⟩
 .exact h.oo i x dss e
theorem Hd.stepN(h:Hd K lm Hs0 H0 Hs H U Y)(all:Same H H')(n1:H p=none)(n2:H d=none)(n3:H dn=none)(n4:H un=none):Hd K lm Hs (big Hs H' p d dn un) Hs H' U Y:=by
 have sub:Same Hs H':=h.ext.sub.trans all
 have out:∀ {b o},H b=some o->Hs b=none->big Hs H' p d dn un b=none:=fun {b o} e n=>oR (fun z=>by
  rcases z with rfl | rfl | rfl | rfl
  .rw[n1] at e;cases e
  .rw[n2] at e;cases e
  .rw[n3] at e;cases e
  .rw[n4] at e;cases e) n
 refine h.rebase (.refl _) ⟨.refl _,oO sub,sub,fun _ _ _ z=>z⟩ (fun b vs e n _=>⟨all b _ e,n,out e n⟩) fun q hq=>?_;obtain⟨_,l,T,m1,m2⟩:=h.lam q hq;exact⟨out T.tab m1,l,T.same all,m1,m2⟩
end
section
variable {X:Cx} {e:Expr} {Y:St} {H:Hp}
theorem mq{Q R:Bool->Hp->Prop}(h:lW X e Y H Q)(q:∀ v H',Q v H'->R v H'):lW X e Y H R:=fun z0 s I=>thn (h z0 s I) fun v s1 ⟨H1,I1,q1⟩=>⟨H1,I1,q _ _ q1⟩
theorem vp{Q R:Bool->Hp->Prop}(h:ni X e Y H Q)(q:∀ v H',Q v H'->R v H'):ni X e Y H R:=fun wh z0 s I=>thn (h wh z0 s I) fun v s1 ⟨H1,I1,q1⟩=>⟨H1,I1,q _ _ q1⟩
end
end L2
namespace M81
open PySem PySem.Spec PyProof.Rows L2
open DE (D)
def MF(K:Z3)(C:Addr)(m qual:Str)(st:Stmt):Prop:=∃ f fd,Meth K C m f/\Fun K m qual st f fd
theorem lX{K:Z3}{C:Addr}{x qual:Str}{st:Stmt}(f:Addr)(pm cdv:Value)(y:W.findIn K (.ref C) x=some (some (.ref f)))(i:W.isFn K (.ref f)=true)(l:K.lookup f=some ⟨.type "function",none,.func (W.fnOf x qual (bM st) (aL st) (ao st) .none .none .none pm none cdv .none),#[]⟩)
  (c:W.codeIn K cdv qual=true) (k:W.keepIn K (.ref f)=true):MF K C x qual st:=⟨f,_,⟨y,i,k⟩,fun_mk l c k⟩
def cl:Str->List D->Option D:=vR (DE.aR T 60 34)
def clx:Str->List D->Option Str:=xR (DE.aR T 60 34)
def ms:rm:=[("put",2,Jd cl clx),("take",1,lq cl clx),("table_of",1,fun S ds=>(jg cl clx S ds).map (toM S)),("turn",1,eX cl clx "turned" "turn"),("flip",1,eX cl clx "flipped" "flip"),("join",4,lY cl clx),("names",0,fun S ds=>(fu S ds).map (toM S)),("counts",0,fun S ds=>(gY S ds).map (toM S))]
structure CaseTxt (K:Z3) (mg:Str->Option Value) (C:Addr):Prop where
 t:CTxt K mg C
 set:MF K C "set_to" "Case.set_to" xU
 doo:MF K C "do" "Case.do" sDo
 put:MF K C "put" "Case.put" Qz
 tab:MF K C "table_of" "Case.table_of" Qy
 take:MF K C "take" "Case.take" G7
 join:MF K C "join" "Case.join" G8
 turn:MF K C "turn" "Case.turn" G6
 flip:MF K C "flip" "Case.flip" Hf
 names:MF K C "names" "Case.names" uc
 counts:MF K C "counts" "Case.counts" nF
section
variable {P:Program} {w:World} {K:Z3} {mg:Str->Option Value} {C:Addr}
theorem len5{us:List Value}{n:Nat}(h:us.length=n)(hn:n=5:=by rfl):∃ a b c d e,us=[a,b,c,d,e]:=by
 subst hn
 match us,h with
 | [a,b,c,d,e],_=>exact⟨a,b,c,d,e,rfl⟩
theorem Jb{ms:rm}{k:Nat}(h:∀ p∈ms,(o7 0 0 0).lookup p.1=none/\∃ ps,cg P w K mg C p.1 ps k (spM K C p.2.1 p.2.2)):∀ m n f,ms.lookup m=some (n,f)->(o7 0 0 0).lookup m=none/\∃ ps,cg P w K mg C m ps k (spM K C n f):=fun m n f hl=>by
 induction ms with
 | nil=>cases hl
 | cons q r ih =>
  obtain⟨y,n',f'⟩:=q;rw[O2z] at hl;split at hl
  .rename_i e
   cases hl;have:=eq_of_beq e;subst this;exact h _ (I1z ..)
  .exact ih (fun p hp=>h p (S0z _ hp)) hl
theorem ju{m:Str}{ps:List Str}{j k:Nat}{sp:Sp}(h:cg P w K mg C m ps j sp)(hk:j<=k):cg P w K mg C m ps k sp:=by
 obtain⟨f,fd,a,b,c⟩:=h;exact⟨f,fd,a,b,fun base=>(c base).mono hk⟩
theorem yL{m:Str}{ps:List Str}{k n:Nat}{f:Cst->List D->Option (Sum D Str)}(h:cg P w K mg C m ps k (spR K C n f)):cg P w K mg C m ps k (spM K C n fun S ds=>(f S ds).map (toM S)):=by
 obtain⟨f,fd,a,b,c⟩:=h;exact⟨f,fd,a,b,fun base=>(c base).weak fun vs H Q E q=>Ln q⟩
theorem Zi(TX:Text w K mg T)(Y:CaseTxt K mg C):cg P w K mg C "table_of" ["self","name"] 35 (spR K C 1 (jg cl clx)):=by
 have nn:ig P w K mg "need_name" ["thing"] 34 (spX K cl clx "need_name" ["thing"]):=gq (F:=60) TX (show T.defs.lookup ("need_name":Str)=some (bf (top 42)) by rfl');obtain⟨fs,ds,ms1,Fs⟩:=Y.tab;exact⟨fs,ds,ms1,Fs.binds fun _ _ _ _ _ _ us hl=>by obtain⟨_,_,rfl⟩:=len2 hl;rfl,fun base=>Mw Fs Y.t TX.exs (by rfl') nn⟩
theorem WL(TX:Text w K mg T)(Y:CaseTxt K mg C):cg P w K mg C "names" ["self"] 1 (spR K C 0 fu):=by
 obtain⟨fs,ds,ms1,Fs⟩:=Y.names;exact⟨fs,ds,ms1,Fs.binds fun _ _ _ _ _ _ us hl=>by obtain⟨_,rfl⟩:=len1 hl;rfl,fun base=>Cy Fs Y.t (TX.blt "sorted" "sorted" (by rfl')).1⟩
theorem Zk(TX:Text w K mg T)(Y:CaseTxt K mg C):cg P w K mg C "counts" ["self"] 1 (spR K C 0 gY):=by
 obtain⟨fs,ds,ms1,Fs⟩:=Y.counts;exact⟨fs,ds,ms1,Fs.binds fun _ _ _ _ _ _ us hl=>by obtain⟨_,rfl⟩:=len1 hl;rfl,fun base=>yC Fs Y.t (TX.blt "len" "len" (by rfl')).1⟩
theorem Ou(TX:Text w K mg T)(Y:CaseTxt K mg C):CaseOk P w K mg 36 C ms:=by
 have nn:ig P w K mg "need_name" ["thing"] 34 (spX K cl clx "need_name" ["thing"]):=gq (F:=60) TX (show T.defs.lookup ("need_name":Str)=some (bf (top 42)) by rfl');have it:ig P w K mg "is_table" ["thing"] 34 (spX K cl clx "is_table" ["thing"]):=gq (F:=60) TX (show T.defs.lookup ("is_table":Str)=some (bf (top 25)) by rfl');have tu:ig P w K mg "turned" ["table"] 34 (spX K cl clx "turned" ["table"]):=gq (F:=60) TX (show T.defs.lookup ("turned":Str)=some (bf (top 28)) by rfl');have fl:ig P w K mg "flipped" ["table"] 34 (spX K cl clx "flipped" ["table"]):=gq (F:=60) TX (show T.defs.lookup ("flipped":Str)=some (bf (top 29)) by rfl');have jo:ig P w K mg "joined" ["word","one","other"] 34 (spX K cl clx "joined" ["word","one","other"]):=gq (F:=60) TX (show T.defs.lookup ("joined":Str)=some (bf (top 43)) by rfl');obtain⟨fs,ds,ms1,Fs⟩:=Y.set;have GS:cg P w K mg C "set_to" ["self","name","table"] 1 (GQ K C):=⟨fs,ds,ms1,Fs.binds fun _ _ _ _ _ _ us hl=>by obtain⟨_,_,_,rfl⟩:=PJ hl;rfl,fun base=>Mx Fs Y.t⟩;obtain⟨fs,ds,ms1,Fs⟩:=Y.doo;have GO:cg P w K mg C "do" ["self","word","name","table"] 2 (GR K C):=⟨fs,ds,ms1,Fs.binds fun _ _ _ _ _ _ us hl=>by obtain⟨_,_,_,_,rfl⟩:=Zf hl;rfl,fun base=>QX Fs Y.t GS⟩;have GT:=Zi (P:=P) TX Y;obtain⟨fs,ds,ms1,Fs⟩:=Y.put;have GP:cg P w K mg C "put" ["self","name","table"] 35 (spM K C 2 (Jd cl clx)):=⟨fs,ds,ms1,Fs.binds fun _ _ _ _ _ _ us hl=>by obtain⟨_,_,_,rfl⟩:=PJ hl;rfl,fun base=>Mz Fs Y.t TX.exs (by rfl') (by omega) nn it GO⟩;obtain⟨fs,ds,ms1,Fs⟩:=Y.take;have GK:cg P w K mg C "take" ["self","name"] 36 (spM K C 1 (lq cl clx)):=⟨fs,ds,ms1,Fs.binds fun _ _ _ _ _ _ us hl=>by obtain⟨_,_,rfl⟩:=len2 hl;rfl,fun base=>Io Fs Y.t (by omega) GT GO⟩;obtain⟨fs,ds,ms1,Fs⟩:=Y.turn;have GU:cg P w K mg C "turn" ["self","name"] 36 (spM K C 1 (eX cl clx "turned" "turn")):=⟨fs,ds,ms1,Fs.binds fun _ _ _ _ _ _ us hl=>by obtain⟨_,_,rfl⟩:=len2 hl;rfl,fun base=>Im Fs Y.t (by omega) tu GT GO⟩;obtain⟨fs,ds,ms1,Fs⟩:=Y.flip;have GF:cg P w K mg C "flip" ["self","name"] 36 (spM K C 1 (eX cl clx "flipped" "flip")):=⟨fs,ds,ms1,Fs.binds fun _ _ _ _ _ _ us hl=>by obtain⟨_,_,rfl⟩:=len2 hl;rfl,fun base=>Iu Fs Y.t (by omega) fl GT GO⟩;obtain⟨fs,ds,ms1,Fs⟩:=Y.join;have GJ:cg P w K mg C "join" ["self","name","word","one","other"] 36 (spM K C 4 (lY cl clx)):=⟨fs,ds,ms1,Fs.binds fun _ _ _ _ _ _ us hl=>by obtain⟨_,_,_,_,_,rfl⟩:=len5 hl;rfl,fun base=>Ip Fs Y.t TX.exs (by rfl') (by omega) nn it jo GT GO⟩;have GN:=WL (P:=P) TX Y;have GC:=Zk (P:=P) TX Y;refine⟨Y.t.cl,Jb fun p hp=>?_⟩;simp only[ms,H4z,W2z,or_false] at hp;rcases hp with rfl | rfl | rfl | rfl | rfl | rfl | rfl | rfl
 .exact⟨by rfl',_,ju GP (by omega)⟩
 .exact⟨by rfl',_,GK⟩
 .exact⟨by rfl',_,ju (yL GT) (by omega)⟩
 .exact⟨by rfl',_,GU⟩
 .exact⟨by rfl',_,GF⟩
 .exact⟨by rfl',_,GJ⟩
 .exact⟨by rfl',_,ju (yL GN) (by omega)⟩
 .exact⟨by rfl',_,ju (yL GC) (by omega)⟩
end
end M81
namespace L2
open PySem PySem.Spec PyProof.Rows
open DE hiding st
section
variable {P:Program} {w:World} {K:Z3} {mg:Str->Option Value} {base:Heap}
def Qx(f:Addr)(sp:Sp):Sp:=fun vs H Q _=>vs=[.ref f]/\sp [] H Q E0
theorem Bs{nm:Str}{t:Stmt}{a f:Addr}{g fd:FuncData}{dn n:Str}{p1 p2 p3 pos:Pos}{h0:ExceptHandler}{kd:Nat}{o:Obj}{sp:Sp}
  (Fn:Fun K nm nm t a g) (hbody:aL t=[.Try [.Return (some (.Call (.Name dn p1) [] [] p2)) p3] [h0] [] [] pos])
  (S:FnScope [dn,n] [dn] (ao t)) (ld:(ao t).names.lookup dn=some .local) (pd:aH dn=true)
  (GD:FnOk P w K mg base (CX1 P w) kd f fd [] sp) (ho:base.get? f=some o) (hd:o.data=.func fd) (hb:Binds K fd [] []) :
  FnOk P w K mg base (CX1 P w) (kd+1) a g [dn] (Qx f sp):=by
 unfold aH at pd;rw[U2z,E5z,E5z] at pd;refine Fun.okX (N:=[dn,n]) Fn S (fun vs H Q E h=>by rw[h.1];rfl) fun cdv A outer s H vs Q E hr h=>?_;obtain⟨rfl,hsp⟩:=h;refine⟨dU _ (aL t),bL,?_⟩;rw[hbody];generalize hX:eF (CX1 P w) P w K mg base [dn,n] nm (ao t) a cdv A outer s H E=X;refine PSs.sem (bx jt) ?_;intro z0 s0 I;rw[arm_exec_Try];refine A5z (Z3z (wpAny_tryStmt_except ?_));subst hX
 let X:=eF (CX1 P w) P w K mg base [dn,n] nm (ao t) a cdv A outer s H E
 let D:Ends:={ nx:=fun _ _=>False,rt:=Q }
 let xe:Value->Shared->Prop:=fun e s₁=>wpAny (model X.prog X.w) X.A (noteFrame e X.env) (fun _ s₂=>wpAny (model X.prog X.w) X.A (setFlight e none) (fun _ s₃=>wpAny (model X.prog X.w) X.A (handleBy e X.env [h0]) (SP X z0 { nx:=fun _ H'=>Q .non H',rt:=Q }) X.xe s₃) X.xe s₂) X.xe s₁
 have I0:Inv (X.pinned (X.pn++z0) xe) [] (start [dn,n] [.ref f]) H s0:=Inv.repin (X:=X) (pn:=X.pn) (z0:=z0) I fun p hp=>by simpa using hp
 have run:dU (X.pinned (X.pn++z0) xe) [.Return (some (.Call (.Name dn p1) [] [] p2)) p3] D (start [dn,n] [.ref f]) H:=by
  refine PSs.sem (bx (cU au)) ?_;refine Ak (X:=X.pinned (X.pn++z0) xe) (i:=0) (E:=E0) GD hr rfl (.inl ld) ho hd hb ?_ rfl hsp (by simpa using pd.1) (by simpa using pd.2);intro pins2 H2 s2 e s3 I2 hcx;obtain⟨_,_,_,_,_,_,z⟩:=hcx;exact z.elim
 refine Z4z (run [] s0 I0) (fun fl s1 q=>?_) fun e s1 q=>q
 cases fl with
 | next=>obtain⟨_,_,_,z⟩:=q;exact z.elim
 | brk=>obtain⟨_,_,_,z⟩:=q;exact z.elim
 | cont=>obtain⟨_,_,_,z⟩:=q;exact z.elim
 | ret u =>
  obtain⟨v,Y',H',I',r,z⟩:=q;exact⟨v,Y',H',Inv.repin (X:=X) (pn':=X.pn) I' fun p hp=>by simpa using hp,r,z⟩
end
def Ky(cx:Cxt)(ms:rm)(F:Nat)(sc:Scope)(U:Rho)(S:Cst):Expr->Option (Addr×MR)
 | .IfExp c a b _=>match (ev cx F sc U c).bind asB with
  | some t=>Pz cx ms F sc U S (if t then a else b)
  | none=>none
 | e=>Pz cx ms F sc U S e
theorem CV{cx:Cxt}{k:Nat}{X:Cx}{sc:Scope}{U:Rho}{ms:rm}{F kM:Nat}{p C d dn un:Addr}{S:Cst}{e:Expr}{o:MR}{Y:St}{H Hs:Hp}{Q:VK}{E:XK}(G:Good cx k X sc)(hN:X.N=U.map (·.1))(CO:CaseOk X.prog X.w X.K X.mg kM C ms)(hr:Room kM X.A)(hx:Passes (CX1 X.prog X.w) X E)
  (h:Ky cx ms F sc U S e=some (p,o)) (hs:Same Hs H) (hst:bJ X.K Hs U Y) (S0:CRep X.K C Hs H p d dn un S) (k:Gi X.K C p d dn un Hs H Q E o):iB X e Y H Q:=by
 unfold Ky at h;split at h
 .split at h
  .rename_i t hc
   refine(ur cY au au).sem ((dD cx F G hN (fj hc)).2 t rfl Y H Hs _ hs hst fun H1 Hs1 E1=>?_);have m:=fun e' (h':Pz cx ms F sc U S e'=some (p,o))=>(yK G hN CO hr hx h' E1.sub (hst.same E1.vis) (S0.ext E1) (k.pre E1)).1
   cases t with
   | true=>exact ql (m _ h)
   | false=>exact mK (m _ h)
  .cases h
 .exact(yK G hN CO hr hx h hs hst S0 k).1
def Xj(K:Z3)(C p d dn un:Addr)(Hs H0:Hp)(o:MR):Sp:=fun vs H Q E=>vs=[]/\Same (big Hs H0 p d dn un) H/\Gi K C p d dn un Hs H Q E o
section
variable {P:Program} {w:World} {K:Z3} {mg:Str->Option Value} {base:Heap} {T:Pg} {F k:Nat}
theorem yQ(X:Text w K mg T){f c':Addr}{name qual:Str}{params:Arguments}{body:Expr}{scope:Scope}{pm ctv:Value}{cl:List (Str×Addr)}{ws:List V}{U:Rho}{Hs H0:Hp}{o:MR}{ms:rm}{p C d dn un:Addr}{S:Cst}
  (lk:base.get? f=some (W.kla_obj name qual params body scope cl pm c' ctv)) (hcd:base.CodeRec (.ref c') qual) (L:LamNames base scope (U.map (·.1)) ws cl) (hnd:(U.map (·.1)).Nodup)
  (hr:bJ K Hs U (ws.map some)) (CO:CaseOk P w K mg k C ms) (S0:CRep K C Hs H0 p d dn un S) (he:Ky (T.cx (aR T F k)) ms F scope U S body=some (p,o)) :
  FnOk P w K mg base (CX1 P w) (k+1) f (W.kla_fn name qual params body scope cl pm (.ref c') ctv) [] (Xj K C p d dn un Hs H0 o):=by
 refine Nu lk hcd L (fun vs H Q E h=>by rw[h.1];rfl) fun A outer s H Q E hroom h=>?_
 obtain⟨_,hsm,hE⟩:=h;refine⟨iB _ body,au,?_⟩
 have G:Good (T.cx (aR T F k)) k (oG (CX1 P w) P w K mg base (U.map (·.1)) qual scope f (.ref c') cl A outer s H E) scope :=
  nY X (T4z _) rfl hroom rfl L.kind hnd
 exact CV G rfl CO hroom Cu he (tM.trans hsm) hr (S0.big hsm) hE
end
structure Made (p:Addr×Str) (H H1:Hp) (l l1:List (Pos×Addr)) (c1:Addr):Prop where
 tab:LamT H1 p.1 p.2 l1
 cod:H1 c1=some (wA c1 p.2)
 ne:c1≠p.1
 old:H c1=none\/∃ q∈l,q.2=c1
 new:∀ q∈l1,q∈l\/q.2=c1
 keep:∀ b o,b≠p.1->H b=some o->H1 b=some o
section
variable {X:Cx} {U:Rho} {T:Pg} {F k:Nat} {sc:Scope}
theorem wQ{tn dn:Str}{a:Addr}{g:FuncData}{body:Expr}{lsc:Scope}{lp pp cp:Pos}{p:Addr×Str}{Y:St}{H Hr:Hp}{Q:VK}{spx:Addr->Sp}(L:LCx X p)(hN:X.N=U.map (·.1))(hsc:X.env.scope=sc)(hr:Room (k+3) X.A)(hdb:(tn==("__debug__":Str))=false)(hm:X.mg tn=some (.ref a))(hk:W.keepIn X.K (.ref a)=true)(hbG:Binds X.K g [dn] [])
  (hgl:sc.names.lookup tn=some .globalImplicit) (ok:rY sc lsc U=true)
  (hFT : ∀ (base : Heap) (f c1 : Addr) (pm ctv : Value) (cl : List (Str × Addr)) (ws : List V), base.get? f = some (W.kla_obj "<lambda>" (X.env.qual ++ "<lambda>") noArgs body lsc cl pm c1 ctv) -> base.CodeRec (.ref c1) (X.env.qual ++ "<lambda>") -> LamNames base lsc ((eU lsc U).map (·.1)) ws cl -> ((eU lsc U).map (·.1)).Nodup -> bJ X.K Hr (eU lsc U) (ws.map some) ->
   FnOk X.prog X.w X.K X.mg base (CX1 X.prog X.w) (k+2) a g [dn] (spx f))
  (hst:bJ X.K Hr U Y) {l:List (Pos×Addr)} (hT:LamT H p.1 p.2 l)
  (hq:∀ f c1 H1 l1,Made p H H1 l l1 c1->spx f [.ref f] (del H1 c1) (fun v H2=>H2 c1=none->Q v (upd H2 c1 (wA c1 p.2))) E0):iB X (.Call (.Name tn pp) [.Lambda noArgs body lsc lp] [] cp) Y H Q:=by
 intro z0 s I;have O:=Di ok;obtain⟨c,hcode,C⟩:=L.code
 have hg:Gl X tn:=by show X.env.scope.names.lookup tn=_;rw[hsc];exact hgl
 have free:∀ x,(x,NameKind.free)∈lsc.names->∃ cc,X.env.cells.lookup x=some cc:=fun x hx=>I.ok.has x (.inl (by show X.env.scope.names.lookup x=_;rw[hsc];exact(O.fr x hx).1))
 have hcl:=fY (env:=X.env) (scope:=lsc) free;obtain⟨ws,w1,w2,w3⟩:=qH hN hst (qu lsc) fun x hx=>(O.fr x (uE.mp hx)).2;refine M1z (fQ I hg hm ?_ hdb);refine N1z (h₀:=X.base) I.ok.mod.kin hk ?_ rfl rfl;show wpAny _ _ (spliced ((false,eval (.Lambda noArgs body lsc lp) X.env)::backTo cp (starEach [] X.env))) _ _ s;rw[L.qual] at hT;refine L1z (Jh I rfl hcode C hcl L.bi L.glob hT fun f c1 ctv pm s' H1 l1 J T1 hc1 hcP hold hnew keep1 e1 e4 hf1 keep=>?_);refine A2z ⟨J.kIn,?_⟩;have J':=J.untrack hc1;have stk:∀ b∈frs X.stack,H1 b=none:=fun b hb=>J.stkFree b hb
 have hfr:c1∉frs X.stack:=fun z=>by rw[stk c1 z] at hc1;cases hc1
 have ff:f∉frs X.stack:=fun z=>by
  rcases H4z.mp (I.stkSub f z) with e | e
  .exact absurd (G1z I.lt (by rw[<- e];exact e4)) (Y3z _)
  .exact I.nofs e4 e
 have rec':(Aq s'.heap (del H1 c1) (frs X.stack)).CodeRec (.ref c1) (X.env.qual++"<lambda>"):=by
  obtain⟨c2,oc,vs,t,a1,a2,a3,a4⟩:=wA.rec J.hok hc1;cases a1;exact⟨c1,oc,vs,t,rfl,oU a2 iU hfr,a3,a4⟩
 have inC:=(oK (cells:=X.env.cells) I.ok.inj lsc.names [] O.nd free (by simp) (by simp)).2;have lk:∀ x cc,(iY X.env.cells lsc.names []).lookup x=some cc->X.env.cells.lookup x=some cc:=fun x cc e=>inC _ (B1z e)
 have has:∀ x,(x,NameKind.free)∈lsc.names->∃ cc,(iY X.env.cells lsc.names []).lookup x=some cc:=fun x hx=>by
  obtain⟨cc,h1⟩:=jV (cells:=X.env.cells) lsc.names [] hx;exact gn (List.contains_iff_mem.mpr (List.mem_map.mpr ⟨_,h1,rfl⟩))
 have eN:(eU lsc U).map (·.1)=qu lsc:=by unfold eU;rw[R4z];exact Y4z (qu lsc)
 obtain⟨m,hns,hloc⟩:=J.loc
 have LN:LamNames (Aq s'.heap (del H1 c1) (frs X.stack)) lsc ((eU lsc U).map (·.1)) ws (iY X.env.cells lsc.names []):=by
  rw[eN];refine⟨O.kind,O.co,O.gen,O.own,w1,fun i x v a1 a2=>?_,fun x y cc a1 a2=>I.ok.inj x y cc (lk x cc a1) (lk y cc a2),fun x e=>has x (B1z e),fun x cc a1=>?_⟩
  .have hx:(x,NameKind.free)∈lsc.names:=uE.mp (List.mem_of_getElem? a1)
   obtain⟨j,b4,b5⟩:=w2 i x v a1 a2
   have kx:X.env.kindOf x=some .cell:=by show X.env.scope.names.lookup x=_;rw[hsc];exact(O.fr x hx).1
   obtain⟨u,ru,lku⟩:=hloc j x v b4 b5 (.inr (.inl kx));obtain⟨cc,hcc⟩:=has x hx;refine⟨cC O.nd hx,cc,u,hcc,ru,?_⟩;rcases lku with⟨z,_⟩ | ⟨_,c3,z1,z2⟩
   .rw[kx] at z;cases z
   .rw[lk x cc hcc] at z1;cases z1
    exact uX J' L.fn (lk x cc hcc) z2
  .obtain⟨v,hv⟩:=J.cell x cc (lk x cc a1)
   exact⟨v,uX J' L.fn (lk x cc a1) hv⟩
 have ef:(Aq s'.heap (del H1 c1) (frs X.stack)).get? f=some (W.kla_obj "<lambda>" (X.env.qual++"<lambda>") noArgs body lsc (iY X.env.cells lsc.names []) pm c1 ctv):=oU e1 (d7 hf1) ff;have FT:=hFT _ f c1 pm ctv _ ws ef rec' LN (by rw[eN];exact O.ndf) (by unfold eU;exact w3);refine BL (vs:=[.ref f]) hc1 FT (hr.mono (by omega)) hbG nO J hfr (.cons rfl .nil) ?_;have:=hq f c1 H1 l1 ⟨by rw[L.qual];exact T1,by rw[L.qual];exact hc1,hcP,hold,hnew,keep1⟩;rw[L.qual] at this;exact this
end
structure ExtB (pl:Addr×Str) (p d dn un un':Addr) (Hs H Hs' H':Hp):Prop where
 vis:Same Hs Hs'
 all:∀ b o,H b=some o->b≠pl.1->b≠p->b≠d->b≠dn->b≠un->H' b=some o
 sub:Same Hs' H'
 hid:∀ b o,H b=some o->b≠p->b≠d->b≠dn->b≠un->Hs b=none->Hs' b=none
 nu:un'=un\/H un'=none
 lam:∃ l,LamT H' pl.1 pl.2 l/\Hs' pl.1=none/\∀ q∈l,Hs' q.2=none
def wj(P:Program)(w:World)(K:Z3)(mg:Str->Option Value)(kd:Nat)(tn:Str):Prop :=
 (tn==("__debug__":Str))=false/\∃ a g dn,mg tn=some (.ref a)/\W.keepIn K (.ref a)=true/\Binds K g [dn] []/\∀ (base:Heap) (f:Addr) (fd:FuncData) (o:Obj) (sp:Sp),FnOk P w K mg base (CX1 P w) kd f fd [] sp->base.get? f=some o->o.data=.func fd->Binds K fd [] []->FnOk P w K mg base (CX1 P w) (kd+1) a g [dn] (Qx f sp)
section
variable {X:Cx} {U:Rho} {T:Pg} {F k:Nat} {sc:Scope} {pl:Addr×Str} {ms:rm} {C p d dn un:Addr} {S S':Cst}
theorem pH{tn dnm:Str}{a:Addr}{g:FuncData}{body:Expr}{lsc:Scope}{lp pp cp:Pos}{r:D}{Y:St}{H Hs:Hp}{Q:VK}{spx:Addr->Sp}(Lc:LCx X pl)(hN:X.N=U.map (·.1))(hsc:X.env.scope=sc)(hr:Room (k+3) X.A)(hdb:(tn==("__debug__":Str))=false)(hm:X.mg tn=some (.ref a))(hk:W.keepIn X.K (.ref a)=true)(hbG:Binds X.K g [dnm] [])
  (hgl:sc.names.lookup tn=some .globalImplicit) (ok:rY sc lsc U=true)
  (hFT:∀ (base:Heap) (f c1:Addr) (pm ctv:Value) (cl:List (Str×Addr)) (ws:List V),base.get? f=some (W.kla_obj "<lambda>" (X.env.qual++"<lambda>") noArgs body lsc cl pm c1 ctv)->base.CodeRec (.ref c1) (X.env.qual++"<lambda>")->LamNames base lsc ((eU lsc U).map (·.1)) ws cl->((eU lsc U).map (·.1)).Nodup->bJ X.K Hs (eU lsc U) (ws.map some)->FnOk X.prog X.w X.K X.mg base (CX1 X.prog X.w) (k+2) a g [dnm] (spx f))
  (hsp:∀ f H1 (Q:VK),Same (big Hs H p d dn un) H1->(∀ v H2 Hs2 un',ExtM p d dn un un' Hs H1 Hs2 H2->CRep X.K C Hs2 H2 p d dn un' S'->Rep X.K Hs2 r v->Q v H2)->spx f [.ref f] H1 Q E0)
  (S0:CRep X.K C Hs H p d dn un S) (hs:Same Hs H) (hst:bJ X.K Hs U Y) {l:List (Pos×Addr)} (hT:LamT H pl.1 pl.2 l) (n1:Hs pl.1=none) (n2:∀ q∈l,Hs q.2=none)
  (hq:∀ v H' Hs' un',ExtB pl p d dn un un' Hs H Hs' H'->CRep X.K C Hs' H' p d dn un' S'->Rep X.K Hs' r v->Q v H'):iB X (.Call (.Name tn pp) [.Lambda noArgs body lsc lp] [] cp) Y H Q:=by
 have nx:∀ b φ,H b=some (.ext φ)->b≠p/\b≠d/\b≠dn/\b≠un:=fun b φ e=>by
  have:=S0.noext e;exact⟨fun z=>this (.inl z),fun z=>this (.inr (.inl z)),fun z=>this (.inr (.inr (.inl z))),fun z=>this (.inr (.inr (.inr z)))⟩
 refine wQ (spx:=spx) Lc hN hsc hr hdb hm hk hbG hgl ok hFT hst hT fun f c1 H1 l1 MD=>?_
 have bc:big Hs H p d dn un c1=none:=by
  rcases MD.old with z | ⟨q,hq',z⟩
  .cases e:big Hs H p d dn un c1 with
   | none=>rfl
   | some o=>rw[oO hs _ _ e] at z;cases z
  .rw[<- z];exact oR (S0.noext (hT.cod q hq')) (n2 q hq')
 have bP:big Hs H p d dn un pl.1=none:=oR (S0.noext hT.tab) n1
 have sm:Same (big Hs H p d dn un) (del H1 c1):=fun b o e=>by
  rw[fV (fun z=>by rw[z,bc] at e;cases e)]
  exact MD.keep b o (fun z=>by rw[z,bP] at e;cases e) (oO hs b o e)
 refine hsp f _ _ sm fun v H2 Hs2 un' M S2 r2 hn2=>?_
 have up:∀ b o,H2 b=some o->(upd H2 c1 (wA c1 pl.2)) b=some o:=fun b o e=>by rw[aj (ak e hn2)];exact e
 have hn3:Hs2 c1=none:=by
  cases e:Hs2 c1 with
  | none=>rfl
  | some o=>rw[M.sub _ _ e] at hn2;cases hn2
 have tb:(del H1 c1) pl.1=_:=(fV MD.ne.symm).trans MD.tab.tab;obtain⟨x1,x2,x3,x4⟩:=nx _ _ hT.tab
 have dl:∀ b o,b≠pl.1->b≠c1->H b=some o->(del H1 c1) b=some o:=fun b o h1 h2 e=>by rw[fV h2];exact MD.keep b o h1 e
 refine hq v _ Hs2 un' ⟨M.vis,fun b o e h0 h1 h2 h3 h4=>?_,fun b o e=>up b o (M.sub b o e),fun b o e h1 h2 h3 h4 n=>?_,?_,l1,⟨?_,fun q hq'=>?_⟩,M.hid _ _ tb x1 x2 x3 x4 n1,fun q hq'=>?_⟩ (S2.ext ⟨.refl _,up,fun b o e=>up b o (M.sub b o e),fun _ _ _ z=>z⟩) r2
 .by_cases z:b=c1
  .subst z;rw[aB,<- MD.cod];exact MD.keep b o h0 e
  .exact up b o (M.all b o (dl b o h0 z e) h1 h2 h3 h4)
 .by_cases z:b=c1
  .rw[z];exact hn3
  .by_cases z2:b=pl.1
   .rw[z2];exact M.hid _ _ tb x1 x2 x3 x4 n1
   .exact M.hid b o (dl b o z2 z e) h1 h2 h3 h4 n
 .rcases M.nu with z | z
  .exact .inl z
  .right
   cases e:H un' with
   | none=>rfl
   | some o =>
    obtain⟨us,u1,_⟩:=S2.ul
    have nc:un'≠c1:=fun y=>by rw[y,hn2] at u1;cases u1
    by_cases y:un'=pl.1
    .rw[y,tb] at z;cases z
    .rw[dl un' o y nc e] at z;cases z
 .exact up _ _ (M.all _ _ tb x1 x2 x3 x4)
 .by_cases z:q.2=c1
  .rw[z,aB]
  .rcases MD.new q hq' with z1 | z1
   .obtain⟨y1,y2,y3,y4⟩:=nx _ _ (hT.cod q z1)
    exact up _ _ (M.all _ _ (by rw[fV z];exact MD.tab.cod q hq') y1 y2 y3 y4)
   .exact absurd z1 z
 .by_cases z:q.2=c1
  .rw[z];exact hn3
  .rcases MD.new q hq' with z1 | z1
   .obtain⟨y1,y2,y3,y4⟩:=nx _ _ (hT.cod q z1)
    exact M.hid _ _ (by rw[fV z];exact MD.tab.cod q hq') y1 y2 y3 y4 (n2 q z1)
   .exact absurd z1 z
theorem wO{tn:Str}{body:Expr}{lsc:Scope}{lp pp cp:Pos}{r:D}{Y:St}{H Hs:Hp}{Q:VK}(Tx:Text X.w X.K X.mg T)(Lc:LCx X pl)(hN:X.N=U.map (·.1))(hsc:X.env.scope=sc)(hr:Room (k+3) X.A)(TV:wj X.prog X.w X.K X.mg (k+1) tn)
  (hgl:sc.names.lookup tn=some .globalImplicit) (ok:rY sc lsc U=true) (CO:CaseOk X.prog X.w X.K X.mg k C ms) (S0:CRep X.K C Hs H p d dn un S) (he:Ky (T.cx (aR T F k)) ms F lsc (eU lsc U) S body=some (p,.val r S'))
  (hs:Same Hs H) (hst:bJ X.K Hs U Y) {l:List (Pos×Addr)} (hT:LamT H pl.1 pl.2 l) (n1:Hs pl.1=none) (n2:∀ q∈l,Hs q.2=none)
  (hq:∀ v H' Hs' un',ExtB pl p d dn un un' Hs H Hs' H'->CRep X.K C Hs' H' p d dn un' S'->Rep X.K Hs' r v->Q v H'):iB X (.Call (.Name tn pp) [.Lambda noArgs body lsc lp] [] cp) Y H Q:=by
 obtain⟨hdb,a,g,dnm,hm,hk,hbG,hG⟩:=TV;exact pH (spx:=fun f=>Qx f (Xj X.K C p d dn un Hs H (.val r S'))) Lc hN hsc hr hdb hm hk hbG hgl ok (fun base f c1 pm ctv cl ws a1 a2 a3 a4 a5=>hG base f _ _ _ (yQ Tx a1 a2 a3 a4 a5 CO S0 he) a1 rfl uH) (fun f H1 Q sm k=>⟨rfl,rfl,sm,k⟩) S0 hs hst hT n1 n2 hq
end
section
variable {X:Cx} {U:Rho} {T:Pg} {F k:Nat} {sc:Scope} {Hs0 H0:Hp} {L:LamP} {pl:Addr×Str} {ms:rm} {C p d dn un:Addr} {S:Cst}
theorem wR{tn c' x:Str}{body:Expr}{lsc:Scope}{lp pp cp:Pos}{cv:Str->Option D}{Y:St}{H Hs:Hp}{Q:VK}(Tx:Text X.w X.K X.mg T)(Lc:LCx X pl)(hN:X.N=U.map (·.1))(hsc:X.env.scope=sc)(hr:Room (k+3) X.A)(TA:mY X.prog X.w X.K X.mg (k+1) T.exs cv tn)
  (hgl:sc.names.lookup tn=some .globalImplicit) (ok:rY sc lsc U=true) (CO:CaseOk X.prog X.w X.K X.mg k C ms) (S0:CRep X.K C Hs H p d dn un S) (he:Ky (T.cx (aR T F k)) ms F lsc (eU lsc U) S body=some (p,.exc c')) (hin:T.exs.contains c'=true) (hcv:cv c'=some (.str x))
  (hs:Same Hs H) (hst:bJ X.K Hs U Y) {l:List (Pos×Addr)} (hT:LamT H pl.1 pl.2 l) (n1:Hs pl.1=none) (n2:∀ q∈l,Hs q.2=none)
  (hq:∀ v H' Hs' un',ExtB pl p d dn un un' Hs H Hs' H'->CRep X.K C Hs' H' p d dn un' S->Rep X.K Hs' (.str x) v->Q v H'):iB X (.Call (.Name tn pp) [.Lambda noArgs body lsc lp] [] cp) Y H Q:=by
 obtain⟨hdb,a,g,dnm,hm,hk,hbG,hG⟩:=TA;refine pH (spx:=fun f=>spT X.K (big Hs H p d dn un) f (.str x)) Lc hN hsc hr hdb hm hk hbG hgl ok (fun base f c1 pm ctv cl ws a1 a2 a3 a4 a5=>hG base f _ _ _ c' _ hin hcv ((yQ Tx a1 a2 a3 a4 a5 CO S0 he).weak fun vs H1 Q1 E1 h=>⟨h.1,h.2.1,fun Cc H' Hs' hC e=>h.2.2 Cc H' _ hC (Ja tM h.2.1 e)⟩) a1 rfl uH) (fun f H1 Q sm k=>⟨rfl,sm,fun v H2 Hs2 E r=>?_⟩) S0 hs hst hT n1 n2 hq;have vv:Same Hs Hs2:=tM.trans E.vis;have E':Ext Hs H1 Hs H2:=⟨.refl _,E.all,fun b o e=>E.sub b o (vv b o e),fun _ _ _ z=>z⟩;exact k v H2 Hs un (.of E') ((S0.big sm).ext E') (by simpa[Rep] using r)
def PK(cx:Cxt)(L:LamP)(ms:rm)(S:Cst)(F:Nat)(sc:Scope)(U:Rho)(e:Expr):Option (Addr×D×Cst) :=
 match toldOf e with
 | some (tn,body,lsc)=>if tn==L.tn&&sc.names.lookup tn==some .globalImplicit&&rY sc lsc U then
   match Ky cx ms F lsc (eU lsc U) S body with
   | some (a,.val r S')=>some (a,r,S')
   | some (a,.exc c)=>if cx.exs.contains c then(match L.cv c with
    | some (.str x)=>some (a,.str x,S)
    | _=>none) else none
   | none=>none
  else none
 | none=>none
theorem uG{e:Expr}{r:D}{S':Cst}{Y:St}{H Hs:Hp}{Q:VK}(Tx:Text X.w X.K X.mg T)(Lc:LCx X pl)(hN:X.N=U.map (·.1))(hsc:X.env.scope=sc)(hr:Room (k+3) X.A)(TA:mY X.prog X.w X.K X.mg (k+1) T.exs L.cv L.tn)(TV:wj X.prog X.w X.K X.mg (k+1) L.tn)
  (CO:CaseOk X.prog X.w X.K X.mg k C ms) (S0:CRep X.K C Hs H p d dn un S) (h:PK (T.cx (aR T F k)) L ms S F sc U e=some (p,r,S'))
  (hs:Same Hs H) (hst:bJ X.K Hs U Y) {l:List (Pos×Addr)} (hT:LamT H pl.1 pl.2 l) (n1:Hs pl.1=none) (n2:∀ q∈l,Hs q.2=none)
  (hq:∀ v H' Hs' un',ExtB pl p d dn un un' Hs H Hs' H'->CRep X.K C Hs' H' p d dn un' S'->Rep X.K Hs' r v->Q v H'):iB X e Y H Q:=by
 unfold PK at h;split at h
 .rename_i tn body lsc ht
  obtain⟨pp,lp,cp,rfl⟩:=wU ht;split at h
  .rename_i hc
   rw[U2z,U2z] at hc
   have etn:tn=L.tn:=by simpa using hc.1.1
   subst etn;split at h
   .rename_i a r' S1 hm
    cases h;exact wO Tx Lc hN hsc hr TV (by simpa using hc.1.2) hc.2 CO S0 hm hs hst hT n1 n2 hq
   .rename_i a c hm
    split at h
    .rename_i hin
     split at h
     .rename_i x hcv
      cases h;exact wR Tx Lc hN hsc hr TA (by simpa using hc.1.2) hc.2 CO S0 hm hin hcv hs hst hT n1 n2 hq
     .cases h
    .cases h
   .cases h
  .cases h
 .cases h
end
section
variable {X:Cx} {U:Rho} {T:Pg} {F k:Nat} {sc:Scope} {L:LamP} {pl:Addr×Str} {ms:rm} {C p d dn un:Addr} {S S':Cst}
theorem ExtB.pre{un':Addr}{Hs H Hs1 H1 Hs2 H2:Hp}(E:Ext Hs H Hs1 H1)(B:ExtB pl p d dn un un' Hs1 H1 Hs2 H2):ExtB pl p d dn un un' Hs H Hs2 H2 :=
 ⟨E.vis.trans B.vis,fun b o e=>B.all b o (E.all b o e),B.sub,fun b o e h1 h2 h3 h4 n=>B.hid b o (E.all b o e) h1 h2 h3 h4 (E.hid b o e n),B.nu.imp id fun z=>cB E.all z,B.lam⟩
def Oi(cx:Cxt)(L:LamP)(ms:rm)(S:Cst)(F:Nat)(sc:Scope)(U:Rho):List Stmt->Option (Addr×D×Cst)
 | .If c [.Return (some e) _] [] _::r=>match (ev cx F sc U c).bind asB with
  | some t=>if t then PK cx L ms S F sc U e else Oi cx L ms S F sc U r
  | none=>none
 | .Return (some e) _::_=>PK cx L ms S F sc U e
 | _=>none
theorem uR{D0:Ends}{r:D}{Y:St}(G:Good (T.cx (aR T F k)) (k+3) X sc)(Tx:Text X.w X.K X.mg T)(Lc:LCx X pl)(hN:X.N=U.map (·.1))(TA:mY X.prog X.w X.K X.mg (k+1) T.exs L.cv L.tn)(TV:wj X.prog X.w X.K X.mg (k+1) L.tn)(CO:CaseOk X.prog X.w X.K X.mg k C ms) :
    ∀ (b : List Stmt) {H Hs : Hp} {l : List (Pos × Addr)}, Oi (T.cx (aR T F k)) L ms S F sc U b = some (p, r, S') -> CRep X.K C Hs H p d dn un S -> Same Hs H -> bJ X.K Hs U Y -> LamT H pl.1 pl.2 l -> Hs pl.1 = none -> (∀ q ∈ l, Hs q.2 = none) ->
      (∀ v H' Hs' un',ExtB pl p d dn un un' Hs H Hs' H'->CRep X.K C Hs' H' p d dn un' S'->Rep X.K Hs' r v->D0.rt v H')->dU X b D0 Y H
  | [],_,_,_,h,_,_,_,_,_,_,_=>by cases h
  | s::b,H,Hs,l,h,S0,hs,hst,hT,n1,n2,hq=>by
    unfold Oi at h
    split at h
    . rename_i heq
      cases heq
      refine PSs.sem (aM jt bL) ?_
      split at h
      . rename_i t hc
        refine PS.sem (nM cY bL gR) ((dD _ F G hN (fj hc)).2 t rfl Y H Hs _ hs hst fun H1 Hs1 E1=>?_)
        have S1:=S0.ext E1
        have T1:=hT.same E1.all
        have m1:=E1.hid _ _ hT.tab n1
        have m2:∀ q∈l,Hs1 q.2=none:=fun q hq'=>E1.hid _ _ (hT.cod q hq') (n2 q hq')
        have q1:∀ v H' Hs' un',ExtB pl p d dn un un' Hs1 H1 Hs' H'->CRep X.K C Hs' H' p d dn un' S'->Rep X.K Hs' r v->D0.rt v H':=fun v H' Hs' un' B=>hq v H' Hs' un' (B.pre E1)
        cases t with
        | true=>exact ql (PSs.sem (bx (cU au)) (uG Tx Lc hN G.sce G.room TA TV CO S1 h E1.sub (hst.same E1.vis) T1 m1 m2 q1))
        | false=>exact mK (uR G Tx Lc hN TA TV CO b h S1 E1.sub (hst.same E1.vis) T1 m1 m2 q1)
      . cases h
    . rename_i heq
      cases heq
      exact PSs.sem (aM (cU au) bL) (uG Tx Lc hN G.sce G.room TA TV CO S0 h hs hst hT n1 n2 hq)
    . cases h
end
def GZ(K:Z3)(C:Addr)(pl:Addr×Str)(g:Addr->Cst->D->Option (Addr×D×Cst)):Sp:=fun vs H Q _=>∃ (p d dn un:Addr) (Hs:Hp) (S S':Cst) (x r:D) (u:V) (l:List (Pos×Addr)),
 vs=[.ref p,u]/\Same Hs H/\CRep K C Hs H p d dn un S/\Rep K Hs x u/\LamT H pl.1 pl.2 l/\Hs pl.1=none/\(∀ q∈l,Hs q.2=none)/\g p S x=some (p,r,S') /\
 ∀ v H' Hs' un',ExtB pl p d dn un un' Hs H Hs' H'->CRep K C Hs' H' p d dn un' S'->Rep K Hs' r v->Q v H'
section
variable {P:Program} {w:World} {K:Z3} {mg:Str->Option Value} {base:Heap} {T:DE.Pg} {F k:Nat}
theorem Oh{fd:Fd}{t:Stmt}{f c Pt C:Addr}{nm:Str}{dV kV doc pm ct oc:Value}{an od:Option Addr}{osl:Array (Option Value)}{L:LamP}{ms:rm}(Tx:Text w K mg T)(lk:K.lookup f=some ⟨oc,od,.func (W.fnOf nm nm (bM t) (aL t) (ao t) dV kV doc pm an (.ref c) ct),osl⟩)(hcd:W.codeIn K (.ref c) nm=true)
  (hb:fd.body=aL t) (hs:fd.sc=ao t) (S:FnScope fd.N fd.ps fd.sc) (h1:fd.ps.length=2) (hC:W.CodeHd base c Pt) (hbm:base.BuiltinsAt mg Pt)
  (TA:mY P w K mg (k+1) T.exs L.cv L.tn) (TV:wj P w K mg (k+1) L.tn) (CO:CaseOk P w K mg k C ms) {qn:Str} (hqn:∀ n a,qn=(envOfC nm (ao t) n a (.ref c)).qual++"<lambda>") :
  FnOk P w K mg base (CX1 P w) (k+4) f (W.fnOf nm nm (bM t) (aL t) (ao t) dV kV doc pm an (.ref c) ct) fd.ps (GZ K C (Pt,qn) fun p S x=>Oi (T.cx (aR T F k)) L ms S F fd.sc (bw fd [.obj p,x]) fd.body):=by
 refine Jy (N:=fd.N) lk hcd (by rw[<- hs];exact S) (fun vs H Q E h=>by obtain⟨p,d,dn,un,Hs,S1,S2,x,r,u,l,rfl,_⟩:=h;rw[h1];rfl) fun A outer s H vs Q E hr h=>?_
 obtain⟨p,d,dn,un,Hs,S1,S2,x,r,u,l,rfl,hsm,S0,rx,hT,n1,n2,hg,hq⟩:=h
 let pl:Addr×Str:=(Pt,qn)
 let X0:=eF (CX1 P w) P w K mg base fd.N nm (ao t) f (.ref c) A outer s H E
 let X:=X0.nox.relm (some pl)
 have G:Good (T.cx (aR T F k)) (k+3) X fd.sc :=
  nY Tx (by omega) rfl hr hs.symm S.kind S.nd
 have LC:LCx X pl:=⟨rfl,hqn _ _,⟨c,rfl,hC⟩,hbm,rfl,fun _=>rfl⟩;have rl:aJ K Hs [.obj p,x] [.ref p,u]:=.cons (by simp[Rep]) (.cons rx .nil);obtain⟨s1,s2,s3⟩:=fL S (ds:=[.obj p,x]) (by rw[h1];rfl) rl
 have hst:bJ K Hs (bw fd [.obj p,x]) (start fd.N [.ref p,u]):=fun i y dd e=>by
  rcases s3 i y _ e with q | ⟨d',v,q,q1,q2⟩
  .cases q
  .cases q
   exact⟨v,q1,q2⟩
 refine⟨fun D Y H=>∀ z0 s0,Inv X z0 Y H s0->wpAny (model X.prog X.w) X.A (execs (aL t) X.env) (SP X z0 D) X.xe s0,fun z0 s0 Y H1 D I h=>?_,?_⟩
 .exact Z4z (h z0 s0 ((I.wish _).relm _)) (fun fl s' z=>z.unrelm.unwish) fun _ _ z=>False.elim z
 .rw[hb] at hg
  exact uR (X:=X) G Tx LC s1 TA TV CO (aL t) hg S0 hsm hst hT n1 n2 hq
end
section
variable {P:Program} {w:World} {K:Z3} {mg:Str->Option Value} {T:DE.Pg} {kd:Nat}
theorem Bt{tn dn n:Str}{fdT:Fd}{p1 p2 p3 pos:Pos}{h0:ExceptHandler}(Tx:Text w K mg T)(hT:T.defs.lookup tn=some fdT)(hbody:fdT.body=[.Try [.Return (some (.Call (.Name dn p1) [] [] p2)) p3] [h0] [] [] pos])
  (hN:fdT.N=[dn,n]) (hps:fdT.ps=[dn]) (ld:fdT.sc.names.lookup dn=some .local) (pd:aH dn=true):wj P w K mg kd tn:=by
 have FA:=Tx.fns tn fdT hT;obtain⟨nm,t,a,g,m1,m2,m3,m4,m5⟩:=FA.ex;have S:=FA.fs;rw[hN,hps,m5] at S;rw[hps] at m3;exact⟨FA.nd,a,g,dn,m1,m2.kp,m3,fun base f fd o sp GD ho hd hb=>Bs m2 (m4.symm.trans hbody) S (m5▸ld) pd GD ho hd hb⟩
end
section
variable (call:Str->List D->Option D) (callx:Str->List D->Option Str)
def K5(S:Cst)(n:D):Option D:=match jg call callx S [n] with
 | some (.inl t)=>some (.tup [n,t])
 | _=>none
def PB(S:Cst):List D->Option (Sum D Str)
 | []=>match fu S [] with
  | some (.inl (.lst l))=>if szl l.length then(bQ (fun d=>(K5 call callx S d).map some) l).bind fun out=>(iH out).map fun q=>.inl (sX (Kw q)) else none
  | _=>none
 | _=>none
end
open Classical in
def elE(cx:Cxt)(F:Nat)(sc:Scope)(p:Addr)(g:D->Option D)(a b:Expr)(U:Rho)(_:Expr):Option D:=match ev cx F sc U a with
 | some n=>if vJ cx F sc U b=some (p,("table_of":Str),[n]) then g n else none
 | none=>none
theorem jy{f g:D->Option (Option D)}:∀ (l:List D),(∀ d∈l,f d=g d)->bQ f l=bQ g l
 | [],_=>rfl
 | d::r,h=>by
  simp only[bQ];rw[h d (I1z ..),jy r fun d hd=>h d (S0z _ hd)]
section
variable {P:Program} {w:World} {K:Z3} {mg:Str->Option Value} {base:Heap} {T:DE.Pg} {F k:Nat}
theorem Bb{fd:Fd}{t:Stmt}{f C:Addr}{g:FuncData}{nm:Str}{call:Str->List D->Option D}{callx:Str->List D->Option Str}{a b iter tg:Expr}{scope:Scope}{kt:Nat}{p1 tp lp cp rp:Pos}{U1:Addr->D->Rho}{q1 q2:List Str}(Tx:Text w K mg T)(Fn:Fun K nm nm t f g)
  (hb:aL t=[.Return (some (.Call (.Name "dict" p1) [.ListComp (.Tuple [a,b] kt tp) [⟨tg,iter,[],0⟩] scope lp] [] cp)) rp]) (hs:fd.sc=ao t) (S:FnScope fd.N fd.ps fd.sc) (h1:fd.ps.length=1)
  (hgl:fd.sc.names.lookup ("dict":Str)=some .globalImplicit) (hmg:mg "dict"=none) (hok:iW fd.sc scope=true) (cl:Cls K C)
  (GN:cg P w K mg C "names" q1 k (spR K C 0 fu)) (GT:cg P w K mg C "table_of" q2 k (spR K C 1 (jg call callx)))
  (hI:∀ p:Addr,vJ (T.cx (aR T F k)) F fd.sc (bw fd [.obj p]) iter=some (p,("names":Str),[]))
  (hB:∀ (p:Addr) d,gJ scope tg d (cG scope (bw fd [.obj p]))=some (U1 p d))
  (he1:∀ p d,ev (T.cx (aR T F k)) F (pR scope fd.sc) (U1 p d) a=some d) (he2:∀ p d,vJ (T.cx (aR T F k)) F (pR scope fd.sc) (U1 p d) b=some (p,("table_of":Str),[d])) :
  FnOk P w K mg base (CX1 P w) (k+1) f g fd.ps (spR K C 0 (PB call callx)):=by
 refine Fun.okX (N:=fd.N) Fn (by rw[<- hs];exact S) (fun vs H Q E h=>by rw[nj h,h1]) fun cdv A outer s H vs Q E hr h=>?_
 obtain⟨p,d,dn,un,Hs,S1,ds,us,o,rfl,e,hsm,S0,r,ho,kq⟩:=h;cases List.length_eq_zero_iff.mp e;cases (show us=[] by simpa[aJ] using r);simp only[PB] at ho;split at ho
 .rename_i l hn
  split at ho
  .rename_i hz
   obtain⟨out,h2,h3⟩:=Option.bind_eq_some_iff.mp ho;obtain⟨q,h4,h5⟩:=M0z.mp h3;cases h5;refine⟨dU _ (aL t),bL,?_⟩;rw[hb];generalize hX:eF (CX1 P w) P w K mg base fd.N nm (ao t) f cdv A outer s H E=X
   have eK:X.K=K:=by rw[<- hX];rfl
   have eP:X.prog=P:=by rw[<- hX];rfl
   have ew:X.w=w:=by rw[<- hX];rfl
   have em:X.mg=mg:=by rw[<- hX];rfl
   have G:Good (T.cx (aR T F k)) k X fd.sc:=by
    subst hX;exact nY Tx (T4z _) rfl hr hs.symm S.kind S.nd
   have rl:aJ K Hs [.obj p] [.ref p]:=.cons (by simp[Rep]) .nil;obtain⟨s1,s2,s3⟩:=fL S (ds:=[.obj p]) (by rw[h1];rfl) rl
   have hN:X.N=(bw fd [.obj p]).map (·.1):=by rw[<- hX];exact s1
   have hst:bJ X.K Hs (bw fd [.obj p]) (start fd.N [.ref p]):=fun i y dd e=>by
    rw[eK];rcases s3 i y _ e with q | ⟨d',v,q,q1,q2⟩
    .cases q
    .cases q
     exact⟨v,q1,q2⟩
   have hg:Gl X "dict":=by subst hX;show(ao t).names.lookup ("dict":Str)=_;rw[<- hs];exact hgl
   obtain⟨ok1,ok2,ok3⟩:=fW G hok
   have hw:∀ Q',(∀ v H' Hs',Ext Hs H Hs' H'->Rep X.K Hs' (.lst l) v->Q' v H')->iB X iter (start fd.N [.ref p]) H Q'/\aG iter=true:=fun Q' hq=>by
    subst hX;exact jQ (E:=E0) G hN cl rfl GN hr nO (hI p) hsm hst S0 fun H1 Hs1 vs E1 r1=>⟨p,d,dn,un,Hs1,S1,[],vs,_,rfl,rfl,E1.sub,S0.ext E1,r1,hn,fun v H' Hs' E2 r2=>hq v H' Hs' (E1.trans E2) r2⟩
   refine PSs.sem (bx (cU au)) ?_;refine(eG (T:="dict") (cI (X:=X)) hg (by rw[em];exact hmg) (by decide +kernel) (aA au aO)).sem ?_;refine PE.sem (yr G.calm ok1 ok2 ok3 uo (fun Xc C=>⟨mC,um,au⟩) (iG (hw (fun _ _=>True) fun _ _ _ _ _=>trivial).2)) ?_;refine mV (E:=elE (T.cx (aR T F k)) F (pR scope fd.sc) p (K5 call callx S1) a b) (l:=l) (out:=out) G hN hok (fun R kR=>?_) hz ?_ (fun Xc Cc U' hN' e he dd hd=>?_) hst fun acc vs Hs' H' E1 a1 a2 a3 ra=>?_
   .refine(yq (tg:=tg) au).sem ((hw _ fun v H1 Hs1 E1 r1=>?_).1)
    obtain⟨p,vs,rfl,h1,h2⟩:=cT r1;refine⟨p,rfl,⟨vs,E1.sub.seq h1⟩,kR _ H1 Hs1 E1 fun Hs' H' e1 e2=>⟨⟨vs,e2.seq (e1.seq h1),by rw[h2.length];exact T4z _⟩,fun i d hd=>?_⟩⟩;obtain⟨v,g1,g2⟩:=h2.get hd;refine⟨⟨vs,v,e2.seq (e1.seq h1),g1⟩,fun x H2 y=>?_⟩;obtain⟨rfl,y⟩:=y;have:=y vs (e2.seq (e1.seq h1));rw[g1] at this;cases this;exact⟨Hs',.refl e2,Rep.same e1 d v g2⟩
   .rw[<- h2]
    refine jy l fun d _=>?_;simp only[tG,hB,elE,he1,he2,lZ,bind,Option.bind];simp
   .obtain rfl:e=.Tuple [a,b] kt tp:=he.elim id fun z=>by cases z
    unfold elE at hd;split at hd
    .rename_i n hna
     split at hd
     .rename_i hmb
      unfold K5 at hd;split at hd
      .rename_i tt ht
       cases hd;refine⟨fun Y1 H1 Hs1 Q1 Ex hst1 hq1=>?_,fun b z=>by cases z⟩;have GC:=G.comp Cc hok;refine(uq (aA au (aA au aO (aq ?_)) (aq (aV hna)))).sem ?_
       .exact vI hmb
       .refine(dD _ F GC hN' hna).1 Y1 H1 Hs1 _ Ex.sub hst1 fun v1 H2 Hs2 E2 r1=>?_
        have EX:=Ex.trans E2;refine(jQ (E:=E0) (C:=C) (ps:=q2) (kM:=k) (sp:=spR K C 1 (jg call callx)) (d:=d) (dn:=dn) (un:=un) (S:=S1) (Hs:=Hs2) GC hN' (by rw[Cc.K,eK];exact cl) rfl (by rw[Cc.prog,Cc.w,Cc.K,Cc.mg,eP,ew,eK,em];exact GT) (by rw[Cc.A];exact G.room) nO hmb EX.sub (hst1.same E2.vis) (by rw[Cc.K,eK];exact S0.ext EX) fun H3 Hs3 vs E3 r3=>⟨p,d,dn,un,Hs3,S1,[n],vs,_,rfl,rfl,E3.sub,S0.ext (EX.trans E3),by rw[<- eK,<- Cc.K];exact r3,ht,fun v2 H4 Hs4 E4 r4=>?_⟩).1;have E24:=E3.trans E4;refine⟨by show 2<=sizeLine;decide,fun a ha=>gW (X:=Xc) E4.sub (.cons (Rep.same E24.vis n v1 r1) (.cons (by rw[Cc.K,eK];exact r4) .nil)) ha fun u H5 Hs5 E5 r5=>hq1 u H5 Hs5 (E2.trans (E24.trans E5)) r5⟩
      .cases hd
     .cases hd
    .cases hd
   .have E2:=E1.shown a1 a2 a3
    have rr:Rep X.K (upd Hs' acc (.lst vs)) (.lst out) (.ref acc):=by
     simp only[Rep];refine⟨acc,vs,rfl,.of aB,aJ.same (fun b u e=>?_) out vs ra⟩;rw[aj (ak e a2)];exact e
    exact uM (X:=X) G.calm h4 [.ref acc] H' _ _ E2.sub (.cons rr .nil) fun v H5 Hs5 E5 r5=>kq v H5 Hs5 (E2.trans E5) (by rw[<- eK];exact r5)
  .cases ho
 .cases ho
end
section
variable {K:Z3} {pl:Addr×Str} {Hs0 H0 Hs H Hs' H':Hp} {U:Rho} {Y:St} {C p d dn un un':Addr} {S S':Cst}
theorem Hd.stepB(h:Hd K (some pl) Hs0 H0 Hs H U Y)(S0:CRep K C Hs0 H0 p d dn un S)(E:ExtB pl p d dn un un' Hs H Hs' H'):Hd K (some pl) Hs' (big Hs' H' p d dn un') Hs' H' U Y:=by
 have S1:=S0.ext h.ext;obtain⟨_,l,T,_⟩:=h.lam pl rfl;have nx:=S1.noext T.tab
 have out:∀ {b o},H b=some o->¬ (b=p\/b=d\/b=dn\/b=un)->Hs' b=none->big Hs' H' p d dn un' b=none:=fun {b o} e hb n=>oR (fun z=>by
  rcases z with z | z | z | z
  .exact hb (.inl z)
  .exact hb (.inr (.inl z))
  .exact hb (.inr (.inr (.inl z)))
  .rcases E.nu with q | q
   .exact hb (.inr (.inr (.inr (z.trans q))))
   .rw[z,q] at e;cases e) n
 refine h.rebase E.vis ⟨.refl _,oO E.sub,E.sub,fun _ _ _ z=>z⟩ (fun b vs e n hb=>?_) fun q hq=>?_
 .obtain⟨a1,a2,a3,a4⟩:=S0.qb hb
  have n':=E.hid b _ e a1 a2 a3 a4 n;refine⟨E.all b _ e (fun z=>by rw[z,T.tab] at e;cases e) a1 a2 a3 a4,n',out e (fun z=>?_) n'⟩;rcases z with z | z | z | z
  .exact a1 z
  .exact a2 z
  .exact a3 z
  .exact a4 z
 .cases hq
  obtain⟨l',T',m1,m2⟩:=E.lam;exact⟨out T.tab nx m1,l',T',m1,m2⟩
end
structure GoodW (T:Pg) (F k:Nat) (pl:Addr×Str) (C:Addr) (X:Cx) (sc:Scope) (dn an:Str) (dF:Addr->Cst->D->Option (Addr×D×Cst)) (aF:Cst->List D->Option (Sum D Str)):Prop where
 s:GoodS (T.cx (aR T F k)) (k+4) X sc
 lm:X.lm=some pl
 cl:Cls X.K C
 dg:sc.names.lookup dn=some .globalImplicit/\(dn==("__debug__":Str))=false
 did:∃ a g ps,X.mg dn=some (.ref a)/\W.keepIn X.K (.ref a)=true/\Binds X.K g ps []/\FnOk X.prog X.w X.K X.mg X.base (CX1 X.prog X.w) (k+4) a g ps (GZ X.K C pl dF)
 ag:sc.names.lookup an=some .globalImplicit/\(an==("__debug__":Str))=false
 all:∃ a g ps,X.mg an=some (.ref a)/\W.keepIn X.K (.ref a)=true/\Binds X.K g ps []/\FnOk X.prog X.w X.K X.mg X.base (CX1 X.prog X.w) (k+4) a g ps (spR X.K C 0 aF)
 nam:∃ ps,cg X.prog X.w X.K X.mg C "names" ps (k+4) (spR X.K C 0 fu)
 cnt:∃ ps,cg X.prog X.w X.K X.mg C "counts" ps (k+4) (spR X.K C 0 gY)
section
variable {X:Cx} {U:Rho} {T:Pg} {F k:Nat} {sc:Scope} {Hs0 H0 Hs H:Hp} {Y:St} {pl:Addr×Str} {C p d dn un:Addr} {S S':Cst} {fn an:Str} {dF:Addr->Cst->D->Option (Addr×D×Cst)} {aF:Cst->List D->Option (Sum D Str)}
def Xb(X:Cx)(C p d dn:Addr)(S':Cst)(U:Rho)(Y:St)(Hs:Hp)(Q:Hp->Prop):Prop:=∀ H' Hs' Hs1 H1 un',Same Hs Hs'->CRep X.K C Hs1 H1 p d dn un' S'->Hd X.K X.lm Hs1 H1 Hs' H' U Y->Q H'
theorem Ox{e1 e2 e3:Expr}{x r due:D}{p1 p2 p3:Pos}{Q:Hp->Prop}(G:GoodW T F k pl C X sc fn an dF aF)(hN:X.N=U.map (·.1))(h1:ev (T.cx (aR T F k)) F sc U e1=some (.obj p))(h2:ev (T.cx (aR T F k)) F sc U e2=some x)(h3:ev (T.cx (aR T F k)) F sc U e3=some due)
  (hg:dF p S x=some (p,r,S')) (hc:cmpop .NotEq r due=some (.bl false)) (hd:Hd X.K X.lm Hs0 H0 Hs H U Y) (S0:CRep X.K C Hs0 H0 p d dn un S) (hq:Xb X C p d dn S' U Y Hs Q) :
  lW X (.Compare (.Call (.Name fn p1) [e1,e2] [] p2) [.NotEq] [e3] p3) Y H (fun c H'=>c=false/\Q H'):=by
 obtain⟨a,g,ps,m1,m2,m3,FD⟩:=G.did
 have hgl:Gl X fn:=by show X.env.scope.names.lookup fn=_;rw[G.s.good.sce];exact G.dg.1
 obtain⟨hA,hpl⟩:=dJ (es:=[e1,e2]) (ds:=[.obj p,x]) (X:=X) (U:=U) (fun e _ d he=>⟨(dD _ F G.s.good hN he).1,aV he⟩) (by simp[jH,h1,h2]);refine(kO (iI G.s.good.room G.s.good.kw .NotEq) au au (cH (aV h3))).sem ?_;refine(dI FD G.s.good.room hgl m1 m2 m3 .nil (E:=E0) nO cL G.dg.2 (aq (hpl e1 (by simp))) (dH fun e' he=>hpl e' (S0z _ he))).sem (hA Y H Hs _ hd.ext.sub hd.sh fun vs H1 Hs1 E1 r1=>?_);obtain⟨v,u,rfl,r2,r3⟩:=repL2 r1;cases (show v=.ref p by simpa[Rep] using r2);have h1':=hd.step E1;have h1'':=h1';rw[G.lm] at h1'';obtain⟨_,l,hT,n1,n2⟩:=h1''.lam pl rfl;refine⟨p,d,dn,un,Hs1,S,S',x,r,u,l,rfl,E1.sub,S0.ext h1'.ext,r3,hT,n1,n2,hg,fun v H2 Hs2 un' B S2 r4=>?_⟩;have h2':=h1''.stepB S0 B;rw[<- G.lm] at h2';refine(dD _ F G.s.good hN h3).1 Y H2 Hs2 _ h2'.ext.sub h2'.sh fun w H3 Hs3 E3 r5=>?_;exact⟨Hs3,r,due,_,E3.sub,Rep.same E3.vis r v r4,r5,hc,false,rfl,false,rfl,rfl,hq _ _ _ _ _ (E1.vis.trans (B.vis.trans E3.vis)) S2.core (h2'.step E3)⟩
theorem Ow{e1 e2:Expr}{ks ks':List (Sum Int Str)}{ds ds':List D}{p1 p2 p3:Pos}{Q:Hp->Prop}(G:GoodW T F k pl C X sc fn an dF aF)(hN:X.N=U.map (·.1))(h1:ev (T.cx (aR T F k)) F sc U e1=some (.obj p))(h2:ev (T.cx (aR T F k)) F sc U e2=some (.dic ks' ds'))
  (hg:aF S []=some (.inl (.dic ks ds))) (hc:vW ks ds ks' ds'=true) (z1:∀ d∈ds,dep d<=50) (z2:∀ d∈ds',dep d<=50) (zk:∀ d∈ds,∀ d'∈ds',gA d d'=true) (hd:Hd X.K X.lm Hs0 H0 Hs H U Y) (S0:CRep X.K C Hs0 H0 p d dn un S) (hq:Xb X C p d dn S U Y Hs Q) :
  lW X (.Compare (.Call (.Name an p1) [e1] [] p2) [.NotEq] [e2] p3) Y H (fun c H'=>c=false/\Q H'):=by
 obtain⟨a,g,ps,m1,m2,m3,FD⟩:=G.all
 have hgl:Gl X an:=by show X.env.scope.names.lookup an=_;rw[G.s.good.sce];exact G.ag.1
 refine(kO (Ms G.s.good.room G.s.good.kw) au au (cH (aV h2))).sem ?_;refine(dI FD G.s.good.room hgl m1 m2 m3 .nil (E:=E0) nO (aA au aO (aq (aV h1))) G.ag.2 (aq (aV h1)) rfl).sem ((dD _ F G.s.good hN h1).1 Y H Hs _ hd.ext.sub hd.sh fun v H1 Hs1 E1 r1=>?_);cases (show v=.ref p by simpa[Rep] using r1);have h1':=hd.step E1;refine⟨p,d,dn,un,Hs1,S,[],[],_,rfl,rfl,E1.sub,S0.ext h1'.ext,.nil,hg,fun v H2 Hs2 E2 r2=>?_⟩;have h2':=h1'.step E2;refine(dD _ F G.s.good hN h2).1 Y H2 Hs2 _ h2'.ext.sub h2'.sh fun w H3 Hs3 E3 r5=>?_;refine⟨Hs3,ks,ds,ks',ds',E3.sub,Rep.same E3.vis _ v r2,r5,z1,z2,zk,false,by rw[hc];rfl,rfl,hq _ _ _ _ _ (E1.vis.trans (E2.vis.trans E3.vis)) S0 (h2'.step E3)⟩
theorem Er{e:Expr}{m:Str}{r:D}{f:Cst->List D->Option (Sum D Str)}{Q:VK}(G:GoodW T F k pl C X sc fn an dF aF)(hN:X.N=U.map (·.1))(nf:(o7 0 0 0).lookup m=none)(MO:∃ ps,cg X.prog X.w X.K X.mg C m ps (k+4) (spR X.K C 0 f))(h1:vJ (T.cx (aR T F k)) F sc U e=some (p,m,[]))
  (hg:f S []=some (.inl r)) (hd:Hd X.K X.lm Hs0 H0 Hs H U Y) (S0:CRep X.K C Hs0 H0 p d dn un S) (hq:∀ v H' Hs',Same Hs Hs'->Rep X.K Hs' r v->Hd X.K X.lm Hs0 H0 Hs' H' U Y->Q v H'):iB X e Y H Q:=by
 obtain⟨ps,MO⟩:=MO;refine(jQ (E:=E0) G.s.good hN G.cl nf MO G.s.good.room nO h1 hd.ext.sub hd.sh (S0.ext hd.ext) fun H1 Hs1 vs E1 r1=>⟨p,d,dn,un,Hs1,S,[],vs,_,rfl,rfl,E1.sub,S0.ext (hd.ext.trans E1),r1,hg,fun v H2 Hs2 E2 r2=>?_⟩).1;exact hq v H2 Hs2 (E1.vis.trans E2.vis) r2 ((hd.step E1).step E2)
theorem Ov{e1 e2:Expr}{r y:D}{p3:Pos}{Q:Hp->Prop}(G:GoodW T F k pl C X sc fn an dF aF)(hN:X.N=U.map (·.1))(h1:vJ (T.cx (aR T F k)) F sc U e1=some (p,("names":Str),[]))(h2:ev (T.cx (aR T F k)) F sc U e2=some y)
  (hg:fu S []=some (.inl r)) (hc:cmpop .NotEq r y=some (.bl false)) (hd:Hd X.K X.lm Hs0 H0 Hs H U Y) (S0:CRep X.K C Hs0 H0 p d dn un S) (hq:Xb X C p d dn S U Y Hs Q) :
  lW X (.Compare e1 [.NotEq] [e2] p3) Y H (fun c H'=>c=false/\Q H'):=by
 refine(kO (iI G.s.good.room G.s.good.kw .NotEq) au au (cH (aV h2))).sem (Er G hN rfl G.nam h1 hg hd S0 fun v H1 Hs1 sm r1 h1'=>?_);refine(dD _ F G.s.good hN h2).1 Y H1 Hs1 _ h1'.ext.sub h1'.sh fun w H3 Hs3 E3 r5=>?_;exact⟨Hs3,r,y,_,E3.sub,Rep.same E3.vis r v r1,r5,hc,false,rfl,false,rfl,rfl,hq _ _ _ _ _ (sm.trans E3.vis) S0 (h1'.step E3)⟩
theorem Hq{e ix z:Expr}{a:D}{p1 p3:Pos}{Q:VK}(G:GoodW T F k pl C X sc fn an dF aF)(hN:X.N=U.map (·.1))(h1:vJ (T.cx (aR T F k)) F sc U e=some (p,("counts":Str),[]))(hi:ev (T.cx (aR T F k)) F sc U ix=some (.int 1))(hz:ev (T.cx (aR T F k)) F sc U z=some (.int 0))
  (hg:gY S []=some (.inl (.tup [a,.int 0]))) (hd:Hd X.K X.lm Hs0 H0 Hs H U Y) (S0:CRep X.K C Hs0 H0 p d dn un S) (hq:∀ H',LmT X.lm H'->Q (.bl true) H'):iB X (.Compare (.Subscript e ix p1) [.Eq] [z] p3) Y H Q:=by
 refine(rK (iI G.s.good.room G.s.good.kw .Eq) (HY Fq au au (jP (aV hi))) au (cH (aV hz))).sem (Er G hN rfl G.cnt h1 hg hd S0 fun v H1 Hs1 sm r1 h1'=>?_);refine(dD _ F G.s.good hN hi).1 Y H1 Hs1 _ h1'.ext.sub h1'.sh fun w H2 Hs2 E2 r2=>?_;obtain⟨b,vs,rfl,g1,g2⟩:=cu (Rep.same E2.vis _ v r1);cases (show w=.int 1 by simpa[Rep] using r2);obtain⟨v1,v2,rfl,g3,g4⟩:=repL2 g2;have h2':=h1'.step E2;refine⟨b,_,1,v2,rfl,rfl,E2.sub.tup g1,rfl,?_⟩;refine(dD _ F G.s.good hN hz).1 Y H2 Hs2 _ h2'.ext.sub h2'.sh fun u H3 Hs3 E3 r5=>?_;exact⟨Hs3,.int 0,.int 0,_,E3.sub,Rep.same E3.vis _ v2 g4,r5,rfl,true,rfl,hq _ (h2'.step E3).lmt⟩
end
structure LawT where
 (cn kn fn an:Str) (tg iter e1 e2 e3 e4 e5 e6 e7 e8 e9 ez:Expr) (s1 s2:Stmt) (bd:List Stmt)
 (kt k2:Nat) (q1 q2 q3 q4 q5 q6 q7 q8 q9 r1 r2 r3 r4 r5 r6 r7 r8 r9 t1 t2 t3:Pos)
noncomputable def LawT.cond(L:LawT):Expr:=.BoolOp .Or [.Compare (.Call (.Name L.fn L.q1) [L.e1,L.e2] [] L.q2) [.NotEq] [L.e3] L.q3,.Compare (.Call (.Name L.an L.q4) [L.e4] [] L.q5) [.NotEq] [L.e5] L.q6,.Compare L.e6 [.NotEq] [L.e7] L.q7] L.q8
def LawT.loop(L:LawT):List Stmt:=[L.s1,L.s2,.If L.cond L.bd [] L.q9]
def LawT.set(L:LawT):Stmt:=.Assign [.Tuple [.Name L.cn L.r1,.Name L.kn L.r2] L.kt L.r3] (.Tuple [.Call (.Name "Case" L.r4) [] [] L.r5,.Dict [] [] L.r6] L.k2 L.r7) L.r8
def LawT.body(L:LawT):List Stmt:=[L.set,.For L.tg L.iter L.loop [] L.r9,.Return (some (.Compare (.Subscript L.e8 L.e9 L.t1) [.Eq] [L.ez] L.t2)) L.t3]
structure Rnd (cx:Cxt) (F:Nat) (sc:Scope) (L:LawT) (R:Addr->D->Sl->Sl->Sl->Rho) (dF:Addr->Cst->D->Option (Addr×D×Cst)) (aF:Cst->List D->Option (Sum D Str)) (S:Cst) (kn:D) (i:Int) (S':Cst) (kn':D):Prop where
 ex:∃ dd due r ks ds ks' ds' nl sl,(∀ p s4 s5,g8 s4=true->g8 s5=true->jO (fun U s=>DE.st cx F F sc U s) [L.s1,L.s2] (R p kn (.sh (.int i)) s4 s5)=some (.nxt (R p kn' (.sh (.int i)) (.sh dd) (.sh due)))) /\
  (∀ p,dF p S dd=some (p,r,S'))/\cmpop .NotEq r due=some (.bl false)/\aF S' []=some (.inl (.dic ks ds))/\kn'=.dic ks' ds'/\vW ks ds ks' ds'=true/\(∀ d∈ds,dep d<=50)/\(∀ d∈ds',dep d<=50)/\(∀ d∈ds,∀ d'∈ds',gA d d'=true) /\
  fu S' []=some (.inl nl)/\(∀ p,ev cx F sc (R p kn' (.sh (.int i)) (.sh dd) (.sh due)) L.e7=some sl)/\cmpop .NotEq nl sl=some (.bl false)
structure LawF (cx:Cxt) (F:Nat) (sc:Scope) (N:List Str) (L:LawT) (R:Addr->D->Sl->Sl->Sl->Rho):Prop where
 nm:∀ p kn s3 s4 s5,(R p kn s3 s4 s5).map (·.1)=N
 bind:∀ p kn s3 s4 s5 x,gJ sc L.tg x (R p kn s3 s4 s5)=some (R p kn (.sh x) s4 s5)
 e1:∀ p kn i dd due,ev cx F sc (R p kn (.sh i) (.sh dd) (.sh due)) L.e1=some (.obj p)
 e2:∀ p kn i dd due,ev cx F sc (R p kn (.sh i) (.sh dd) (.sh due)) L.e2=some dd
 e3:∀ p kn i dd due,ev cx F sc (R p kn (.sh i) (.sh dd) (.sh due)) L.e3=some due
 e4:∀ p kn i dd due,ev cx F sc (R p kn (.sh i) (.sh dd) (.sh due)) L.e4=some (.obj p)
 e5:∀ p kn i dd due,ev cx F sc (R p kn (.sh i) (.sh dd) (.sh due)) L.e5=some kn
 e6:∀ p kn i dd due,vJ cx F sc (R p kn (.sh i) (.sh dd) (.sh due)) L.e6=some (p,("names":Str),[])
 e8:∀ p kn s3 s4 s5,vJ cx F sc (R p kn s3 s4 s5) L.e8=some (p,("counts":Str),[])
 e9:∀ p kn s3 s4 s5,ev cx F sc (R p kn s3 s4 s5) L.e9=some (.int 1)
 ez:∀ p kn s3 s4 s5,ev cx F sc (R p kn s3 s4 s5) L.ez=some (.int 0)
section
variable {X:Cx} {T:Pg} {F k:Nat} {sc:Scope} {pl:Addr×Str} {C p d dn:Addr} {L:LawT} {R:Addr->D->Sl->Sl->Sl->Rho} {dF:Addr->Cst->D->Option (Addr×D×Cst)} {aF:Cst->List D->Option (Sum D Str)}
def At(X:Cx)(C p d dn:Addr)(R:Addr->D->Sl->Sl->Sl->Rho)(Hb:Hp)(S:Cst)(kn:D)(Y:St)(H:Hp):Prop:=∃ s3 s4 s5 Hs0 H0 Hs un,g8 s4=true/\g8 s5=true/\Same Hb Hs/\CRep X.K C Hs0 H0 p d dn un S/\Hd X.K X.lm Hs0 H0 Hs H (R p kn s3 s4 s5) Y
theorem Fw{Hs0 H0:Hp}{f:Rho->Stmt->Option Fl}{rest:List Stmt}{D0:Ends}{U1:Rho}(hf:∀ U s fl,X.N=U.map (·.1)->f U s=some fl->Runs X Hs0 H0 U fl (nC X s)):∀ (pre:List Stmt) {U:Rho} {Y:St} {Hs H:Hp},X.N=U.map (·.1)->jO f pre U=some (.nxt U1)->Hd X.K X.lm Hs0 H0 Hs H U Y ->
  (∀ Y' Hs' H',Same Hs Hs'->X.N=U1.map (·.1)->Hd X.K X.lm Hs0 H0 Hs' H' U1 Y'->dU X rest D0 Y' H')->dU X (pre++rest) D0 Y H
 | [],U,Y,Hs,H,hN,h,hd,k=>by
  simp only[jO] at h;cases h;exact k Y Hs H (.refl _) hN hd
 | s::r,U,Y,Hs,H,hN,h,hd,k=>by
  simp only[jO] at h;obtain⟨fl,h1,h2⟩:=Option.bind_eq_some_iff.mp h;refine PSs.sem (aM jt bL) ?_
  cases fl with
  | ret d=>cases h2
  | nxt U'=>exact hf U s _ hN h1 Y H Hs _ hd hN (fun U2 Y2 Hs2 H2 q2 sm hN2 h2'=>by cases q2;exact Fw hf r hN2 h2 h2' fun Y' Hs' H' sm'=>k Y' Hs' H' (sm.trans sm')) (fun _ _ _ _ q=>by cases q)
theorem Lp{i:Int}{S S':Cst}{kn kn':D}{s4 s5:Sl}{Hs0 H0 Hs H:Hp}{un:Addr}{Y:St}{D0:Ends}(c4:g8 s4=true)(c5:g8 s5=true)(G:GoodW T F k pl C X sc L.fn L.an dF aF)(LF:LawF (T.cx (aR T F k)) F sc X.N L R)(h:Rnd (T.cx (aR T F k)) F sc L R dF aF S kn i S' kn')
  (S0:CRep X.K C Hs0 H0 p d dn un S) (hd:Hd X.K X.lm Hs0 H0 Hs H (R p kn (.sh (.int i)) s4 s5) Y) (hq:∀ Y' H',At X C p d dn R Hs S' kn' Y' H'->D0.nx Y' H'):dU X L.loop D0 Y H:=by
 obtain⟨dd,due,r,ks,ds,ks',ds',nl,sl,a1,a2,a3,a4,rfl,a6,a7,a8,zk,a9,b1,b2⟩:=h.ex;have hN:∀ {kn s3 s4 s5},X.N=(R p kn s3 s4 s5).map (·.1):=fun {_ _ _ _}=>(LF.nm _ _ _ _ _).symm;refine Fw (Hs0:=Hs0) (H0:=H0) (fun U s fl hN h=>xG _ F F G.s hN h) [L.s1,L.s2] hN (a1 p s4 s5 c4 c5) hd fun Y1 Hs1 H1 sm1 _ h1=>?_;refine PSs.sem (bx (nM (PW.pt kJ) bL gR)) ?_;have fin:∀ {Q:Bool->Hp->Prop} {e:Expr} {H2:Hp},ni X e Y1 H2 (fun c H'=>c=false/\Q false H')->ni X e Y1 H2 Q:=fun {Q e H2} h=>vp h fun c H' q=>q.1▸q.2;refine fin ?_;unfold LawT.cond;refine(BZ cY kJ).sem (mq (Ox G hN (LF.e1 _ _ _ _ _) (LF.e2 _ _ _ _ _) (LF.e3 _ _ _ _ _) (a2 p) a3 h1 S0 (Q:=fun H'=>ni X (.BoolOp .Or [.Compare (.Call (.Name L.an L.q4) [L.e4] [] L.q5) [.NotEq] [L.e5] L.q6,.Compare L.e6 [.NotEq] [L.e7] L.q7] L.q8) Y1 H' (fun c H'=>c=false/\_)) fun H2 Hs2 Hs3 H3 un2 sm2 S2 h2=>?_) fun c H' q=>by rw[q.1];exact mK q.2);refine(BZ cY kJ).sem (mq (Ow G hN (LF.e4 _ _ _ _ _) (LF.e5 _ _ _ _ _) a4 a6 a7 a8 zk h2 S2 (Q:=fun H'=>ni X (.BoolOp .Or [.Compare L.e6 [.NotEq] [L.e7] L.q7] L.q8) Y1 H' (fun c H'=>c=false/\_)) fun H4 Hs4 Hs5 H5 un4 sm4 S4 h4=>?_) fun c H' q=>by rw[q.1];exact mK q.2);refine(Es cY).sem (Ov G hN (LF.e6 _ _ _ _ _) (b1 p) a9 b2 h4 S4 fun H6 Hs6 Hs7 H7 un6 sm6 S6 h6=>?_);exact mK (hq Y1 H6 ⟨_,_,_,Hs7,H7,Hs6,un6,rfl,rfl,sm1.trans (sm2.trans (sm4.trans sm6)),S6,h6⟩)
end
section
variable {X:Cx} {T:Pg} {F k:Nat} {sc:Scope} {pl:Addr×Str} {C p d dn:Addr} {L:LawT} {R:Addr->D->Sl->Sl->Sl->Rho} {dF:Addr->Cst->D->Option (Addr×D×Cst)} {aF:Cst->List D->Option (Sum D Str)}
theorem Jf{Jv:Nat->Cst->D->Prop}{S:Cst}{kn:D}{s3 s4 s5:Sl}{Hs0 H0 Hs H:Hp}{un:Addr}{Y:St}{D0:Ends}{l:List D}(c4:g8 s4=true)(c5:g8 s5=true)(G:GoodW T F k pl C X sc L.fn L.an dF aF)(LF:LawF (T.cx (aR T F k)) F sc X.N L R)(hI:evI (T.cx (aR T F k)) (dX L.tg) (ev (T.cx (aR T F k)) F sc (R p kn s3 s4 s5)) sc L.iter=some l)
  (hl:∀ i:Nat,i<l.length->l[i]?=some (.int i)) (hr:∀ i:Nat,i<l.length->∀ S kn,Jv i S kn->∃ S' kn',Rnd (T.cx (aR T F k)) F sc L R dF aF S kn i S' kn'/\Jv (i+1) S' kn') (h0:Jv 0 S kn)
  (S0:CRep X.K C Hs0 H0 p d dn un S) (hd:Hd X.K X.lm Hs0 H0 Hs H (R p kn s3 s4 s5) Y) (hq:∀ S' kn' Y' H',Jv l.length S' kn'->At X C p d dn R (fun _=>none) S' kn' Y' H'->D0.nx Y' H'):nC X (.For L.tg L.iter L.loop [] L.r9) D0 Y H:=by
 have hN:∀ {kn s3 s4 s5},X.N=(R p kn s3 s4 s5).map (·.1):=fun {_ _ _ _}=>(LF.nm _ _ _ _ _).symm;obtain⟨hI',hp⟩:=zP (tg:=L.tg) (U:=R p kn s3 s4 s5) G.s.good (fun e d h=>⟨(dD _ F G.s.good hN h).1,aV h⟩) hI;refine PS.sem (Ey G.s.pass G.s.good.calm uo mC bL (iG hp)) (hI' Y H Hs _ hd.ext.sub hd.sh fun J H2 Hs2 E2 hJ=>?_)
 let W:Nat->Nat->St->Hp->Prop:=fun i m Y H=>m=l.length-i/\i<=l.length/\∃ S kn,Jv i S kn/\At X C p d dn R Hs2 S kn Y H
 refine⟨W,⟨l.length,rfl,V4z _,S,kn,h0,s3,s4,s5,Hs0,H0,Hs2,un,c4,c5,.refl _,S0,hd.step E2⟩,?_⟩;rintro i m Yi Hi ⟨rfl,hi,Si,ki,ji,s3',s4',s5',Hs3,H3,Hs4,un4,c4',c5',sm,S4,h4⟩;obtain⟨stp,go⟩:=hJ Hs4 Hi sm h4.ext.sub
 by_cases hlt:i<l.length
 .obtain⟨g1,g2⟩:=go i _ (hl i hlt)
  refine .inr ⟨g1,fun Y' H'=>W (i+1) (l.length-(i+1)) Y' H',fun Y' H' w=>⟨_,by omega,w⟩,fun x H' y=>?_⟩;obtain⟨Hs5,E5,rx⟩:=g2 x H' y;have h5:=h4.step E5;obtain⟨S',kn',rr,j'⟩:=hr i hlt Si ki ji;refine tL G.s.good.calm G.s.own G.s.good.nd h5.ext.sub hN (nW (Hs0:=Hs3) (H0:=H3) (H:=H')) (LF.bind _ _ _ _ _ _) h5 rx fun Y' hN2 h6=>?_;refine Lp c4' c5' G LF rr S4 h6 fun Y7 H7 ⟨t3,t4,t5,Hs7,H8,Hs8,un8,d4,d5,sm8,S8,h8⟩=>?_;exact⟨rfl,hlt,S',kn',j',t3,t4,t5,Hs7,H8,Hs8,un8,d4,d5,sm.trans (E5.vis.trans sm8),S8,h8⟩
 .have hi':i=l.length:=by omega
  subst hi';exact .inl ⟨stp,hq Si ki Yi Hi ji ⟨s3',s4',s5',Hs3,H3,Hs4,un4,c4',c5',(fun _ _ z=>nomatch z),S4,h4⟩⟩
end
section
variable {P:Program} {w:World} {K:Z3} {mg:Str->Option Value} {base:Heap} {T:DE.Pg} {F k:Nat}
theorem Jg{fd:Fd}{t:Stmt}{f c Pt:Addr}{nm qn:Str}{dV kV doc pm ct oc:Value}{an od:Option Addr}{osl:Array (Option Value)}{C fI:Addr}{fdI:FuncData}{L:LawT}{dF:Addr->Cst->D->Option (Addr×D×Cst)}{aF:Cst->List D->Option (Sum D Str)}(Tx:Text w K mg T)(lk:K.lookup f=some ⟨oc,od,.func (W.fnOf nm nm (bM t) (aL t) (ao t) dV kV doc pm an (.ref c) ct),osl⟩)(hcd:W.codeIn K (.ref c) nm=true)
    (hb:aL t=L.body) (hs:fd.sc=ao t) (S:FnScope fd.N fd.ps fd.sc) (h1:fd.ps.length=1) (cl:Cls K C)
    (dg:fd.sc.names.lookup L.fn=some .globalImplicit/\(L.fn==("__debug__":Str))=false) (did:∃ a g ps,mg L.fn=some (.ref a)/\W.keepIn K (.ref a)=true/\Binds K g ps []/\FnOk P w K mg base (CX1 P w) (k+4) a g ps (GZ K C (Pt,qn) dF))
    (ag:fd.sc.names.lookup L.an=some .globalImplicit/\(L.an==("__debug__":Str))=false) (all:∃ a g ps,mg L.an=some (.ref a)/\W.keepIn K (.ref a)=true/\Binds K g ps []/\FnOk P w K mg base (CX1 P w) (k+4) a g ps (spR K C 0 aF))
    (nam:∃ ps,cg P w K mg C "names" ps (k+4) (spR K C 0 fu)) (cnt:∃ ps,cg P w K mg C "counts" ps (k+4) (spR K C 0 gY))
    (hmg:mg "Case"=some (.ref C)) (hgl:fd.sc.names.lookup ("Case":Str)=some .globalImplicit) (MK:Mk K C fI) (bI:Binds K fdI ["self"] []) (FI:FnOk P w K mg base (CX1 P w) 1 fI fdI ["self"] (M81.En K C))
    (hsw:swp fd.sc [.Name L.cn L.r1,.Name L.kn L.r2] (.Tuple [.Call (.Name "Case" L.r4) [] [] L.r5,.Dict [] [] L.r6] L.k2 L.r7)=some true) (hcN:fd.N.contains L.cn=true) (hkN:fd.N.contains L.kn=true)
    (hlaw:∀ ns:List Int,ns.length<=63->∃ (R:Addr->D->Sl->Sl->Sl->Rho) (s3 s4 s5:Sl) (Jv:Nat->Cst->D->Prop),g8 s4=true/\g8 s5=true/\LawF (T.cx (aR T F k)) F fd.sc fd.N L R/\(∀ p,fG (fG (bw fd [.lst (ns.map D.int)]) L.cn (.sh (.obj p))) L.kn (.sh (.dic [] []))=R p (.dic [] []) s3 s4 s5) /\
      (∀ p,evI (T.cx (aR T F k)) (dX L.tg) (ev (T.cx (aR T F k)) F fd.sc (R p (.dic [] []) s3 s4 s5)) fd.sc L.iter=some (dW 0 16))/\Jv 0 ⟨[],[],[]⟩ (.dic [] [])/\(∀ i:Nat,i<16->∀ S kn,Jv i S kn->∃ S' kn',Rnd (T.cx (aR T F k)) F fd.sc L R dF aF S kn i S' kn'/\Jv (i+1) S' kn')/\∀ S kn,Jv 16 S kn->S.und=[]) :
    FnOk P w K mg base CX0 (k+5) f (W.fnOf nm nm (bM t) (aL t) (ao t) dV kV doc pm an (.ref c) ct) fd.ps (tX K Pt):=by
  refine Jy (N:=fd.N) lk hcd (by rw[<- hs];exact S) (fun vs H Q E h=>by obtain⟨a,ns,rfl,_⟩:=h;rw[h1];rfl) fun A outer s H vs Q E hr h=>?_
  obtain⟨a,ns,rfl,hS,hl,hP,hq⟩:=h
  let X0:=eF CX0 P w K mg base fd.N nm (ao t) f (.ref c) A outer s H E
  let X:=X0.nox.relm (some (Pt,qn))
  have GS:GoodS (T.cx (aR T F k)) (k+4) X fd.sc :=
           { good := nY Tx (by omega) rfl hr hs.symm S.kind S.nd
             own:=⟨fun x hx=>⟨by
               unfold ownIn at hx
               rw[N3z] at hx
               show(ao t).names.lookup x=_\/(ao t).names.lookup x=_
               rw[<- hs]
               exact hx.imp (fun q=>by simpa using q) (fun q=>by simpa using q),.inl rfl⟩⟩
             pass:=PassesOwn.never
             stk:=⟨rfl,rfl⟩ }
  have GW:GoodW T F k (Pt,qn) C X fd.sc L.fn L.an dF aF:=⟨GS,rfl,cl,dg,did,ag,all,nam,cnt⟩
  have Tab:LamT H Pt qn []:=⟨by rw[hP];rfl,fun q hq=>by simp at hq⟩
  have naP:∀ {o:HO},H a=some o->(∀ u,o≠.ext u)->a≠Pt:=fun e n z=>by rw[z,hP] at e;cases e;exact n _ rfl
  have rl:aJ K (del H Pt) [.lst (ns.map D.int)] [.ref a]:=by
    refine .cons ?_ .nil
    simp only[Rep]
    refine⟨a,ns.map V.int,rfl,?_,uf (fun x=>by simp[Rep]) ns⟩
    rcases hS with(e | ⟨o,e⟩) | e
    . exact .inl (.inl (by rw[fV (naP e fun u z=>nomatch z)];exact e))
    . exact .inl (.inr ⟨o,by rw[fV (naP e fun u z=>nomatch z)];exact e⟩)
    . exact .inr e
  obtain⟨s1,s2,s3⟩:=fL S (ds:=[.lst (ns.map D.int)]) (by rw[h1];rfl) rl
  have noow:∀ (i:Nat) (x:Str) (ds':List D),(bw fd [.lst (ns.map D.int)])[i]?=some (x,.ow ds')->False:=fun i x ds' e=>by
    rcases s3 i x _ e with q | ⟨d',v,q,q1,q2⟩
    . cases q
    . cases q
  have hd:Hd K (some (Pt,qn)) (del H Pt) (del H Pt) (del H Pt) H (bw fd [.lst (ns.map D.int)]) (start fd.N [.ref a]):=by
    refine⟨⟨.refl _,fun b o e=>(oE e).1,fun b o e=>(oE e).1,fun _ _ _ z=>z⟩,s2,fun i x d e=>?_,fun i x ds' e=>(noow i x ds' e).elim,fun i j x y ds' es a' _ e=>(noow i x ds' e).elim,(fun i x dss e=>by
      rcases s3 i x _ e with q | ⟨d',v,q,q1,q2⟩
      . cases q
      . cases q),fun p' hp'=>?_⟩
    . rcases s3 i x _ e with q | ⟨d',v,q,q1,q2⟩
      . cases q
      . cases q
        exact⟨v,q1,q2⟩
    . cases hp'
      exact⟨iU,[],Tab,iU,fun q hq=>by simp at hq⟩
  refine⟨fun D Y H=>∀ z0 s0,Inv X z0 Y H s0->wpAny (model X.prog X.w) X.A (execs (aL t) X.env) (SP X z0 D) X.xe s0,fun z0 s0 Y H1 D I h=>?_,?_⟩
  . exact Z4z (h z0 s0 ((I.wish _).relm _)) (fun fl s' z=>z.unrelm.unwish) fun _ _ z=>False.elim z
  . obtain⟨R,t3,t4,t5,Jv,c4,c5,LF,hR0,hI,hJ0,hJ,hJe⟩:=hlaw ns hl
    rw[hb]
    refine PSs.sem (aM jt (aM jt (bx (cU au)))) ?_
    obtain⟨x,px,y,py,a1,b1,k2,p2,e1,e2,lx,ly,hxy,pa,pb,hw⟩:=w6 (kt:=L.kt) (pt:=L.r3) GS.good hsw
    cases e1
    cases e2
    obtain⟨i,hi⟩:=cR hcN
    obtain⟨j,hj⟩:=cR hkN
    have hij:i≠j:=fun z=>by rw[z,hj] at hi;exact hxy (C3z hi).symm
    refine PS.sem (Ew GS.good.calm GS.good.nd hi hj hij lx ly (aA (Cj MK FI (hr.mono (by omega)) (by show(ao t).names.lookup ("Case":Str)=_;rw[<- hs];exact hgl) hmg bI .nil nO) (aA uw aO rfl) rfl) hw rfl) ?_
    intro b dx hbn hdn hne
    have fr:∀ q,(upd (upd H dx (.own b)) b (.ins C dx [])) q=none->H q=none:=fun q e=>by
      by_cases q1:q=b
      . subst q1;exact hbn
      . rw[aj q1] at e
        by_cases q2:q=dx
        . subst q2;exact hdn
        . rwa [aj q2] at e
    have up:∀ q o,H q=some o->(upd (upd H dx (.own b)) b (.ins C dx [])) q=some o:=fun q o e=>by
      rw[aj (ak e hbn),aj (ak e hdn)];exact e
    refine⟨b,dx,del H Pt,rfl,aB,fun q o e=>up q o (hd.ext.sub q o e),hd.ext.sub.free hbn,fun d dn un H2 CR n1 n2 n3 keep=>⟨rfl,?_⟩⟩
    have all':Same H H2:=fun q o e=>keep q o (up q o e) (ak e hbn)
    have h2:=hd.stepN (H':=H2) (p:=b) (d:=d) (dn:=dn) (un:=un) all' hbn (fr _ n1) (fr _ n2) (fr _ n3)
    intro q ob hqn
    have E3:=Ext.new h2.ext.sub (.frz ob (.dK [])) hqn
    have h3:=h2.step E3
    have rd:Rep K (upd (del H Pt) q (.frz ob (.dK []))) (.dic [] []) (.ref q):=⟨q,[],rfl,.inl ⟨ob,aB⟩,rfl,.nil⟩
    have nd:((bw fd [.lst (ns.map D.int)]).map (·.1)).Nodup:=by rw[<- s1];exact GS.good.nd
    have hi':((bw fd [.lst (ns.map D.int)]).map (·.1))[i]?=some L.cn:=by rw[<- s1];exact hi
    have hj':((bw fd [.lst (ns.map D.int)]).map (·.1))[j]?=some L.kn:=by rw[<- s1];exact hj
    have g1:=h3.set nd hi' (d:=.obj b) (v:=.ref b) (by simp[Rep])
    have g2:=g1.set (by rw[aP];exact nd) (by rw[aP];exact hj') rd
    rw[hR0 b] at g2
    refine⟨_,_,rfl,Jf c4 c5 GW LF (hI b) (fun i hi=>?_) (fun i hi=>hJ i (by simpa[dW] using hi)) hJ0 CR.core g2 fun S' kn' Y' H' jj ⟨u3,u4,u5,Hs5,H5,Hs6,un6,_,_,_,S6,h6⟩=>?_⟩
    . have e16:(dW 0 16).length=16:=rfl
      have hi2:i<16:=hi
      rcases i with _ | _ | _ | _ | _ | _ | _ | _ | _ | _ | _ | _ | _ | _ | _ | _ | i
      all_goals first | rfl | omega
    . have e16:(dW 0 16).length=16:=rfl
      rw[e16] at jj
      refine Hq GW (LF.nm _ _ _ _ _).symm (LF.e8 _ _ _ _ _) (LF.e9 _ _ _ _ _) (LF.ez _ _ _ _ _) (by show some _=some _;rw[hJe _ _ jj];rfl) h6 S6 fun H7 lm'=>?_
      obtain⟨l,T'⟩:=lm' (Pt,qn) rfl
      exact hq H7 _ T'.tab
end
end L2
namespace M81
open PySem DE
theorem all2{α:Type}{f g:Nat->α}{n:Nat}(h:(List.range n).map f=(List.range n).foldr (fun i l=>g i::l) []){i:Nat}(hi:i<n):f i=g i:=by
 rw[<- List.map_eq_foldr] at h;exact List.map_inj_left.mp h i (List.mem_range.mpr hi)
set_option maxHeartbeats 4000000 in
theorem WR(k:Nat){m n:Nat}{f:Nat->Nat->Int}(hm:m<8)(hn:n<8):aU T 60 (k+3) "has_table_form" [tbl (m+1) (n+1) f]=some (.bl (decide (m<4)&&decide (n<4))) :=
 all2 (f:=fun n=>aU T 60 (k+3) "has_table_form" [tbl (m+1) (n+1) f]) (g:=fun n=>some (.bl (decide (m<4)&&decide (n<4)))) (all2 (f:=fun m=>(List.range 8).map fun n=>aU T 60 (k+3) "has_table_form" [tbl (m+1) (n+1) f]) (g:=fun m=>(List.range 8).foldr (fun n l=>some (.bl (decide (m<4)&&decide (n<4)))::l) []) (by rfl') hm) hn
theorem uK(k:Nat){m n:Nat}{f:Nat->Nat->Int}(h1:1<=m)(h2:m<=8)(h3:1<=n)(h4:n<=8):aU T 60 (k+3) "has_table_form" [tbl m n f]=some (.bl (decide (m<=4)&&decide (n<=4))):=by
 obtain⟨m,rfl⟩:∃ m',m=m'+1:=⟨m-1,by omega⟩;obtain⟨n,rfl⟩:∃ n',n=n'+1:=⟨n-1,by omega⟩;exact WR k (by omega) (by omega)
theorem need_table(k:Nat){m n:Nat}{f:Nat->Nat->Int}(h1:1<=m)(h2:m<=4)(h3:1<=n)(h4:n<=4):aU T 60 (k+4) "need_table" [tbl m n f]=some .non:=by
 refine Gm (fd:=bf (top 19)) rfl rfl (fH (KJ ?_) iM);have:=uK k (f:=f) h1 (by omega) h3 (by omega);rw[U3z h2,U3z h4] at this;refine' aY ?L81a_1a ?L81a_1b ?L81a_1c;(case L81a_1a=>rfl);(case L81a_1b=>walk_at "xm");(case L81a_1c=>exact this)
def within(l m i:Int):Bool:=decide (l<=i)&&decide (i<=m)
theorem lE(k:Nat){i l m:Int}:aU T 60 (k+2) "is_whole_within" [.int i,.int l,.int m]=some (.bl (within l m i)):=by
 refine fK (fd:=bf (top 14)) rfl rfl (fB (jh (vg ?_ (Bg ?_))))
 .exact aY rfl (by walk_at "xm") (show aU T 60 (k+1) "is_whole" [.int i]=some (.bl true) by rfl')
 .by_cases h1:l<=i
  .have e:within l m i=decide (i<=m):=by simp[within,h1]
   rw[e];exact Qh (by nofun) (by nofun) (oLe h1) (by nofun) oLeB
  .have e:within l m i=false:=by simp[within,h1]
   rw[e];exact Qi (by nofun) (by nofun) (oLeF h1)
theorem uF{m:Nat}{h:Nat->D}{x:D}(hx:x∈Ls m h):∃ i,i<m/\x=h i:=by
 unfold Ls at hx;obtain⟨i,hi,rfl⟩:=List.mem_map.mp hx;exact⟨i,List.mem_range.mp hi,rfl⟩
theorem column_of(k:Nat){m n j:Nat}{f:Nat->Nat->Int}(hj:j<n)(h2:m<=4):aU T 60 (k+1) "column_of" [tbl m n f,.int j]=some (row m fun i=>f i j):=by
 refine fK (fd:=bf (top 26)) rfl rfl (fB ?_);refine' jf ?L81a_2a ?L81a_2b ?L81a_2c ?L81a_2d ?L81a_2e;(case L81a_2a=>rfl);(case L81a_2b=>rfl);(case L81a_2c=>rfl);(case L81a_2d=>walk_at "xm");(case L81a_2e=>exact qU)
theorem columns_of(k:Nat){m n:Nat}{f:Nat->Nat->Int}(h1:1<=m)(h2:m<=4)(h4:n<=4):aU T 60 (k+2) "columns_of" [tbl m n f]=some (tbl n m fun i j=>f j i):=by
 refine fK (fd:=bf (top 27)) rfl rfl (fB ?_);refine jf rfl rfl rfl (aK ?_ dG) qU;refine' gQ ?L81a_3a ?L81a_3b ?L81a_3c (bK ?L81a_3d);(case L81a_3a=>rfl);(case L81a_3b=>walk_at "xi");(case L81a_3c=>exact iC (by omega))
 case L81a_3d =>
  intro i hi;refine' jc ?L81a_3e ?L81a_3f;(case L81a_3e=>rfl)
  case L81a_3f =>
   refine' aY ?L81a_4a ?L81a_4b ?L81a_4c;(case L81a_4a=>rfl);(case L81a_4b=>walk_at "xm");(case L81a_4c=>exact column_of _ hi h2)
def Sm(m n:Nat)(f:Nat->Nat->Int):Prop:=∀ i j,i<m->j<n->small (f i j)=true
noncomputable def vX(ns:List Int)(k:Nat):Int:=if k<ns.length then ns.getD k 0 else if ns=[] then 0 else ns.getD (k%ns.length) 0*31+k
def dZ(ns:List Int)(k:Nat):Int:=(vX ns k+6151*((k:Int)+1))*40692%2147483399
def pickN(ns:List Int)(k many:Nat):Nat:=((dZ ns k*dZ ns k+dZ ns k / 31)%2147483629%(many:Int)).toNat
theorem dB{ns:List Int}{k many:Nat}(h:0<many):pickN ns k many<many:=by
 unfold pickN;have h1:=S3z ((dZ ns k*dZ ns k+dZ ns k / 31)%2147483629) (show(many:Int)≠0 by omega);have h2:=Int.emod_lt_of_pos ((dZ ns k*dZ ns k+dZ ns k / 31)%2147483629) (show(0:Int)<many by omega);omega
abbrev scr(ns:List Int):D:=.lst (ns.map D.int)
theorem nA{ns:List Int}:blt "len" [scr ns]=some (.int (ns.length:Int)):=by
 show some (D.int ((ns.map D.int).length:Int))=_;rw[E3z]
theorem Eo{ns:List Int}{k:Nat}(h:k<ns.length):atD (ns.map D.int) (k:Int)=some (.int (ns.getD k 0)):=by
 refine jq ?_;rw[List.getElem?_map,List.getElem?_eq_getElem h,List.getD_eq_getElem?_getD,List.getElem?_eq_getElem h];rfl
theorem G4{ns:List Int}:dep (scr ns)<=50:=by
 simp only[dep]
 have:=lN (b:=0) (l:=ns.map D.int) fun d hd=>by
  obtain⟨i,_,rfl⟩:=List.mem_map.mp hd;simp[dep]
 omega
theorem cell(k:Nat)(ns:List Int)(kk:Nat):aU T 60 (k+1) "_law_cell" [scr ns,.int kk]=some (.int (vX ns kk)):=by
 unfold vX
 by_cases h:kk<ns.length
 .rw[L5z h]
  refine fK (fd:=bf (top 46)) rfl rfl (lG (fl1:=.ret (.int (ns.getD kk 0))) (bC (by nofun) (jf rfl rfl rfl (by walk_at "xm") nA) (oLt (by omega))) (fB ?_) rfl);exact xIx (by nofun) (by nofun) rfl (Eo h)
 .rw[M5z h]
  by_cases e:ns=[]
  .subst e
   rw[L5z rfl];refine fK (fd:=bf (top 46)) rfl rfl (fH (bC (by nofun) (jf rfl rfl rfl (by walk_at "xm") (nA (ns:=[]))) (M7 (by simp))) (lG (fl1:=.ret (.int 0)) (bC (by nofun) (by nofun) rfl) (fB (by nofun)) rfl))
  .rw[M5z e]
   have hl:0<ns.length:=List.length_pos_iff.mpr e;refine fK (fd:=bf (top 46)) rfl rfl (fH (bC (by nofun) (jf rfl rfl rfl (by walk_at "xm") nA) (M7 (by omega))) (fH (bC (y:=.lst []) (by nofun) (by nofun) ?_) (fB ?_)))
   .rw[oEq G4 (by simp[dep,deps]) (show gA (scr ns) (.lst [])=true from fX fun _ _ _ h=>nomatch h)]
    cases ns with
    | nil=>exact absurd rfl e
    | cons a r=>rfl
   .refine eE (eE (x:=.int (ns.getD (kk%ns.length) 0)) (xIx (i:=((kk%ns.length:Nat):Int)) (by nofun) ?_ rfl (Eo (Nat.mod_lt _ hl))) (by nofun) (Ge (.inr (by decide)))) (by nofun) rfl
    refine eE (by nofun) (jf rfl rfl rfl (by walk_at "xm") nA) ?_;rw[P0 (by omega)];rfl
theorem pick(k:Nat)(ns:List Int)(kk:Nat){many:Nat}(h:0<many):aU T 60 (k+2) "_law_pick" [scr ns,.int kk,.int many]=some (.int ((pickN ns kk many:Nat):Int)):=by
 have d0:=S3z ((vX ns kk+6151*((kk:Int)+1))*40692) (show(2147483399:Int)≠0 by decide);have d1:=Int.emod_lt_of_pos ((vX ns kk+6151*((kk:Int)+1))*40692) (show(0:Int)<2147483399 by decide)
 have e:((pickN ns kk many:Nat):Int)=(dZ ns kk*dZ ns kk+dZ ns kk / 31)%2147483629%(many:Int):=by
  unfold pickN;exact Int.toNat_of_nonneg (S3z _ (by omega))
 rw[e];refine fK (fd:=bf (top 47)) rfl rfl (jJ rfl (d:=.int (dZ ns kk)) ?_ (fB ?_))
 .refine eE (eE (eE (x:=.int (vX ns kk)) (y:=.int (6151*((kk:Int)+1))) ?_ ?_ rfl) (by nofun) (Ge (.inr (by decide)))) (by nofun) (P0 (by decide))
  .refine' aY ?L81a_5a ?L81a_5b ?L81a_5c;(case L81a_5a=>rfl);(case L81a_5b=>walk_at "xm");(case L81a_5c=>exact cell _ ns kk)
  .exact eE (by nofun) (eE (by nofun) (by nofun) rfl) (Ge (.inl (by decide)))
 .refine eE (eE (eE (eE (by nofun) (by nofun) (Ge (.inl ?_))) (eE (by nofun) (by nofun) (bDiv (by decide) (by decide))) rfl) (by nofun) (P0 (by decide))) (by nofun) (P0 (by omega))
  unfold small;unfold dZ;rw[U3z (by omega),U3z (by omega)];rfl
theorem lV{cx:Cxt}{n:Nat}{sc:Scope}{U:Rho}{e:Expr}{d d':D}(h:ev cx n sc U e=some d)(q:d=d'):ev cx n sc U e=some d':=q▸h
def wu:Nat->Nat
 | 0=>0
 | 1=>0
 | 2=>1
 | _=>4
theorem Je(p:Nat):wu p<=4:=by unfold wu;split<;>omega
def Bh(ns:List Int)(at':Nat):Nat->Nat->Int:=fun i j=>((pickN ns (at'+1+8*i+j) (6+wu (pickN ns at' 4)):Nat):Int)-((wu (pickN ns at' 4):Nat):Int)
def QC:Nat->Sl
 | 0=>.no
 | i+1=>.sh (.int i)
def Pu(ns:List Int)(a m n low:Nat)(md:List D)(rw:Sl):Rho:=[("_law_script",.sh (scr ns)),("_law_at",.sh (.int a)),("_law_rows",.sh (.int m)),("_law_columns",.sh (.int n)),("_law_low",.sh (.int low)),("_law_made_here",.ow md),("_law_row",rw)]
theorem table(k:Nat)(ns:List Int)(a:Nat){m n:Nat}(hm:m<=4)(hn:n<=4):aU T 60 (k+3) "_law_table" [scr ns,.int a,.int m,.int n]=some (tbl m n (Bh ns a)):=by
 have hp:=dB (ns:=ns) (k:=a) (many:=4) (by omega);refine fK (fd:=bf (top 48)) rfl rfl (jJ rfl (d:=.int ((wu (pickN ns a 4):Nat):Int)) ?_ (jJ rfl (d:=.lst []) (by nofun) (Zj (l:=Ls m fun i=>.int i) (fl1:=.nxt (Pu ns a m n (wu (pickN ns a 4)) (Ls m fun i=>row n (Bh ns a i)) (QC m))) ?_ ?_ (fB (jf rfl rfl rfl (by walk_at "xm") qU)))))
 .refine xIx (x:=.lst [.int 0,.int 0,.int 1,.int 4]) (i:=((pickN ns a 4:Nat):Int)) (by nofun) ?_ rfl ?_
  .refine aY rfl (by walk_at "xm") (pick (k+0) ns a (many:=4) (by omega))
  .generalize pickN ns a 4=p at hp
   match p,hp with
   | 0,_=>rfl
   | 1,_=>rfl
   | 2,_=>rfl
   | 3,_=>rfl
 .walk_at "xi"
 .refine Dp (R:=fun i=>Pu ns a m n (wu (pickN ns a 4)) (Ls i fun i=>row n (Bh ns a i)) (QC i)) fun i hi=>?_
  refine Dq (U1:=Pu ns a m n (wu (pickN ns a 4)) (Ls i fun i=>row n (Bh ns a i)) (.sh (.int i))) rfl ?_;show _=some (Fl.nxt (Pu ns a m n (wu (pickN ns a 4)) (Ls (i+1) fun i=>row n (Bh ns a i)) (QC (i+1))));rw[oX];refine Zm (d:=row n (Bh ns a i)) rfl rfl rfl (Ek (by rw[bZ];omega)) ?_ rfl;refine jf rfl rfl rfl (aK ?_ dG) qU;refine' gQ ?L81a_6a ?L81a_6b ?L81a_6c (bK ?L81a_6d);(case L81a_6a=>rfl);(case L81a_6b=>walk_at "xi");(case L81a_6c=>exact iC (by omega))
  case L81a_6d =>
   intro j hj;refine' jc ?L81a_6e ?L81a_6f;(case L81a_6e=>rfl)
   case L81a_6f =>
    refine eE (x:=.int ((pickN ns (a+1+8*i+j) (6+wu (pickN ns a 4)):Nat):Int)) (aY rfl (aK ?_ (aK ?_ (aK ?_ dG))) (pick (k+0) ns (a+1+8*i+j) (many:=6+wu (pickN ns a 4)) (by omega))) (by nofun) rfl
    .nofun
    .refine lV (eE (eE (eE (by nofun) (by nofun) rfl) (eE (by nofun) (by nofun) (Ge (.inl (by decide)))) rfl) (by nofun) rfl) (congrArg D.int (by omega))
    .refine lV (eE (by nofun) (by nofun) rfl) (congrArg D.int (by omega))
theorem turned(k:Nat){m n:Nat}{f:Nat->Nat->Int}(h1:1<=m)(h2:m<=4)(h3:1<=n)(h4:n<=4):aU T 60 (k+5) "turned" [tbl m n f]=some (tbl n m fun i j=>f j i):=by
 refine fK (fd:=bf (top 28)) rfl rfl (Bk rfl (d:=.non) ?_ (fB ?_))
 .refine' aY ?L81a_7a ?L81a_7b ?L81a_7c;(case L81a_7a=>rfl);(case L81a_7b=>walk_at "xm");(case L81a_7c=>exact need_table k h1 h2 h3 h4)
 .refine' aY ?L81a_8a ?L81a_8b ?L81a_8c;(case L81a_8a=>rfl);(case L81a_8b=>walk_at "xm");(case L81a_8c=>exact columns_of (k+2) h1 h2 h4)
theorem flipped(k:Nat){m n:Nat}{f:Nat->Nat->Int}(h1:1<=m)(h2:m<=4)(h3:1<=n)(h4:n<=4):aU T 60 (k+5) "flipped" [tbl m n f]=some (tbl m n fun i j=>f (m-1-i) (n-1-j)):=by
 refine fK (fd:=bf (top 29)) rfl rfl (Bk rfl (d:=.non) ?_ (fB ?_))
 .refine' aY ?L81a_9a ?L81a_9b ?L81a_9c;(case L81a_9a=>rfl);(case L81a_9b=>walk_at "xm");(case L81a_9c=>exact need_table k h1 h2 h3 h4)
 .refine' jf ?L81a_10a ?L81a_10b ?L81a_10c ?L81a_10d ?L81a_10e;(case L81a_10a=>rfl);(case L81a_10b=>rfl);(case L81a_10c=>rfl);(case L81a_10d=>walk_at "xm");(case L81a_10e=>exact qU)
theorem row_by_column(k:Nat){n:Nat}{f g:Nat->Int}(h4:n<=4)(hs:∀ j,j<n->small (f j)=true\/small (g j)=true):aU T 60 (k+1) "row_by_column" [row n f,row n g]=some (.int (xg n fun j=>f j*g j)):=by
 refine fK (fd:=bf (top 30)) rfl rfl (fB (jf rfl rfl rfl (aK ?_ dG) Zt));refine' gQ ?L81a_11a ?L81a_11b ?L81a_11c (bK ?L81a_11d);(case L81a_11a=>rfl);(case L81a_11b=>walk_at "xi");(case L81a_11c=>exact iC (by omega))
 case L81a_11d =>
  intro j hj;refine' jc ?L81a_11e ?L81a_11f;(case L81a_11e=>rfl)
  case L81a_11f =>
   refine' eE ?a1 ?a2 (Ge (hs j hj));(case a1=>nofun);(case a2=>nofun)
theorem row_by_columns(k:Nat){n p:Nat}{f:Nat->Int}{g:Nat->Nat->Int}(h4:n<=4)(h5:p<=4)(hs:∀ i j,i<p->j<n->small (f j)=true\/small (g i j)=true):aU T 60 (k+2) "row_by_columns" [row n f,tbl p n g]=some (row p fun i=>xg n fun j=>f j*g i j):=by
 refine fK (fd:=bf (top 31)) rfl rfl (fB (jf rfl rfl rfl (aK ?_ dG) qU));refine' gQ ?L81a_12a ?L81a_12b ?L81a_12c (bK ?L81a_12d);(case L81a_12a=>rfl);(case L81a_12b=>walk_at "xi");(case L81a_12c=>exact iC (by omega))
 case L81a_12d =>
  intro i hi;refine' jc ?L81a_12e ?L81a_12f;(case L81a_12e=>rfl)
  case L81a_12f =>
   refine' aY ?L81a_13a ?L81a_13b ?L81a_13c;(case L81a_13a=>rfl);(case L81a_13b=>walk_at "xm");(case L81a_13c=>exact row_by_column k h4 (hs i · hi ·))
def mul(n:Nat)(f g:Nat->Nat->Int):Nat->Nat->Int:=fun i j=>xg n fun l=>f i l*g l j
theorem times(k:Nat){m n p:Nat}{f g:Nat->Nat->Int}(h1:1<=m)(h2:m<=4)(h3:1<=n)(h4:n<=4)(h5:1<=p)(h6:p<=4)(hs:Sm m n f\/Sm n p g):aU T 60 (k+6) "times" [tbl m n f,tbl n p g]=some (tbl m p (mul n f g)):=by
 refine fK (fd:=bf (top 32)) rfl rfl (Bk rfl (d:=.non) ?_ (Bk rfl (d:=.non) ?_ (fH (bC (x:=.int n) ?_ ?_ (MP rfl)) (jJ rfl (d:=tbl p n fun i j=>g j i) ?_ (fB (jf rfl rfl rfl (aK ?_ dG) qU))))))
 .refine' aY ?L81a_14a ?L81a_14b ?L81a_14c;(case L81a_14a=>rfl);(case L81a_14b=>walk_at "xm");(case L81a_14c=>exact need_table (k+1) h1 h2 h3 h4)
 .refine' aY ?L81a_15a ?L81a_15b ?L81a_15c;(case L81a_15a=>rfl);(case L81a_15b=>walk_at "xm");(case L81a_15c=>exact need_table (k+1) h3 h4 h5 h6)
 .nofun
 .nofun
 .refine' aY ?L81a_16a ?L81a_16b ?L81a_16c;(case L81a_16a=>rfl);(case L81a_16b=>walk_at "xm");(case L81a_16c=>exact columns_of (k+3) h3 h4 h6)
 .refine' gQ ?L81a_17a ?L81a_17b ?L81a_17c (bK ?L81a_17d);(case L81a_17a=>rfl);(case L81a_17b=>walk_at "xi");(case L81a_17c=>exact iC (by omega))
  case L81a_17d =>
   intro i hi;refine' jc ?L81a_17e ?L81a_17f;(case L81a_17e=>rfl)
   case L81a_17f =>
    refine' aY ?a1 (aK ?a2 (aK ?a3 dG)) (row_by_columns (k+3) (f:=f i) (g:=fun i j=>g j i) h4 h6 ?a4);(case a1=>rfl)
    case a2=>nofun
    case a3=>nofun
    case a4=>exact fun a b ha hb=>hs.imp (fun q=>q i b hi hb) (fun q=>q b a hb ha)
theorem row_plus(k:Nat){n:Nat}{f g:Nat->Int}(h4:n<=4):aU T 60 (k+1) "row_plus" [row n f,row n g]=some (row n fun j=>f j+g j):=by
 refine fK (fd:=bf (top 33)) rfl rfl (fB ?_);refine' jf ?L81a_18a ?L81a_18b ?L81a_18c ?L81a_18d ?L81a_18e;(case L81a_18a=>rfl);(case L81a_18b=>rfl);(case L81a_18c=>rfl);(case L81a_18d=>walk_at "xm");(case L81a_18e=>exact qU)
theorem xT(k:Nat){m n:Nat}{f g:Nat->Nat->Int}(h1:1<=m):aU T 60 (k+1) "need_same_size" [tbl m n f,tbl m n g]=some .non:=by
 refine Gm (fd:=bf (top 20)) rfl rfl (fH (jh (Ph (bC (x:=.int m) ?_ ?_ (MP rfl)) (Bg (bC (x:=.int n) ?_ ?_ (MP rfl))))) iM)
 .nofun
 .nofun
 .nofun
 .nofun
theorem plus(k:Nat){m n:Nat}{f g:Nat->Nat->Int}(h1:1<=m)(h2:m<=4)(h3:1<=n)(h4:n<=4):aU T 60 (k+5) "plus" [tbl m n f,tbl m n g]=some (tbl m n fun i j=>f i j+g i j):=by
 refine fK (fd:=bf (top 34)) rfl rfl (Bk rfl (d:=.non) ?_ (Bk rfl (d:=.non) ?_ (Bk rfl (d:=.non) ?_ (fB (jf rfl rfl rfl (aK ?_ dG) qU)))))
 .refine' aY ?L81a_19a ?L81a_19b ?L81a_19c;(case L81a_19a=>rfl);(case L81a_19b=>walk_at "xm");(case L81a_19c=>exact need_table k h1 h2 h3 h4)
 .refine' aY ?L81a_20a ?L81a_20b ?L81a_20c;(case L81a_20a=>rfl);(case L81a_20b=>walk_at "xm");(case L81a_20c=>exact need_table k h1 h2 h3 h4)
 .refine' aY ?L81a_21a ?L81a_21b ?L81a_21c;(case L81a_21a=>rfl);(case L81a_21b=>walk_at "xm");(case L81a_21c=>exact xT (k+3) h1)
 .refine' gQ ?L81a_22a ?L81a_22b ?L81a_22c (bK ?L81a_22d);(case L81a_22a=>rfl);(case L81a_22b=>walk_at "xi");(case L81a_22c=>exact iC (by omega))
  case L81a_22d =>
   intro i hi;refine' jc ?L81a_22e ?L81a_22f;(case L81a_22e=>rfl)
   case L81a_22f =>
    refine' aY ?L81a_23a ?L81a_23b ?L81a_23c;(case L81a_23a=>rfl);(case L81a_23b=>walk_at "xm");(case L81a_23c=>exact row_plus (k+3) h4)
theorem need_size(k:Nat){n:Nat}(h1:1<=n)(h4:n<=4):aU T 60 (k+3) "need_size" [.int n,.int 4]=some .non:=by
 refine Gm (fd:=bf (top 21)) rfl rfl (fH (KJ ?_) iM);have:=lE k (i:=(n:Int)) (l:=1) (m:=4);rw[show within 1 4 (n:Int)=true by unfold within;rw[U3z (by omega),U3z (by omega)];rfl] at this;refine' aY ?L81a_24a ?L81a_24b ?L81a_24c;(case L81a_24a=>rfl);(case L81a_24b=>walk_at "xm");(case L81a_24c=>exact this)
theorem pZ(k:Nat){n:Nat}(h4:4<n):iZ T 60 (k+3) "need_size" [.int n,.int 4]=some "NoFit"/\aU T 60 (k+3) "need_size" [.int n,.int 4]=none:=by
 refine jC (fd:=bf (top 21)) rfl rfl (iu (Qf ?_) rfl);have:=lE k (i:=(n:Int)) (l:=1) (m:=4);rw[show within 1 4 (n:Int)=false by unfold within;rw[B3z (show ¬ (n:Int)<=4 by omega),X3z]] at this;refine' aY ?L81a_25a ?L81a_25b ?L81a_25c;(case L81a_25a=>rfl);(case L81a_25b=>walk_at "xm");(case L81a_25c=>exact this)
theorem fC{y:Str}{s:Sl}{U:Rho}(h:nOw s=true)(r:jK U=true):jK ((y,s)::U)=true:=by
 unfold jK at r ⊢;rw[G4z,h,r];rfl
section
variable {cx:Cxt} {sc:Scope} {U U':Rho} {e:Expr} {p:Pos} {d:D} {nm:Str} {F m:Nat} {r:List Stmt} {fl:Fl} {y:Str} {s:Sl} {ds:List D}
theorem Jt:frz F e []=[]:=rfl
theorem dY(h:nOw s=true)(q:frz F e U=U'):frz F e ((y,s)::U)=(y,s)::U':=by rw[Dn h,q]
theorem zH(h:fP F y e=false)(q:frz F e U=U'):frz F e ((y,.ow ds)::U)=(y,.ow ds)::U':=by
 rw[Dm,q];simp only[h,Q1z,I5z]
theorem fz_o(h:fP F y e=true)(q:frz F e U=U'):frz F e ((y,.ow ds)::U)=(y,.sh (.lst ds))::U':=by rw[Jx h,q]
theorem WM{tg iter:Expr}{body:List Stmt}{l:List D}{fl1:Fl}(hf:frz F iter U=U')(hI:evI cx (dX tg) (ev cx F sc U') sc iter=some l)(hgo:eZ (fF cx F m sc tg body) l U'=some fl1)(k2:wW cx F (m+1) sc r fl1=some fl):blk cx F (m+1) sc (.For tg iter body [] p::r) U=some fl:=by
 subst hf;exact Zj hI hgo k2
theorem NZ{px ap cp:Pos}{M:Str}(hf:frz F e U=U')(hx:U'.lookup nm=some (.ow ds))(ho:(ownIn sc nm&&aH nm&&ap.endLine==cp.line)=true)(hM:(M=="append")=true)(hz:szl (ds.length+1)=true)(h:ev cx F sc U' e=some d)(k:blk cx F (m+1) sc r (fG U' nm (.ow (ds++[d])))=some fl) :
  blk cx F (m+1) sc (.Expr (.Call (.Attribute (.Name nm px) M ap) [e] [] cp) p::r) U=some fl:=by
 subst hf;exact Zm hx ho hM hz h k
end
def zJ:Stmt->List Stmt
 | .For _ _ b _ _=>b
 | _=>[]
def KC:Stmt->Expr
 | .For t _ _ _ _=>t
 | _=>.Name "" ⟨0,0,0,0⟩
def pss:Stmt:=.Pass ⟨0,0,0,0⟩
theorem Js{cx:Cxt}{sc:Scope}{U U' U2:Rho}{p:Pos}{F m:Nat}{r:List Stmt}{fl:Fl}{tg iter:Expr}{body:List Stmt}{l:List D}(hf:frz F iter U=U')(hI:evI cx (dX tg) (ev cx F sc U') sc iter=some l)(hgo:eZ (fF cx F m sc tg body) l U'=some (.nxt U2))(k2:blk cx F (m+1) sc r U2=some fl):blk cx F (m+1) sc (.For tg iter body [] p::r) U=some fl:=WM hf hI hgo k2
theorem no_n{x:Str}:oZ [] x=true:=rfl
theorem Iz{x y:Str}{s:Sl}{U:Rho}(h:nOw s=true)(q:oZ U x=true):oZ ((y,s)::U) x=true:=by
 unfold oZ at q ⊢;rw[G4z,q,Bool.and_true]
 cases s<;>first | (simp[nOw] at h;done) | simp[PX]
theorem no_k{x y:Str}{ds:List D}{U:Rho}(q:oZ U x=true):oZ ((y,.ow ds)::U) x=true:=by
 unfold oZ at q ⊢;rw[G4z,q,Bool.and_true];simp[PX]
theorem Wn{x:Str}{e:Expr}{U:Rho}(q:oZ U x=true):(bU e && !oZ U x)=false:=by rw[q];simp
theorem WK{cx:Cxt}{sc:Scope}{U U':Rho}{e:Expr}{p:Pos}{d:D}{nm:Str}{F m:Nat}{r:List Stmt}{fl:Fl}{px:Pos}(hf:frz F e U=U')(ho:(ownIn sc nm&&(U.map (·.1)).contains nm)=true)(h:ev cx F sc U' e=some d)(k:blk cx F (m+1) sc r (fG U' nm (nq e d))=some fl)(hoo:(ooE cx sc e&&Cw U' nm)=false)(hno:(bU e && !oZ U' nm)=false)(hle:Kz cx sc e=false:=by rfl)(hrd:rdA e=false:=by rfl):blk cx F (m+1) sc (.Assign [.Name nm px] e p::r) U=some fl:=by
 subst hf;exact jJ ho h k hoo hno hle hrd
theorem lJ{f:D->Rho->Option Fl}{h:Nat->D}{P:Nat->Rho->Prop}{N:Nat}(hs:∀ i U,i<N->P i U->∃ U',P (i+1) U'/\f (h i) U=some (.nxt U')){U:Rho}(h0:P 0 U):∃ U',P N U'/\eZ f (Ls N h) U=some (.nxt U'):=by
 have key:∀ (n a:Nat) (U:Rho),a+n<=N->P a U->∃ U',P (a+n) U'/\eZ f ((List.range' a n).map h) U=some (.nxt U'):=by
  intro n
  induction n with
  | zero=>intro a U _ hp;exact⟨U,hp,rfl⟩
  | succ n ih =>
   intro a U ha hp;obtain⟨U1,h1,h2⟩:=hs a U (by omega) hp;obtain⟨U2,h3,h4⟩:=ih (a+1) U1 (by omega) h1;refine⟨U2,by rw[show a+(n+1)=a+1+n by omega];exact h3,?_⟩;rw[V2z,A4z];simp only[eZ,h2];exact h4
 obtain⟨U',h1,h2⟩:=key N 0 U (by omega) h0;rw[Nat.zero_add] at h1;refine⟨U',h1,?_⟩;unfold Ls;rw[List.range_eq_range'];exact h2
def jG(o p:D)(md ro li co to k:Sl):Rho:=[("_law_one",.sh o),("_law_other",.sh p),("_law_made_here",md),("_law_row",ro),("_law_line",li),("_law_column",co),("_law_total",to),("_law_k",k)]
def lt1:Stmt:=(bf (top 49)).body.getD 1 pss
def lt2:Stmt:=(zJ lt1).getD 1 pss
def lt3:Stmt:=(zJ lt2).getD 1 pss
theorem Nm(k:Nat){m n p i j:Nat}{f g:Nat->Nat->Int}{md li:List D}{k0:Sl}(hk:nOw k0=true)(hj:j<p)(hs:∀ l,l<n->small (f i l)=true\/small (g l j)=true) :
  ∃ k',nOw k'=true/\eZ (fF (cxN T 60 k) 60 57 (bf (top 49)).sc (KC lt3) (zJ lt3)) (Ls n fun l=>.int l) (jG (tbl m n f) (tbl n p g) (.ow md) (.sh (row n (f i))) (.ow li) (.sh (.int j)) (.sh (.int 0)) k0)=some (.nxt (jG (tbl m n f) (tbl n p g) (.ow md) (.sh (row n (f i))) (.ow li) (.sh (.int j)) (.sh (.int (mul n f g i j))) k')):=by
 have st:=lJ (f:=fF (cxN T 60 k) 60 57 (bf (top 49)).sc (KC lt3) (zJ lt3)) (h:=fun l=>.int l) (N:=n) (P:=fun l U=>∃ k',nOw k'=true/\U=jG (tbl m n f) (tbl n p g) (.ow md) (.sh (row n (f i))) (.ow li) (.sh (.int j)) (.sh (.int (xg l fun l=>f i l*g l j))) k') (U:=jG (tbl m n f) (tbl n p g) (.ow md) (.sh (row n (f i))) (.ow li) (.sh (.int j)) (.sh (.int 0)) k0) (fun l U hl hP=>by
  obtain⟨k1,hk1,e⟩:=hP;subst e;refine⟨_,⟨.sh (.int l),rfl,rfl⟩,?_⟩;refine Dq (U1:=jG (tbl m n f) (tbl n p g) (.ow md) (.sh (row n (f i))) (.ow li) (.sh (.int j)) (.sh (.int (xg l fun l=>f i l*g l j))) (.sh (.int l))) rfl ?_;refine jJ rfl (d:=.int (xg (l+1) fun l=>f i l*g l j)) ?_ rfl;refine eE (x:=.int (xg l fun l=>f i l*g l j)) (y:=.int (f i l*g l j)) (by nofun) (eE (x:=.int (f i l)) (y:=.int (g l j)) (Pj (m:=n) (j:=l) (h:=fun l=>.int (f i l)) ?_ ?_ hl rfl rfl) (Pj (m:=p) (j:=j) (h:=fun j=>.int (g l j)) (Pj (m:=n) (j:=l) (h:=fun l=>row p (g l)) ?_ ?_ hl rfl rfl) ?_ hj rfl rfl) (Ge (hs l hl))) rfl
  .nofun
  .nofun
  .nofun
  .nofun
  .nofun) ⟨k0,hk,rfl⟩
 obtain⟨U',⟨k',h1,rfl⟩,h2⟩:=st;exact⟨k',h1,h2⟩
theorem Np(k:Nat){m n p i:Nat}{f g:Nat->Nat->Int}{md:List D}{c0 t0 k0:Sl}(hc:nOw c0=true)(ht:nOw t0=true)(hk:nOw k0=true)(n1:1<=n)(n4:n<=4)(p4:p<=4)(hs:∀ l j,l<n->j<p->small (f i l)=true\/small (g l j)=true) :
  ∃ c' t' k',nOw c'=true/\nOw t'=true/\nOw k'=true/\eZ (fF (cxN T 60 k) 60 58 (bf (top 49)).sc (KC lt2) (zJ lt2)) (Ls p fun l=>.int l) (jG (tbl m n f) (tbl n p g) (.ow md) (.sh (row n (f i))) (.ow []) c0 t0 k0)=some (.nxt (jG (tbl m n f) (tbl n p g) (.ow md) (.sh (row n (f i))) (.ow (Ls p fun j=>.int (mul n f g i j))) c' t' k')):=by
 have st:=lJ (f:=fF (cxN T 60 k) 60 58 (bf (top 49)).sc (KC lt2) (zJ lt2)) (h:=fun l=>.int l) (N:=p) (P:=fun j U=>∃ c' t' k',nOw c'=true/\nOw t'=true/\nOw k'=true/\U=jG (tbl m n f) (tbl n p g) (.ow md) (.sh (row n (f i))) (.ow (Ls j fun j=>.int (mul n f g i j))) c' t' k') (U:=jG (tbl m n f) (tbl n p g) (.ow md) (.sh (row n (f i))) (.ow []) c0 t0 k0) (fun j U hj hP=>by
  obtain⟨c1,t1,k1,hc1,ht1,hk1,e⟩:=hP;subst e;obtain⟨k2,hk2,go⟩:=Nm k (m:=m) (n:=n) (p:=p) (i:=i) (j:=j) (f:=f) (g:=g) (md:=md) (li:=Ls j fun j=>.int (mul n f g i j)) hk1 hj (fun l hl=>hs l j hl hj);refine⟨_,⟨.sh (.int j),.sh (.int (mul n f g i j)),k2,rfl,rfl,hk2,rfl⟩,?_⟩;rw[oX];refine Dq (U1:=jG (tbl m n f) (tbl n p g) (.ow md) (.sh (row n (f i))) (.ow (Ls j fun j=>.int (mul n f g i j))) (.sh (.int j)) t1 k1) rfl ?_;refine WD (U':=jG (tbl m n f) (tbl n p g) (.ow md) (.sh (row n (f i))) (.ow (Ls j fun j=>.int (mul n f g i j))) (.sh (.int j)) t1 k1) (d:=.int 0) (dY rfl (dY rfl (zH rfl (dY rfl (zH rfl (dY rfl (dY ht1 (dY hk1 Jt)))))))) rfl rfl (by nofun) ?_;show blk _ _ _ _ _ (jG (tbl m n f) (tbl n p g) (.ow md) (.sh (row n (f i))) (.ow (Ls j fun j=>.int (mul n f g i j))) (.sh (.int j)) (.sh (.int 0)) k1)=_;refine Js (U':=jG (tbl m n f) (tbl n p g) (.ow md) (.sh (row n (f i))) (.ow (Ls j fun j=>.int (mul n f g i j))) (.sh (.int j)) (.sh (.int 0)) k1) (l:=Ls n fun l=>.int l) (dY rfl (dY rfl (zH rfl (dY rfl (zH rfl (dY rfl (dY rfl (dY hk1 Jt)))))))) ?_ go ?_
  .walk_at "xi"
  .refine NZ (U':=jG (tbl m n f) (tbl n p g) (.ow md) (.sh (row n (f i))) (.ow (Ls j fun j=>.int (mul n f g i j))) (.sh (.int j)) (.sh (.int (mul n f g i j))) k2) (d:=.int (mul n f g i j)) (dY rfl (dY rfl (zH rfl (dY rfl (zH rfl (dY rfl (dY rfl (dY hk2 Jt)))))))) rfl rfl rfl (Ek (by rw[bZ];omega)) (by nofun) rfl) ⟨c0,t0,k0,hc,ht,hk,rfl⟩
 obtain⟨U',⟨c',t',k',h1,h2,h3,rfl⟩,h4⟩:=st;exact⟨c',t',k',h1,h2,h3,h4⟩
theorem Nq(k:Nat){m n p:Nat}{f g:Nat->Nat->Int}(m4:m<=4)(n1:1<=n)(n4:n<=4)(p4:p<=4)(hs:∀ i l j,i<m->l<n->j<p->small (f i l)=true\/small (g l j)=true) :
  ∃ r' l' c' t' k',nOw r'=true/\nOw l'=true/\nOw c'=true/\nOw t'=true/\nOw k'=true/\eZ (fF (cxN T 60 k) 60 59 (bf (top 49)).sc (KC lt1) (zJ lt1)) (Ls m fun i=>row n (f i)) (jG (tbl m n f) (tbl n p g) (.ow []) .no .no .no .no .no)=some (.nxt (jG (tbl m n f) (tbl n p g) (.ow (Ls m fun i=>row p (mul n f g i))) r' l' c' t' k')):=by
 have st:=lJ (f:=fF (cxN T 60 k) 60 59 (bf (top 49)).sc (KC lt1) (zJ lt1)) (h:=fun i=>row n (f i)) (N:=m) (P:=fun i U=>∃ r' l' c' t' k',nOw r'=true/\nOw l'=true/\nOw c'=true/\nOw t'=true/\nOw k'=true/\U=jG (tbl m n f) (tbl n p g) (.ow (Ls i fun i=>row p (mul n f g i))) r' l' c' t' k') (U:=jG (tbl m n f) (tbl n p g) (.ow []) .no .no .no .no .no) (fun i U hi hP=>by
  obtain⟨r1,l1,c1,t1,k1,hr1,hl1,hc1,ht1,hk1,e⟩:=hP;subst e;obtain⟨c2,t2,k2,hc2,ht2,hk2,go⟩:=Np k (m:=m) (n:=n) (p:=p) (i:=i) (f:=f) (g:=g) (md:=Ls i fun i=>row p (mul n f g i)) hc1 ht1 hk1 n1 n4 p4 (fun l j hl hj=>hs i l j hi hl hj);refine⟨_,⟨.sh (row n (f i)),.sh (.lst (Ls p fun j=>.int (mul n f g i j))),c2,t2,k2,rfl,rfl,hc2,ht2,hk2,rfl⟩,?_⟩;rw[oX];refine Dq (U1:=jG (tbl m n f) (tbl n p g) (.ow (Ls i fun i=>row p (mul n f g i))) (.sh (row n (f i))) l1 c1 t1 k1) rfl ?_;refine WK (U':=jG (tbl m n f) (tbl n p g) (.ow (Ls i fun i=>row p (mul n f g i))) (.sh (row n (f i))) l1 c1 t1 k1) (d:=.lst []) (dY rfl (dY rfl (zH rfl (dY rfl (dY hl1 (dY hc1 (dY ht1 (dY hk1 Jt)))))))) rfl (by nofun) ?_ rfl (Wn (Iz rfl (Iz rfl (no_k (Iz rfl (Iz hl1 (Iz hc1 (Iz ht1 (Iz hk1 no_n)))))))));show blk _ _ _ _ _ (jG (tbl m n f) (tbl n p g) (.ow (Ls i fun i=>row p (mul n f g i))) (.sh (row n (f i))) (.ow []) c1 t1 k1)=_;refine Js (U':=jG (tbl m n f) (tbl n p g) (.ow (Ls i fun i=>row p (mul n f g i))) (.sh (row n (f i))) (.ow []) c1 t1 k1) (l:=Ls p fun l=>.int l) (dY rfl (dY rfl (zH rfl (dY rfl (zH rfl (dY hc1 (dY ht1 (dY hk1 Jt)))))))) ?_ go ?_
  .walk_at "xi"
  .refine NZ (U':=jG (tbl m n f) (tbl n p g) (.ow (Ls i fun i=>row p (mul n f g i))) (.sh (row n (f i))) (.sh (.lst (Ls p fun j=>.int (mul n f g i j)))) c2 t2 k2) (d:=row p (mul n f g i)) (dY rfl (dY rfl (zH rfl (dY rfl (fz_o rfl (dY hc2 (dY ht2 (dY hk2 Jt)))))))) rfl rfl rfl (Ek (by rw[bZ];omega)) ?_ rfl
   exact jf rfl rfl rfl (by walk_at "xm") qU) ⟨.no,.no,.no,.no,.no,rfl,rfl,rfl,rfl,rfl,rfl⟩
 obtain⟨U',⟨r',l',c',t',k',h1,h2,h3,h4,h5,rfl⟩,h6⟩:=st;exact⟨r',l',c',t',k',h1,h2,h3,h4,h5,h6⟩
theorem Dg(k:Nat){m n p:Nat}{f g:Nat->Nat->Int}(m4:m<=4)(n1:1<=n)(n4:n<=4)(p4:p<=4)(hs:Sm m n f\/Sm n p g):aU T 60 (k+1) "_law_times" [tbl m n f,tbl n p g]=some (tbl m p (mul n f g)):=by
 obtain⟨r',l',c',t',k',h1,h2,h3,h4,h5,go⟩:=Nq k (f:=f) (g:=g) m4 n1 n4 p4 (fun i l j hi hl hj=>hs.imp (fun q=>q i l hi hl) (fun q=>q l j hl hj));refine fK (fd:=bf (top 49)) rfl rfl (jJ rfl (d:=.lst []) (by nofun) ?_);show blk _ _ _ _ _ (jG (tbl m n f) (tbl n p g) (.ow []) .no .no .no .no .no)=_;refine Js (U':=jG (tbl m n f) (tbl n p g) (.ow []) .no .no .no .no .no) (l:=Ls m fun i=>row n (f i)) (dY rfl (dY rfl (zH rfl (dY rfl (dY rfl (dY rfl (dY rfl (dY rfl Jt)))))))) ?_ go ?_
 .walk_at "xi"
 .refine fB (jf rfl rfl rfl (aK (x:=.lst (Ls m fun i=>row p (mul n f g i))) ?_ dG) qU)
  nofun
section
variable {cx:Cxt} {sc:Scope} {U U':Rho} {e:Expr} {p:Pos} {d:D} {nm:Str} {F m:Nat} {r:List Stmt} {fl:Fl} {y:Str} {s:Sl} {ds:List D}
end
theorem O2{n:Nat}{t:Nat->Bool}:blt "all" [.lst (Ls n fun i=>.bl (t i))]=some (.bl ((List.range n).all t)):=by
 have:(Ls n fun i=>D.bl (t i))=(Ls n fun i=>D.int i).map fun x=>.bl (match x with | .int i=>t i.toNat | _=>false):=by
  unfold Ls;rw[R4z];rfl
 rw[this,W3];congr 2;unfold Ls;rw[List.all_map];rfl
def okT(m n:Nat)(f:Nat->Nat->Int):Bool:=(decide (m<=4)&&decide (n<=4))&&(List.range m).all fun i=>(List.range n).all fun j=>within (-99) 99 (f i j)
theorem xM(k:Nat){n:Nat}{f:Nat->Int}(h4:n<=4):aU T 60 (k+3) "is_small_row" [row n f]=some (.bl ((List.range n).all fun j=>within (-99) 99 (f j))):=by
 refine fK (fd:=bf (top 24)) rfl rfl (fB (jf rfl rfl rfl (aK (gQ (l:=Ls n fun j=>.int (f j)) rfl (wSq rfl (by nofun) rfl) (iC (by omega)) (bK (g:=fun j=>.bl (within (-99) 99 (f j))) fun j hj=>jc rfl ?_)) dG) O2));refine' aY ?L81b_1a ?L81b_1b ?L81b_1c;(case L81b_1a=>rfl);(case L81b_1b=>walk_at "xm");(case L81b_1c=>exact lE k)
theorem is_table(k:Nat){m n:Nat}{f:Nat->Nat->Int}(h1:1<=m)(h2:m<=8)(h3:1<=n)(h4:n<=8):aU T 60 (k+4) "is_table" [tbl m n f]=some (.bl (okT m n f)):=by
 have hf:=uK k (f:=f) h1 h2 h3 h4
 cases hl:(decide (m<=4)&&decide (n<=4)) with
 | false =>
  rw[hl] at hf;rw[show okT m n f=false by unfold okT;rw[hl];rfl];refine fK (fd:=bf (top 25)) rfl rfl (fB (jh (KQ ?_)));refine' aY ?L81b_2a ?L81b_2b ?L81b_2c;(case L81b_2a=>rfl);(case L81b_2b=>walk_at "xm");(case L81b_2c=>exact hf)
 | true =>
  rw[hl] at hf;rw[show okT m n f=(List.range m).all fun i=>(List.range n).all fun j=>within (-99) 99 (f i j) by unfold okT;rw[hl];rfl];rw[U2z,V1z,V1z] at hl;refine fK (fd:=bf (top 25)) rfl rfl (fB (jh (vg ?_ (Bg ?_))))
  .refine' aY ?L81b_3a ?L81b_3b ?L81b_3c;(case L81b_3a=>rfl);(case L81b_3b=>walk_at "xm");(case L81b_3c=>exact hf)
  .refine jf rfl rfl rfl (aK (gQ (l:=Ls m fun i=>row n (f i)) rfl (wSq rfl (by nofun) rfl) (iC (by omega)) (bK (g:=fun i=>.bl ((List.range n).all fun j=>within (-99) 99 (f i j))) fun i hi=>jc rfl ?_)) dG) O2
   refine' aY ?L81b_4a ?L81b_4b ?L81b_4c;(case L81b_4a=>rfl);(case L81b_4b=>walk_at "xm");(case L81b_4c=>exact xM k hl.2)
theorem rz{cx:Cxt}{F m:Nat}{sc:Scope}{U:Rho}{c:Expr}{A r:List Stmt}{p:Pos}{cn:Str}(hc:jK U=true)(h:ev cx F sc U c=some (.bl false))(k:tK cx F (m+1) sc r U cn):tK cx F (m+1) sc (.If c A [] p::r) U cn :=
 uY (U1:=U) (by
  have:=fH (cx:=cx) (F:=F) (m:=m) (sc:=sc) (r:=[]) (p:=p) (A:=A) (U:=U) (c:=c) (fl:=.nxt U) (by rw[iQ hc];exact h) rfl
  unfold blk at this;simp only[jO] at this
  cases q:st cx F (m+1) sc U (.If c A [] p) with
  | none=>rw[q] at this;cases this
  | some fl =>
   rw[q] at this
   cases fl with
   | ret d=>cases this
   | nxt U'=>exact this) k
theorem Bm{cx:Cxt}{F m:Nat}{sc:Scope}{U:Rho}{c:Expr}{A B r:List Stmt}{p:Pos}{cn:Str}(hc:jK U=true)(h:ev cx F sc U c=some (.bl true))(k:tK cx F m sc A U cn):tK cx F (m+1) sc (.If c A B p::r) U cn:=by
 obtain⟨k1,U',k2⟩:=k;refine jX (U1:=U') ?_ ?_
 .simp only[st,iQ hc,h,asB,Option.bind,bind,K5z,k1]
 .simp only[stx,iQ hc,h,asB,Option.bind,K5z,k2]
def blw(a:Nat)(f g:Nat->Nat->Int):Nat->Nat->Int:=fun i j=>if i<a then f i j else g (i-a) j
theorem Gj{α:Type}{a b:Nat}{h g:Nat->α}:Ls a h++Ls b g=Ls (a+b) fun i=>if i<a then h i else g (i-a):=by
 apply List.ext_getElem?;intro i
 by_cases hi:i<a
 .rw[List.getElem?_append_left (by rw[bZ];exact hi),gP hi,gP (by omega),L5z hi]
 .rw[List.getElem?_append_right (by rw[bZ];omega),bZ]
  by_cases h2:i<a+b
  .rw[gP (by omega),gP h2,M5z hi]
  .rw[List.getElem?_eq_none (by rw[bZ];omega),List.getElem?_eq_none (by rw[bZ];omega)]
theorem wX{a b n:Nat}{f g:Nat->Nat->Int}:D.tup ((Ls a fun i=>row n (f i))++Ls b fun i=>row n (g i))=tbl (a+b) n (blw a f g):=by
 rw[Gj];refine congrArg D.tup (u6 fun i _=>?_);unfold blw
 by_cases h:i<a
 .simp only[h,K5z]
 .simp only[h,I5z]
section
variable {m n p q:Nat} {f g:Nat->Nat->Int}
theorem below(k:Nat)(h1:1<=m)(h2:m<=4)(h3:1<=n)(h4:n<=4)(h5:1<=p)(h6:p<=4)(h:m+p<=4):aU T 60 (k+5) "set_below" [tbl m n f,tbl p n g]=some (tbl (m+p) n (blw m f g)):=by
 refine fK (fd:=bf (top 36)) rfl rfl (Bk rfl (d:=.non) ?_ (Bk rfl (d:=.non) ?_ (fH (bC (x:=.int n) ?_ ?_ (MP rfl)) (Bk rfl (d:=.non) (aY rfl (aK (lV (d':=.int ((m+p:Nat):Int)) (eE (x:=.int m) (y:=.int p) ?_ ?_ rfl) (congrArg D.int (by omega))) (aK ?_ dG)) (need_size (k+1) (by omega) h)) (fB (lV (eE (x:=tbl m n f) (y:=tbl p n g) ?_ ?_ (Kd (by rw[bZ,bZ];omega))) wX))))))
 .refine' aY ?L81b_5a ?L81b_5b ?L81b_5c;(case L81b_5a=>rfl);(case L81b_5b=>walk_at "xm");(case L81b_5c=>exact need_table k h1 h2 h3 h4)
 .refine' aY ?L81b_6a ?L81b_6b ?L81b_6c;(case L81b_6a=>rfl);(case L81b_6b=>walk_at "xm");(case L81b_6c=>exact need_table k h5 h6 h3 h4)
 .nofun
 .nofun
 .nofun
 .nofun
 .nofun
 .nofun
 .nofun
theorem u0(k:Nat)(h1:1<=m)(h2:m<=4)(h3:1<=n)(h4:n<=4)(h5:1<=p)(h6:p<=4)(h7:1<=q)(h8:q<=4)(h:n≠q\/4<m+p):iZ T 60 (k+5) "set_below" [tbl m n f,tbl p q g]=some "NoFit"/\aU T 60 (k+5) "set_below" [tbl m n f,tbl p q g]=none:=by
 by_cases e:n=q
 .subst e
  have ns:=pZ (k+1) (n:=m+p) (by omega);refine jC (fd:=bf (top 36)) rfl rfl (pA rfl (d:=.non) ?_ (pA rfl (d:=.non) ?_ (rz rfl (bC (x:=.int n) ?_ ?_ (MP rfl)) (KH rfl (jZ rfl (aK (lV (d':=.int ((m+p:Nat):Int)) (eE (x:=.int m) (y:=.int p) ?_ ?_ rfl) (congrArg D.int (by omega))) (aK ?_ dG)) ns.1 ns.2)))))
  .refine' aY ?L81b_7a ?L81b_7b ?L81b_7c;(case L81b_7a=>rfl);(case L81b_7b=>walk_at "xm");(case L81b_7c=>exact need_table k h1 h2 h3 h4)
  .refine' aY ?L81b_8a ?L81b_8b ?L81b_8c;(case L81b_8a=>rfl);(case L81b_8b=>walk_at "xm");(case L81b_8c=>exact need_table k h5 h6 h3 h4)
  .nofun
  .nofun
  .nofun
  .nofun
  .nofun
 .refine jC (fd:=bf (top 36)) rfl rfl (pA rfl (d:=.non) ?_ (pA rfl (d:=.non) ?_ (iu (bC (x:=.int n) (y:=.int q) ?_ ?_ (by rw[MN,U3z e])) rfl)))
  .refine' aY ?L81b_9a ?L81b_9b ?L81b_9c;(case L81b_9a=>rfl);(case L81b_9b=>walk_at "xm");(case L81b_9c=>exact need_table k h1 h2 h3 h4)
  .refine' aY ?L81b_10a ?L81b_10b ?L81b_10c;(case L81b_10a=>rfl);(case L81b_10b=>walk_at "xm");(case L81b_10c=>exact need_table k h5 h6 h7 h8)
  .nofun
  .nofun
theorem Bu(k:Nat)(h1:1<=m)(h2:m<=4)(h3:1<=n)(h4:n<=4)(h5:1<=p)(h6:p<=4)(h7:1<=q)(h8:q<=4)(h:n≠p):iZ T 60 (k+5) "times" [tbl m n f,tbl p q g]=some "NoFit"/\aU T 60 (k+5) "times" [tbl m n f,tbl p q g]=none:=by
 refine jC (fd:=bf (top 32)) rfl rfl (pA rfl (d:=.non) ?_ (pA rfl (d:=.non) ?_ (iu (bC (x:=.int n) (y:=.int p) ?_ ?_ (by rw[MN,U3z h])) rfl)))
 .refine' aY ?L81b_11a ?L81b_11b ?L81b_11c;(case L81b_11a=>rfl);(case L81b_11b=>walk_at "xm");(case L81b_11c=>exact need_table k h1 h2 h3 h4)
 .refine' aY ?L81b_12a ?L81b_12b ?L81b_12c;(case L81b_12a=>rfl);(case L81b_12b=>walk_at "xm");(case L81b_12c=>exact need_table k h5 h6 h7 h8)
 .nofun
 .nofun
theorem G5(k:Nat)(h1:1<=m)(h5:1<=p)(h:m≠p\/n≠q):iZ T 60 (k+1) "need_same_size" [tbl m n f,tbl p q g]=some "NoFit"/\aU T 60 (k+1) "need_same_size" [tbl m n f,tbl p q g]=none:=by
 by_cases e:m=p
 .refine jC (fd:=bf (top 20)) rfl rfl (iu (jh (Ph (bC (x:=.int m) (y:=.int p) ?_ ?_ (by rw[MN,B3z (by omega)])) (Bg (bC (x:=.int n) (y:=.int q) ?_ ?_ (by rw[MN,U3z (by omega)]))))) rfl)
  .nofun
  .nofun
  .nofun
  .nofun
 .refine jC (fd:=bf (top 20)) rfl rfl (iu (jh (Xe (bC (x:=.int m) (y:=.int p) ?_ ?_ (by rw[MN,U3z e])))) rfl)
  .nofun
  .nofun
theorem HD(k:Nat)(h1:1<=m)(h2:m<=4)(h3:1<=n)(h4:n<=4)(h5:1<=p)(h6:p<=4)(h7:1<=q)(h8:q<=4)(h:m≠p\/n≠q):iZ T 60 (k+5) "plus" [tbl m n f,tbl p q g]=some "NoFit"/\aU T 60 (k+5) "plus" [tbl m n f,tbl p q g]=none:=by
 have ns:=G5 (k+3) (f:=f) (g:=g) h1 h5 h;refine jC (fd:=bf (top 34)) rfl rfl (pA rfl (d:=.non) ?_ (pA rfl (d:=.non) ?_ (KH rfl (jZ rfl (by walk_at "xm") ns.1 ns.2))))
 .refine' aY ?L81b_13a ?L81b_13b ?L81b_13c;(case L81b_13a=>rfl);(case L81b_13b=>walk_at "xm");(case L81b_13c=>exact need_table k h1 h2 h3 h4)
 .refine' aY ?L81b_14a ?L81b_14b ?L81b_14c;(case L81b_14a=>rfl);(case L81b_14b=>walk_at "xm");(case L81b_14c=>exact need_table k h5 h6 h7 h8)
def bsd(a:Nat)(f g:Nat->Nat->Int):Nat->Nat->Int:=fun i j=>if j<a then f i j else g i (j-a)
theorem beside(k:Nat)(h1:1<=m)(h2:m<=4)(h3:1<=n)(h4:n<=4)(h7:1<=q)(h8:q<=4)(h:n+q<=4):aU T 60 (k+6) "set_beside" [tbl m n f,tbl m q g]=some (tbl m (n+q) (bsd n f g)):=by
 have t1:=turned k (f:=f) h1 h2 h3 h4;have t2:=turned k (f:=g) h1 h2 h7 h8;have t3:=turned k (m:=n+q) (n:=m) (f:=blw n (fun i j=>f j i) (fun i j=>g j i)) (by omega) h h1 h2;have b:=below k (f:=fun i j=>f j i) (g:=fun i j=>g j i) h3 h4 h1 h2 h7 h8 h;exact fK (fd:=bf (top 37)) rfl rfl (fB (aY rfl (aK (aY rfl (aK (aY rfl (by walk_at "xm") t1) (aK (aY rfl (by walk_at "xm") t2) dG)) b) dG) t3))
theorem Av(k:Nat)(h1:1<=m)(h2:m<=4)(h3:1<=n)(h4:n<=4)(h5:1<=p)(h6:p<=4)(h7:1<=q)(h8:q<=4)(h:m≠p\/4<n+q):iZ T 60 (k+6) "set_beside" [tbl m n f,tbl p q g]=some "NoFit"/\aU T 60 (k+6) "set_beside" [tbl m n f,tbl p q g]=none:=by
 have t1:=turned k (f:=f) h1 h2 h3 h4;have t2:=turned k (f:=g) h5 h6 h7 h8;have b:=u0 k (f:=fun i j=>f j i) (g:=fun i j=>g j i) h3 h4 h1 h2 h7 h8 h5 h6 h;exact jC (fd:=bf (top 37)) rfl rfl (wF (Qj rfl (jZ rfl (aK (aY rfl (by walk_at "xm") t1) (aK (aY rfl (by walk_at "xm") t2) dG)) b.1 b.2)))
end
def wdN:Nat->Str
 | 0=>"times"
 | 1=>"plus"
 | 2=>"beside"
 | _=>"below"
def fnN:Nat->Str
 | 0=>"times"
 | 1=>"plus"
 | 2=>"set_beside"
 | _=>"set_below"
theorem Wv(k:Nat){w:Nat}{x y d:D}(hw:w<4)(h:aU T 60 (k+1) (fnN w) [x,y]=some d):aU T 60 (k+2) "joined" [.str (wdN w),x,y]=some d:=by
 match w,hw with
 | 0,_=>exact fK (fd:=bf (top 43)) rfl rfl (lG (fl1:=.ret d) (bC (by nofun) (by nofun) rfl) (fB (aY rfl (by walk_at "xm") h)) rfl)
 | 1,_=>exact fK (fd:=bf (top 43)) rfl rfl (fH (bC (by nofun) (by nofun) rfl) (lG (fl1:=.ret d) (bC (by nofun) (by nofun) rfl) (fB (aY rfl (by walk_at "xm") h)) rfl))
 | 2,_=>exact fK (fd:=bf (top 43)) rfl rfl (fH (bC (by nofun) (by nofun) rfl) (fH (bC (by nofun) (by nofun) rfl) (lG (fl1:=.ret d) (bC (by nofun) (by nofun) rfl) (fB (aY rfl (by walk_at "xm") h)) rfl)))
 | 3,_=>exact fK (fd:=bf (top 43)) rfl rfl (fH (bC (by nofun) (by nofun) rfl) (fH (bC (by nofun) (by nofun) rfl) (fH (bC (by nofun) (by nofun) rfl) (lG (fl1:=.ret d) (bC (by nofun) (by nofun) rfl) (fB (aY rfl (by walk_at "xm") h)) rfl))))
theorem Wu(k:Nat){w:Nat}{x y:D}{c:Str}(hw:w<4)(h:iZ T 60 (k+1) (fnN w) [x,y]=some c/\aU T 60 (k+1) (fnN w) [x,y]=none):iZ T 60 (k+2) "joined" [.str (wdN w),x,y]=some c/\aU T 60 (k+2) "joined" [.str (wdN w),x,y]=none:=by
 match w,hw with
 | 0,_=>exact jC (fd:=bf (top 43)) rfl rfl (Bm rfl (bC (by nofun) (by nofun) rfl) (wF (jZ rfl (by walk_at "xm") h.1 h.2)))
 | 1,_=>exact jC (fd:=bf (top 43)) rfl rfl (rz rfl (bC (by nofun) (by nofun) rfl) (Bm rfl (bC (by nofun) (by nofun) rfl) (wF (jZ rfl (by walk_at "xm") h.1 h.2))))
 | 2,_=>exact jC (fd:=bf (top 43)) rfl rfl (rz rfl (bC (by nofun) (by nofun) rfl) (rz rfl (bC (by nofun) (by nofun) rfl) (Bm rfl (bC (by nofun) (by nofun) rfl) (wF (jZ rfl (by walk_at "xm") h.1 h.2)))))
 | 3,_=>exact jC (fd:=bf (top 43)) rfl rfl (rz rfl (bC (by nofun) (by nofun) rfl) (rz rfl (bC (by nofun) (by nofun) rfl) (rz rfl (bC (by nofun) (by nofun) rfl) (Bm rfl (bC (by nofun) (by nofun) rfl) (wF (jZ rfl (by walk_at "xm") h.1 h.2))))))
def Fz(w m n p q:Nat):Bool:=match w with
 | 0=>decide (n=p)
 | 1=>decide (m=p)&&decide (n=q)
 | 2=>decide (m=p)
 | _=>decide (n=q)
def jM(w m p:Nat):Nat:=match w with
 | 3=>m+p
 | _=>m
def jN(w n q:Nat):Nat:=match w with
 | 0=>q
 | 2=>n+q
 | _=>n
def jF(w m n:Nat)(f g:Nat->Nat->Int):Nat->Nat->Int:=match w with
 | 0=>mul n f g
 | 1=>fun i j=>f i j+g i j
 | 2=>bsd n f g
 | _=>blw m f g
section
variable {w m n p q:Nat} {f g:Nat->Nat->Int}
theorem yZ(k:Nat)(hw:w<4)(h1:1<=m)(h2:m<=4)(h3:1<=n)(h4:n<=4)(h5:1<=p)(h6:p<=4)(h7:1<=q)(h8:q<=4)(hs:Sm m n f)(h:Fz w m n p q=true)(ha:jM w m p<=4)(hb:jN w n q<=4):aU T 60 (k+8) "joined" [.str (wdN w),tbl m n f,tbl p q g]=some (tbl (jM w m p) (jN w n q) (jF w m n f g)):=by
 refine Wv (k+6) hw ?_
 match w,hw with
 | 0,_ =>
  obtain rfl:n=p:=J2z h;exact times (k+1) h1 h2 h3 h4 h7 h8 (.inl hs)
 | 1,_ =>
  have h:(decide (m=p)&&decide (n=q))=true:=h;rw[U2z,V1z,V1z] at h;obtain⟨rfl,rfl⟩:=h;exact plus (k+2) h1 h2 h3 h4
 | 2,_ =>
  obtain rfl:m=p:=J2z h;exact beside (k+1) h1 h2 h3 h4 h7 h8 hb
 | 3,_ =>
  obtain rfl:n=q:=J2z h;exact below (k+2) h1 h2 h3 h4 h5 h6 ha
theorem zc(k:Nat)(hw:w<4)(h1:1<=m)(h2:m<=4)(h3:1<=n)(h4:n<=4)(h5:1<=p)(h6:p<=4)(h7:1<=q)(h8:q<=4)(h:Fz w m n p q=false\/4<jM w m p\/4<jN w n q):iZ T 60 (k+8) "joined" [.str (wdN w),tbl m n f,tbl p q g]=some "NoFit"/\aU T 60 (k+8) "joined" [.str (wdN w),tbl m n f,tbl p q g]=none:=by
 refine Wu (k+6) hw ?_
 match w,hw with
 | 0,_=>exact Bu (k+2) h1 h2 h3 h4 h5 h6 h7 h8 (by
   rcases h with h | h | h
   .exact W1z h
   .exact absurd h (by show ¬ 4<m;omega)
   .exact absurd h (by show ¬ 4<q;omega))
 | 1,_=>exact HD (k+2) h1 h2 h3 h4 h5 h6 h7 h8 (by
   rcases h with h | h | h
   .have h:(decide (m=p)&&decide (n=q))=false:=h
    rw[R0z,I0z,I0z] at h;exact h
   .exact absurd h (by show ¬ 4<m;omega)
   .exact absurd h (by show ¬ 4<n;omega))
 | 2,_=>exact Av (k+1) h1 h2 h3 h4 h5 h6 h7 h8 (by
   rcases h with h | h | h
   .exact .inl (W1z h)
   .exact absurd h (by show ¬ 4<m;omega)
   .exact .inr h)
 | 3,_=>exact u0 (k+2) h1 h2 h3 h4 h5 h6 h7 h8 (by
   rcases h with h | h | h
   .exact .inl (W1z h)
   .exact .inr h
   .exact absurd h (by show ¬ 4<n;omega))
def rM(x y z:D)(md:Sl):Rho:=[("_law_word",.sh x),("_law_one",.sh y),("_law_other",.sh z),("_law_made_here",md)]
theorem yM(k:Nat){x y z:D}:blk (cxN T 60 k) 60 60 (bf (top 53)).sc ((bf (top 53)).body.drop 1) (rM x y z (.sh .non))=some (.ret (.str "no fit")):=by rfl'
theorem CW(k:Nat){x y z:D}{a b:Nat}{h:Nat->Nat->Int}(h1:1<=a)(h2:a<=8)(h3:1<=b)(h4:b<=8):blk (cxN T 60 (k+4)) 60 60 (bf (top 53)).sc ((bf (top 53)).body.drop 1) (rM x y z (.sh (tbl a b h)))=some (.ret (if okT a b h then tbl a b h else .str "no fit")):=by
 have it:=is_table k (f:=h) h1 h2 h3 h4
 cases e:okT a b h with
 | true =>
  rw[e] at it;refine fB (Pk (jh (vg (bC (by nofun) (by nofun) rfl) (Bg ?_))) (by nofun));refine' aY ?L81c_1a ?L81c_1b ?L81c_1c;(case L81c_1a=>rfl);(case L81c_1b=>walk_at "xm");(case L81c_1c=>exact it)
 | false =>
  rw[e] at it;refine fB (Pn (jh (vg (bC (by nofun) (by nofun) rfl) (Bg ?_))) (by nofun));refine' aY ?L81c_2a ?L81c_2b ?L81c_2c;(case L81c_2a=>rfl);(case L81c_2b=>walk_at "xm");(case L81c_2c=>exact it)
theorem Hh{a b:Nat}{f g:Nat->Int}:D.tup ((Ls a fun j=>.int (f j))++Ls b fun j=>.int (g j))=row (a+b) fun j=>if j<a then f j else g (j-a):=by
 rw[Gj];refine congrArg D.tup (u6 fun i _=>?_)
 by_cases h:i<a
 .simp only[h,K5z]
 .simp only[h,I5z]
set_option maxHeartbeats 2000000 in
theorem Df(k:Nat)(hw:w<4)(h1:1<=m)(h2:m<=4)(h3:1<=n)(h4:n<=4)(h5:1<=p)(h6:p<=4)(h7:1<=q)(h8:q<=4)(hs:Sm m n f):aU T 60 (k+5) "_law_made" [.str (wdN w),tbl m n f,tbl p q g]=some (if Fz w m n p q&&okT (jM w m p) (jN w n q) (jF w m n f g) then tbl (jM w m p) (jN w n q) (jF w m n f g) else .str "no fit"):=by
 cases e:Fz w m n p q with
 | false =>
  rw[Bool.false_and]
  match w,hw with
  | 0,_=>exact fK (fd:=bf (top 53)) rfl rfl (lG (fl1:=.nxt (rM _ _ _ (.sh .non))) (bC (by nofun) (by nofun) rfl) (jJ rfl (d:=.non) (Pn (bC (x:=.int n) (y:=.int p) (by nofun) (by nofun) (M8 (by have:=W1z e;omega))) (by nofun)) iM) (yM _))
  | 1,_ =>
   have e:(decide (m=p)&&decide (n=q))=false:=e;rw[R0z,I0z,I0z] at e
   by_cases e2:m=p
   .exact fK (fd:=bf (top 53)) rfl rfl (uL (fl1:=.nxt (rM _ _ _ (.sh .non))) (bC (by nofun) (by nofun) rfl) (lG (fl1:=.nxt (rM _ _ _ (.sh .non))) (bC (by nofun) (by nofun) rfl) (jJ rfl (d:=.non) (by nofun) (fH (jh (vg (bC (x:=.int m) (y:=.int p) (by nofun) (by nofun) (Kv (by omega))) (Bg (bC (x:=.int n) (y:=.int q) (by nofun) (by nofun) (M8 (by omega)))))) iM)) rfl) (yM _))
   .exact fK (fd:=bf (top 53)) rfl rfl (uL (fl1:=.nxt (rM _ _ _ (.sh .non))) (bC (by nofun) (by nofun) rfl) (lG (fl1:=.nxt (rM _ _ _ (.sh .non))) (bC (by nofun) (by nofun) rfl) (jJ rfl (d:=.non) (by nofun) (fH (jh (KQ (bC (x:=.int m) (y:=.int p) (by nofun) (by nofun) (M8 (by omega))))) iM)) rfl) (yM _))
  | 2,_=>exact fK (fd:=bf (top 53)) rfl rfl (uL (fl1:=.nxt (rM _ _ _ (.sh .non))) (bC (by nofun) (by nofun) rfl) (uL (fl1:=.nxt (rM _ _ _ (.sh .non))) (bC (by nofun) (by nofun) rfl) (uL (fl1:=.nxt (rM _ _ _ (.sh .non))) (bC (by nofun) (by nofun) rfl) (jJ rfl (d:=.non) (Pn (bC (x:=.int m) (y:=.int p) (by nofun) (by nofun) (M8 (by have:=W1z e;omega))) (by nofun)) iM) rfl) rfl) (yM _))
  | 3,_=>exact fK (fd:=bf (top 53)) rfl rfl (uL (fl1:=.nxt (rM _ _ _ (.sh .non))) (bC (by nofun) (by nofun) rfl) (uL (fl1:=.nxt (rM _ _ _ (.sh .non))) (bC (by nofun) (by nofun) rfl) (lG (fl1:=.nxt (rM _ _ _ (.sh .non))) (bC (by nofun) (by nofun) rfl) (jJ rfl (d:=.non) (Pn (bC (x:=.int n) (y:=.int q) (by nofun) (by nofun) (M8 (by have:=W1z e;omega))) (by nofun)) iM) rfl) rfl) (yM _))
 | true =>
  rw[Bool.true_and]
  match w,hw with
  | 0,_ =>
   obtain rfl:n=p:=J2z e;refine fK (fd:=bf (top 53)) rfl rfl (lG (fl1:=.nxt (rM _ _ _ (.sh (tbl m q (mul n f g))))) (bC (by nofun) (by nofun) rfl) (jJ rfl (d:=tbl m q (mul n f g)) (Pk (bC (x:=.int n) (y:=.int n) (by nofun) (by nofun) (Kv rfl)) ?_) iM) (CW k h1 (by omega) h7 (by omega)));refine' aY ?L81c_3a ?L81c_3b ?L81c_3c;(case L81c_3a=>rfl);(case L81c_3b=>walk_at "xm");(case L81c_3c=>exact Dg (k+3) h2 h3 h4 h8 (.inl hs))
  | 1,_ =>
   have e:(decide (m=p)&&decide (n=q))=true:=e;rw[U2z,V1z,V1z] at e;obtain⟨rfl,rfl⟩:=e;refine fK (fd:=bf (top 53)) rfl rfl (uL (fl1:=.nxt (rM _ _ _ (.sh (tbl m n fun i j=>f i j+g i j)))) (bC (by nofun) (by nofun) rfl) (lG (fl1:=.nxt (rM _ _ _ (.sh (tbl m n fun i j=>f i j+g i j)))) (bC (by nofun) (by nofun) rfl) (jJ rfl (d:=.non) (by nofun) (lG (fl1:=.nxt (rM _ _ _ (.sh (tbl m n fun i j=>f i j+g i j)))) (jh (vg (bC (x:=.int m) (y:=.int m) (by nofun) (by nofun) (Kv rfl)) (Bg (bC (x:=.int n) (y:=.int n) (by nofun) (by nofun) (Kv rfl))))) (jJ rfl (d:=tbl m n fun i j=>f i j+g i j) (jf rfl rfl rfl (aK ?_ dG) qU) iM) rfl)) rfl) (CW k h1 (by omega) h3 (by omega)));refine gQ (l:=Ls m fun i=>.tup [row n (f i),row n (g i)]) rfl (Pq rfl (by nofun) (by nofun)) (iC (by omega)) (bK (g:=fun i=>row n fun j=>f i j+g i j) fun i hi=>jc rfl ?_);exact jf rfl rfl rfl (aK (gQ (l:=Ls n fun j=>.tup [.int (f i j),.int (g i j)]) rfl (Pq rfl (by nofun) (by nofun)) (iC (by omega)) (bK (g:=fun j=>.int (f i j+g i j)) fun j hj=>jc rfl (eE (by nofun) (by nofun) rfl))) dG) qU
  | 2,_ =>
   obtain rfl:m=p:=J2z e;refine fK (fd:=bf (top 53)) rfl rfl (uL (fl1:=.nxt (rM _ _ _ (.sh (tbl m (n+q) (bsd n f g))))) (bC (by nofun) (by nofun) rfl) (uL (fl1:=.nxt (rM _ _ _ (.sh (tbl m (n+q) (bsd n f g))))) (bC (by nofun) (by nofun) rfl) (uL (fl1:=.nxt (rM _ _ _ (.sh (tbl m (n+q) (bsd n f g))))) (bC (by nofun) (by nofun) rfl) (jJ rfl (d:=tbl m (n+q) (bsd n f g)) (Pk (bC (x:=.int m) (y:=.int m) (by nofun) (by nofun) (Kv rfl)) (jf rfl rfl rfl (aK ?_ dG) qU)) iM) rfl) rfl) (CW k h1 (by omega) (by omega) (by omega)));refine gQ (l:=Ls m fun i=>.tup [row n (f i),row q (g i)]) rfl (Pq rfl (by nofun) (by nofun)) (iC (by omega)) (bK (g:=fun i=>row (n+q) (bsd n f g i)) fun i hi=>jc rfl ?_);exact lV (eE (x:=row n (f i)) (y:=row q (g i)) (by nofun) (by nofun) (Kd (by rw[bZ,bZ];omega))) Hh
  | 3,_ =>
   obtain rfl:n=q:=J2z e;refine fK (fd:=bf (top 53)) rfl rfl (uL (fl1:=.nxt (rM _ _ _ (.sh (tbl (m+p) n (blw m f g))))) (bC (by nofun) (by nofun) rfl) (uL (fl1:=.nxt (rM _ _ _ (.sh (tbl (m+p) n (blw m f g))))) (bC (by nofun) (by nofun) rfl) (lG (fl1:=.nxt (rM _ _ _ (.sh (tbl (m+p) n (blw m f g))))) (bC (by nofun) (by nofun) rfl) (jJ rfl (d:=tbl (m+p) n (blw m f g)) (Pk (bC (x:=.int n) (y:=.int n) (by nofun) (by nofun) (Kv rfl)) (lV (eE (x:=tbl m n f) (y:=tbl p n g) (by nofun) (by nofun) (Kd (by rw[bZ,bZ];omega))) wX)) iM) rfl) rfl) (CW k (by omega) (by omega) h3 (by omega)))
end
def cW(l:List (Str×D)):D:=.dic (l.map fun q=>.inr q.1) (l.map (·.2))
def prK(l:List (Str×D)):List D:=l.map fun q=>.tup [.str q.1,q.2]
section
variable {l:List (Str×D)} {n:Str} {x:D}
theorem Qc:∀ {l:List (Str×D)},(l.map fun q=>(Sum.inr q.1:Sum Int Str)).zip (l.map (·.2))=l.map fun q=>(Sum.inr q.1,q.2)
 | []=>rfl
 | q::l=>by rw[A4z,A4z,A4z,T1z,Qc]
theorem Pr:j4 (l.map fun q=>.inr q.1) (l.map (·.2)) (.inr n)=L2.bR l n:=by
 unfold j4 L2.bR;rw[Qc,List.find?_map]
 have:((fun q:Sum Int Str×D=>decide (q.1=Sum.inr n))∘fun q:Str×D=>((Sum.inr q.1:Sum Int Str),q.2))=fun p:Str×D=>decide (p.1=n):=by
  funext p;exact decide_eq_decide.mpr ⟨fun h=>S4z h,fun h=>congrArg Sum.inr h⟩
 rw[this,Option.map_map];rfl
theorem inK:cmpop .In (.str n) (cW l)=some (.bl (L2.bR l n).isSome):=by
 show some (D.bl (j4 _ _ _).isSome)=_;rw[Pr]
theorem CN:cmpop .NotIn (.str n) (cW l)=some (.bl (!(L2.bR l n).isSome)):=by
 show some (D.bl (!(j4 _ _ _).isSome))=_;rw[Pr]
theorem Kq:Kr (cW l) (.str n)=L2.bR l n:=by
 show j4 _ _ _=_;rw[Pr]
theorem yu:∀ {l:List (Str×D)},iH (prK l)=some (l.map fun q=>(.inr q.1,q.2))
 | []=>rfl
 | q::l=>by
  show(iH (prK l)).map _=_;rw[yu];rfl
theorem Ze:∀ {l:List (Str×D)} {a:List (Sum Int Str×D)},(l.map (·.1)).Nodup->(∀ q∈l,∀ p∈a,p.1≠Sum.inr q.1)->(l.map fun q=>((Sum.inr q.1:Sum Int Str),q.2)).foldl (fun a q=>putD a q.1 q.2) a=a++l.map fun q=>(.inr q.1,q.2)
 | [],a,_,_=>by simp
 | q::l,a,hn,ha=>by
  rw[A4z,H3z] at hn;rw[A4z,List.foldl_cons]
  have e:putD a (.inr q.1) q.2=a++[(.inr q.1,q.2)]:=by
   unfold putD;rw[M5z];intro h;obtain⟨p,h1,h2⟩:=List.any_eq_true.mp h;exact ha q (I1z ..) p h1 (J2z h2)
  rw[e,Ze hn.2 fun r hr p hp=>?_,List.append_assoc];rfl
  rcases List.mem_append.mp hp with hp | hp
  .exact ha r (S0z _ hr) p hp
  .rw[X1z] at hp
   subst hp;intro h;exact hn.1 (List.mem_map.mpr ⟨r,hr,(S4z h).symm⟩)
theorem Zd(h:(l.map (·.1)).Nodup):Kw (l.map fun q=>((Sum.inr q.1:Sum Int Str),q.2))=l.map fun q=>(.inr q.1,q.2):=Ze h fun _ _ _ h=>nomatch h
theorem Oj(h:(l.map (·.1)).Nodup):blt "dict" [.lst (prK l)]=some (cW l):=by
 show(iH (prK l)).map (fun l=>sX (Kw l))=_;rw[yu];show some (sX (Kw _))=_;rw[Zd h];unfold sX cW;rw[R4z,R4z];rfl
theorem oNeS{a b:Str}:cmpop .NotEq (.str a) (.str b)=some (.bl (decide (a≠b))):=by
 rw[oNe (by simp[dep]) (by simp[dep])];congr 2;show(!(a==b))=_
 by_cases h:a=b
 .subst h;simp
 .simp[h]
theorem qF{α:Type}{f:D->Option (Option D)}{h g:α->D}{t:α->Bool}:∀ {l:List α},(∀ q∈l,f (h q)=some (if t q then some (g q) else none))->bQ f (l.map h)=some ((l.filter t).map g)
 | [],_=>rfl
 | q::l,hq=>by
  have h1:=hq q (I1z ..);have h2:=qF fun r hr=>hq r (S0z _ hr);simp only[A4z,bQ,h1]
  cases ht:t q with
  | true=>simp only[K5z,T2z,ht,A4z,h2];rfl
  | false=>simp only[Q1z,I5z,T2z,ht];exact h2
theorem get_mem:∀ {l:List (Str×D)} {q:Str×D},(l.map (·.1)).Nodup->q∈l->L2.bR l q.1=some q.2
 | p::l,q,hn,h=>by
  rw[A4z,H3z] at hn;unfold L2.bR;rcases H4z.mp h with rfl | h
  .rw[List.find?_cons_of_pos (by simp)];rfl
  .rw[List.find?_cons_of_neg (by
    have:p.1≠q.1:=fun z=>hn.1 (List.mem_map.mpr ⟨q,h,z.symm⟩)
    simpa using this)]
   exact get_mem hn.2 h
theorem sO(hn:(l.map (·.1)).Nodup):((L2.cQ l n).map (·.1)).Nodup:=hn.sublist (List.filter_sublist.map _)
theorem wDc{cx:Cxt}{k:Nat}{sc:Scope}{U:Rho}{e:Expr}(hw:vh cx sc e=.sq)(h:ev cx k sc U e=some (cW l)):evI cx false (ev cx k sc U) sc e=some (l.map fun q=>.str q.1):=by
 unfold evI;rw[hw];show(ev cx k sc U e).bind mJ=_;rw[h];show some ((l.map fun q=>(Sum.inr q.1:Sum Int Str)).map kD)=_;rw[R4z];rfl
theorem Zz{cx:Cxt}{k:Nat}{sc:Scope}{U:Rho}{x:Str}{e a:Expr}{q p:Pos}(hg:bV cx sc x=some "list")(hw:Bo cx sc "list" [e]=.li a)(h:ev cx k sc U a=some (cW l))(hl:l.length<=1000):ev cx (k+1) sc U (.Call (.Name x q) [e] [] p)=some (.lst (prK l)):=by
 unfold bV at hg;split at hg
 case isFalse=>cases hg
 rename_i h1;simp only[ev,h1,hg,K5z];split
 .rename_i he;exact absurd he (by decide)
 .rename_i he
  cases he;rw[hw];show(ev cx k sc U a).bind Ww=_;rw[h];show(if decide ((l.map fun q=>(Sum.inr q.1:Sum Int Str)).length<=1000) then some (D.lst _) else none)=_;rw[E3z,U3z hl,Qc,R4z];rfl
 .rename_i he;cases he
end
def ifA:Stmt->List Stmt
 | .If _ a _ _=>a
 | _=>[]
def Xk:Stmt->Expr
 | .Assign _ e _=>e
 | _=>.Name "" ⟨0,0,0,0⟩
def rB(kn dd:D)(rs md tb:Sl):Rho:=[("_law_known",.sh kn),("_law_deed_here",.sh dd),("_law_rest",rs),("_law_made_here",md),("_law_table_here",tb)]
theorem W4{us vs:List D}(h:us.length+vs.length<=100000):binop .Add (.lst us) (.lst vs)=some (.lst (us++vs)):=by
 show(if szl (us.length+vs.length) then some (D.lst (us++vs)) else none)=_;rw[L5z (Ek h)]
section
variable {l:List (Str×D)} {n:Str} {ds:List D} {w r:D}
theorem bh(k:Nat)(hn:(l.map (·.1)).Nodup)(hl:l.length<=100)(h:blk (cxN T 60 k) 60 60 (bf (top 54)).sc ((bf (top 54)).body.drop 1) (rB (cW l) (.tup (w::.str n::ds)) (.sh (cW (L2.cQ l n))) .no .no)=some (.ret r)):aU T 60 (k+1) "_law_behind" [cW l,.tup (w::.str n::ds)]=some r:=by
 refine fK (fd:=bf (top 54)) rfl rfl (jJ rfl (d:=cW (L2.cQ l n)) (jf rfl rfl rfl (aK (gQ (l:=l.map fun q=>.str q.1) rfl (wDc rfl (by nofun)) (Ek (by rw[E3z];omega)) (qF (t:=fun q:Str×D=>decide (q.1≠n)) (g:=fun q:Str×D=>.tup [.str q.1,q.2]) fun q hq=>J6 rfl (bC (by nofun) (xIx (by nofun) (by nofun) rfl (d:=.str n) ?_) oNeS) ?_)) dG) (Oj (sO hn))) h)
 .exact jq (j:=1) rfl
 .exact oY (aK (by nofun) (aK (vf (by nofun) (by nofun) (Kq.trans (get_mem hn hq))) dG)) rfl
theorem fJ{l:List D}{x:D}{j:Nat}(h:l[j]?=some x):atD l (j:Int)=some x:=jq h
theorem Gh{l:List (Str×D)}{t:D}(hn:(l.map (·.1)).Nodup):((L2.cQ l n++[(n,t)]).map (·.1)).Nodup:=by
 rw[O3z,List.nodup_append];refine⟨sO hn,by simp,fun a ha b hb=>?_⟩;obtain⟨q,hq,rfl⟩:=List.mem_map.mp ha
 have hb:b=n:=by simpa using hb
 subst hb;exact J2z (List.mem_filter.mp hq).2
theorem Dz:(L2.cQ l n).length<=l.length:=List.length_filter_le ..
theorem nR{cx:Cxt}{k:Nat}{sc:Scope}{U:Rho}{x y:Str}{e a:Expr}{t:D}{o p q p2 p3 p4:Pos}(hn:(l.map (·.1)).Nodup)(hl:l.length<=100)(g1:bV cx sc x=some "dict")(gw:Bo cx sc "dict" [.BinOp (.Call (.Name y q) [e] [] p) .Add (.List [a] p2) p3]=.al)(g2:bV cx sc y=some "list"){b:Expr}(gi:Bo cx sc "list" [e]=.li b)(h1:ev cx k sc U b=some (cW (L2.cQ l n)))(h2:ev cx k sc U a=some (.tup [.str n,t])) :
  ev cx (k+3) sc U (.Call (.Name x o) [.BinOp (.Call (.Name y q) [e] [] p) .Add (.List [a] p2) p3] [] p4)=some (cW (L2.cQ l n++[(n,t)])):=by
 have dl:=Dz (l:=l) (n:=n);refine jf g1 gw rfl (aK (lV (eE (Zz g2 gi h1 (by omega)) (Xf (aK h2 dG) rfl) (W4 ?_)) ?_) dG) (Oj (Gh hn))
 .unfold prK
  rw[E3z];show _+1<=_;omega
 .unfold prK
  rw[O3z];rfl
theorem Oz(k:Nat){t:D}(hn:(l.map (·.1)).Nodup)(hl:l.length<=100):aU T 60 (k+1) "_law_behind" [cW l,.tup [.str "put",.str n,t]]=some (.tup [cW (L2.cQ l n++[(n,t)]),.bl (L2.bR l n).isSome]):=by
 refine bh k hn hl (lG (fl1:=.ret (.tup [cW (L2.cQ l n++[(n,t)]),.bl (L2.bR l n).isSome])) (bC (x:=.str "put") (xIx (by nofun) (by nofun) rfl (fJ (j:=0) rfl)) (by nofun) rfl) (fB (oY (aK (nR hn hl rfl rfl rfl rfl (by nofun) (oY (aK (xIx (by nofun) (by nofun) rfl (fJ (j:=1) rfl)) (aK (xIx (by nofun) (by nofun) rfl (fJ (j:=2) rfl)) dG)) rfl)) (aK (bC (xIx (by nofun) (by nofun) rfl (fJ (j:=1) rfl)) (by nofun) inK) dG)) rfl)) rfl)
theorem Ar(k:Nat){w:Str}(hn:(l.map (·.1)).Nodup)(hl:l.length<=100)(h1:deq (.str w) (.str "put")=false)(h2:deq (.str w) (.str "join")=false)(h:L2.bR l n=none):aU T 60 (k+1) "_law_behind" [cW l,.tup [.str w,.str n]]=some (.tup [cW l,.str "no name"]):=by
 refine bh k hn hl (fH (bC (x:=.str w) (xIx (by nofun) (by nofun) rfl (fJ (j:=0) rfl)) (by nofun) ?_) (fH (bC (x:=.str w) (xIx (by nofun) (by nofun) rfl (fJ (j:=0) rfl)) (by nofun) ?_) (lG (fl1:=.ret (.tup [cW l,.str "no name"])) (bC (xIx (by nofun) (by nofun) rfl (fJ (j:=1) rfl)) (by nofun) (CN.trans (by rw[h];rfl))) (fB (oY (aK (by nofun) (aK (by nofun) dG)) rfl)) rfl)))
 .rw[oEq (by simp[dep]) (by simp[dep]),h1]
 .rw[oEq (by simp[dep]) (by simp[dep]),h2]
theorem Ka(k:Nat){t:D}(hn:(l.map (·.1)).Nodup)(hl:l.length<=100)(h:L2.bR l n=some t):aU T 60 (k+1) "_law_behind" [cW l,.tup [.str "take",.str n]]=some (.tup [cW (L2.cQ l n),t]) :=
 bh k hn hl (fH (bC (x:=.str "take") (xIx (by nofun) (by nofun) rfl (fJ (j:=0) rfl)) (by nofun) rfl) (fH (bC (x:=.str "take") (xIx (by nofun) (by nofun) rfl (fJ (j:=0) rfl)) (by nofun) rfl) (fH (bC (xIx (by nofun) (by nofun) rfl (fJ (j:=1) rfl)) (by nofun) (CN.trans (by rw[h];rfl))) (Al (d:=t) rfl rfl rfl (vf (by nofun) (xIx (by nofun) (by nofun) rfl (fJ (j:=1) rfl)) (Kq.trans h)) (lG (fl1:=.ret (.tup [cW (L2.cQ l n),t])) (bC (x:=.str "take") (xIx (by nofun) (by nofun) rfl (fJ (j:=0) rfl)) (by nofun) rfl) (fB (oY (aK (xName rfl) (aK (xName rfl) dG)) rfl)) rfl)))))
theorem Xd{cx:Cxt}{k:Nat}{sc:Scope}{U:Rho}{a c:Expr}{us:List D}{p q:Pos}(h1:ev cx k sc U a=some (.tup us))(h2:ev cx k sc U c=some (.int (-1))):ev cx (k+1) sc U (.Subscript a (.Slice none none (some c) q) p)=some (.tup us.reverse):=by
 simp only[ev,h1];show Px (.tup us) none none ((ev cx k sc U c).bind asI)=_;rw[h2];rfl
def wT:Bool->Str
 | true=>"turn"
 | false=>"flip"
def trn(m q:Nat)(f:Nat->Nat->Int)(w:Bool):D:=match w with
 | true=>tbl q m fun i j=>f j i
 | false=>tbl m q fun i j=>f (m-1-i) (q-1-j)
theorem J9(k:Nat){m q:Nat}{f:Nat->Nat->Int}{w:Bool}(h1:1<=m)(h2:m<=4)(h3:1<=q)(h4:q<=4)(hn:(l.map (·.1)).Nodup)(hl:l.length<=100)(h:L2.bR l n=some (tbl m q f)):aU T 60 (k+1) "_law_behind" [cW l,.tup [.str (wT w),.str n]]=some (.tup [cW (L2.cQ l n++[(n,trn m q f w)]),trn m q f w]):=by
 have fl:ev (cxN T 60 k) 60 (bf (top 54)).sc (rB (cW l) (.tup [.str (wT w),.str n]) (.sh (cW (L2.cQ l n))) .no (.sh (tbl m q f))) (Xk (((bf (top 54)).body.drop 1).getD 5 pss))=some (tbl m q fun i j=>f (m-1-i) (q-1-j)):=by
  refine jf rfl rfl rfl (aK (lV (gQ (l:=(Ls m fun i=>row q (f i)).reverse) rfl (Xg rfl (Xd (xName rfl) (by nofun))) (by rw[qX];exact iC (by omega)) (by rw[qX];exact bK (g:=fun i=>row q fun j=>f (m-1-i) (q-1-j)) fun i hi=>jc rfl (lV (Xd (xName rfl) (by nofun)) (congrArg D.tup qX)))) rfl) dG) qU
 have dc:∀ {cx:Cxt} {md:D} {F:Nat} {sc:Scope} {U:Rho} {a b:Expr} {j:Nat} {p:Pos},ev cx F sc U a=some (cW (L2.cQ l n++[(n,md)]))->ev cx F sc U b=some md->ev cx (F+1) sc U (.Tuple [a,b] j p)=some (.tup [cW (L2.cQ l n++[(n,md)]),md]):=fun {_ _ _ _ _ _ _ _ _} x y=>oY (aK x (aK y dG)) rfl
 cases w with
 | false =>
  refine bh k hn hl (fH (bC (x:=.str "flip") (xIx (by nofun) (by nofun) rfl (fJ (j:=0) rfl)) (by nofun) rfl) (fH (bC (x:=.str "flip") (xIx (by nofun) (by nofun) rfl (fJ (j:=0) rfl)) (by nofun) rfl) (fH (bC (xIx (by nofun) (by nofun) rfl (fJ (j:=1) rfl)) (by nofun) (CN.trans (by rw[h];rfl))) (Al (d:=tbl m q f) rfl rfl rfl (vf (by nofun) (xIx (by nofun) (by nofun) rfl (fJ (j:=1) rfl)) (Kq.trans h)) (fH (bC (x:=.str "flip") (xIx (by nofun) (by nofun) rfl (fJ (j:=0) rfl)) (by nofun) rfl) (jJ rfl (d:=tbl m q fun i j=>f (m-1-i) (q-1-j)) fl (fH (bC (x:=.str "flip") (xIx (by nofun) (by nofun) rfl (fJ (j:=0) rfl)) (by nofun) rfl) (fB (dc (nR hn hl rfl rfl rfl rfl (by nofun) (oY (aK (xIx (by nofun) (by nofun) rfl (fJ (j:=1) rfl)) (aK (xName rfl) dG)) rfl)) (xName rfl))))))))))
 | true =>
  refine bh k hn hl (fH (bC (x:=.str "turn") (xIx (by nofun) (by nofun) rfl (fJ (j:=0) rfl)) (by nofun) rfl) (fH (bC (x:=.str "turn") (xIx (by nofun) (by nofun) rfl (fJ (j:=0) rfl)) (by nofun) rfl) (fH (bC (xIx (by nofun) (by nofun) rfl (fJ (j:=1) rfl)) (by nofun) (CN.trans (by rw[h];rfl))) (Al (d:=tbl m q f) rfl rfl rfl (vf (by nofun) (xIx (by nofun) (by nofun) rfl (fJ (j:=1) rfl)) (Kq.trans h)) (fH (bC (x:=.str "turn") (xIx (by nofun) (by nofun) rfl (fJ (j:=0) rfl)) (by nofun) rfl) (jJ rfl (d:=tbl m q fun i j=>f (m-1-i) (q-1-j)) fl (lG (fl1:=.nxt (rB (cW l) (.tup [.str "turn",.str n]) (.sh (cW (L2.cQ l n))) (.sh (tbl q m fun i j=>f j i)) (.sh (tbl m q f)))) (bC (x:=.str "turn") (xIx (by nofun) (by nofun) rfl (fJ (j:=0) rfl)) (by nofun) rfl) (jJ rfl (d:=tbl q m fun i j=>f j i) (jf rfl rfl rfl (aK ?_ dG) qU) iM) (fB (dc (nR hn hl rfl rfl rfl rfl (by nofun) (oY (aK (xIx (by nofun) (by nofun) rfl (fJ (j:=1) rfl)) (aK (xName rfl) dG)) rfl)) (xName rfl))))))))))
  refine' gQ ?L81e_1a ?L81e_1b ?L81e_1c (bK ?L81e_1d);(case L81e_1a=>rfl);(case L81e_1b=>walk_at "xi");(case L81e_1c=>exact iC (by omega))
  case L81e_1d =>
   intro i hi;refine' jc ?L81e_1e ?L81e_1f;(case L81e_1e=>rfl)
   case L81e_1f =>
    refine' jf ?L81e_2a ?L81e_2b ?L81e_2c ?L81e_2d ?L81e_2e;(case L81e_2a=>rfl);(case L81e_2b=>rfl);(case L81e_2c=>rfl);(case L81e_2d=>walk_at "xm");(case L81e_2e=>exact qU)
theorem Zr(k:Nat){wd a b:Str}{r:D}(hn:(l.map (·.1)).Nodup)(hl:l.length<=100)(h:blk (cxN T 60 k) 60 59 (bf (top 54)).sc (ifA (((bf (top 54)).body.drop 1).getD 1 pss)) (rB (cW l) (.tup [.str "join",.str n,.str wd,.str a,.str b]) (.sh (cW (L2.cQ l n))) .no .no)=some (.ret r)):aU T 60 (k+1) "_law_behind" [cW l,.tup [.str "join",.str n,.str wd,.str a,.str b]]=some r :=
 bh k hn hl (fH (bC (x:=.str "join") (xIx (by nofun) (by nofun) rfl (fJ (j:=0) rfl)) (by nofun) rfl) (lG (fl1:=.ret r) (bC (x:=.str "join") (xIx (by nofun) (by nofun) rfl (fJ (j:=0) rfl)) (by nofun) rfl) h rfl))
theorem OD(k:Nat){wd a b:Str}(hn:(l.map (·.1)).Nodup)(hl:l.length<=100)(h:L2.bR l a=none\/L2.bR l b=none):aU T 60 (k+1) "_law_behind" [cW l,.tup [.str "join",.str n,.str wd,.str a,.str b]]=some (.tup [cW l,.str "no name"]):=by
 refine Zr k hn hl (lG (fl1:=.ret (.tup [cW l,.str "no name"])) (jh ?_) (fB (oY (aK (by nofun) (aK (by nofun) dG)) rfl)) rfl)
 cases ha:L2.bR l a with
 | none=>exact Xe (bC (xIx (by nofun) (by nofun) rfl (fJ (j:=3) rfl)) (by nofun) (CN.trans (by rw[ha];rfl)))
 | some x =>
  have hb:L2.bR l b=none:=h.resolve_left (by rw[ha];simp)
  exact Ph (bC (xIx (by nofun) (by nofun) rfl (fJ (j:=3) rfl)) (by nofun) (CN.trans (by rw[ha];rfl))) (Bg (bC (xIx (by nofun) (by nofun) rfl (fJ (j:=4) rfl)) (by nofun) (CN.trans (by rw[hb];rfl))))
theorem O1(k:Nat){wd a b:Str}{x y md:D}{r:D}(hn:(l.map (·.1)).Nodup)(hl:l.length<=100)(ha:L2.bR l a=some x)(hb:L2.bR l b=some y)(hm:aU T 60 k "_law_made" [.str wd,x,y]=some md)
  (h:blk (cxN T 60 k) 60 59 (bf (top 54)).sc ((ifA (((bf (top 54)).body.drop 1).getD 1 pss)).drop 2) (rB (cW l) (.tup [.str "join",.str n,.str wd,.str a,.str b]) (.sh (cW (L2.cQ l n))) (.sh md) .no)=some (.ret r)):aU T 60 (k+1) "_law_behind" [cW l,.tup [.str "join",.str n,.str wd,.str a,.str b]]=some r :=
 Zr k hn hl (fH (jh (Ph (bC (xIx (by nofun) (by nofun) rfl (fJ (j:=3) rfl)) (by nofun) (CN.trans (by rw[ha];rfl))) (Bg (bC (xIx (by nofun) (by nofun) rfl (fJ (j:=4) rfl)) (by nofun) (CN.trans (by rw[hb];rfl)))))) (Al (d:=md) rfl rfl rfl (aY rfl (aK (xIx (by nofun) (by nofun) rfl (fJ (j:=2) rfl)) (aK (vf (by nofun) (xIx (by nofun) (by nofun) rfl (fJ (j:=3) rfl)) (Kq.trans ha)) (aK (vf (by nofun) (xIx (by nofun) (by nofun) rfl (fJ (j:=4) rfl)) (Kq.trans hb)) dG))) hm) h))
theorem OJ(k:Nat){wd a b:Str}{x y:D}(hn:(l.map (·.1)).Nodup)(hl:l.length<=100)(ha:L2.bR l a=some x)(hb:L2.bR l b=some y)(hm:aU T 60 k "_law_made" [.str wd,x,y]=some (.str "no fit")):aU T 60 (k+1) "_law_behind" [cW l,.tup [.str "join",.str n,.str wd,.str a,.str b]]=some (.tup [cW l,.str "no fit"]) :=
 O1 k hn hl ha hb hm (lG (fl1:=.ret (.tup [cW l,.str "no fit"])) (bC (by nofun) (by nofun) rfl) (fB (oY (aK (by nofun) (aK (by nofun) dG)) rfl)) rfl)
theorem Kc(k:Nat){wd a b:Str}{x y:D}{m q:Nat}{f:Nat->Nat->Int}(hn:(l.map (·.1)).Nodup)(hl:l.length<=100)(ha:L2.bR l a=some x)(hb:L2.bR l b=some y)(hm:aU T 60 k "_law_made" [.str wd,x,y]=some (tbl m q f)):aU T 60 (k+1) "_law_behind" [cW l,.tup [.str "join",.str n,.str wd,.str a,.str b]]=some (.tup [cW (L2.cQ l n++[(n,tbl m q f)]),tbl m q f]) :=
 O1 k hn hl ha hb hm (fH (bC (x:=tbl m q f) (y:=.str "no fit") (by nofun) (by nofun) (oEq (L4z zZ (by decide)) (by simp[dep]))) (fB (oY (aK (nR hn hl rfl rfl rfl rfl (by nofun) (oY (aK (xIx (by nofun) (by nofun) rfl (fJ (j:=1) rfl)) (aK (xName rfl) dG)) rfl)) (aK (xName rfl) dG)) rfl)))
end
def nmN:Nat->Str
 | 0=>"a"
 | 1=>"b"
 | 2=>"gh"
 | _=>"wxyz"
def tkN:Nat->Str
 | 0=>"take"
 | 1=>"turn"
 | _=>"flip"
def nmL:List D:=[.str "a",.str "b",.str "gh",.str "wxyz"]
def wyV(ns:List Int)(a:Nat):Nat:=pickN ns (a+1) 9
def oF(ns:List Int)(a:Nat):D:=if wyV ns a<3 then .tup [.str "put",.str (nmN (pickN ns a 4)),tbl (1+pickN ns (a+2) 3) (1+pickN ns (a+3) 3) (Bh ns (a+10))]
 else if wyV ns a<6 then .tup [.str (tkN (wyV ns a-3)),.str (nmN (pickN ns a 4))]
 else .tup [.str "join",.str (nmN (pickN ns a 4)),.str (wdN (pickN ns (a+4) 4)),.str (nmN (pickN ns (a+5) 4)),.str (nmN (pickN ns (a+6) 4))]
def rD(ns:List Int)(a:Nat)(nl nm wy ro co wd:Sl):Rho:=[("_law_script",.sh (scr ns)),("_law_at",.sh (.int a)),("_law_names",nl),("_law_name",nm),("_law_way",wy),("_law_rows",ro),("_law_columns",co),("_law_word",wd)]
theorem Kf{p:Nat}(h:p<4):atD nmL (p:Int)=some (.str (nmN p)):=by
 refine jq ?_
 match p,h with
 | 0,_=>rfl
 | 1,_=>rfl
 | 2,_=>rfl
 | 3,_=>rfl
theorem W5{p:Nat}(h:p<4):atD [.str "times",.str "plus",.str "beside",.str "below"] (p:Int)=some (.str (wdN p)):=by
 refine jq ?_
 match p,h with
 | 0,_=>rfl
 | 1,_=>rfl
 | 2,_=>rfl
 | 3,_=>rfl
theorem W6{p:Nat}(h:p<3):atD [.str "take",.str "turn",.str "flip"] (p:Int)=some (.str (tkN p)):=by
 refine jq ?_
 match p,h with
 | 0,_=>rfl
 | 1,_=>rfl
 | 2,_=>rfl
section
variable {ns:List Int} {a:Nat}
theorem pk{k j many:Nat}{cx:Cxt}{n:Nat}{sc:Scope}{U:Rho}{e1 e2 e3:Expr}{x:Str}{p q:Pos}(hc:∀ d,aU T 60 (k+2) "_law_pick" [scr ns,.int ((a+j:Nat):Int),.int many]=some d->cx.call x [scr ns,.int ((a+j:Nat):Int),.int many]=some d)(hf:isFn cx sc x [e1,e2,e3]=true)(h0:0<many)(h1:ev cx n sc U e1=some (scr ns))(h2:ev cx n sc U e2=some (.int ((a+j:Nat):Int)))(h3:ev cx n sc U e3=some (.int many)):ev cx (n+1) sc U (.Call (.Name x q) [e1,e2,e3] [] p)=some (.int ((pickN ns (a+j) many:Nat):Int)) :=
 aY hf (aK h1 (aK h2 (aK h3 dG))) (hc _ (pick k ns (a+j) h0))
theorem deed(k:Nat):aU T 60 (k+4) "_law_deed" [scr ns,.int a]=some (oF ns a):=by
 have p4:=fun j=>dB (ns:=ns) (k:=a+j) (many:=4) (by omega);have p9:wyV ns a<9:=dB (by omega);have pick0:aU T 60 (k+3) "_law_pick" [scr ns,.int a,.int 4]=some (.int ((pickN ns a 4:Nat):Int)):=pick (k+1) ns a (many:=4) (by omega);refine fK (fd:=bf (top 52)) rfl rfl (jJ rfl (d:=.lst nmL) (by nofun) (gTup (d:=.tup [.str (nmN (pickN ns a 4)),.int (wyV ns a:Int)]) (l:=[.str (nmN (pickN ns a 4)),.int (wyV ns a:Int)]) (U':=rD ns a (.sh (.lst nmL)) (.sh (.str (nmN (pickN ns a 4)))) (.sh (.int (wyV ns a:Int))) .no .no .no) rfl (oY (aK (xIx (by nofun) (aY rfl (by walk_at "xm") pick0) rfl (Kf (p4 0))) (aK (pk (k:=k+1) (fun d h=>h) rfl (by omega) (by nofun) ?_ (by nofun)) dG)) rfl) rfl rfl ?_))
 .exact lV (eE (by nofun) (by nofun) rfl) rfl
 .unfold oF
  by_cases h3:wyV ns a<3
  .rw[L5z h3]
   have q2:pickN ns (a+2) 3<3:=dB (by omega);have q3:pickN ns (a+3) 3<3:=dB (by omega);refine lG (fl1:=.ret (.tup [.str "put",.str (nmN (pickN ns a 4)),tbl (1+pickN ns (a+2) 3) (1+pickN ns (a+3) 3) (Bh ns (a+10))])) (bC (by nofun) (by nofun) (oLt (by omega))) (gTup (d:=.tup [.int ((1+pickN ns (a+2) 3:Nat):Int),.int ((1+pickN ns (a+3) 3:Nat):Int)]) (l:=[.int ((1+pickN ns (a+2) 3:Nat):Int),.int ((1+pickN ns (a+3) 3:Nat):Int)]) (U':=rD ns a (.sh (.lst nmL)) (.sh (.str (nmN (pickN ns a 4)))) (.sh (.int (wyV ns a:Int))) (.sh (.int ((1+pickN ns (a+2) 3:Nat):Int))) (.sh (.int ((1+pickN ns (a+3) 3:Nat):Int))) .no) rfl (oY (aK (lV (eE (by nofun) (pk (k:=k+1) (j:=2) (many:=3) (fun d h=>h) rfl (by omega) (by nofun) (lV (eE (by nofun) (by nofun) rfl) rfl) (by nofun)) rfl) (congrArg D.int (by omega))) (aK (lV (eE (by nofun) (pk (k:=k+1) (j:=3) (many:=3) (fun d h=>h) rfl (by omega) (by nofun) (lV (eE (by nofun) (by nofun) rfl) rfl) (by nofun)) rfl) (congrArg D.int (by omega))) dG)) rfl) rfl rfl (fB (oY (aK (by nofun) (aK (by nofun) (aK (aY rfl (aK (by nofun) (aK (lV (d':=.int ((a+10:Nat):Int)) (eE (by nofun) (by nofun) rfl) rfl) (aK (by nofun) (aK (by nofun) dG)))) (table k ns (a+10) (by omega) (by omega))) dG))) rfl))) rfl
  .rw[M5z h3]
   by_cases h6:wyV ns a<6
   .rw[L5z h6]
    exact fH (bC (by nofun) (by nofun) (M7 (by omega))) (lG (fl1:=.ret (.tup [.str (tkN (wyV ns a-3)),.str (nmN (pickN ns a 4))])) (bC (by nofun) (by nofun) (oLt (by omega))) (fB (oY (aK (xIx (x:=.lst [.str "take",.str "turn",.str "flip"]) (i:=((wyV ns a-3:Nat):Int)) (by nofun) (lV (eE (by nofun) (by nofun) rfl) (congrArg D.int (by omega))) rfl (W6 (by omega))) (aK (by nofun) dG)) rfl)) rfl)
   .rw[M5z h6]
    exact fH (bC (by nofun) (by nofun) (M7 (by omega))) (fH (bC (by nofun) (by nofun) (M7 (by omega))) (jJ rfl (d:=.str (wdN (pickN ns (a+4) 4))) (xIx (x:=.lst [.str "times",.str "plus",.str "beside",.str "below"]) (by nofun) (pk (k:=k+1) (j:=4) (many:=4) (fun d h=>h) rfl (by omega) (by nofun) (lV (eE (by nofun) (by nofun) rfl) rfl) (by nofun)) rfl (W5 (p4 4))) (fB (oY (aK (by nofun) (aK (by nofun) (aK (by nofun) (aK (xIx (by nofun) (pk (k:=k+1) (j:=5) (many:=4) (fun d h=>h) rfl (by omega) (by nofun) (lV (eE (by nofun) (by nofun) rfl) rfl) (by nofun)) rfl (Kf (p4 5))) (aK (xIx (by nofun) (pk (k:=k+1) (j:=6) (many:=4) (fun d h=>h) rfl (by omega) (by nofun) (lV (eE (by nofun) (by nofun) rfl) rfl) (by nofun)) rfl (Kf (p4 6))) dG))))) rfl))))
end
end M81
namespace M81
open PySem DE L2
abbrev cx0:Cxt:=T.cx (aR T 60 36)
abbrev LP:LamP:=⟨"_law_told",Zo T 60 (bf (top 50))⟩
def dF(p:Addr)(S:Cst)(x:D):Option (Addr×D×Cst):=Oi cx0 LP ms S 60 (bf (top 55)).sc (bw (bf (top 55)) [.obj p,x]) (bf (top 55)).body
def tell(S:Cst):Option (Addr×MR)->Option (Addr×D×Cst)
 | some (a,.val r S')=>some (a,r,S')
 | some (a,.exc c)=>if cx0.exs.contains c then(match LP.cv c with
  | some (.str x)=>some (a,.str x,S)
  | _=>none) else none
 | none=>none
section
variable {p:Addr} {S:Cst} {n:Str} {t:D}
set_option maxHeartbeats 4000000 in
theorem JZ:dF p S (.tup [.str "put",.str n,t])=tell S ((Jd cl clx S [.str n,t]).map fun o=>(p,o)):=by rfl'
set_option maxHeartbeats 4000000 in
theorem uQ:dF p S (.tup [.str "take",.str n])=tell S ((lq cl clx S [.str n]).map fun o=>(p,o)):=by rfl'
set_option maxHeartbeats 4000000 in
theorem DP:dF p S (.tup [.str "turn",.str n])=tell S ((eX cl clx "turned" "turn" S [.str n]).map fun o=>(p,o)):=by rfl'
set_option maxHeartbeats 4000000 in
theorem DQ:dF p S (.tup [.str "flip",.str n])=tell S ((eX cl clx "flipped" "flip" S [.str n]).map fun o=>(p,o)):=by rfl'
set_option maxHeartbeats 4000000 in
theorem ou{w a b:Str}:dF p S (.tup [.str "join",.str n,.str w,.str a,.str b])=tell S ((lY cl clx S [.str n,.str w,.str a,.str b]).map fun o=>(p,o)):=by rfl'
set_option maxHeartbeats 4000000 in
theorem rE:tell S (some (p,.exc "NoName"))=some (p,.str "no name",S):=by rfl'
set_option maxHeartbeats 4000000 in
theorem Gs:tell S (some (p,.exc "NoFit"))=some (p,.str "no fit",S):=by rfl'
end
def N4:List Str:=["a","b","gh","wxyz"]
theorem rO{j:Nat}:nmN j∈N4:=by
 match j with
 | 0=>simp[nmN,N4]
 | 1=>simp[nmN,N4]
 | 2=>simp[nmN,N4]
 | _+3=>simp[nmN,N4]
set_option maxHeartbeats 4000000 in
theorem Nj:(N4.map fun n=>ndN cl clx (.str n))=N4.map fun n=>some (.inl n):=by rfl'
theorem nd4{n:Str}(h:n∈N4):ndN cl clx (.str n)=some (.inl n):=List.map_inj_left.mp Nj n h
def Ku:Nat->List Str->List (List Str)
 | 0,_=>[[]]
 | k+1,pool=>[]::pool.flatMap fun x=>(Ku k (pool.erase x)).map (x::·)
theorem zx:∀ {k:Nat} {l pool:List Str},l.Nodup->(∀ x∈l,x∈pool)->l.length<=k->l∈Ku k pool
 | 0,l,pool,_,_,hk=>by
  cases l with
  | nil=>simp[Ku]
  | cons x r=>simp at hk
 | k+1,[],pool,_,_,_=>by simp[Ku]
 | k+1,x::r,pool,hn,hp,hk=>by
  rw[H3z] at hn;unfold Ku;refine S0z _ (List.mem_flatMap.mpr ⟨x,hp x (I1z ..),List.mem_map.mpr ⟨r,zx hn.2 (fun y hy=>?_) (by simpa using hk),rfl⟩⟩);exact(List.mem_erase_of_ne (show y≠x from fun z=>hn.1 (z▸hy))).mpr (hp y (S0z _ hy))
theorem yH:∀ {l pool:List Str},l.Nodup->(∀ x∈l,x∈pool)->l.length<=pool.length
 | [],_,_,_=>V4z _
 | x::r,pool,hn,hp=>by
  rw[H3z] at hn;have h1:=yH (pool:=pool.erase x) hn.2 fun y hy=>(List.mem_erase_of_ne (show y≠x from fun z=>hn.1 (z▸hy))).mpr (hp y (S0z _ hy));have h2:=List.length_erase_of_mem (hp x (I1z ..));have h3:0<pool.length:=List.length_pos_of_mem (hp x (I1z ..));rw[M2z];omega
set_option maxHeartbeats 4000000 in
theorem Ie:(Ku 4 N4).all (fun l=>decide (Bj l=some (N4.filter l.contains))&&decide ((N4.filter l.contains).length=l.length))=true:=by decide +kernel
theorem Z1{l:List Str}(h1:l.Nodup)(h2:∀ x∈l,x∈N4):Bj l=some (N4.filter l.contains)/\(N4.filter l.contains).length=l.length:=by
 have:=A3z.mp Ie l (zx h1 h2 (yH h1 h2));rw[U2z,V1z,V1z] at this;exact this
section
variable {l:List (Str×D)} {n x:Str} {t:D}
theorem cX{q:Str×D}:bR (q::l) n=if q.1=n then some q.2 else bR l n:=by
 unfold bR
 by_cases h:q.1=n
 .rw[List.find?_cons_of_pos (by simpa using h),L5z h];rfl
 .rw[List.find?_cons_of_neg (by simpa using h),M5z h]
theorem mR:∀ {l:List (Str×D)},(bR l n).isSome=true↔n∈l.map (·.1)
 | []=>by simp[bR]
 | q::l=>by
  rw[cX,A4z,H4z]
  by_cases h:q.1=n
  .rw[L5z h];exact⟨fun _=>.inl h.symm,fun _=>rfl⟩
  .rw[M5z h,mR];exact⟨.inr,fun z=>z.resolve_left fun e=>h e.symm⟩
theorem jR:∀ {l:List (Str×D)},bR (cQ l n) x=if x=n then none else bR l x
 | []=>by simp[bR,cQ]
 | q::l=>by
  have ih:=@jR l;unfold cQ at ih ⊢
  by_cases h:q.1=n
  .rw[G0z (by simpa using h),ih,cX]
   by_cases h2:x=n
   .rw[L5z h2,L5z h2]
   .rw[M5z h2,M5z h2,M5z (fun z=>h2 (z.symm.trans h))]
  .rw[H0z (by simpa using h),cX,ih,cX]
   by_cases h2:x=n
   .rw[L5z h2,L5z h2,M5z (fun z=>h (z.trans h2))]
   .rw[M5z h2,M5z h2]
theorem sG:∀ {l:List (Str×D)},bR (l++[(n,t)]) x=match bR l x with
  | some d=>some d
  | none=>if n=x then some t else none
 | []=>by rw[List.nil_append,cX];rfl
 | q::l=>by
  rw[List.cons_append,cX,cX,sG]
  by_cases h:q.1=x
  .rw[L5z h,L5z h]
  .rw[M5z h,M5z h]
theorem Jq:bR (cQ l n++[(n,t)]) x=if x=n then some t else bR l x:=by
 rw[sG,jR]
 by_cases h:x=n
 .rw[L5z h,L5z h,L5z h.symm]
 .rw[M5z h,M5z h]
  cases bR l x with
  | none=>exact M5z fun z=>h z.symm
  | some d=>rfl
theorem zG:∀ {l:List (Str×D)},bR (l.map fun p=>if p.1=n then(p.1,t) else p) x=if x=n then(bR l x).map (fun _=>t) else bR l x
 | []=>by simp[bR]
 | q::l=>by
  rw[A4z,cX,cX,zG]
  by_cases h:q.1=n
  .rw[L5z h]
   by_cases h2:x=n
   .rw[L5z h2,L5z h2,L5z (h.trans h2.symm),L5z (show q.1=x from h.trans h2.symm)];rfl
   .rw[M5z h2,M5z h2,M5z (show ¬ q.1=x from fun z=>h2 (z.symm.trans h)),M5z (show ¬ q.1=x from fun z=>h2 (z.symm.trans h))]
  .rw[M5z h]
   by_cases h2:x=n
   .rw[L5z h2,L5z h2,M5z (fun z=>h (z.trans h2)),M5z (fun z=>h (z.trans h2))]
   .rw[M5z h2,M5z h2]
theorem Ba:(l.any fun p=>decide (p.1=n))=true↔n∈l.map (·.1):=by
 rw[List.any_eq_true,List.mem_map];exact⟨fun⟨q,h1,h2⟩=>⟨q,h1,J2z h2⟩,fun⟨q,h1,h2⟩=>⟨q,h1,U3z h2⟩⟩
theorem Jp:bR (qY l n t) x=if x=n then some t else bR l x:=by
 unfold qY
 by_cases h:(l.any fun p=>decide (p.1=n))=true
 .rw[L5z h,zG]
  by_cases h2:x=n
  .rw[L5z h2,L5z h2]
   have:=mR.mpr (Ba.mp h);rw[h2];obtain⟨d,hd⟩:=Option.isSome_iff_exists.mp this;rw[hd];rfl
  .rw[M5z h2,M5z h2]
 .rw[M5z h,sG]
  by_cases h2:x=n
  .rw[L5z h2]
   have:bR l x=none:=by
    cases q:bR l x with
    | none=>rfl
    | some d=>exact absurd (Ba.mpr (h2▸mR.mp (by rw[q];rfl))) h
   rw[this];exact L5z h2.symm
  .rw[M5z h2]
   cases bR l x with
   | none=>exact M5z fun z=>h2 z.symm
   | some d=>rfl
def Tb(t:D):Prop:=∃ m q f,t=tbl m q f/\1<=m/\m<=4/\1<=q/\q<=4/\okT m q f=true
structure Keys (l:List (Str×D)):Prop where
 nd:(l.map (·.1)).Nodup
 nm:∀ q∈l,q.1∈N4
 tb:∀ q∈l,Tb q.2
theorem Keys.len(h:Keys l):l.length<=4:=by
 have:=yH (pool:=N4) h.nd fun x hx=>by
  obtain⟨q,hq,rfl⟩:=List.mem_map.mp hx;exact h.nm q hq
 rw[E3z] at this;exact this
theorem Fx:∀ {l:List (Str×D)} {d:D},bR l n=some d->(n,d)∈l
 | q::l,d,h=>by
  rw[cX] at h
  by_cases e:q.1=n
  .rw[L5z e] at h
   cases h;rw[<- e];exact I1z ..
  .rw[M5z e] at h
   exact S0z _ (Fx h)
theorem Keys.get(h:Keys l){d:D}(g:bR l n=some d):Tb d:=h.tb _ (Fx g)
theorem Keys.drop(h:Keys l):Keys (cQ l n):=⟨sO h.nd,fun q hq=>h.nm q (List.mem_filter.mp hq).1,fun q hq=>h.tb q (List.mem_filter.mp hq).1⟩
theorem Keys.new(h:Keys l)(hn:n∈N4)(ht:Tb t):Keys (cQ l n++[(n,t)]):=by
 refine⟨Gh h.nd,fun q hq=>?_,fun q hq=>?_⟩
 .rcases List.mem_append.mp hq with hq | hq
  .exact h.drop.nm q hq
  .rw[X1z] at hq;subst hq;exact hn
 .rcases List.mem_append.mp hq with hq | hq
  .exact h.drop.tb q hq
  .rw[X1z] at hq;subst hq;exact ht
theorem Keys.put(h:Keys l)(hn:n∈N4)(ht:Tb t):Keys (qY l n t):=by
 unfold qY
 by_cases g:(l.any fun p=>decide (p.1=n))=true
 .rw[L5z g]
  refine⟨?_,fun q hq=>?_,fun q hq=>?_⟩
  .rw[R4z]
   have:((fun x:Str×D=>x.1)∘fun p:Str×D=>if p.1=n then(p.1,t) else p)=fun p=>p.1:=by
    funext p;show(if p.1=n then(p.1,t) else p).1=p.1
    split<;>rfl
   rw[this];exact h.nd
  .obtain⟨p,hp,rfl⟩:=List.mem_map.mp hq
   split
   .exact h.nm p hp
   .exact h.nm p hp
  .obtain⟨p,hp,rfl⟩:=List.mem_map.mp hq
   split
   .exact ht
   .exact h.tb p hp
 .rw[M5z g]
  refine⟨?_,fun q hq=>?_,fun q hq=>?_⟩
  .rw[O3z,List.nodup_append]
   refine⟨h.nd,by simp,fun a ha b hb z=>?_⟩
   have hb:b=n:=by simpa using hb
   exact g (Ba.mpr (by rw[<- hb,<- z];exact ha))
  .rcases List.mem_append.mp hq with hq | hq
   .exact h.nm q hq
   .rw[X1z] at hq;subst hq;exact hn
  .rcases List.mem_append.mp hq with hq | hq
   .exact h.tb q hq
   .rw[X1z] at hq;subst hq;exact ht
end
theorem DX{f:Str}{ds:List D}:cl f ds=aU T 60 34 f ds:=gD.symm
theorem Gb{f:Str}{ds:List D}:clx f ds=iZ T 60 34 f ds:=jW.symm
theorem Ae{f:Str}{ds:List D}{d:D}(h:aU T 60 34 f ds=some d):clx f ds=none:=by
 rw[Gb,jW];rw[gD] at h
 cases q:aR T 60 34 f ds with
 | none=>rfl
 | some r =>
  rw[q] at h
  cases r with
  | val d=>rfl
  | exc c=>cases h
section
variable {m n:Nat} {f g:Nat->Nat->Int}
theorem gU:okT m n f=true↔m<=4/\n<=4/\∀ i j,i<m->j<n -> -99<=f i j/\f i j<=99:=by
 unfold okT within;rw[U2z,U2z,V1z,V1z,A3z];constructor
 .rintro⟨⟨h1,h2⟩,h3⟩
  refine⟨h1,h2,fun i j hi hj=>?_⟩;have:=A3z.mp (h3 i (List.mem_range.mpr hi)) j (List.mem_range.mpr hj);simpa using this
 .rintro⟨h1,h2,h3⟩
  refine⟨⟨h1,h2⟩,fun i hi=>A3z.mpr fun j hj=>?_⟩;have:=h3 i j (List.mem_range.mp hi) (List.mem_range.mp hj);simpa using this
theorem Fi(h:okT m n f=true):Sm m n f:=fun i j hi hj=>by
 have:=(gU.mp h).2.2 i j hi hj;unfold small;rw[U3z (by omega),U3z (by omega)];rfl
theorem Gu{ns:List Int}{a:Nat}(h1:m<=4)(h2:n<=4):okT m n (Bh ns a)=true:=gU.mpr ⟨h1,h2,fun i j _ _=>by
 have h1:=dB (ns:=ns) (k:=a+1+8*i+j) (many:=6+wu (pickN ns a 4)) (by omega);have h2:=Je (pickN ns a 4);unfold Bh
 omega⟩
end
structure J (i:Nat) (S:Cst) (kv:List (Str×D)):Prop where
 k:Keys kv
 s:Keys S.tabs
 e:∀ n,bR S.tabs n=bR kv n
 d:S.don.length<=i
 u:S.und=[]
section
variable {S:Cst} {n:Str} {w:Str} {kv:List (Str×D)} {i:Nat}
theorem zW{t:D}(ht:Tb t)(hd:S.don.length<1000)(hl:S.tabs.length<1000):doS S w n t=some ⟨qY S.tabs n t,S.don++[jD w n ((bR S.tabs n).getD .non) t],[]⟩:=by
 obtain⟨m,q,f,rfl,_⟩:=ht;unfold doS;rw[L5z (U3z hd)];show(if decide (S.tabs.length<1000) then _ else none)=_;rw[L5z (U3z hl)]
theorem J.put(h:J i S kv){t:D}(hn:n∈N4)(ht:Tb t){x:D}:J (i+1) ⟨qY S.tabs n t,S.don++[x],[]⟩ (cQ kv n++[(n,t)]) :=
 ⟨h.k.new hn ht,h.s.put hn ht,fun y=>by rw[Jp,Jq,h.e],by have:=h.d;simp;omega,rfl⟩
theorem J.same(h:J i S kv):J (i+1) S kv:=⟨h.k,h.s,h.e,Nat.le_succ_of_le h.d,h.u⟩
theorem Xh(hn:n∈N4):jg cl clx S [.str n]=match bR S.tabs n with
  | some d=>some (.inl d)
  | none=>some (.inr "NoName"):=by
 simp only[jg,nd4 hn] <;>
  (cases bR S.tabs n<;>rfl)
def Rn(i:Nat)(S:Cst)(kv:List (Str×D))(dd:D):Prop:=∃ kv' due S',aU T 60 36 "_law_behind" [cW kv,dd]=some (.tup [cW kv',due])/\(∀ p,dF p S dd=some (p,due,S'))/\(dep due<=50/\gA due due=true)/\J (i+1) S' kv'
theorem mU{t:D}(h:Tb t):dep t<=50:=by
 obtain⟨m,q,f,rfl,_⟩:=h;exact L4z zZ (by decide)
theorem uV{t t':D}(h:Tb t)(h':Tb t'):gA t t'=true:=by
 obtain⟨m,q,f,rfl,_⟩:=h;obtain⟨m',q',f',rfl,_⟩:=h';refine fX fun a ha b hb=>?_;obtain⟨i,_,rfl⟩:=uF ha;obtain⟨j,_,rfl⟩:=uF hb;refine fX fun a ha b hb=>?_;obtain⟨i,_,rfl⟩:=uF ha;obtain⟨j,_,rfl⟩:=uF hb;rfl
theorem Lq(h:J i S kv)(hi:i<100)(hn:n∈N4){t:D}(ht:Tb t):Rn i S kv (.tup [.str "put",.str n,t]):=by
 have l1:=h.k.len;have l2:=h.s.len;have l3:=h.d;refine⟨_,_,⟨qY S.tabs n t,S.don++[jD "put" n ((bR S.tabs n).getD .non) t],[]⟩,Oz 35 h.k.nd (by omega),fun p=>?_,⟨by simp[dep],rfl⟩,h.put hn ht⟩;rw[JZ]
 have e:Jd cl clx S [.str n,t]=some (.val (.bl (bR kv n).isSome) ⟨qY S.tabs n t,S.don++[jD "put" n ((bR S.tabs n).getD .non) t],[]⟩):=by
  have it:cl "is_table" [t]=some (.bl true):=by
   obtain⟨m,q,f,rfl,h1,h2,h3,h4,h5⟩:=ht;rw[DX,<- h5];exact is_table 30 h1 (by omega) h3 (by omega)
  simp only[Jd,it,nd4 hn,zW ht (show S.don.length<1000 by omega) (show S.tabs.length<1000 by omega),h.e,I3z]
 rw[e];rfl
theorem no4(h:bR kv n=none)(hJ:J i S kv)(hn:n∈N4):jg cl clx S [.str n]=some (.inr "NoName"):=by
 rw[Xh hn,hJ.e,h]
theorem Kp{t:D}(h:bR kv n=some t)(hJ:J i S kv)(hn:n∈N4):jg cl clx S [.str n]=some (.inl t):=by
 rw[Xh hn,hJ.e,h]
theorem Hj(h:J i S kv)(hi:i<100)(hn:n∈N4):Rn i S kv (.tup [.str "take",.str n]):=by
 have l1:=h.k.len;have l3:=h.d
 cases g:bR kv n with
 | none =>
  refine⟨kv,_,S,Ar 35 h.k.nd (by omega) rfl rfl g,fun p=>?_,⟨by simp[dep],rfl⟩,h.same⟩;rw[uQ]
  have e:lq cl clx S [.str n]=some (.exc "NoName"):=by
   simp only[lq,no4 g h hn]
  rw[e];exact rE
 | some t =>
  refine⟨_,_,⟨cQ S.tabs n,S.don++[jD "take" n ((bR S.tabs n).getD .non) .non],[]⟩,Ka 35 h.k.nd (by omega) g,fun p=>?_,⟨mU (h.k.get g),uV (h.k.get g) (h.k.get g)⟩,⟨h.k.drop,h.s.drop,fun y=>by rw[jR,jR,h.e],by simp;omega,rfl⟩⟩
  rw[uQ]
  have e:lq cl clx S [.str n]=some (.val t ⟨cQ S.tabs n,S.don++[jD "take" n ((bR S.tabs n).getD .non) .non],[]⟩):=by
   simp only[lq,Kp g h hn];unfold doS;rw[L5z (U3z (by omega))];show(if(bR S.tabs n).isSome then some _ else none).map _=_;rw[h.e,g];rfl
  rw[e];rfl
def fnT:Bool->Str
 | true=>"turned"
 | false=>"flipped"
theorem K1{m q:Nat}{f:Nat->Nat->Int}{b:Bool}(h1:1<=m)(h2:m<=4)(h3:1<=q)(h4:q<=4)(h5:okT m q f=true):Tb (trn m q f b):=by
 have h6:=(gU.mp h5).2.2
 cases b with
 | true=>exact⟨q,m,_,rfl,h3,h4,h1,h2,gU.mpr ⟨h4,h2,fun i j hi hj=>h6 j i hj hi⟩⟩
 | false=>exact⟨m,q,_,rfl,h1,h2,h3,h4,gU.mpr ⟨h2,h4,fun i j hi hj=>h6 _ _ (by omega) (by omega)⟩⟩
theorem K3{m q:Nat}{f:Nat->Nat->Int}{b:Bool}(h1:1<=m)(h2:m<=4)(h3:1<=q)(h4:q<=4):aU T 60 34 (fnT b) [tbl m q f]=some (trn m q f b):=by
 cases b with
 | true=>exact turned 29 h1 h2 h3 h4
 | false=>exact flipped 29 h1 h2 h3 h4
theorem xX{b:Bool}(h:J i S kv)(hi:i<100)(hn:n∈N4):Rn i S kv (.tup [.str (wT b),.str n]):=by
 have l1:=h.k.len;have l2:=h.s.len;have l3:=h.d
 have dd:∀ p,dF p S (.tup [.str (wT b),.str n])=tell S ((eX cl clx (fnT b) (wT b) S [.str n]).map fun o=>(p,o)):=fun p=>by
  cases b with
  | true=>exact DP
  | false=>exact DQ
 cases g:bR kv n with
 | none =>
  refine⟨kv,_,S,Ar 35 h.k.nd (by omega) (by cases b<;>rfl) (by cases b<;>rfl) g,fun p=>?_,⟨by simp[dep],rfl⟩,h.same⟩
  rw[dd]
  have e:eX cl clx (fnT b) (wT b) S [.str n]=some (.exc "NoName"):=by
   simp only[eX,no4 g h hn]
  rw[e];exact rE
 | some t =>
  obtain⟨m,q,f,rfl,h1,h2,h3,h4,h5⟩:=h.k.get g;have ht:=K1 (b:=b) h1 h2 h3 h4 h5;have hc:=K3 (f:=f) (b:=b) h1 h2 h3 h4;refine⟨_,_,⟨qY S.tabs n (trn m q f b),S.don++[jD (wT b) n ((bR S.tabs n).getD .non) (trn m q f b)],[]⟩,J9 35 h1 h2 h3 h4 h.k.nd (by omega) g,fun p=>?_,⟨mU ht,uV ht ht⟩,h.put hn ht⟩;rw[dd]
  have e:eX cl clx (fnT b) (wT b) S [.str n]=some (.val (trn m q f b) ⟨qY S.tabs n (trn m q f b),S.don++[jD (wT b) n ((bR S.tabs n).getD .non) (trn m q f b)],[]⟩):=by
   simp only[eX,Kp g h hn,doF,Ae hc];rw[DX,hc];simp only[zW ht (show S.don.length<1000 by omega) (show S.tabs.length<1000 by omega),I3z]
  rw[e];rfl
theorem Hl{a b:Str}{v:Nat}(h:J i S kv)(hi:i<100)(hn:n∈N4)(ha:a∈N4)(hb:b∈N4)(hv:v<4):Rn i S kv (.tup [.str "join",.str n,.str (wdN v),.str a,.str b]):=by
 have l1:=h.k.len;have l2:=h.s.len;have l3:=h.d
 have none_case:bR kv a=none\/bR kv b=none->Rn i S kv (.tup [.str "join",.str n,.str (wdN v),.str a,.str b]):=fun g=>by
  refine⟨kv,_,S,OD 35 h.k.nd (by omega) g,fun p=>?_,⟨by simp[dep],rfl⟩,h.same⟩;rw[ou]
  have e:lY cl clx S [.str n,.str (wdN v),.str a,.str b]=some (.exc "NoName"):=by
   cases ga:bR kv a with
   | none=>simp only[lY,nd4 hn,no4 ga h ha]
   | some x=>simp only[lY,nd4 hn,Kp ga h ha,no4 (g.resolve_left (by rw[ga];simp)) h hb]
  rw[e];exact rE
 cases ga:bR kv a with
 | none=>exact none_case (.inl ga)
 | some x =>
  cases gb:bR kv b with
  | none=>exact none_case (.inr gb)
  | some y =>
   obtain⟨m,q,f,rfl,h1,h2,h3,h4,h5⟩:=h.k.get ga;obtain⟨m',q',f',rfl,g1,g2,g3,g4,g5⟩:=h.k.get gb;have lm:=Df 30 (g:=f') hv h1 h2 h3 h4 g1 g2 g3 g4 (Fi h5)
   have ej:lY cl clx S [.str n,.str (wdN v),.str a,.str b]=jw cl clx S (.str n) (tbl m q f) (tbl m' q' f') (.str (wdN v)):=by
    simp only[lY,nd4 hn,Kp ga h ha,Kp gb h hb]
   have nofit:(Fz v m q m' q'&&okT (jM v m m') (jN v q q') (jF v m q f f'))=false->jw cl clx S (.str n) (tbl m q f) (tbl m' q' f') (.str (wdN v))=some (.exc "NoFit")->Rn i S kv (.tup [.str "join",.str n,.str (wdN v),.str a,.str b]):=fun e1 e2=>by
    rw[e1] at lm;refine⟨kv,_,S,OJ 35 h.k.nd (by omega) ga gb lm,fun p=>?_,⟨by simp[dep],rfl⟩,h.same⟩;rw[ou,ej,e2];exact Gs
   by_cases sz:Fz v m q m' q'=true/\jM v m m'<=4/\jN v q q'<=4
   .obtain⟨z1,z2,z3⟩:=sz
    have jo:=yZ 26 (g:=f') hv h1 h2 h3 h4 g1 g2 g3 g4 (Fi h5) z1 z2 z3
    have k1:1<=jM v m m':=by unfold jM;split<;>omega
    have k3:1<=jN v q q':=by unfold jN;split<;>omega
    have it:cl "is_table" [tbl (jM v m m') (jN v q q') (jF v m q f f')]=some (.bl (okT (jM v m m') (jN v q q') (jF v m q f f'))):=by
     rw[DX];exact is_table 30 k1 (by omega) k3 (by omega)
    have cj:cl "joined" [.str (wdN v),tbl m q f,tbl m' q' f']=some (tbl (jM v m m') (jN v q q') (jF v m q f f')):=by rw[DX];exact jo
    cases ok:okT (jM v m m') (jN v q q') (jF v m q f f') with
    | false =>
     rw[ok] at it;exact nofit (by rw[ok,X3z]) (by simp only[jw,Ae jo,cj,it])
    | true =>
     rw[ok] at it;have ht:Tb (tbl (jM v m m') (jN v q q') (jF v m q f f')):=⟨_,_,_,rfl,k1,z2,k3,z3,ok⟩;rw[z1,ok] at lm;refine⟨_,_,⟨qY S.tabs n (tbl (jM v m m') (jN v q q') (jF v m q f f')),S.don++[jD "join" n ((bR S.tabs n).getD .non) (tbl (jM v m m') (jN v q q') (jF v m q f f'))],[]⟩,Kc 35 h.k.nd (by omega) ga gb lm,fun p=>?_,⟨mU ht,uV ht ht⟩,h.put hn ht⟩;rw[ou,ej]
     have e:jw cl clx S (.str n) (tbl m q f) (tbl m' q' f') (.str (wdN v))=some (.val (tbl (jM v m m') (jN v q q') (jF v m q f f')) ⟨qY S.tabs n (tbl (jM v m m') (jN v q q') (jF v m q f f')),S.don++[jD "join" n ((bR S.tabs n).getD .non) (tbl (jM v m m') (jN v q q') (jF v m q f f'))],[]⟩):=by
      simp only[jw,Ae jo,cj,it,zW ht (show S.don.length<1000 by omega) (show S.tabs.length<1000 by omega),I3z]
     rw[e];rfl
   .have hno:Fz v m q m' q'=false\/4<jM v m m'\/4<jN v q q':=by
     cases z:Fz v m q m' q' with
     | false=>exact .inl rfl
     | true =>
      right
      by_cases z2:jM v m m'<=4
      .exact .inr (Nat.lt_of_not_le fun z3=>sz ⟨z,z2,z3⟩)
      .exact .inl (Nat.lt_of_not_le z2)
    have jn:=zc 26 (f:=f) (g:=f') hv h1 h2 h3 h4 g1 g2 g3 g4 hno;refine nofit ?_ ?_
    .rcases hno with z | z | z
     .rw[z];rfl
     .rw[R0z]
      right
      cases ok:okT (jM v m m') (jN v q q') (jF v m q f f') with
      | false=>rfl
      | true=>exact absurd (gU.mp ok).1 (by omega)
     .rw[R0z]
      right
      cases ok:okT (jM v m m') (jN v q q') (jF v m q f f') with
      | false=>rfl
      | true=>exact absurd (gU.mp ok).2.1 (by omega)
    .have:clx "joined" [.str (wdN v),tbl m q f,tbl m' q' f']=some ("NoFit":Str):=by rw[Gb];exact jn.1
     simp only[jw,this]
theorem Lr(h:J i S kv)(hi:i<100){ns:List Int}{a:Nat}:Rn i S kv (oF ns a):=by
 unfold oF;have p2:pickN ns (a+2) 3<3:=dB (by omega);have p3:pickN ns (a+3) 3<3:=dB (by omega);split
 .exact Lq h hi rO ⟨_,_,_,rfl,by omega,by omega,by omega,by omega,Gu (by omega) (by omega)⟩
 .split
  .rename_i h3 h6
   have:∀ j,j<3->Rn i S kv (.tup [.str (tkN j),.str (nmN (pickN ns a 4))]):=fun j hj=>by
    match j,hj with
    | 0,_=>exact Hj h hi rO
    | 1,_=>exact xX (b:=true) h hi rO
    | 2,_=>exact xX (b:=false) h hi rO
   exact this _ (by omega)
  .exact Hl h hi rO rO rO (dB (by omega))
end
abbrev bdy:List Stmt:=(bf (top 57)).body
abbrev lSc:Scope:=(bf (top 57)).sc
def LW:LawT where
 cn:="_law_case"
 kn:="_law_known"
 fn:="_law_did"
 an:="_law_all_of"
 tg:=.Name "_law_k" ⟨286,8,286,14⟩
 iter:=.Call (.Name "range" ⟨286,18,286,23⟩) [.Constant (.int 16) 0 ⟨286,24,286,26⟩] [] ⟨286,18,286,27⟩
 e1:=.Name "_law_case" ⟨289,20,289,29⟩
 e2:=.Name "_law_deed_here" ⟨289,31,289,45⟩
 e3:=.Name "_law_due" ⟨289,50,289,58⟩
 e4:=.Name "_law_case" ⟨289,74,289,83⟩
 e5:=.Name "_law_known" ⟨289,88,289,98⟩
 e6:=.Call (.Attribute (.Name "_law_case" ⟨289,102,289,111⟩) "names" ⟨289,102,289,117⟩) [] [] ⟨289,102,289,119⟩
 e7:=.Call (.Name "sorted" ⟨289,123,289,129⟩) [.Name "_law_known" ⟨289,130,289,140⟩] [] ⟨289,123,289,141⟩
 e8:=.Call (.Attribute (.Name "_law_case" ⟨291,11,291,20⟩) "counts" ⟨291,11,291,27⟩) [] [] ⟨291,11,291,29⟩
 e9:=.Constant (.int 1) 0 ⟨291,30,291,31⟩
 ez:=.Constant (.int 0) 0 ⟨291,36,291,37⟩
 s1:=(zJ (bdy.getD 1 pss)).getD 0 pss
 s2:=(zJ (bdy.getD 1 pss)).getD 1 pss
 bd:=ifA ((zJ (bdy.getD 1 pss)).getD 2 pss)
 kt:=0
 k2:=0
 q1:=⟨289,11,289,19⟩
 q2:=⟨289,11,289,46⟩
 q3:=⟨289,11,289,58⟩
 q4:=⟨289,62,289,73⟩
 q5:=⟨289,62,289,84⟩
 q6:=⟨289,62,289,98⟩
 q7:=⟨289,102,289,141⟩
 q8:=⟨289,11,289,141⟩
 q9:=⟨289,8,290,24⟩
 r1:=⟨285,4,285,13⟩
 r2:=⟨285,15,285,25⟩
 r3:=⟨285,4,285,25⟩
 r4:=⟨285,29,285,33⟩
 r5:=⟨285,29,285,35⟩
 r6:=⟨285,37,285,39⟩
 r7:=⟨285,28,285,40⟩
 r8:=⟨285,4,285,40⟩
 r9:=⟨286,4,290,24⟩
 t1:=⟨291,11,291,32⟩
 t2:=⟨291,11,291,37⟩
 t3:=⟨291,4,291,37⟩
theorem J7:bdy=LW.body:=by rfl'
def RW(ns:List Int)(p:Addr)(kn:D)(s3 s4 s5:Sl):Rho:=[("_law_script",.sh (scr ns)),("_law_case",.sh (.obj p)),("_law_known",.sh kn),("_law_k",s3),("_law_deed_here",s4),("_law_due",s5)]
theorem lawF(ns:List Int):LawF cx0 60 lSc (bf (top 57)).N LW (RW ns) where
 nm:=fun _ _ _ _ _=>by rfl'
 bind:=fun _ _ _ _ _ _=>by rfl'
 e1:=fun _ _ _ _ _=>by rfl'
 e2:=fun _ _ _ _ _=>by rfl'
 e3:=fun _ _ _ _ _=>by rfl'
 e4:=fun _ _ _ _ _=>by rfl'
 e5:=fun _ _ _ _ _=>by rfl'
 e6:=fun _ _ _ _ _=>by rfl'
 e8:=fun _ _ _ _ _=>by rfl'
 e9:=fun _ _ _ _ _=>by rfl'
 ez:=fun _ _ _ _ _=>by rfl'
abbrev aF:Cst->List D->Option (Sum D Str):=PB cl clx
section
variable {S:Cst} {kv:List (Str×D)} {i:Nat}
theorem Wt(h:J i S kv):N4.filter (S.tabs.map (·.1)).contains=N4.filter (kv.map (·.1)).contains:=by
 refine List.filter_congr fun x _=>?_;rw[Bool.eq_iff_iff,List.contains_iff_mem,List.contains_iff_mem,<- mR,<- mR,h.e]
theorem Keys.srt{l:List (Str×D)}(h:Keys l):Bj (l.map (·.1))=some (N4.filter (l.map (·.1)).contains)/\(N4.filter (l.map (·.1)).contains).length=l.length:=by
 have:=Z1 h.nd fun x hx=>by
  obtain⟨q,hq,rfl⟩:=List.mem_map.mp hx;exact h.nm q hq
 rw[E3z] at this;exact this
def nms(kv:List (Str×D)):List Str:=N4.filter (kv.map (·.1)).contains
theorem uD(h:J i S kv):fu S []=some (.inl (.lst ((nms kv).map .str))):=by
 have l:=h.s.len;have e:decide (S.tabs.length<64)=true:=U3z (by omega);simp only[fu,e,K5z,h.s.srt.1,I3z];rw[Wt h];rfl
theorem strs_map:∀ {l:List Str},pJ (l.map Sum.inr)=some l
 | []=>rfl
 | x::l=>by
  show(pJ (l.map Sum.inr)).map _=_;rw[strs_map];rfl
theorem xK(h:J i S kv):blt "sorted" [cW kv]=some (.lst ((nms kv).map .str)):=by
 have l:=h.k.len;show((pJ (kv.map fun q=>(Sum.inr q.1:Sum Int Str))).bind fun l=>if decide (l.length<64) then Bj l else none).map (fun l=>D.lst (l.map .str))=_
 have e:(kv.map fun q=>(Sum.inr q.1:Sum Int Str))=(kv.map (·.1)).map Sum.inr:=by rw[R4z];rfl
 rw[e,strs_map];show(if decide ((kv.map (·.1)).length<64) then Bj (kv.map (·.1)) else none).map _=_;rw[L5z (U3z (by rw[E3z];omega)),h.k.srt.1];rfl
theorem DR{l:List Str}:dep (.lst (l.map .str))<=50:=by
 simp only[dep]
 have:=lN (b:=0) (l:=l.map D.str) fun d hd=>by
  obtain⟨i,_,rfl⟩:=List.mem_map.mp hd;simp[dep]
 omega
def vl(kv:List (Str×D))(n:Str):D:=(bR kv n).getD .non
theorem uy{n:Str}(h:n∈nms kv):n∈N4/\bR kv n=some (vl kv n):=by
 obtain⟨h1,h2⟩:=List.mem_filter.mp h;refine⟨h1,?_⟩;have:=mR.mpr (List.contains_iff_mem.mp h2);obtain⟨d,hd⟩:=Option.isSome_iff_exists.mp this;unfold vl;rw[hd];rfl
theorem Nh:(nms kv).Nodup:=List.Nodup.sublist List.filter_sublist (by decide +kernel)
def alK(kv:List (Str×D)):List (Str×D):=(nms kv).map fun n=>(n,vl kv n)
theorem O4(h:J i S kv):aF S []=some (.inl (cW (alK kv))):=by
 have l:=h.k.len;have hl:(nms kv).length=kv.length:=h.k.srt.2;have e1:szl ((nms kv).map D.str).length=true:=Ek (by rw[E3z];omega)
 have e2:bQ (fun d=>(K5 cl clx S d).map some) ((nms kv).map .str)=some (prK (alK kv)):=by
  unfold prK alK;rw[R4z];refine qD fun n hn=>?_;obtain⟨h1,h2⟩:=uy hn;simp only[K5,Kp h2 h h1,I3z];rfl
 have e3:(alK kv).map (·.1)=nms kv:=by
  unfold alK;rw[R4z];exact Y4z _
 simp only[aF,PB,uD h,e1,K5z,e2,X2z,yu,I3z];rw[Zd (by rw[e3];exact Nh)];unfold sX cW;rw[R4z,R4z];rfl
theorem WX(h:J i S kv):vW ((alK kv).map fun q=>.inr q.1) ((alK kv).map (·.2)) (kv.map fun q=>.inr q.1) (kv.map (·.2))=true:=by
 have hl:(nms kv).length=kv.length:=h.k.srt.2;unfold vW;rw[E3z,E3z,show(alK kv).length=kv.length by unfold alK;rw[E3z,hl]]
 have key:∀ (l:List Str),(∀ n∈l,n∈nms kv)->sY (kv.map fun q=>.inr q.1) (kv.map (·.2)) ((l.map fun n=>(n,vl kv n)).map fun q=>.inr q.1) ((l.map fun n=>(n,vl kv n)).map (·.2))=true:=by
  intro l
  induction l with
  | nil=>intro _;rfl
  | cons n l ih =>
   intro hn;obtain⟨h1,h2⟩:=uy (hn n (I1z ..));have:=mU (h.k.get h2)
   show((match j4 (kv.map fun q=>.inr q.1) (kv.map (·.2)) (.inr n) with
    | some d'=>deq (vl kv n) d'
    | none=>false)&&sY _ _ _ _)=true
   rw[Pr,h2,ih fun x hx=>hn x (S0z _ hx)];show(deq (vl kv n) (vl kv n)&&true)=true;rw[jU _ (by omega)];rfl
 rw[show((alK kv).map fun q=>(Sum.inr q.1:Sum Int Str))=((nms kv).map fun n=>(n,vl kv n)).map fun q=>.inr q.1 from rfl];rw[show(alK kv).map (·.2)=((nms kv).map fun n=>(n,vl kv n)).map (·.2) from rfl,key _ fun n hn=>hn];simp
theorem O5(h:J i S kv):∀ d∈(alK kv).map (·.2),dep d<=50:=fun d hd=>by
 obtain⟨q,hq,rfl⟩:=List.mem_map.mp hd;obtain⟨n,hn,rfl⟩:=List.mem_map.mp hq;exact mU (h.k.get (uy hn).2)
theorem Nv(h:J i S kv):∀ d∈kv.map (·.2),dep d<=50:=fun d hd=>by
 obtain⟨q,hq,rfl⟩:=List.mem_map.mp hd;exact mU (h.k.tb q hq)
theorem Qa(h:J i S kv):∀ d∈(alK kv).map (·.2),∀ d'∈kv.map (·.2),gA d d'=true:=fun d hd d' hd'=>by
 obtain⟨q,hq,rfl⟩:=List.mem_map.mp hd;obtain⟨n,hn,rfl⟩:=List.mem_map.mp hq;obtain⟨q,hq,rfl⟩:=List.mem_map.mp hd';exact uV (h.k.get (uy hn).2) (h.k.tb q hq)
theorem rnd(ns:List Int)(h:J i S kv)(hi:i<16):∃ S' kv',Rnd cx0 60 lSc LW (RW ns) dF aF S (cW kv) (i:Int) S' (cW kv')/\J (i+1) S' kv':=by
 obtain⟨kv',due,S',h1,h2,h3,h4⟩:=Lr (ns:=ns) (a:=1000+60*i) h (by omega)
 refine⟨S',kv',⟨oF ns (1000+60*i),due,due,_,_,_,_,_,_,fun p s4 s5 c4 c5=>?_,h2,Xn h3.1 h3.2,O4 h4,rfl,WX h4,O5 h4,Nv h4,Qa h4,uD h4,fun p=>?_,Xn DR (fX fun a ha b hb=>by
  obtain⟨_,_,rfl⟩:=List.mem_map.mp ha;obtain⟨_,_,rfl⟩:=List.mem_map.mp hb
  rfl)⟩,h4⟩
 .have nw:∀ {s:Sl},g8 s=true->nOw s=true:=fun {s} h=>by cases s<;>first | rfl | simp[g8] at h
  have c:jK (RW ns p (cW kv) (.sh (.int i)) s4 s5)=true:=fC rfl (fC rfl (fC rfl (fC rfl (fC (nw c4) (fC (nw c5) rfl)))));have d0:aU T 60 36 "_law_deed" [scr ns,.int ((1000+60*i:Nat):Int)]=some (oF ns (1000+60*i)):=deed 32;have c2:jK (RW ns p (cW kv) (.sh (.int i)) (.sh (oF ns (1000+60*i))) s5)=true:=fC rfl (fC rfl (fC rfl (fC rfl (fC rfl (fC (nw c5) rfl)))));have:=Al (cx:=cxN T 60 36) (F:=60) (m:=59) (sc:=lSc) (r:=[LW.s2]) (fl:=.nxt (RW ns p (cW kv') (.sh (.int i)) (.sh (oF ns (1000+60*i))) (.sh due))) (nm:="_law_deed_here") (px:=⟨287,8,287,22⟩) (p:=⟨287,8,287,67⟩) (d:=oF ns (1000+60*i)) (e:=Xk LW.s1) c rfl rfl (aY rfl (aK (xName rfl) (aK (lV (d':=.int ((1000+60*i:Nat):Int)) (eE (wG rfl) (eE (wG rfl) (xName rfl) (Ge (.inl (by decide)))) rfl) (congrArg D.int (by omega))) dG)) d0) (cTup (l:=[cW kv',due]) c2 rfl (aY rfl (aK (xName rfl) (aK (xName rfl) dG)) h1) rfl rfl rfl);rw[<- Aa] at this;exact this
 .show ev (T.cx (aR T 60 36)) 60 lSc _ _=_
  rw[Aa];exact jf rfl rfl rfl (aK (xName rfl) dG) (xK h4)
end
theorem Dd(ns:List Int)(hl:ns.length<=63):∃ (R:Addr->D->Sl->Sl->Sl->Rho) (s3 s4 s5:Sl) (Jv:Nat->Cst->D->Prop),g8 s4=true/\g8 s5=true/\LawF cx0 60 lSc (bf (top 57)).N LW R/\(∀ p,fG (fG (bw (bf (top 57)) [.lst (ns.map D.int)]) LW.cn (.sh (.obj p))) LW.kn (.sh (.dic [] []))=R p (.dic [] []) s3 s4 s5) /\
   (∀ p,evI cx0 (dX LW.tg) (ev cx0 60 lSc (R p (.dic [] []) s3 s4 s5)) lSc LW.iter=some (dW 0 16))/\Jv 0 ⟨[],[],[]⟩ (.dic [] [])/\(∀ i:Nat,i<16->∀ S kn,Jv i S kn->∃ S' kn',Rnd cx0 60 lSc LW R dF aF S kn i S' kn'/\Jv (i+1) S' kn')/\∀ S kn,Jv 16 S kn->S.und=[]:=by
 refine⟨RW ns,.no,.no,.no,fun i S kn=>∃ kv,kn=cW kv/\J i S kv,rfl,rfl,lawF ns,fun p=>by rfl',fun p=>by rfl',⟨[],rfl,⟨⟨.nil,(fun q h=>nomatch h),(fun q h=>nomatch h)⟩,⟨.nil,(fun q h=>nomatch h),(fun q h=>nomatch h)⟩,fun n=>rfl,T4z _,rfl⟩⟩,fun i hi S kn h=>?_,fun S kn h=>?_⟩
 .obtain⟨kv,rfl,h⟩:=h
  obtain⟨S',kv',h1,h2⟩:=rnd ns h hi;exact⟨S',cW kv',h1,kv',rfl,h2⟩
 .obtain⟨kv,rfl,h⟩:=h
  exact h.u
theorem Eh:T.defs.lookup ("_law_told":Str)=some (bf (top 51)):=by rfl'
theorem W0:T.defs.lookup ("_law_class":Str)=some (bf (top 50)):=by rfl'
theorem W7:T.defs.lookup ("_law_all_of":Str)=some (bf (top 56)):=by rfl'
section
variable {P:Program} {w:World} {K:Z3} {mg:Str->Option Value}
theorem K4(TX:Text w K mg T):mY P w K mg 37 T.exs LP.cv LP.tn :=
 wV (F:=60) (dn:="_law_deed_here") (n:="e") TX Eh W0 rfl (by rfl') (by rfl') (by rfl') (by rfl') (by rfl') (by rfl') (by rfl') (by rfl') (by rfl') (by rfl') (by omega)
theorem Gq(TX:Text w K mg T):wj P w K mg 37 LP.tn:=Bt (dn:="_law_deed_here") (n:="e") TX Eh rfl (by rfl') (by rfl') (by rfl') (by rfl')
def rA(p:Addr)(d:D):Rho:=[(".0",.no),("_law_name",.sh d),("_law_case",.sh (.obj p))]
theorem W8{C:Addr}(TX:Text w K mg T)(Y:CaseTxt K mg C)(base:Heap):∃ a g ps,mg "_law_all_of"=some (.ref a)/\W.keepIn K (.ref a)=true/\Binds K g ps []/\FnOk P w K mg base (CX1 P w) 40 a g ps (spR K C 0 aF):=by
 have FA:=TX.fns "_law_all_of" (bf (top 56)) W7;obtain⟨nm,t,a,g,m1,m2,m3,m4,m5⟩:=FA.ex;have GN:=ju (WL (P:=P) TX Y) (show 1<=36 by omega);have GT:=ju (Zi (P:=P) TX Y) (show 35<=36 by omega);refine⟨a,g,(bf (top 56)).ps,m1,m2.kp,m3,(Bb (k:=36) (F:=60) (fd:=bf (top 56)) (U1:=rA) TX m2 (m4.symm.trans (show(bf (top 56)).body=_ from rfl)) m5 FA.fs rfl (by rfl') (TX.blt "dict" "dict" (by rfl')).1 (by rfl') Y.t.cl GN GT (fun p=>by rfl') (fun p d=>by rfl') (fun p d=>by rfl') (fun p d=>by rfl')).mono (by omega)⟩
theorem finL{l:W.OpenLaw}{h:Heap}{fa C fI:Addr}{fdI:FuncData}(TX:Text w K mg T)(Y:CaseTxt K mg C)(MK:Mk K C fI)(FI:Fun K "__init__" "Case.__init__" G9 fI fdI)(X:K.In h)(G:h.Ns mainGlobals mg)(hfa:mg "law"=some (.ref fa))(f c fD cD Pt:Addr)(dc pm dcD pmD:Value)(a:W.nsIn K mainGlobals "law"=some (some (.ref f)))
  (lk:K.lookup f=some ⟨.type "function",none,.func (W.fnOf "law" "law" (bM (top 57)) (aL (top 57)) (ao (top 57)) .none .none dc pm none (.ref c) .none),#[]⟩) (cd:W.codeIn K (.ref c) "law"=true)
  (aD:W.nsIn K mainGlobals "_law_did"=some (some (.ref fD))) (lkD:K.lookup fD=some ⟨.type "function",none,.func (W.fnOf "_law_did" "_law_did" (bM (top 55)) (aL (top 55)) (ao (top 55)) .none .none dcD pmD none (.ref cD) .none),#[]⟩) (cdD:W.codeIn K (.ref cD) "_law_did"=true) (kD:W.keepIn K (.ref fD)=true) :
  ∃ fd:FuncData,(∀ (s:Shared) (v:Value),BindsTo s fd ⟨[v],[]⟩ [("_law_script",v)])/\∀ base:Heap,K.In base->base.Ns mainGlobals mg->W.CodeHd base cD Pt->base.BuiltinsAt mg Pt->FnOk l.prog w K mg base CX0 41 fa fd ["_law_script"] (tX K Pt):=by
 have e:=hfa.symm.trans (I4z X G a);cases e;refine⟨_,fun s v=>.of_eq (b57 .none dc pm none (.ref c) .none [v] rfl),fun base _ _ hC hbm=>?_⟩;have DD:=Oh (P:=l.prog) (k:=36) (F:=60) (fd:=bf (top 55)) (t:=top 55) (L:=LP) (ms:=ms) (base:=base) (Pt:=Pt) (qn:="_law_did.<locals>.<lambda>") TX lkD cdD rfl rfl (Jw (by decide +kernel)) rfl hC hbm (K4 TX) (Gq TX) (Ou TX Y) (fun n a=>by rfl');exact Jg (k:=36) (F:=60) (fd:=bf (top 57)) (t:=top 57) (L:=LW) (dF:=dF) (aF:=aF) TX lk cd J7 rfl (Jw (by decide +kernel)) rfl Y.t.cl ⟨by rfl',by rfl'⟩ ⟨fD,_,_,I4z X G aD,kD,(fun_mk lkD cdD kD).binds b55,DD⟩ ⟨by rfl',by rfl'⟩ (W8 TX Y base) ⟨_,ju (WL TX Y) (by omega)⟩ ⟨_,ju (Zk TX Y) (by omega)⟩ Y.t.mgC (by rfl') MK (FI.binds fun _ _ _ _ _ _ us hl=>by obtain⟨_,rfl⟩:=len1 hl;rfl) (Ir FI Y.t) (by rfl') (by rfl') (by rfl') Dd
end
end M81
noncomputable section
namespace HS
open PySem PySem.W
theorem goT{p:Program}{w:World}{m:Nat}{a:Option Value}{n:Nat}{x y:Shared}{u:Thread}{c:Code}{o:Pos}{l:List Frame}(h:Fast.tw15667345088766844465 Fast.tw14364793385576792824 p w m a n x u=some (y,⟨Fast.tw11892475500146522536 Fast.tw14364793385576792824 c,c,o,l⟩)):topGo treeTable p w m a n x u=some (y,⟨denote treeTable c,c,o,l⟩):=by
 rw[Fast.te15667345088766844465,B0z,Fast.te11892475500146522536];exact h
theorem Z2{p:Program}{w:World}{m:Nat}{a:Option Value}{k n:Nat}{x:Shared}{u:Thread}{y:Option (Flow×Shared×Code×Pos)}(h:Fast.tw14374325043358763698 Fast.tw14364793385576792824 p w m a k n x u=y):segRun treeTable p w m a k n x u=y:=by
 rw[Fast.te14374325043358763698,B0z];exact h
theorem vC{p:Program}{w:World}{m:Nat}{a:Option Value}{k n:Nat}{x:SharedT}{u:Thread}{y:Option (Flow×SharedT×Code×Pos)}(h:Fast.tw10110043849684766642 Fast.tw14364793385576792824 p w m a k n x u=y):segRunT treeTable p w m a k n x u=y:=by
 rw[Fast.te10110043849684766642,B0z];exact h
theorem ZF{p:Program}{w:World}{m:Nat}{a:Option Value}{n:Nat}{x:Shared}{u:Thread}{y:Option Shared}(h:Fast.tw14082659384304107361 Fast.tw14364793385576792824 p w m a n x u=y):topRun treeTable p w m a n x u=y:=by
 rw[Fast.te14082659384304107361,B0z];exact h
theorem QD{p:Program}{w:World}{m:Nat}{a:Option Value}{n:Nat}{x:Shared}{b l:List Stmt}{E:Env}{c:Code}{o:Pos}{B:List Frame}{y:Option Shared}(e:b=l)(h:topRun treeTable p w m a n x (restOf l E c o B)=y):topRun treeTable p w m a n x (restOf b E c o B)=y:=by
 rw[e];exact h
end HS
namespace H81
open PySem PySem.W HS
noncomputable abbrev p:Program:=PySem.Challenge.pw_minortables_k81_whole_cases
abbrev q:Program:=W.view p [0,2,3,4,5,6,7,8,9,10,12,13,14,15,16,17,18,19,20,21,23,24,25,26,27,28,29,30,31,32,33,34,36,37,39,40,41,42,43,44,46,47,48,49,50,51,52,53,54,55,56,57]
abbrev N:Nat:=7628
abbrev lo:List Str:=[]
abbrev z:Value:=.none
noncomputable abbrev r(a:Nat):Value:=.ref a
noncomputable abbrev i(a:Int)(n:Nat):Value:=.int a n
abbrev s(x:Str)(n:Nat):Value:=.str x n
abbrev t(x:String):Value:=.type x
abbrev b(x:String):Value:=.builtin x
abbrev e(P:Params)(x:Str)(n:Nat)(v:Value):DictEntry:=⟨PyData.keyHash P x,.str x n,v⟩
def d(j:Nat):Stmt:=p.main.body.getD j (.Pass ⟨0,0,0,0⟩)
def m(j k:Nat):Stmt:=match d j with | .ClassDef _ _ _ l .. =>l.getD k (.Pass ⟨0,0,0,0⟩) | x=>x
def f(x:Stmt)(qn:Str)(g:Nat)(dV kV dc pm cd ct:Value):FuncData:=match x with | .FunctionDef n a l _ _ _ sc .. =>⟨n,qn,a,.stmts l,sc,g,[],dV,kV,dc,pm,none,cd,ct,0⟩ | _=>default
def y:Obj:=⟨.type "tuple",none,.seq #[] 0,#[]⟩
noncomputable def x:Obj:=⟨.none,none,.fields #[],#[]⟩
noncomputable def tnV:List Str->Nat->List Value | [],_=>[] | a::l,k=>.str a k::tnV l (k+1)
def tn(l:List Str)(k:Nat):Obj:=⟨.type "tuple",none,.seq (tnV l k).toArray 0,#[]⟩
def g(a:Stmt)(n:Str):Obj:=⟨.none,none,.func (f a n 0 z z z z z z),#[]⟩
def u(a:Stmt)(n:Str)(pm:Value)(c:Nat):Obj:=⟨.type "function",none,.func (f a n 3 z z z pm (r c) z),#[]⟩
def c(n:Str)(k:Nat)(l a fl:Int)(q:Nat)(bb:Bool)(h:Int)(q':Nat)(v w v':Value)(k':Nat):Obj:=⟨.type "code",none,.fields #[s n k,s n (k+1),s "/claim/cut.py" (k+2),i l 0,i a 0,i 0 0,i 0 0,i fl 0,r q,.bool bb,i h 0,r q',z,v,w,v',i k' 0,i l 0,s "/claim/cut.py" (k'+1)],#[]⟩
def c2(n m:Str)(k:Nat)(l a fl:Int)(q:Nat)(bb:Bool)(h:Int)(q':Nat)(v w v':Value)(k':Nat):Obj:=⟨.type "code",none,.fields #[s n k,s m (k+1),s "/claim/cut.py" (k+2),i l 0,i a 0,i 0 0,i 0 0,i fl 0,r q,.bool bb,i h 0,r q',z,v,w,v',i k' 0,i l 0,s "/claim/cut.py" (k'+1)],#[]⟩
def I(t:BT):Nat->List Obj->BT | _,[]=>t | n,o::l=>I (t.ins n o) (n+1) l
def es(P:Params):List DictEntry:=[e P "__doc__" 166 z,
 e P "__package__" 167 z,
 e P "__loader__" 168 (b "__main__.__loader__#opaque"),
 e P "__spec__" 169 z,
 e P "__annotations__" 170 (r 6),
 e P "__builtins__" 171 (r 4),
 e P "__file__" 173 (s "/claim/cut.py" 172),
 e P "__cached__" 174 z,
 e P "_wall" 193 (r 21),
 e P "MinorError" 213 (r 31),
 e P "NoTable" 229 (r 44),
 e P "NoFit" 245 (r 56),
 e P "NoPlace" 261 (r 68),
 e P "NoStep" 277 (r 80),
 e P "NoSteps" 293 (r 92),
 e P "NoText" 309 (r 104),
 e P "NoName" 325 (r 116),
 e P "NoBack" 341 (r 128),
 e P "MOST_LINES" 345 (i 4 344),
 e P "is_whole" 352 (r 137),
 e P "is_whole_within" 361 (r 144),
 e P "is_short_tuple" 368 (r 151),
 e P "has_lines" 374 (r 156),
 e P "numbers_of" 383 (r 163),
 e P "has_table_form" 389 (r 168),
 e P "need_table" 396 (r 175),
 e P "need_same_size" 404 (r 182),
 e P "need_size" 412 (r 189),
 e P "MOST_NUMBER" 416 (i 99 415),
 e P "is_small_row" 422 (r 194),
 e P "is_table" 428 (r 199),
 e P "column_of" 434 (r 204),
 e P "columns_of" 440 (r 209),
 e P "turned" 447 (r 216),
 e P "flipped" 453 (r 221),
 e P "row_by_column" 459 (r 226),
 e P "row_by_columns" 465 (r 231),
 e P "times" 471 (r 236),
 e P "row_plus" 477 (r 241),
 e P "plus" 483 (r 246),
 e P "set_below" 493 (r 253),
 e P "set_beside" 501 (r 260),
 e P "LETTERS" 505 (s "abcdefghijklmnopqrstuvwxyz" 504),
 e P "MOST_LETTERS" 507 (i 4 506),
 e P "is_name" 513 (r 265),
 e P "need_name" 520 (r 272),
 e P "joined" 529 (r 279),
 e P "Case" 681 (r 394),
 e P "_law_cell" 691 (r 405),
 e P "_law_pick" 701 (r 412),
 e P "_law_table" 707 (r 417),
 e P "_law_times" 721 (r 424),
 e P "_law_class" 730 (r 431),
 e P "_law_told" 738 (r 438),
 e P "_law_deed" 752 (r 445),
 e P "_law_made" 758 (r 450),
 e P "_law_behind" 764 (r 455),
 e P "_law_did" 774 (r 462),
 e P "_law_all_of" 780 (r 467),
 e P "law" 792 (r 474)]
def og(k n:Nat)(v:Value)(P:Params):Obj:=⟨.type "dict",none,.dict ((e P "__name__" 165 v::es P).take k).toArray n,#[]⟩
def fv:List Value:=[(i 1 0),(i 0 0),(r 20),(i 5 0),(i 0 0),(r 27),(i 7 0),(i 0 0),(r 40),(i 9 0),(i 0 0),(r 52),(i 11 0),(i 0 0),(r 64),(i 13 0),(i 0 0),(r 76),(i 15 0),(i 0 0),(r 88),(i 17 0),(i 0 0),(r 100),(i 19 0),(i 0 0),(r 112),(i 21 0),(i 0 0),(r 124),(i 25 0),(i 0 0),(r 136),(i 27 0),(i 0 0),(r 143),(i 29 0),(i 0 0),(r 150),(i 31 0),(i 0 0),(r 155),(i 35 0),(i 0 0),(r 162),(i 40 0),(i 0 0),(r 167),(i 42 0),(i 0 0),(r 174),(i 45 0),(i 0 0),(r 181),(i 48 0),(i 0 0),(r 188),(i 53 0),(i 0 0),(r 193),(i 55 0),(i 0 0),(r 198),(i 57 0),(i 0 0),(r 203),(i 59 0),(i 0 0),(r 208),(i 61 0),(i 0 0),(r 215),(i 64 0),(i 0 0),(r 220),(i 67 0),(i 0 0),(r 225),(i 69 0),(i 0 0),(r 230),(i 71 0),(i 0 0),(r 235),(i 78 0),(i 0 0),(r 240),(i 80 0),(i 0 0),(r 245),(i 86 0),(i 0 0),(r 252),(i 93 0),(i 0 0),(r 259),(i 98 0),(i 0 0),(r 264),(i 102 0),(i 0 0),(r 271),(i 105 0),(i 0 0),(r 278),(i 115 0),(i 0 0),(r 285),(i 193 0),(i 0 0),(r 404),(i 199 0),(i 0 0),(r 411),(i 202 0),(i 0 0),(r 416),(i 208 0),(i 0 0),(r 423),(i 219 0),(i 0 0),(r 430),(i 227 0),(i 0 0),(r 437),(i 232 0),(i 0 0),(r 444),(i 242 0),(i 0 0),(r 449),(i 254 0),(i 0 0),(r 454),(i 274 0),(i 0 0),(r 461),(i 282 0),(i 0 0),(r 466),(i 284 0),(i 0 0),(r 473)]
def o12:Obj:=⟨z,none,.fields (fv.take 0).toArray,#[]⟩
def o13:=c "<module>" 182 1 0 0 11 false 181 12 z z z 185
def o14:Obj:=⟨(t "frame"),none,.plain,#[some (r 13),some (r 3),some (r 3),none,some (s "__main__" 164),none,some (r 0)]⟩
def o3_1(P:Params):=og 11 11 (s "minortables.errors" 194) P
def Wa:Obj:=⟨z,none,.fields (fv.take 6).toArray,#[]⟩
def o17:=tn ["k"] 190
def o19:=g (d 0) "_wall"
def o20:=c "_wall" 187 1 1 3 15 true 181 16 (r 17) (r 18) (r 19) 191
def o21:=u (d 0) "_wall" (s "__main__" 164) 20
def o22:Obj:=⟨(t "tuple"),none,(.seq #[(t "ValueError")] 0),#[]⟩
def o23:Obj:=⟨(t "builtin_function_or_method"),none,(.fields #[(b "type.__prepare__"),(t "type")]),#[]⟩
def o24(P:Params):Obj:=⟨(t "dict"),none,(.dict #[e P "__module__" 203 (s "minortables.errors" 194),e P "__qualname__" 205 (s "MinorError" 204),e P "__firstlineno__" 207 (i 5 206),e P "__static_attributes__" 208 (r 29)] 4),#[]⟩
def o27:=c "MinorError" 198 5 0 0 25 false 181 26 z z z 201
def o28:Obj:=⟨(t "frame"),none,.plain,#[some (r 27),some (r 3),some (r 24),none,some (s "minortables.errors" 194),none,some (r 0)]⟩
def o30(P:Params):Obj:=⟨(t "dict"),none,(.dict #[e P "__module__" 203 (s "minortables.errors" 194),e P "__firstlineno__" 207 (i 5 206),e P "__static_attributes__" 208 (r 29),e P "__weakref__" 210 (r 32),e P "__doc__" 211 z] 3),#[]⟩
def o31:Obj:=⟨(t "type"),none,(.cls ⟨"MinorError",[(t "ValueError")],[(r 31),(t "ValueError"),(t "Exception"),(t "BaseException"),(t "object")],30,"MinorError",true,[],[],false,none,false⟩),#[some (r 22),none,some (s "MinorError" 196),some (s "MinorError" 204),some (b "ValueError.__new__"),some (.bool true)]⟩
def o32:Obj:=⟨(t "getset_descriptor"),none,(.fields #[(s "__weakref__" 209),(r 31),(b "ExceptionGroup.__weakref__"),z]),#[]⟩
def o33:Obj:=⟨(t "super"),none,(.fields #[(r 31),(r 31),(r 31)]),#[]⟩
def o34:Obj:=⟨(t "builtin_function_or_method"),none,(.fields #[(b "object.__init_subclass__"),(r 31)]),#[]⟩
def o3_2(P:Params):=og 12 12 (s "minortables.errors" 194) P
def V9:Obj:=⟨z,none,.fields (fv.take 9).toArray,#[]⟩
def Tz:Obj:=⟨(t "type"),none,(.cls ⟨"MinorError",[(t "ValueError")],[(r 31),(t "ValueError"),(t "Exception"),(t "BaseException"),(t "object")],30,"MinorError",true,[],[(r 44)],false,none,false⟩),#[some (r 22),none,some (s "MinorError" 196),some (s "MinorError" 204),some (b "ValueError.__new__"),some (.bool true)]⟩
def o35:Obj:=⟨(t "tuple"),none,(.seq #[(r 31)] 0),#[]⟩
def o36:Obj:=⟨(t "builtin_function_or_method"),none,(.fields #[(b "type.__prepare__"),(t "type")]),#[]⟩
def o37(P:Params):Obj:=⟨(t "dict"),none,(.dict #[e P "__module__" 221 (s "minortables.errors" 194),e P "__qualname__" 223 (s "NoTable" 222),e P "__firstlineno__" 225 (i 7 224),e P "__static_attributes__" 226 (r 42)] 4),#[]⟩
def o40:=c "NoTable" 216 7 0 0 38 false 181 39 z z z 219
def o41:Obj:=⟨(t "frame"),none,.plain,#[some (r 40),some (r 3),some (r 37),none,some (s "minortables.errors" 194),none,some (r 0)]⟩
def o43(P:Params):Obj:=⟨(t "dict"),none,(.dict #[e P "__module__" 221 (s "minortables.errors" 194),e P "__firstlineno__" 225 (i 7 224),e P "__static_attributes__" 226 (r 42),e P "__doc__" 227 z] 2),#[]⟩
def o44:Obj:=⟨(t "type"),none,(.cls ⟨"NoTable",[(r 31)],[(r 44),(r 31),(t "ValueError"),(t "Exception"),(t "BaseException"),(t "object")],43,"NoTable",true,[],[],false,none,false⟩),#[some (r 35),none,some (s "NoTable" 214),some (s "NoTable" 222),some (b "ValueError.__new__"),some (.bool true)]⟩
def o45:Obj:=⟨(t "super"),none,(.fields #[(r 44),(r 44),(r 44)]),#[]⟩
def o46:Obj:=⟨(t "builtin_function_or_method"),none,(.fields #[(b "object.__init_subclass__"),(r 44)]),#[]⟩
def o3_3(P:Params):=og 13 13 (s "minortables.errors" 194) P
def V8:Obj:=⟨z,none,.fields (fv.take 12).toArray,#[]⟩
def Tw:Obj:=⟨(t "type"),none,(.cls ⟨"MinorError",[(t "ValueError")],[(r 31),(t "ValueError"),(t "Exception"),(t "BaseException"),(t "object")],30,"MinorError",true,[],[(r 44),(r 56)],false,none,false⟩),#[some (r 22),none,some (s "MinorError" 196),some (s "MinorError" 204),some (b "ValueError.__new__"),some (.bool true)]⟩
def o47:Obj:=⟨(t "tuple"),none,(.seq #[(r 31)] 0),#[]⟩
def o48:Obj:=⟨(t "builtin_function_or_method"),none,(.fields #[(b "type.__prepare__"),(t "type")]),#[]⟩
def o49(P:Params):Obj:=⟨(t "dict"),none,(.dict #[e P "__module__" 237 (s "minortables.errors" 194),e P "__qualname__" 239 (s "NoFit" 238),e P "__firstlineno__" 241 (i 9 240),e P "__static_attributes__" 242 (r 54)] 4),#[]⟩
def o52:=c "NoFit" 232 9 0 0 50 false 181 51 z z z 235
def o53:Obj:=⟨(t "frame"),none,.plain,#[some (r 52),some (r 3),some (r 49),none,some (s "minortables.errors" 194),none,some (r 0)]⟩
def o55(P:Params):Obj:=⟨(t "dict"),none,(.dict #[e P "__module__" 237 (s "minortables.errors" 194),e P "__firstlineno__" 241 (i 9 240),e P "__static_attributes__" 242 (r 54),e P "__doc__" 243 z] 2),#[]⟩
def o56:Obj:=⟨(t "type"),none,(.cls ⟨"NoFit",[(r 31)],[(r 56),(r 31),(t "ValueError"),(t "Exception"),(t "BaseException"),(t "object")],55,"NoFit",true,[],[],false,none,false⟩),#[some (r 47),none,some (s "NoFit" 230),some (s "NoFit" 238),some (b "ValueError.__new__"),some (.bool true)]⟩
def o57:Obj:=⟨(t "super"),none,(.fields #[(r 56),(r 56),(r 56)]),#[]⟩
def o58:Obj:=⟨(t "builtin_function_or_method"),none,(.fields #[(b "object.__init_subclass__"),(r 56)]),#[]⟩
def o3_4(P:Params):=og 14 14 (s "minortables.errors" 194) P
def V7:Obj:=⟨z,none,.fields (fv.take 15).toArray,#[]⟩
def Tv:Obj:=⟨(t "type"),none,(.cls ⟨"MinorError",[(t "ValueError")],[(r 31),(t "ValueError"),(t "Exception"),(t "BaseException"),(t "object")],30,"MinorError",true,[],[(r 44),(r 56),(r 68)],false,none,false⟩),#[some (r 22),none,some (s "MinorError" 196),some (s "MinorError" 204),some (b "ValueError.__new__"),some (.bool true)]⟩
def o59:Obj:=⟨(t "tuple"),none,(.seq #[(r 31)] 0),#[]⟩
def o60:Obj:=⟨(t "builtin_function_or_method"),none,(.fields #[(b "type.__prepare__"),(t "type")]),#[]⟩
def o61(P:Params):Obj:=⟨(t "dict"),none,(.dict #[e P "__module__" 253 (s "minortables.errors" 194),e P "__qualname__" 255 (s "NoPlace" 254),e P "__firstlineno__" 257 (i 11 256),e P "__static_attributes__" 258 (r 66)] 4),#[]⟩
def o64:=c "NoPlace" 248 11 0 0 62 false 181 63 z z z 251
def o65:Obj:=⟨(t "frame"),none,.plain,#[some (r 64),some (r 3),some (r 61),none,some (s "minortables.errors" 194),none,some (r 0)]⟩
def o67(P:Params):Obj:=⟨(t "dict"),none,(.dict #[e P "__module__" 253 (s "minortables.errors" 194),e P "__firstlineno__" 257 (i 11 256),e P "__static_attributes__" 258 (r 66),e P "__doc__" 259 z] 2),#[]⟩
def o68:Obj:=⟨(t "type"),none,(.cls ⟨"NoPlace",[(r 31)],[(r 68),(r 31),(t "ValueError"),(t "Exception"),(t "BaseException"),(t "object")],67,"NoPlace",true,[],[],false,none,false⟩),#[some (r 59),none,some (s "NoPlace" 246),some (s "NoPlace" 254),some (b "ValueError.__new__"),some (.bool true)]⟩
def o69:Obj:=⟨(t "super"),none,(.fields #[(r 68),(r 68),(r 68)]),#[]⟩
def o70:Obj:=⟨(t "builtin_function_or_method"),none,(.fields #[(b "object.__init_subclass__"),(r 68)]),#[]⟩
def o3_5(P:Params):=og 15 15 (s "minortables.errors" 194) P
def V6:Obj:=⟨z,none,.fields (fv.take 18).toArray,#[]⟩
def Tt:Obj:=⟨(t "type"),none,(.cls ⟨"MinorError",[(t "ValueError")],[(r 31),(t "ValueError"),(t "Exception"),(t "BaseException"),(t "object")],30,"MinorError",true,[],[(r 44),(r 56),(r 68),(r 80)],false,none,false⟩),#[some (r 22),none,some (s "MinorError" 196),some (s "MinorError" 204),some (b "ValueError.__new__"),some (.bool true)]⟩
def o71:Obj:=⟨(t "tuple"),none,(.seq #[(r 31)] 0),#[]⟩
def o72:Obj:=⟨(t "builtin_function_or_method"),none,(.fields #[(b "type.__prepare__"),(t "type")]),#[]⟩
def o73(P:Params):Obj:=⟨(t "dict"),none,(.dict #[e P "__module__" 269 (s "minortables.errors" 194),e P "__qualname__" 271 (s "NoStep" 270),e P "__firstlineno__" 273 (i 13 272),e P "__static_attributes__" 274 (r 78)] 4),#[]⟩
def o76:=c "NoStep" 264 13 0 0 74 false 181 75 z z z 267
def o77:Obj:=⟨(t "frame"),none,.plain,#[some (r 76),some (r 3),some (r 73),none,some (s "minortables.errors" 194),none,some (r 0)]⟩
def o79(P:Params):Obj:=⟨(t "dict"),none,(.dict #[e P "__module__" 269 (s "minortables.errors" 194),e P "__firstlineno__" 273 (i 13 272),e P "__static_attributes__" 274 (r 78),e P "__doc__" 275 z] 2),#[]⟩
def o80:Obj:=⟨(t "type"),none,(.cls ⟨"NoStep",[(r 31)],[(r 80),(r 31),(t "ValueError"),(t "Exception"),(t "BaseException"),(t "object")],79,"NoStep",true,[],[],false,none,false⟩),#[some (r 71),none,some (s "NoStep" 262),some (s "NoStep" 270),some (b "ValueError.__new__"),some (.bool true)]⟩
def o81:Obj:=⟨(t "super"),none,(.fields #[(r 80),(r 80),(r 80)]),#[]⟩
def o82:Obj:=⟨(t "builtin_function_or_method"),none,(.fields #[(b "object.__init_subclass__"),(r 80)]),#[]⟩
def o3_6(P:Params):=og 16 16 (s "minortables.errors" 194) P
def V5:Obj:=⟨z,none,.fields (fv.take 21).toArray,#[]⟩
def Tr:Obj:=⟨(t "type"),none,(.cls ⟨"MinorError",[(t "ValueError")],[(r 31),(t "ValueError"),(t "Exception"),(t "BaseException"),(t "object")],30,"MinorError",true,[],[(r 44),(r 56),(r 68),(r 80),(r 92)],false,none,false⟩),#[some (r 22),none,some (s "MinorError" 196),some (s "MinorError" 204),some (b "ValueError.__new__"),some (.bool true)]⟩
def o83:Obj:=⟨(t "tuple"),none,(.seq #[(r 31)] 0),#[]⟩
def o84:Obj:=⟨(t "builtin_function_or_method"),none,(.fields #[(b "type.__prepare__"),(t "type")]),#[]⟩
def o85(P:Params):Obj:=⟨(t "dict"),none,(.dict #[e P "__module__" 285 (s "minortables.errors" 194),e P "__qualname__" 287 (s "NoSteps" 286),e P "__firstlineno__" 289 (i 15 288),e P "__static_attributes__" 290 (r 90)] 4),#[]⟩
def o88:=c "NoSteps" 280 15 0 0 86 false 181 87 z z z 283
def o89:Obj:=⟨(t "frame"),none,.plain,#[some (r 88),some (r 3),some (r 85),none,some (s "minortables.errors" 194),none,some (r 0)]⟩
def o91(P:Params):Obj:=⟨(t "dict"),none,(.dict #[e P "__module__" 285 (s "minortables.errors" 194),e P "__firstlineno__" 289 (i 15 288),e P "__static_attributes__" 290 (r 90),e P "__doc__" 291 z] 2),#[]⟩
def o92:Obj:=⟨(t "type"),none,(.cls ⟨"NoSteps",[(r 31)],[(r 92),(r 31),(t "ValueError"),(t "Exception"),(t "BaseException"),(t "object")],91,"NoSteps",true,[],[],false,none,false⟩),#[some (r 83),none,some (s "NoSteps" 278),some (s "NoSteps" 286),some (b "ValueError.__new__"),some (.bool true)]⟩
def o93:Obj:=⟨(t "super"),none,(.fields #[(r 92),(r 92),(r 92)]),#[]⟩
def o94:Obj:=⟨(t "builtin_function_or_method"),none,(.fields #[(b "object.__init_subclass__"),(r 92)]),#[]⟩
def o3_7(P:Params):=og 17 17 (s "minortables.errors" 194) P
def V4:Obj:=⟨z,none,.fields (fv.take 24).toArray,#[]⟩
def Tq:Obj:=⟨(t "type"),none,(.cls ⟨"MinorError",[(t "ValueError")],[(r 31),(t "ValueError"),(t "Exception"),(t "BaseException"),(t "object")],30,"MinorError",true,[],[(r 44),(r 56),(r 68),(r 80),(r 92),(r 104)],false,none,false⟩),#[some (r 22),none,some (s "MinorError" 196),some (s "MinorError" 204),some (b "ValueError.__new__"),some (.bool true)]⟩
def o95:Obj:=⟨(t "tuple"),none,(.seq #[(r 31)] 0),#[]⟩
def o96:Obj:=⟨(t "builtin_function_or_method"),none,(.fields #[(b "type.__prepare__"),(t "type")]),#[]⟩
def o97(P:Params):Obj:=⟨(t "dict"),none,(.dict #[e P "__module__" 301 (s "minortables.errors" 194),e P "__qualname__" 303 (s "NoText" 302),e P "__firstlineno__" 305 (i 17 304),e P "__static_attributes__" 306 (r 102)] 4),#[]⟩
def o100:=c "NoText" 296 17 0 0 98 false 181 99 z z z 299
def Zb:Obj:=⟨(t "frame"),none,.plain,#[some (r 100),some (r 3),some (r 97),none,some (s "minortables.errors" 194),none,some (r 0)]⟩
def Wm(P:Params):Obj:=⟨(t "dict"),none,(.dict #[e P "__module__" 301 (s "minortables.errors" 194),e P "__firstlineno__" 305 (i 17 304),e P "__static_attributes__" 306 (r 102),e P "__doc__" 307 z] 2),#[]⟩
def Wj:Obj:=⟨(t "type"),none,(.cls ⟨"NoText",[(r 31)],[(r 104),(r 31),(t "ValueError"),(t "Exception"),(t "BaseException"),(t "object")],103,"NoText",true,[],[],false,none,false⟩),#[some (r 95),none,some (s "NoText" 294),some (s "NoText" 302),some (b "ValueError.__new__"),some (.bool true)]⟩
def Za:Obj:=⟨(t "super"),none,(.fields #[(r 104),(r 104),(r 104)]),#[]⟩
def Y9:Obj:=⟨(t "builtin_function_or_method"),none,(.fields #[(b "object.__init_subclass__"),(r 104)]),#[]⟩
def o3_8(P:Params):=og 18 18 (s "minortables.errors" 194) P
def V3:Obj:=⟨z,none,.fields (fv.take 27).toArray,#[]⟩
def Tp:Obj:=⟨(t "type"),none,(.cls ⟨"MinorError",[(t "ValueError")],[(r 31),(t "ValueError"),(t "Exception"),(t "BaseException"),(t "object")],30,"MinorError",true,[],[(r 44),(r 56),(r 68),(r 80),(r 92),(r 104),(r 116)],false,none,false⟩),#[some (r 22),none,some (s "MinorError" 196),some (s "MinorError" 204),some (b "ValueError.__new__"),some (.bool true)]⟩
def Wi:Obj:=⟨(t "tuple"),none,(.seq #[(r 31)] 0),#[]⟩
def Y8:Obj:=⟨(t "builtin_function_or_method"),none,(.fields #[(b "type.__prepare__"),(t "type")]),#[]⟩
def Y7(P:Params):Obj:=⟨(t "dict"),none,(.dict #[e P "__module__" 317 (s "minortables.errors" 194),e P "__qualname__" 319 (s "NoName" 318),e P "__firstlineno__" 321 (i 19 320),e P "__static_attributes__" 322 (r 114)] 4),#[]⟩
def Y6:Obj:=c "NoName" 312 19 0 0 110 false 181 111 z z z 315
def Y5:Obj:=⟨(t "frame"),none,.plain,#[some (r 112),some (r 3),some (r 109),none,some (s "minortables.errors" 194),none,some (r 0)]⟩
def Wh(P:Params):Obj:=⟨(t "dict"),none,(.dict #[e P "__module__" 317 (s "minortables.errors" 194),e P "__firstlineno__" 321 (i 19 320),e P "__static_attributes__" 322 (r 114),e P "__doc__" 323 z] 2),#[]⟩
def Wg:Obj:=⟨(t "type"),none,(.cls ⟨"NoName",[(r 31)],[(r 116),(r 31),(t "ValueError"),(t "Exception"),(t "BaseException"),(t "object")],115,"NoName",true,[],[],false,none,false⟩),#[some (r 107),none,some (s "NoName" 310),some (s "NoName" 318),some (b "ValueError.__new__"),some (.bool true)]⟩
def Y4:Obj:=⟨(t "super"),none,(.fields #[(r 116),(r 116),(r 116)]),#[]⟩
def Y0:Obj:=⟨(t "builtin_function_or_method"),none,(.fields #[(b "object.__init_subclass__"),(r 116)]),#[]⟩
def o3_9(P:Params):=og 25 25 (s "minortables.checks" 342) P
def V2:Obj:=⟨z,none,.fields (fv.take 45).toArray,#[]⟩
def Iw:Obj:=⟨(t "type"),none,(.cls ⟨"MinorError",[(t "ValueError")],[(r 31),(t "ValueError"),(t "Exception"),(t "BaseException"),(t "object")],30,"MinorError",true,[],[(r 44),(r 56),(r 68),(r 80),(r 92),(r 104),(r 116),(r 128)],false,none,false⟩),#[some (r 22),none,some (s "MinorError" 196),some (s "MinorError" 204),some (b "ValueError.__new__"),some (.bool true)]⟩
def Wf:Obj:=⟨(t "tuple"),none,(.seq #[(r 31)] 0),#[]⟩
def YZ:Obj:=⟨(t "builtin_function_or_method"),none,(.fields #[(b "type.__prepare__"),(t "type")]),#[]⟩
def YX(P:Params):Obj:=⟨(t "dict"),none,(.dict #[e P "__module__" 333 (s "minortables.errors" 194),e P "__qualname__" 335 (s "NoBack" 334),e P "__firstlineno__" 337 (i 21 336),e P "__static_attributes__" 338 (r 126)] 4),#[]⟩
def YW:Obj:=c "NoBack" 328 21 0 0 122 false 181 123 z z z 331
def YT:Obj:=⟨(t "frame"),none,.plain,#[some (r 124),some (r 3),some (r 121),none,some (s "minortables.errors" 194),none,some (r 0)]⟩
def Wd(P:Params):Obj:=⟨(t "dict"),none,(.dict #[e P "__module__" 333 (s "minortables.errors" 194),e P "__firstlineno__" 337 (i 21 336),e P "__static_attributes__" 338 (r 126),e P "__doc__" 339 z] 2),#[]⟩
def Wb:Obj:=⟨(t "type"),none,(.cls ⟨"NoBack",[(r 31)],[(r 128),(r 31),(t "ValueError"),(t "Exception"),(t "BaseException"),(t "object")],127,"NoBack",true,[],[],false,none,false⟩),#[some (r 119),none,some (s "NoBack" 326),some (s "NoBack" 334),some (b "ValueError.__new__"),some (.bool true)]⟩
def YS:Obj:=⟨(t "super"),none,(.fields #[(r 128),(r 128),(r 128)]),#[]⟩
def YQ:Obj:=⟨(t "builtin_function_or_method"),none,(.fields #[(b "object.__init_subclass__"),(r 128)]),#[]⟩
def V1:Obj:=tn ["thing"] 349
def YM:Obj:=g (d 13) "is_whole"
def V0:Obj:=c "is_whole" 346 25 1 3 131 true 181 132 (r 133) (r 134) (r 135) 350
def VR:Obj:=u (d 13) "is_whole" (s "minortables.checks" 342) 136
def VP:Obj:=tn ["thing","least","most"] 356
def YL:Obj:=g (d 14) "is_whole_within"
def VN:Obj:=c "is_whole_within" 353 27 3 3 138 true 181 139 (r 140) (r 141) (r 142) 359
def VL:Obj:=u (d 14) "is_whole_within" (s "minortables.checks" 342) 143
def VJ:Obj:=tn ["thing"] 365
def YK:Obj:=g (d 15) "is_short_tuple"
def VH:Obj:=c "is_short_tuple" 362 29 1 3 145 true 181 146 (r 147) (r 148) (r 149) 366
def VG:Obj:=u (d 15) "is_short_tuple" (s "minortables.checks" 342) 150
def YJ:Obj:=g (d 16) "has_lines"
def VF:Obj:=c "has_lines" 369 31 1 3 152 true 181 153 z z (r 154) 372
def VD:Obj:=u (d 16) "has_lines" (s "minortables.checks" 342) 155
def VB:Obj:=tn ["table","told","row"] 378
def YH:Obj:=g (d 17) "numbers_of"
def Vz:Obj:=c "numbers_of" 375 35 1 3 157 true 181 158 (r 159) (r 160) (r 161) 381
def Vy:Obj:=u (d 17) "numbers_of" (s "minortables.checks" 342) 162
def RN(P:Params):Obj:=og 40 40 (s "minortables.tables" 413) P
def Nf:Obj:=⟨z,none,.fields (fv.take 87).toArray,#[]⟩
def YG:Obj:=g (d 18) "has_table_form"
def Vx:Obj:=c "has_table_form" 384 40 1 3 164 true 181 165 z z (r 166) 387
def Vw:Obj:=u (d 18) "has_table_form" (s "minortables.checks" 342) 167
def Vv:Obj:=tn ["thing"] 393
def YF:Obj:=g (d 19) "need_table"
def Vu:Obj:=c "need_table" 390 42 1 3 169 true 181 170 (r 171) (r 172) (r 173) 394
def Vt:Obj:=u (d 19) "need_table" (s "minortables.checks" 342) 174
def Vs:Obj:=tn ["one","other"] 400
def YD:Obj:=g (d 20) "need_same_size"
def Vr:Obj:=c "need_same_size" 397 45 2 3 176 true 181 177 (r 178) (r 179) (r 180) 402
def Vq:Obj:=u (d 20) "need_same_size" (s "minortables.checks" 342) 181
def Vp:Obj:=tn ["thing","most"] 408
def YC:Obj:=g (d 21) "need_size"
def Vo:Obj:=c "need_size" 405 48 2 3 183 true 181 184 (r 185) (r 186) (r 187) 410
def Vn:Obj:=u (d 21) "need_size" (s "minortables.checks" 342) 188
def YB:Obj:=g (d 24) "is_small_row"
def Vm:Obj:=c "is_small_row" 417 53 1 3 190 true 181 191 z z (r 192) 420
def Vl:Obj:=u (d 24) "is_small_row" (s "minortables.tables" 413) 193
def Yz:Obj:=g (d 25) "is_table"
def Vk:Obj:=c "is_table" 423 55 1 3 195 true 181 196 z z (r 197) 426
def Vj:Obj:=u (d 25) "is_table" (s "minortables.tables" 413) 198
def Yy:Obj:=g (d 26) "column_of"
def Vi:Obj:=c "column_of" 429 57 2 3 200 true 181 201 z z (r 202) 432
def Vh:Obj:=u (d 26) "column_of" (s "minortables.tables" 413) 203
def Yx:Obj:=g (d 27) "columns_of"
def Vg:Obj:=c "columns_of" 435 59 1 3 205 true 181 206 z z (r 207) 438
def Vf:Obj:=u (d 27) "columns_of" (s "minortables.tables" 413) 208
def Ve:Obj:=tn ["table"] 444
def Yw:Obj:=g (d 28) "turned"
def Vd:Obj:=c "turned" 441 61 1 3 210 true 181 211 (r 212) (r 213) (r 214) 445
def Vc:Obj:=u (d 28) "turned" (s "minortables.tables" 413) 215
def Yv:Obj:=g (d 29) "flipped"
def Vb:Obj:=c "flipped" 448 64 1 3 217 true 181 218 z z (r 219) 451
def Va:Obj:=u (d 29) "flipped" (s "minortables.tables" 413) 220
def Yu:Obj:=g (d 30) "row_by_column"
def U9:Obj:=c "row_by_column" 454 67 2 3 222 true 181 223 z z (r 224) 457
def U8:Obj:=u (d 30) "row_by_column" (s "minortables.tables" 413) 225
def Yt:Obj:=g (d 31) "row_by_columns"
def U7:Obj:=c "row_by_columns" 460 69 2 3 227 true 181 228 z z (r 229) 463
def U4:Obj:=u (d 31) "row_by_columns" (s "minortables.tables" 413) 230
def Ys:Obj:=g (d 32) "times"
def U3:Obj:=c "times" 466 71 2 3 232 true 181 233 z z (r 234) 469
def UW:Obj:=u (d 32) "times" (s "minortables.tables" 413) 235
def Yr:Obj:=g (d 33) "row_plus"
def UL:Obj:=c "row_plus" 472 78 2 3 237 true 181 238 z z (r 239) 475
def UJ:Obj:=u (d 33) "row_plus" (s "minortables.tables" 413) 240
def RM(P:Params):Obj:=og 48 48 (s "minortables.cases" 502) P
def Nb:Obj:=⟨z,none,.fields (fv.take 105).toArray,#[]⟩
def Yq:Obj:=g (d 34) "plus"
def UG:Obj:=c "plus" 478 80 2 3 242 true 181 243 z z (r 244) 481
def Uz:Obj:=u (d 34) "plus" (s "minortables.tables" 413) 245
def Uy:Obj:=tn ["one","other"] 489
def Yp:Obj:=g (d 36) "set_below"
def Ux:Obj:=c "set_below" 486 86 2 3 247 true 181 248 (r 249) (r 250) (r 251) 491
def Uw:Obj:=u (d 36) "set_below" (s "minortables.joining" 484) 252
def Uv:Obj:=tn ["one","other"] 497
def Yo:Obj:=g (d 37) "set_beside"
def Uu:Obj:=c "set_beside" 494 93 2 3 254 true 181 255 (r 256) (r 257) (r 258) 499
def Ut:Obj:=u (d 37) "set_beside" (s "minortables.joining" 484) 259
def Yn:Obj:=g (d 41) "is_name"
def Us:Obj:=c "is_name" 508 98 1 3 261 true 181 262 z z (r 263) 511
def Ur:Obj:=u (d 41) "is_name" (s "minortables.cases" 502) 264
def Uq:Obj:=tn ["thing"] 517
def Ym:Obj:=g (d 42) "need_name"
def Uo:Obj:=c "need_name" 514 102 1 3 266 true 181 267 (r 268) (r 269) (r 270) 518
def Um:Obj:=u (d 42) "need_name" (s "minortables.cases" 502) 271
def Ul:Obj:=tn ["word","one","other"] 524
def Yl:Obj:=g (d 43) "joined"
def Uk:Obj:=c "joined" 521 105 3 3 273 true 181 274 (r 275) (r 276) (r 277) 527
def Uj:Obj:=u (d 43) "joined" (s "minortables.cases" 502) 278
def RL(P:Params):Obj:=og 49 49 (s "minortables.cases" 502) P
def M9:Obj:=⟨z,none,.fields (fv.take 108).toArray,#[]⟩
def Yk:Obj:=⟨(t "builtin_function_or_method"),none,(.fields #[(b "type.__prepare__"),(t "type")]),#[]⟩
def Yj(P:Params):Obj:=⟨(t "dict"),none,(.dict #[e P "__module__" 537 (s "minortables.cases" 502),e P "__qualname__" 539 (s "Case" 538),e P "__firstlineno__" 541 (i 115 540),e P "__init__" 548 (r 293),e P "set_to" 557 (r 300),e P "do" 567 (r 307),e P "put" 577 (r 314),e P "table_of" 585 (r 321),e P "take" 594 (r 328),e P "join" 606 (r 335),e P "turn" 615 (r 342),e P "flip" 624 (r 349),e P "names" 631 (r 356),e P "go" 642 (r 363),e P "back" 649 (r 370),e P "forth" 656 (r 377),e P "counts" 663 (r 384),e P "twin" 670 (r 391),e P "__static_attributes__" 674 (r 392)] 19),#[]⟩
def Yi:Obj:=⟨z,none,(.fields #[(i 117 0),(i 4 0),(r 292),(i 122 0),(i 4 0),(r 299),(i 128 0),(i 4 0),(r 306),(i 133 0),(i 4 0),(r 313),(i 141 0),(i 4 0),(r 320),(i 147 0),(i 4 0),(r 327),(i 152 0),(i 4 0),(r 334),(i 160 0),(i 4 0),(r 341),(i 165 0),(i 4 0),(r 348),(i 170 0),(i 4 0),(r 355),(i 173 0),(i 4 0),(r 362),(i 181 0),(i 4 0),(r 369),(i 184 0),(i 4 0),(r 376),(i 187 0),(i 4 0),(r 383),(i 190 0),(i 4 0),(r 390)]),#[]⟩
def Yh:Obj:=c "Case" 532 115 0 0 283 false 181 284 z z z 535
def Yg:Obj:=⟨(t "frame"),none,.plain,#[some (r 285),some (r 3),some (r 282),none,some (s "minortables.cases" 502),none,some (r 0)]⟩
def Ui:Obj:=tn ["self"] 545
def Ye:Obj:=g (m 44 0) "Case.__init__"
def Uh:Obj:=c2 "__init__" "Case.__init__" 542 117 1 3 287 true 181 288 (r 289) (r 290) (r 291) 546
def Ug:Obj:=u (m 44 0) "Case.__init__" (s "minortables.cases" 502) 292
def Ue:Obj:=tn ["self","name","table"] 552
def Yd:Obj:=g (m 44 1) "Case.set_to"
def Ud:Obj:=c2 "set_to" "Case.set_to" 549 122 3 3 294 true 181 295 (r 296) (r 297) (r 298) 555
def o300:=u (m 44 1) "Case.set_to" (s "minortables.cases" 502) 299
def Uc:Obj:=tn ["self","word","name","table"] 561
def Yc:Obj:=g (m 44 2) "Case.do"
def Ub:Obj:=c2 "do" "Case.do" 558 128 4 3 301 true 181 302 (r 303) (r 304) (r 305) 565
def Ua:Obj:=u (m 44 2) "Case.do" (s "minortables.cases" 502) 306
def TY:Obj:=tn ["self","name","table","had"] 571
def Yb:Obj:=g (m 44 3) "Case.put"
def TQ:Obj:=c2 "put" "Case.put" 568 133 3 3 308 true 181 309 (r 310) (r 311) (r 312) 575
def TJ:Obj:=u (m 44 3) "Case.put" (s "minortables.cases" 502) 313
def TF:Obj:=tn ["self","name"] 581
def X8:Obj:=g (m 44 4) "Case.table_of"
def Tn:Obj:=c2 "table_of" "Case.table_of" 578 141 2 3 315 true 181 316 (r 317) (r 318) (r 319) 583
def Tj:Obj:=u (m 44 4) "Case.table_of" (s "minortables.cases" 502) 320
def Ti:Obj:=tn ["self","name","table"] 589
def X7:Obj:=g (m 44 5) "Case.take"
def Tg:Obj:=c2 "take" "Case.take" 586 147 2 3 322 true 181 323 (r 324) (r 325) (r 326) 592
def Tf:Obj:=u (m 44 5) "Case.take" (s "minortables.cases" 502) 327
def Te:Obj:=tn ["self","name","word","one","other","table"] 598
def X6:Obj:=g (m 44 6) "Case.join"
def Td:Obj:=c2 "join" "Case.join" 595 152 5 3 329 true 181 330 (r 331) (r 332) (r 333) 604
def Tc:Obj:=u (m 44 6) "Case.join" (s "minortables.cases" 502) 334
def SX:Obj:=tn ["self","name","table"] 610
def X5:Obj:=g (m 44 7) "Case.turn"
def SQ:Obj:=c2 "turn" "Case.turn" 607 160 2 3 336 true 181 337 (r 338) (r 339) (r 340) 613
def SN:Obj:=u (m 44 7) "Case.turn" (s "minortables.cases" 502) 341
def SM:Obj:=tn ["self","name","table"] 619
def X4:Obj:=g (m 44 8) "Case.flip"
def SJ:Obj:=c2 "flip" "Case.flip" 616 165 2 3 343 true 181 344 (r 345) (r 346) (r 347) 622
def Sy:Obj:=u (m 44 8) "Case.flip" (s "minortables.cases" 502) 348
def Sx:Obj:=tn ["self"] 628
def X3:Obj:=g (m 44 9) "Case.names"
def Sw:Obj:=c2 "names" "Case.names" 625 170 1 3 350 true 181 351 (r 352) (r 353) (r 354) 629
def Sv:Obj:=u (m 44 9) "Case.names" (s "minortables.cases" 502) 355
def Ss:Obj:=tn ["self","some","others","place","step"] 635
def XS:Obj:=g (m 44 10) "Case.go"
def Sq:Obj:=c2 "go" "Case.go" 632 173 4 3 357 true 181 358 (r 359) (r 360) (r 361) 640
def Sh:Obj:=u (m 44 10) "Case.go" (s "minortables.cases" 502) 362
def Sg:Obj:=tn ["self"] 646
def XR:Obj:=g (m 44 11) "Case.back"
def Sd:Obj:=c2 "back" "Case.back" 643 181 1 3 364 true 181 365 (r 366) (r 367) (r 368) 647
def R9:Obj:=u (m 44 11) "Case.back" (s "minortables.cases" 502) 369
def R8:Obj:=tn ["self"] 653
def XQ:Obj:=g (m 44 12) "Case.forth"
def R7:Obj:=c2 "forth" "Case.forth" 650 184 1 3 371 true 181 372 (r 373) (r 374) (r 375) 654
def o377:=u (m 44 12) "Case.forth" (s "minortables.cases" 502) 376
def R6:Obj:=tn ["self"] 660
def XM:Obj:=g (m 44 13) "Case.counts"
def R5:Obj:=c2 "counts" "Case.counts" 657 187 1 3 378 true 181 379 (r 380) (r 381) (r 382) 661
def R4:Obj:=u (m 44 13) "Case.counts" (s "minortables.cases" 502) 383
def R3:Obj:=tn ["self"] 667
def XJ:Obj:=g (m 44 14) "Case.twin"
def R0:Obj:=c2 "twin" "Case.twin" 664 190 1 3 385 true 181 386 (r 387) (r 388) (r 389) 668
def RZ:Obj:=u (m 44 14) "Case.twin" (s "minortables.cases" 502) 390
def RX:Obj:=tn ["done","tables","undone"] 671
def RV(P:Params):Obj:=⟨(t "dict"),none,(.dict #[e P "__module__" 537 (s "minortables.cases" 502),e P "__firstlineno__" 541 (i 115 540),e P "__init__" 548 (r 293),e P "set_to" 557 (r 300),e P "do" 567 (r 307),e P "put" 577 (r 314),e P "table_of" 585 (r 321),e P "take" 594 (r 328),e P "join" 606 (r 335),e P "turn" 615 (r 342),e P "flip" 624 (r 349),e P "names" 631 (r 356),e P "go" 642 (r 363),e P "back" 649 (r 370),e P "forth" 656 (r 377),e P "counts" 663 (r 384),e P "twin" 670 (r 391),e P "__static_attributes__" 674 (r 392),e P "__dict__" 676 (r 395),e P "__weakref__" 678 (r 396),e P "__doc__" 679 z] 4),#[]⟩
def RT:Obj:=⟨(t "type"),none,(.cls ⟨"Case",[(t "object")],[(r 394),(t "object")],393,"Case",true,[],[],false,none,false⟩),#[none,none,some (s "Case" 530),some (s "Case" 538),some (b "object.__new__"),some (.bool true)]⟩
def RQ:Obj:=⟨(t "getset_descriptor"),none,(.fields #[(s "__dict__" 675),(r 394),(b "function.__dict__"),(b "function.__dict__#set")]),#[]⟩
def RP:Obj:=⟨(t "getset_descriptor"),none,(.fields #[(s "__weakref__" 677),(r 394),(b "ExceptionGroup.__weakref__"),z]),#[]⟩
def XH:Obj:=⟨(t "super"),none,(.fields #[(r 394),(r 394),(r 394)]),#[]⟩
def XF:Obj:=⟨(t "builtin_function_or_method"),none,(.fields #[(b "object.__init_subclass__"),(r 394)]),#[]⟩
def Iv(P:Params):Obj:=og 61 61 (s "law_minortables_k81_whole_cases" 682) P
def Fj:Obj:=⟨z,none,.fields (fv.take 144).toArray,#[]⟩
def RK:Obj:=tn ["_law_script","_law_k"] 687
def XD:Obj:=g (d 46) "_law_cell"
def RJ:Obj:=c "_law_cell" 684 193 2 3 399 true 181 400 (r 401) (r 402) (r 403) 689
def RG:Obj:=u (d 46) "_law_cell" (s "law_minortables_k81_whole_cases" 682) 404
def RD:Obj:=tn ["_law_script","_law_k","_law_many","_law_drawn"] 695
def XC:Obj:=g (d 47) "_law_pick"
def RB:Obj:=c "_law_pick" 692 199 3 3 406 true 181 407 (r 408) (r 409) (r 410) 699
def Rz:Obj:=u (d 47) "_law_pick" (s "law_minortables_k81_whole_cases" 682) 411
def Xz:Obj:=g (d 48) "_law_table"
def Ry:Obj:=c "_law_table" 702 202 4 3 413 true 181 414 z z (r 415) 705
def Rx:Obj:=u (d 48) "_law_table" (s "law_minortables_k81_whole_cases" 682) 416
def Rv:Obj:=tn ["_law_one","_law_other","_law_made_here","_law_row","_law_line","_law_column","_law_total","_law_k"] 711
def Xy:Obj:=g (d 49) "_law_times"
def Ru:Obj:=c "_law_times" 708 208 2 3 418 true 181 419 (r 420) (r 421) (r 422) 719
def Rt:Obj:=u (d 49) "_law_times" (s "law_minortables_k81_whole_cases" 682) 423
def Rr:Obj:=tn ["_law_kept","_law_kinds","_law_some"] 725
def Xx:Obj:=g (d 50) "_law_class"
def Rq:Obj:=c "_law_class" 722 219 1 3 425 true 181 426 (r 427) (r 428) (r 429) 728
def Rp:Obj:=u (d 50) "_law_class" (s "law_minortables_k81_whole_cases" 682) 430
def Ro:Obj:=tn ["_law_deed_here","e"] 734
def Xw:Obj:=g (d 51) "_law_told"
def Rm:Obj:=c "_law_told" 731 227 1 3 432 true 181 433 (r 434) (r 435) (r 436) 736
def Rk:Obj:=u (d 51) "_law_told" (s "law_minortables_k81_whole_cases" 682) 437
def Rj:Obj:=tn ["_law_script","_law_at","_law_names","_law_name","_law_way","_law_rows","_law_columns","_law_word"] 742
def Xv:Obj:=g (d 52) "_law_deed"
def o444:=c "_law_deed" 739 232 2 3 439 true 181 440 (r 441) (r 442) (r 443) 750
def Ri:Obj:=u (d 52) "_law_deed" (s "law_minortables_k81_whole_cases" 682) 444
def Xu:Obj:=g (d 53) "_law_made"
def Rh:Obj:=c "_law_made" 753 242 3 3 446 true 181 447 z z (r 448) 756
def Rg:Obj:=u (d 53) "_law_made" (s "law_minortables_k81_whole_cases" 682) 449
def Xr:Obj:=g (d 54) "_law_behind"
def Rf:Obj:=c "_law_behind" 759 254 2 3 451 true 181 452 z z (r 453) 762
def Rc:Obj:=u (d 54) "_law_behind" (s "law_minortables_k81_whole_cases" 682) 454
def Rb:Obj:=tn ["_law_case","_law_deed_here"] 768
def Ra:Obj:=tn ["_law_case","_law_deed_here"] 770
def Xq:Obj:=g (d 55) "_law_did"
def Q9:Obj:=c "_law_did" 765 274 2 3 456 true 181 457 (r 458) (r 459) (r 460) 772
def Q8:Obj:=u (d 55) "_law_did" (s "law_minortables_k81_whole_cases" 682) 461
def Xp:Obj:=g (d 56) "_law_all_of"
def Q7:Obj:=c "_law_all_of" 775 282 1 3 463 true 181 464 z z (r 465) 778
def Q6:Obj:=u (d 56) "_law_all_of" (s "law_minortables_k81_whole_cases" 682) 466
def Q5:Obj:=tn ["_law_script","_law_case","_law_known","_law_k","_law_deed_here","_law_due"] 784
def Xo:Obj:=g (d 57) "law"
def Q0:Obj:=c "law" 781 284 1 3 468 true 181 469 (r 470) (r 471) (r 472) 790
def QZ:Obj:=u (d 57) "law" (s "law_minortables_k81_whole_cases" 682) 473
def Ha(P:Params):Heap:=⟨⟨[boot_o_0 P,boot_o_1 P,boot_o_2 P,boot_o_3 P,boot_o_4 P,boot_o_5 P,boot_o_6 P,boot_o_7 P,boot_o_8 P,boot_o_9 P,boot_o_10 P,y,o12,o13,o14]⟩,{}⟩
def T0(P:Params):BT:=I .nil 0 [boot_o_0 P,boot_o_1 P,boot_o_2 P,boot_o_3 P,boot_o_4 P,boot_o_5 P,boot_o_6 P,boot_o_7 P,boot_o_8 P,boot_o_9 P,boot_o_10 P,y,o12,o13,o14]
def T1(P:Params):BT:=I (T0 P) 15 [y,x,o17,y,o19,o20,o21,o22,o23,o24 P,y,x,o27,o28,y,o30 P,o31,o32,o33,o34] |>.set 3 (fun _=>o3_1 P) |>.set 12 (fun _=>Wa)
def T2(P:Params):BT:=I (T1 P) 35 [o35,o36,o37 P,y,x,o40,o41,y,o43 P,o44,o45,o46] |>.set 3 (fun _=>o3_2 P) |>.set 12 (fun _=>V9) |>.set 31 (fun _=>Tz)
def T3(P:Params):BT:=I (T2 P) 47 [o47,o48,o49 P,y,x,o52,o53,y,o55 P,o56,o57,o58] |>.set 3 (fun _=>o3_3 P) |>.set 12 (fun _=>V8) |>.set 31 (fun _=>Tw)
def T4(P:Params):BT:=I (T3 P) 59 [o59,o60,o61 P,y,x,o64,o65,y,o67 P,o68,o69,o70] |>.set 3 (fun _=>o3_4 P) |>.set 12 (fun _=>V7) |>.set 31 (fun _=>Tv)
def T5(P:Params):BT:=I (T4 P) 71 [o71,o72,o73 P,y,x,o76,o77,y,o79 P,o80,o81,o82] |>.set 3 (fun _=>o3_5 P) |>.set 12 (fun _=>V6) |>.set 31 (fun _=>Tt)
def T6(P:Params):BT:=I (T5 P) 83 [o83,o84,o85 P,y,x,o88,o89,y,o91 P,o92,o93,o94] |>.set 3 (fun _=>o3_6 P) |>.set 12 (fun _=>V5) |>.set 31 (fun _=>Tr)
def T7(P:Params):BT:=I (T6 P) 95 [o95,o96,o97 P,y,x,o100,Zb,y,Wm P,Wj,Za,Y9] |>.set 3 (fun _=>o3_7 P) |>.set 12 (fun _=>V4) |>.set 31 (fun _=>Tq)
def T8(P:Params):BT:=I (T7 P) 107 [Wi,Y8,Y7 P,y,x,Y6,Y5,y,Wh P,Wg,Y4,Y0] |>.set 3 (fun _=>o3_8 P) |>.set 12 (fun _=>V3) |>.set 31 (fun _=>Tp)
def T9(P:Params):BT:=I (T8 P) 119 [Wf,YZ,YX P,y,x,YW,YT,y,Wd P,Wb,YS,YQ,y,x,V1,y,YM,V0,VR,y,x,VP,y,YL,VN,VL,y,x,VJ,y,YK,VH,VG,y,x,YJ,VF,VD,y,x,VB,y,YH,Vz,Vy] |>.set 3 (fun _=>o3_9 P) |>.set 12 (fun _=>V2) |>.set 31 (fun _=>Iw)
def T10(P:Params):BT:=I (T9 P) 164 [y,x,YG,Vx,Vw,y,x,Vv,y,YF,Vu,Vt,y,x,Vs,y,YD,Vr,Vq,y,x,Vp,y,YC,Vo,Vn,y,x,YB,Vm,Vl,y,x,Yz,Vk,Vj,y,x,Yy,Vi,Vh,y,x,Yx,Vg,Vf,y,x,Ve,y,Yw,Vd,Vc,y,x,Yv,Vb,Va,y,x,Yu,U9,U8,y,x,Yt,U7,U4,y,x,Ys,U3,UW,y,x,Yr,UL,UJ] |>.set 3 (fun _=>RN P) |>.set 12 (fun _=>Nf)
def T11(P:Params):BT:=I (T10 P) 242 [y,x,Yq,UG,Uz,y,x,Uy,y,Yp,Ux,Uw,y,x,Uv,y,Yo,Uu,Ut,y,x,Yn,Us,Ur,y,x,Uq,y,Ym,Uo,Um,y,x,Ul,y,Yl,Uk,Uj] |>.set 3 (fun _=>RM P) |>.set 12 (fun _=>Nb)
def T12(P:Params):BT:=I (T11 P) 280 [y,Yk,Yj P,y,Yi,Yh,Yg,y,x,Ui,y,Ye,Uh,Ug,y,x,Ue,y,Yd,Ud,o300,y,x,Uc,y,Yc,Ub,Ua,y,x,TY,y,Yb,TQ,TJ,y,x,TF,y,X8,Tn,Tj,y,x,Ti,y,X7,Tg,Tf,y,x,Te,y,X6,Td,Tc,y,x,SX,y,X5,SQ,SN,y,x,SM,y,X4,SJ,Sy,y,x,Sx,y,X3,Sw,Sv,y,x,Ss,y,XS,Sq,Sh,y,x,Sg,y,XR,Sd,R9,y,x,R8,y,XQ,R7,o377,y,x,R6,y,XM,R5,R4,y,x,R3,y,XJ,R0,RZ,RX,RV P,RT,RQ,RP,XH,XF] |>.set 3 (fun _=>RL P) |>.set 12 (fun _=>M9)
def T13(P:Params):BT:=I (T12 P) 399 [y,x,RK,y,XD,RJ,RG,y,x,RD,y,XC,RB,Rz,y,x,Xz,Ry,Rx,y,x,Rv,y,Xy,Ru,Rt,y,x,Rr,y,Xx,Rq,Rp,y,x,Ro,y,Xw,Rm,Rk,y,x,Rj,y,Xv,o444,Ri,y,x,Xu,Rh,Rg,y,x,Xr,Rf,Rc,y,x,Rb,Ra,Xq,Q9,Q8,y,x,Xp,Q7,Q6,y,x,Q5,y,Xo,Q0,QZ] |>.set 3 (fun _=>Iv P) |>.set 12 (fun _=>Fj)
def H1(P:Params):Heap:=⟨⟨[boot_o_0 P,boot_o_1 P,boot_o_2 P,Iv P,boot_o_4 P,boot_o_5 P,boot_o_6 P,boot_o_7 P,boot_o_8 P,boot_o_9 P,boot_o_10 P,y,Fj,o13,o14,y,x,o17,y,o19,o20,o21,o22,o23,o24 P,y,x,o27,o28,y,o30 P,Iw,o32,o33,o34,o35,o36,o37 P,y,x,o40,o41,y,o43 P,o44,o45,o46,o47,o48,o49 P,y,x,o52,o53,y,o55 P,o56,o57,o58,o59,o60,o61 P,y,x,o64,o65,y,o67 P,o68,o69,o70,o71,o72,o73 P,y,x,o76,o77,y,o79 P,o80,o81,o82,o83,o84,o85 P,y,x,o88,o89,y,o91 P,o92,o93,o94,o95,o96,o97 P,y,x,o100,Zb,y,Wm P,Wj,Za,Y9,Wi,Y8,Y7 P,y,x,Y6,Y5,y,Wh P,Wg,Y4,Y0,Wf,YZ,YX P,y,x,YW,YT,y,Wd P,Wb,YS,YQ,y,x,V1,y,YM,V0,VR,y,x,VP,y,YL,VN,VL,y,x,VJ,y,YK,VH,VG,y,x,YJ,VF,VD,y,x,VB,y,YH,Vz,Vy,y,x,YG,Vx,Vw,y,x,Vv,y,YF,Vu,Vt,y,x,Vs,y,YD,Vr,Vq,y,x,Vp,y,YC,Vo,Vn,y,x,YB,Vm,Vl,y,x,Yz,Vk,Vj,y,x,Yy,Vi,Vh,y,x,Yx,Vg,Vf,y,x,Ve,y,Yw,Vd,Vc,y,x,Yv,Vb,Va,y,x,Yu,U9,U8,y,x,Yt,U7,U4,y,x,Ys,U3,UW,y,x,Yr,UL,UJ,y,x,Yq,UG,Uz,y,x,Uy,y,Yp,Ux,Uw,y,x,Uv,y,Yo,Uu,Ut,y,x,Yn,Us,Ur,y,x,Uq,y,Ym,Uo,Um,y,x,Ul,y,Yl,Uk,Uj,y,Yk,Yj P,y,Yi,Yh,Yg,y,x,Ui,y,Ye,Uh,Ug,y,x,Ue,y,Yd,Ud,o300,y,x,Uc,y,Yc,Ub,Ua,y,x,TY,y,Yb,TQ,TJ,y,x,TF,y,X8,Tn,Tj,y,x,Ti,y,X7,Tg,Tf,y,x,Te,y,X6,Td,Tc,y,x,SX,y,X5,SQ,SN,y,x,SM,y,X4,SJ,Sy,y,x,Sx,y,X3,Sw,Sv,y,x,Ss,y,XS,Sq,Sh,y,x,Sg,y,XR,Sd,R9,y,x,R8,y,XQ,R7,o377,y,x,R6,y,XM,R5,R4,y,x,R3,y,XJ,R0,RZ,RX,RV P,RT,RQ,RP,XH,XF,y,x,RK,y,XD,RJ,RG,y,x,RD,y,XC,RB,Rz,y,x,Xz,Ry,Rx,y,x,Rv,y,Xy,Ru,Rt,y,x,Rr,y,Xx,Rq,Rp,y,x,Ro,y,Xw,Rm,Rk,y,x,Rj,y,Xv,o444,Ri,y,x,Xu,Rh,Rg,y,x,Xr,Rf,Rc,y,x,Rb,Ra,Xq,Q9,Q8,y,x,Xp,Q7,Q6,y,x,Q5,y,Xo,Q0,QZ]⟩,{}⟩
def S0(w:World)(os:OsState):SharedT:=⟨T0 w.params,15,{},⟨[]⟩,{},187,os⟩
def S1(w:World)(os:OsState):SharedT:=⟨T1 w.params,35,{},⟨[]⟩,{},214,os⟩
def S2(w:World)(os:OsState):SharedT:=⟨T2 w.params,47,{},⟨[]⟩,{},230,os⟩
def S3(w:World)(os:OsState):SharedT:=⟨T3 w.params,59,{},⟨[]⟩,{},246,os⟩
def S4(w:World)(os:OsState):SharedT:=⟨T4 w.params,71,{},⟨[]⟩,{},262,os⟩
def S5(w:World)(os:OsState):SharedT:=⟨T5 w.params,83,{},⟨[]⟩,{},278,os⟩
def S6(w:World)(os:OsState):SharedT:=⟨T6 w.params,95,{},⟨[]⟩,{},294,os⟩
def S7(w:World)(os:OsState):SharedT:=⟨T7 w.params,107,{},⟨[]⟩,{},310,os⟩
def S8(w:World)(os:OsState):SharedT:=⟨T8 w.params,119,{},⟨[]⟩,{},326,os⟩
def S9(w:World)(os:OsState):SharedT:=⟨T9 w.params,164,{},⟨[]⟩,{},384,os⟩
def S10(w:World)(os:OsState):SharedT:=⟨T10 w.params,242,{},⟨[]⟩,{},478,os⟩
def S11(w:World)(os:OsState):SharedT:=⟨T11 w.params,280,{},⟨[]⟩,{},530,os⟩
def S12(w:World)(os:OsState):SharedT:=⟨T12 w.params,399,{},⟨[]⟩,{},682,os⟩
def S13(w:World)(os:OsState):SharedT:=⟨T13 w.params,475,{},⟨[]⟩,{},793,os⟩
def S(w:World)(os:OsState):Shared:=⟨H1 w.params,⟨[]⟩,{},793,os⟩
def E:Env:={ scope:=p.main.scope,locals:=mainNs,globals:=mainNs,cells:=[],code:=(r 13),frame:=some 14 }
abbrev C:Code:=.body (behindTheImports p) E
abbrev B:List Frame:=[topFrame ⟨0,0,0,0⟩]
def l1:List Stmt:=((behindTheImports p).drop 0).take 3
def l2:List Stmt:=((behindTheImports p).drop 3).take 1
def l3:List Stmt:=((behindTheImports p).drop 4).take 1
def l4:List Stmt:=((behindTheImports p).drop 5).take 1
def l5:List Stmt:=((behindTheImports p).drop 6).take 1
def l6:List Stmt:=((behindTheImports p).drop 7).take 1
def l7:List Stmt:=((behindTheImports p).drop 8).take 1
def l8:List Stmt:=((behindTheImports p).drop 9).take 1
def l9:List Stmt:=((behindTheImports p).drop 10).take 8
def l10:List Stmt:=((behindTheImports p).drop 18).take 16
def l11:List Stmt:=((behindTheImports p).drop 34).take 10
def l12:List Stmt:=((behindTheImports p).drop 44).take 1
def l13:List Stmt:=((behindTheImports p).drop 45).take 13
theorem pre(w:World)(os:OsState):topGo treeTable p w 11 (some (r 6)) 12 ⟨boot_heap w.params,Array.mk [],boot_drawn,boot_toks,os⟩ (topStub p)=some (⟨Ha w.params,⟨[]⟩,{},187,os⟩,⟨denote treeTable C,C,⟨0,0,0,0⟩,B⟩):=goT (by rfl')
theorem blk(w:World)(os:OsState):segRun treeTable p w 11 (some (r 6)) 1 1 ⟨Ha w.params,⟨[]⟩,{},187,os⟩ (blockOf (behindTheImports p) E C ⟨0,0,0,0⟩ B)=some (.next,(S0 w os).abs,C,⟨0,0,0,0⟩):=Z2 (by rfl')
theorem p1(w:World)(os:OsState):segRun treeTable p w 11 (some (r 6)) 1 225 (S0 w os).abs (piecesOf l1 E C ⟨0,0,0,0⟩ B)=some (.next,(S1 w os).abs,C,⟨5,0,6,8⟩):=G5z (vC (by rfl'))
theorem p2(w:World)(os:OsState):segRun treeTable p w 11 (some (r 6)) 1 214 (S1 w os).abs (piecesOf l2 E C ⟨5,0,6,8⟩ B)=some (.next,(S2 w os).abs,C,⟨7,0,8,8⟩):=G5z (vC (by rfl'))
theorem p3(w:World)(os:OsState):segRun treeTable p w 11 (some (r 6)) 1 214 (S2 w os).abs (piecesOf l3 E C ⟨7,0,8,8⟩ B)=some (.next,(S3 w os).abs,C,⟨9,0,10,8⟩):=G5z (vC (by rfl'))
theorem p4(w:World)(os:OsState):segRun treeTable p w 11 (some (r 6)) 1 214 (S3 w os).abs (piecesOf l4 E C ⟨9,0,10,8⟩ B)=some (.next,(S4 w os).abs,C,⟨11,0,12,8⟩):=G5z (vC (by rfl'))
theorem p5(w:World)(os:OsState):segRun treeTable p w 11 (some (r 6)) 1 214 (S4 w os).abs (piecesOf l5 E C ⟨11,0,12,8⟩ B)=some (.next,(S5 w os).abs,C,⟨13,0,14,8⟩):=G5z (vC (by rfl'))
theorem p6(w:World)(os:OsState):segRun treeTable p w 11 (some (r 6)) 1 214 (S5 w os).abs (piecesOf l6 E C ⟨13,0,14,8⟩ B)=some (.next,(S6 w os).abs,C,⟨15,0,16,8⟩):=G5z (vC (by rfl'))
theorem p7(w:World)(os:OsState):segRun treeTable p w 11 (some (r 6)) 1 214 (S6 w os).abs (piecesOf l7 E C ⟨15,0,16,8⟩ B)=some (.next,(S7 w os).abs,C,⟨17,0,18,8⟩):=G5z (vC (by rfl'))
theorem p8(w:World)(os:OsState):segRun treeTable p w 11 (some (r 6)) 1 214 (S7 w os).abs (piecesOf l8 E C ⟨17,0,18,8⟩ B)=some (.next,(S8 w os).abs,C,⟨19,0,20,8⟩):=G5z (vC (by rfl'))
theorem p9(w:World)(os:OsState):segRun treeTable p w 11 (some (r 6)) 1 378 (S8 w os).abs (piecesOf l9 E C ⟨19,0,20,8⟩ B)=some (.next,(S9 w os).abs,C,⟨35,0,39,15⟩):=G5z (vC (by rfl'))
theorem p10(w:World)(os:OsState):segRun treeTable p w 11 (some (r 6)) 1 397 (S9 w os).abs (piecesOf l10 E C ⟨35,0,39,15⟩ B)=some (.next,(S10 w os).abs,C,⟨78,0,79,69⟩):=G5z (vC (by rfl'))
theorem p11(w:World)(os:OsState):segRun treeTable p w 11 (some (r 6)) 1 209 (S10 w os).abs (piecesOf l11 E C ⟨78,0,79,69⟩ B)=some (.next,(S11 w os).abs,C,⟨105,0,114,37⟩):=G5z (vC (by rfl'))
theorem p12(w:World)(os:OsState):segRun treeTable p w 11 (some (r 6)) 1 682 (S11 w os).abs (piecesOf l12 E C ⟨105,0,114,37⟩ B)=some (.next,(S12 w os).abs,C,⟨115,0,191,16⟩):=G5z (vC (by rfl'))
theorem p13(w:World)(os:OsState):segRun treeTable p w 11 (some (r 6)) 1 375 (S12 w os).abs (piecesOf l13 E C ⟨115,0,191,16⟩ B)=some (.next,(S13 w os).abs,C,⟨284,0,291,37⟩):=G5z (vC (by rfl'))
theorem fin(w:World)(os:OsState):topRun treeTable p w 11 (some (r 6)) 2 (S13 w os).abs ⟨doneF .next,C,⟨284,0,291,37⟩,B⟩=some (S w os):=ZF (by rfl')
abbrev M:Nat:=(12+(1+(225+(214+(214+(214+(214+(214+(214+(214+(378+(397+(209+(682+(375+2)))))))))))))))
theorem lst:behindTheImports p=(l1++(l2++(l3++(l4++(l5++(l6++(l7++(l8++(l9++(l10++(l11++(l12++(l13++[]))))))))))))):=by rfl'
theorem r13(w:World)(os:OsState):topRun treeTable p w 11 (some (r 6)) 2 (S13 w os).abs (restOf [] E C ⟨284,0,291,37⟩ B)=some (S w os):=fin w os
theorem r12(w:World)(os:OsState):topRun treeTable p w 11 (some (r 6)) (375+2) (S12 w os).abs (restOf (l13++[]) E C ⟨115,0,191,16⟩ B)=some (S w os):=H5z (p13 w os) (r13 w os)
theorem r11(w:World)(os:OsState):topRun treeTable p w 11 (some (r 6)) (682+(375+2)) (S11 w os).abs (restOf (l12++(l13++[])) E C ⟨105,0,114,37⟩ B)=some (S w os):=H5z (p12 w os) (r12 w os)
theorem r10(w:World)(os:OsState):topRun treeTable p w 11 (some (r 6)) (209+(682+(375+2))) (S10 w os).abs (restOf (l11++(l12++(l13++[]))) E C ⟨78,0,79,69⟩ B)=some (S w os):=H5z (p11 w os) (r11 w os)
theorem r9(w:World)(os:OsState):topRun treeTable p w 11 (some (r 6)) (397+(209+(682+(375+2)))) (S9 w os).abs (restOf (l10++(l11++(l12++(l13++[])))) E C ⟨35,0,39,15⟩ B)=some (S w os):=H5z (p10 w os) (r10 w os)
theorem r8(w:World)(os:OsState):topRun treeTable p w 11 (some (r 6)) (378+(397+(209+(682+(375+2))))) (S8 w os).abs (restOf (l9++(l10++(l11++(l12++(l13++[]))))) E C ⟨19,0,20,8⟩ B)=some (S w os):=H5z (p9 w os) (r9 w os)
theorem r7(w:World)(os:OsState):topRun treeTable p w 11 (some (r 6)) (214+(378+(397+(209+(682+(375+2)))))) (S7 w os).abs (restOf (l8++(l9++(l10++(l11++(l12++(l13++[])))))) E C ⟨17,0,18,8⟩ B)=some (S w os):=H5z (p8 w os) (r8 w os)
theorem r6(w:World)(os:OsState):topRun treeTable p w 11 (some (r 6)) (214+(214+(378+(397+(209+(682+(375+2))))))) (S6 w os).abs (restOf (l7++(l8++(l9++(l10++(l11++(l12++(l13++[]))))))) E C ⟨15,0,16,8⟩ B)=some (S w os):=H5z (p7 w os) (r7 w os)
theorem r5(w:World)(os:OsState):topRun treeTable p w 11 (some (r 6)) (214+(214+(214+(378+(397+(209+(682+(375+2)))))))) (S5 w os).abs (restOf (l6++(l7++(l8++(l9++(l10++(l11++(l12++(l13++[])))))))) E C ⟨13,0,14,8⟩ B)=some (S w os):=H5z (p6 w os) (r6 w os)
theorem r4(w:World)(os:OsState):topRun treeTable p w 11 (some (r 6)) (214+(214+(214+(214+(378+(397+(209+(682+(375+2))))))))) (S4 w os).abs (restOf (l5++(l6++(l7++(l8++(l9++(l10++(l11++(l12++(l13++[]))))))))) E C ⟨11,0,12,8⟩ B)=some (S w os):=H5z (p5 w os) (r5 w os)
theorem r3(w:World)(os:OsState):topRun treeTable p w 11 (some (r 6)) (214+(214+(214+(214+(214+(378+(397+(209+(682+(375+2)))))))))) (S3 w os).abs (restOf (l4++(l5++(l6++(l7++(l8++(l9++(l10++(l11++(l12++(l13++[])))))))))) E C ⟨9,0,10,8⟩ B)=some (S w os):=H5z (p4 w os) (r4 w os)
theorem r2(w:World)(os:OsState):topRun treeTable p w 11 (some (r 6)) (214+(214+(214+(214+(214+(214+(378+(397+(209+(682+(375+2))))))))))) (S2 w os).abs (restOf (l3++(l4++(l5++(l6++(l7++(l8++(l9++(l10++(l11++(l12++(l13++[]))))))))))) E C ⟨7,0,8,8⟩ B)=some (S w os):=H5z (p3 w os) (r3 w os)
theorem r1(w:World)(os:OsState):topRun treeTable p w 11 (some (r 6)) (214+(214+(214+(214+(214+(214+(214+(378+(397+(209+(682+(375+2)))))))))))) (S1 w os).abs (restOf (l2++(l3++(l4++(l5++(l6++(l7++(l8++(l9++(l10++(l11++(l12++(l13++[])))))))))))) E C ⟨5,0,6,8⟩ B)=some (S w os):=H5z (p2 w os) (r2 w os)
theorem r0(w:World)(os:OsState):topRun treeTable p w 11 (some (r 6)) (225+(214+(214+(214+(214+(214+(214+(214+(378+(397+(209+(682+(375+2))))))))))))) (S0 w os).abs (restOf (l1++(l2++(l3++(l4++(l5++(l6++(l7++(l8++(l9++(l10++(l11++(l12++(l13++[]))))))))))))) E C ⟨0,0,0,0⟩ B)=some (S w os):=H5z (p1 w os) (r1 w os)
theorem run(w:World)(os:OsState):topRun treeTable p w 11 (some (r 6)) M ⟨boot_heap w.params,Array.mk [],boot_drawn,boot_toks,os⟩ (topStub p)=some (S w os):=go_top (pre w os) (piece_block (blk w os) (QD lst (r0 w os)))
def K(P:Params):Frag:=[(2,boot_o_2 P),(3,Iv P),(15,y),(17,o17),(18,y),(20,o20),(21,o21),(22,o22),(29,y),(30,o30 P),(31,Iw),(32,o32),(35,o35),(42,y),(43,o43 P),(44,o44),(47,o47),(54,y),(55,o55 P),(56,o56),(59,o59),(66,y),(67,o67 P),(68,o68),(71,o71),(78,y),(79,o79 P),(80,o80),(83,o83),(90,y),(91,o91 P),(92,o92),(95,o95),(102,y),(103,Wm P),(104,Wj),(107,Wi),(114,y),(115,Wh P),(116,Wg),(119,Wf),(126,y),(127,Wd P),(128,Wb),(131,y),(133,V1),(134,y),(136,V0),(137,VR),(138,y),(140,VP),(141,y),(143,VN),(144,VL),(145,y),(147,VJ),(148,y),(150,VH),(151,VG),(152,y),(155,VF),(156,VD),(157,y),(159,VB),(160,y),(162,Vz),(163,Vy),(164,y),(167,Vx),(168,Vw),(169,y),(171,Vv),(172,y),(174,Vu),(175,Vt),(176,y),(178,Vs),(179,y),(181,Vr),(182,Vq),(183,y),(185,Vp),(186,y),(188,Vo),(189,Vn),(190,y),(193,Vm),(194,Vl),(195,y),(198,Vk),(199,Vj),(200,y),(203,Vi),(204,Vh),(205,y),(208,Vg),(209,Vf),(210,y),(212,Ve),(213,y),(215,Vd),(216,Vc),(217,y),(220,Vb),(221,Va),(222,y),(225,U9),(226,U8),(227,y),(230,U7),(231,U4),(232,y),(235,U3),(236,UW),(237,y),(240,UL),(241,UJ),(242,y),(245,UG),(246,Uz),(247,y),(249,Uy),(250,y),(252,Ux),(253,Uw),(254,y),(256,Uv),(257,y),(259,Uu),(260,Ut),(261,y),(264,Us),(265,Ur),(266,y),(268,Uq),(269,y),(271,Uo),(272,Um),(273,y),(275,Ul),(276,y),(278,Uk),(279,Uj),(287,y),(289,Ui),(290,y),(292,Uh),(293,Ug),(294,y),(296,Ue),(297,y),(299,Ud),(300,o300),(301,y),(303,Uc),(304,y),(306,Ub),(307,Ua),(308,y),(310,TY),(311,y),(313,TQ),(314,TJ),(315,y),(317,TF),(318,y),(320,Tn),(321,Tj),(322,y),(324,Ti),(325,y),(327,Tg),(328,Tf),(329,y),(331,Te),(332,y),(334,Td),(335,Tc),(336,y),(338,SX),(339,y),(341,SQ),(342,SN),(343,y),(345,SM),(346,y),(348,SJ),(349,Sy),(350,y),(352,Sx),(353,y),(355,Sw),(356,Sv),(357,y),(359,Ss),(360,y),(362,Sq),(363,Sh),(364,y),(366,Sg),(367,y),(369,Sd),(370,R9),(371,y),(373,R8),(374,y),(376,R7),(377,o377),(378,y),(380,R6),(381,y),(383,R5),(384,R4),(385,y),(387,R3),(388,y),(390,R0),(391,RZ),(392,RX),(393,RV P),(394,RT),(395,RQ),(396,RP),(399,y),(401,RK),(402,y),(404,RJ),(405,RG),(406,y),(408,RD),(409,y),(411,RB),(412,Rz),(413,y),(416,Ry),(417,Rx),(418,y),(420,Rv),(421,y),(423,Ru),(424,Rt),(425,y),(427,Rr),(428,y),(430,Rq),(431,Rp),(432,y),(434,Ro),(435,y),(437,Rm),(438,Rk),(439,y),(441,Rj),(442,y),(444,o444),(445,Ri),(446,y),(449,Rh),(450,Rg),(451,y),(454,Rf),(455,Rc),(456,y),(458,Rb),(459,Ra),(461,Q9),(462,Q8),(463,y),(466,Q7),(467,Q6),(468,y),(470,Q5),(471,y),(473,Q0),(474,QZ)]
def KT(P:Params):Frag:=K P++[(457,x)]
noncomputable abbrev as:List Addr:=[2,3,15,17,18,20,21,22,29,30,31,32,35,42,43,44,47,54,55,56,59,66,67,68,71,78,79,80,83,90,91,92,95,102,103,104,107,114,115,116,119,126,127,128,131,133,134,136,137,138,140,141,143,144,145,147,148,150,151,152,155,156,157,159,160,162,163,164,167,168,169,171,172,174,175,176,178,179,181,182,183,185,186,188,189,190,193,194,195,198,199,200,203,204,205,208,209,210,212,213,215,216,217,220,221,222,225,226,227,230,231,232,235,236,237,240,241,242,245,246,247,249,250,252,253,254,256,257,259,260,261,264,265,266,268,269,271,272,273,275,276,278,279,287,289,290,292,293,294,296,297,299,300,301,303,304,306,307,308,310,311,313,314,315,317,318,320,321,322,324,325,327,328,329,331,332,334,335,336,338,339,341,342,343,345,346,348,349,350,352,353,355,356,357,359,360,362,363,364,366,367,369,370,371,373,374,376,377,378,380,381,383,384,385,387,388,390,391,392,393,394,395,396,399,401,402,404,405,406,408,409,411,412,413,416,417,418,420,421,423,424,425,427,428,430,431,432,434,435,437,438,439,441,442,444,445,446,449,450,451,454,455,456,458,459,461,462,463,466,467,468,470,471,473,474,457]
abbrev m0:Nat:=11
abbrev tk:Nat:=793
abbrev ann:Option Value:=(some (r 6))
def Xt(s:Shared):Bool:=xlAt q [] s&&recOk PySem.Challenge.rw_minortables_k81_whole_cases.row.toRowW.records s
theorem lk0(w:World)(os:OsState):(staticsOk (importedModules p.main.body) (boot_heap w.params) (H1 w.params)&&namesBound p (H1 w.params)&&gensDone (S w os)&&laidKept (boot_heap w.params) (H1 w.params))=true:=by
 rw[Fast.te5923862056798008813];rfl'
theorem lk1(w:World)(os:OsState):PyProof.Rows.seen ((PyProof.Rows.recsOf q).map (·.name)) (PyProof.Rows.ownsOf q) [] { S w os with gens := #[] }=PyProof.Rows.expectedOf q:=by
 rw[Fast.te5160383126252970620,Fast.te3399658132070893891,Fast.te5991557255702980513];rfl'
theorem lk2(w:World)(os:OsState):(S w os).heap.bltView=bltViewBooted:=by rfl'
theorem lk3(w:World)(os:OsState):((S w os).heap.keysOk (looseW q lo) ((PyProof.Rows.recsOf q).map (·.name)) ((PyProof.Rows.litsOf q).map (·.1)) ((PyProof.Rows.clssOf q (looseW q lo)).map (·.name))&&(S w os).heap.accountedOkI (importedModules p.main.body)&&(S w os).heap.isNs mainGlobals&&(S w os).heap.isNs builtinsNs&&PyProof.Rows.tablesOk q (S w os).heap&&Xt (S w os)&&(if true then(S w os).gens.size==0 else !leftWithCleanup (S w os).gens))=true:=by
 rw[Fast.te10880121769531294198,Fast.te821141287760084731,Fast.te3399658132070893891,Fast.te7409074990110511671,Fast.te13664370479719496447,Fast.te14722251495701143533,Fast.te5923862056798008813];rfl'
theorem lk4(w:World)(os:OsState):PyProof.Rows.tabsOk q (S w os)=true:=by rw[Fast.te479339242167458305];rfl'
theorem lk5(w:World)(os:OsState):pinSeenD q (PyProof.Rows.drecsOf q) (S w os)=pinGoodD (PyProof.Rows.drecsOf q):=by rw[Fast.te16090120013241838585,Fast.te3247288618530077131];rfl'
theorem lk6(w:World)(os:OsState):PyProof.Rows.plainSeenE q (looseW q lo) (S w os)=PyProof.Rows.plainGoodE q (looseW q lo):=by rw[Fast.te2386780881361962483,Fast.te821141287760084731];rfl'
theorem lk7(w:World)(os:OsState):PyProof.Rows.plainSeenD q lo (S w os)=PyProof.Rows.plainGoodD q lo:=by rw[Fast.te11698064438423848299];rfl'
theorem lk8(w:World)(os:OsState):wideSeen q (S w os)=wideGood q:=by rw[Fast.te7317090234206586261];rfl'
theorem lk9(w:World)(os:OsState):clsSeenW q lo (S w os)=clsGoodW q lo:=by rw[Fast.te7369524293546568484];rfl'
theorem asK(P:Params):as=(KT P).map (·.1):=by rfl'
abbrev H:Hook:=kHook KT as asK
theorem lkY(w:World)(os:OsState):H.obs (S w os)=H.val w:=by rfl'
theorem looks(w:World):(fun os=>((staticsOk (importedModules p.main.body) (boot_heap w.params) (H1 w.params)&&namesBound p (H1 w.params)&&gensDone (S w os)&&laidKept (boot_heap w.params) (H1 w.params)),openSeen q lo (importedModules p.main.body) Xt true (S w os),H.obs (S w os)))=fun _=>(true,openGood q lo,H.val w) :=
 funext fun os=>F5z (lk0 w os) (F5z (F5z (lk1 w os) (F5z (lk2 w os) (F5z (lk3 w os) (F5z (lk4 w os) (F5z (lk5 w os) (F5z (lk6 w os) (F5z (lk7 w os) (F5z (lk8 w os) (lk9 w os))))))))) (lkY w os))
theorem size(w:World):((boot_heap w.params).isNs mainGlobals&&(Array.mk ([]:List GenState)).size==0,(boot_heap w.params).objs.size,(boot_heap w.params).nsMap mainGlobals "__annotations__")=(true,m0,ann):=by
 rw[Fast.te8920871248978507458];rfl'
theorem bt(w:World):(fencedOpening treeTable p w N).map (fun s=>(s.heap,s.gens,s.drawn,s.toks))=some (boot_heap w.params,Array.mk [],boot_drawn,boot_toks) :=
 boot_open (p:=p) (N:=N) (by rfl') (by rfl') (fun _=>rfl) w
theorem left:LeftO p q lo Xt H.obs H.val N :=
 LeftO.of_pieces (H₀:=boot_heap) (H₁:=H1) (m₀:=m0) (ann:=ann) (M:=M) (gs₀:=Array.mk []) (gs₁:=⟨[]⟩) (d₀:=boot_drawn) (d₁:={}) (k₀:=boot_toks) (k₁:=tk) bt size run (by rfl') looks
abbrev R:OpenLaw:=PySem.Challenge.rw_minortables_k81_whole_cases
theorem said:R.wellSaid=true:=by rw[Fast.te9446332074065402090];rfl'
def dr:DefRec:=match d 57 with | .FunctionDef n a l _ _ _ sc _ _ o=>⟨n,a,l,sc,o⟩ | _=>⟨"",default,[],default,⟨0,0,0,0⟩⟩
theorem hdef:defOf q R.row.name=some (dr,[]):=by rfl'
theorem hthe:R.row.prog.theDef R.row.name=some (dr.params,dr.body,dr.scope):=by rfl'
theorem hkw:kwWritten? dr.params.kwonlyargs dr.params.kw_defaults=some []:=by rfl'
theorem hok:(chainsOk q&&opensWell R.row.prog&&(frees R.row.toRowW&&R.row.within.isEmpty))=true:=by rfl'
theorem hbare:R.row.prog.bare:=⟨rfl,rfl,rfl,rfl,rfl,by rfl'⟩
theorem hpro:R.row.toRowW.promised:=⟨[.list []],by rfl',by rfl'⟩
theorem holds(call:WalkO q lo (XL q []) H.says R.row.toRowW dr [] fun f vs=>PySem.call f vs):R.Holds :=
 holds_law said fun k1=>holds_open (r:=R.row) (q:=q) (loose:=lo) (Xt:=Xt) (XP:=XL q []) (Yf:=H.obs) (Ya:=H.val) (YP:=H.says) (N:=N) left H.of H.keeps (fun s e=>xl_of s (Bool.and_eq_true_iff.mp e).1) XL.keeps hdef hthe hkw (fun s e=>recFacts_of (Bool.and_eq_true_iff.mp e).2) rfl k1 hok hbare hpro call
end H81
end
namespace M81
open PySem PySem.W L2 DE
set_option maxHeartbeats 0 in
theorem txt(w:World){mg:Str->Option Value}{h:Heap}(X:(H81.K w.params).In h)(G:h.Ns mainGlobals mg):Text w (H81.K w.params) mg T :=
 ⟨in_of (l:=cs) (Q:=fun(x:Str) (d:D)=>∃ v u,(∀ H',Rep (H81.K w.params) H' d v)/\mg x=some u/\RelV v u) (aC (cA X G 344 (by rfl')) (aC (cA X G 415 (by rfl')) (aC (cS X G 504 (by rfl')) (aC (cA X G 506 (by rfl')) (aN))))),
  in_of (l:=bl) (Q:=fun x b=>mg x=none/\x=Str.ofString b) (J8 X G (by rfl')),
  in_of (l:=df) (Q:=fun x fd=>FunAt (H81.K w.params) mg x fd) (Ju X G (by rfl') (by rfl') (by rfl')),XText.of (fun x v h=>I4z X G h) (by rfl'),by show List.map _ _=List.map _ _;rfl'⟩
set_option maxHeartbeats 0 in
theorem cas(w:World){mg:Str->Option Value}{h:Heap}(X:(H81.K w.params).In h)(G:h.Ns mainGlobals mg):CaseTxt (H81.K w.params) mg 394 :=
 ⟨⟨⟨(by rfl'),(by rfl'),(by rfl'),(by rfl')⟩,by show findIn _ _ _=_;rfl',by show findIn _ _ _=_;rfl',by show findIn _ _ _=_;rfl',I4z X G (by rfl')⟩,
  lX 300 (.str "minortables.cases" 502) (.ref 299) (by rfl') (by rfl') (by rfl') (by rfl') (by rfl'),
  lX 307 (.str "minortables.cases" 502) (.ref 306) (by rfl') (by rfl') (by rfl') (by rfl') (by rfl'),
  lX 314 (.str "minortables.cases" 502) (.ref 313) (by rfl') (by rfl') (by rfl') (by rfl') (by rfl'),
  lX 321 (.str "minortables.cases" 502) (.ref 320) (by rfl') (by rfl') (by rfl') (by rfl') (by rfl'),
  lX 328 (.str "minortables.cases" 502) (.ref 327) (by rfl') (by rfl') (by rfl') (by rfl') (by rfl'),
  lX 335 (.str "minortables.cases" 502) (.ref 334) (by rfl') (by rfl') (by rfl') (by rfl') (by rfl'),
  lX 342 (.str "minortables.cases" 502) (.ref 341) (by rfl') (by rfl') (by rfl') (by rfl') (by rfl'),
  lX 349 (.str "minortables.cases" 502) (.ref 348) (by rfl') (by rfl') (by rfl') (by rfl') (by rfl'),
  lX 356 (.str "minortables.cases" 502) (.ref 355) (by rfl') (by rfl') (by rfl') (by rfl') (by rfl'),
  lX 384 (.str "minortables.cases" 502) (.ref 383) (by rfl') (by rfl') (by rfl') (by rfl') (by rfl')⟩
end M81
namespace H81
open PySem PySem.W
theorem noPt(P:Params):(K P).lookup 457=none:=by rfl'
theorem inT{P:Params}{h:Heap}(X:(KT P).In h):(K P).In h/\h.get? 457=some (tabObj #[]):=by
 refine⟨fun b o e=>X b o ?_,X 457 _ ?_⟩
 .unfold KT
  rw[List.lookup_append,e];rfl
 .unfold KT
  rw[List.lookup_append,noPt];rfl
end H81
open PySem PySem.W PyProof.Rows
set_option maxRecDepth 100000 in
set_option maxHeartbeats 0 in
theorem PySem.Challenge.cw_minortables_k81_whole_cases_holds : PySem.Challenge.rw_minortables_k81_whole_cases.Holds :=
 H81.holds (L2.walkL (l := PySem.Challenge.rw_minortables_k81_whole_cases) (k := 41) (K := H81.K) (x := "_law_script") (c := 461) (Pt := 457) rfl (by rfl') ⟨rfl, by decide, by decide⟩ (fun w h Y => H81.inT (W.kIn_of (e := H81.asK) Y)) (fun P => by rfl') (fun P => by rfl') fun w mg fa h KX G hmg => M81.finL (fI := 293) (M81.txt w KX G) (M81.cas w KX G) ⟨by rfl', by rfl', by rfl', by rfl'⟩ (L2.fun_mk (f := 293) (oc := .type "function") (od := none) (osl := #[]) (kV := .none) (doc := .none) (pm := (.str "minortables.cases" 502)) (cdv := .ref 292) (ct := .none) (an := none) (by rfl') (by rfl') (by rfl')) KX G hmg 474 473 462 461 457 .none (.str "law_minortables_k81_whole_cases" 682) .none (.str "law_minortables_k81_whole_cases" 682) (by rfl') (by rfl') (by rfl') (by rfl') (by rfl') (by rfl') (by rfl'))
#print axioms PySem.Challenge.cw_minortables_k81_whole_cases_holds
