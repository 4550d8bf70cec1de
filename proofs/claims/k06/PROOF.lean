import PyProof.Rows.All
import Wide.All
import OpenK.AllK
import Wide.FinOn
import Lean
import PyProof.EqAt
import PyProof.EqKinds
import PyProof.TupleCall
import PyProof.ListRange
import PySem.Names
import PyProof.NeKinds
import PySem.Challenge.RW_minortables_k06_put_together_refused
set_option Elab.async false
set_option linter.all false
set_option maxRecDepth 100000
noncomputable section
namespace Zz
abbrev Zf:=PySem.W.Frag
open PySem
def A0z:=@PyProof.Rows.callWith_type1
def B0z:=@PySem.W.Fast.te14364793385576792824
def C0z:=@List.drop_eq_getElem_cons
def D0z:=@PySem.F.args_tuple_add_2
def E0z:=@PySem.AutoSeq1.wpAny_loadPart'
def F0z:=@PySem.AutoSeq1.sub_tuple_tuple
def G0z:=@PySem.F.args_tuple_mul_2
def H0z:=@PySem.F.slot_list_append
def I0z:=@PySem.F.type_list_append
def J0z:=@PySem.F.entry_tuple_add
def K0z:=@PySem.F.entry_tuple_mul
def L0z:=@PySem.F.plainAttrs_list
def M0z:=@PySem.W.cellsFrom_some
def N0z:=@PySem.F.slot_tuple_add
def O0z:=@PySem.F.slot_tuple_mul
def P0z:=@Option.map_eq_some_iff
def Q0z:=@List.mem_append_right
def R0z:=@PySem.F.typeOf_object_class
def S0z:=@List.mem_cons_of_mem
def T0z:=@List.mem_append_left
def U0z:=@PySem.Around.frames_deeper
def V0z:=@PySem.W.looks_findIn
def W0z:=@PySem.W.hideAll_get
def X0z:=@List.filterMap_cons
def Y0z:=@Array.length_toList
def Z0z:=@PySem.mem_of_lookup
def A1z:=@List.replicate_succ
def B1z:=@beq_eq_false_iff_ne
def C1z:=@List.toList_toArray
def D1z:=@Nat.lt_of_lt_of_le
def E1z:=@PySem.W.of_hideAll
def F1z:=@List.mem_cons_self
def G1z:=@PySem.wpAny_pyIter_tuple
def H1z:=@PySem.Calls.spliced_cons
def I1z:=@PySem.wpAny_Call_Name_kw
def J1z:=@PySem.W.callWith_K
def K1z:=@List.length_append
def L1z:=@Bool.false_ne_true
def M1z:=@Bool.false_eq_true
def N1z:=@PySem.wpAny_setField_rec
def O1z:=@Nat.lt_of_le_of_lt
def P1z:=@PySem.W.kitx_tuple
def Q1z:=@PySem.wpAny_truthy_bool
def R1z:=@PySem.wpAny_newObj_type
def S1z:=@PySem.Calls.spliced_nil
def T1z:=@List.size_toArray
def U1z:=@List.flatten_cons
def V1z:=@Nat.lt_succ_of_lt
def W1z:=@Nat.le_of_succ_le
def X1z:=@Bool.not_eq_true'
def Y1z:=@decide_eq_true_eq
def Z1z:=@Option.some.injEq
def A2z:=@PySem.W.kitx_bool
def B2z:=@PySem.W.kitx_list
def C2z:=@List.length_take
def D2z:=@List.lookup_cons
def E2z:=@Nat.le_add_right
def F2z:=@PySem.AutoSeq1.idx_int
def G2z:=@Bool.and_eq_true
def H2z:=@Option.bind_some
def I2z:=@PySem.W.kitx_int
def J2z:=@PySem.W.kitx_str
def K2z:=@decide_eq_false
def L2z:=@Option.some.inj
def M2z:=@PySem.wpAny_passesOwn
def N2z:=@List.append_nil
def O2z:=@List.of_mem_zip
def P2z:=@List.length_map
def Q2z:=@PySem.wpAny_loadPart'
def R2z:=@List.length_set
def S2z:=@List.nodup_cons
def T2z:=@Option.map_some
def U2z:=@PySem.pushCells_keeps
def V2z:=@Bool.or_eq_true
def W2z:=@PySem.W.kia_one
def X2z:=@decide_eq_true
def Y2z:=@PySem.Heap.size_push
def Z2z:=@PySem.wpAny_seqItems
def A3z:=@Bool.and_false
def B3z:=@Nat.lt_irrefl
def C3z:=@PySem.wpAny_holding
def D3z:=@PySem.wpAny_standAt
def E3z:=@List.map_cons
def F3z:=@List.any_cons
def G3z:=@PySem.W.mg_of
def H3z:=@PySem.Heap.lt_size
def I3z:=@Nat.ne_of_lt
def J3z:=@Nat.le_trans
def K3z:=@Nat.le_of_lt
def L3z:=@Nat.ne_of_gt
def M3z:=@PySem.codeAny_mono
def N3z:=@List.map_nil
def O3z:=@List.map_map
def P3z:=@Nat.le_refl
def Q3z:=@Nat.zero_le
def R3z:=@PySem.wpAny_field
def S3z:=@PySem.wpAny_mono
def T3z:=@PySem.wpAny_bind
def U3z:=@PySem.wpAny_pure
def V3z:=@PySem.call_meets
def W3z:=@bne_iff_ne
def X3z:=@Nat.mod_lt
def Y3z:=@PySem.W.looks_pair
def Z3z:=@PySem.W.segRun_of
def A4z:=@PySem.W.piece_app
def B4z:=@if_false
def C4z:=@Ne.symm
def D4z:=@if_true
def E4z:=@if_pos
def F4z:=@if_neg
end Zz
open Zz
local macro_rules|`(tactic|rfl')=>`(tactic|kernel_rfl)
namespace L2
open PySem PySem.Spec PyProof.Rows
abbrev Key:=Sum Int Str
def n8:Key->Value->Bool
 | .inl k,v=>Value.isInt k v
 | .inr x,v=>Value.isStrOf x v
def Lp(w:World):Key->Int
 | .inl k=>hashInt k
 | .inr x=>hashStr w x
theorem aW:∀ {k:Key} {v:Value},n8 k v=true->(∃ i t,k=Sum.inl i/\v=Value.int i t)\/(∃ x t,k=Sum.inr x/\v=Value.str x t)
 | .inl i,v,h=>by
  obtain⟨t,e⟩:=Value.isInt_shape (k:=i) (v:=v) h;exact .inl ⟨i,t,rfl,e⟩
 | .inr x,v,h=>by
  obtain⟨t,e⟩:=Value.isStrOf_shape (x:=x) (v:=v) h;exact .inr ⟨x,t,rfl,e⟩
theorem qD(i:Int)(t:Tok):n8 (.inl i) (.int i t)=true:=by simp[n8,Value.isInt]
theorem qC(x:Str)(t:Tok):n8 (.inr x) (.str x t)=true:=by simp[n8,Value.isStrOf]
theorem Ad(a b:Int):decide ((Sum.inl a:Key)=Sum.inl b)=(a==b):=by
 by_cases e:a=b
 ·subst e;simp
 ·have h:¬ (Sum.inl a:Key)=Sum.inl b:=fun q=>e (Sum.inl.inj q)
  rw[K2z h];exact(B1z.mpr e).symm
theorem Aa(a b:Str):decide ((Sum.inr a:Key)=Sum.inr b)=decide (a=b):=by
 by_cases e:a=b
 ·subst e;simp
 ·have h:¬ (Sum.inr a:Key)=Sum.inr b:=fun q=>e (Sum.inr.inj q)
  rw[K2z h,K2z e]
theorem Ac(a:Int)(b:Str):decide ((Sum.inl a:Key)=Sum.inr b)=false:=K2z (fun q=>nomatch q)
theorem Ab(a:Str)(b:Int):decide ((Sum.inr a:Key)=Sum.inl b)=false:=K2z (fun q=>nomatch q)
def cj(prog:Program)(w:World):PySem.KeyKind prog w Key where
 is:=n8
 hash:=Lp w
 inj:=fun v a b ha hb=>by
  rcases aW ha with⟨i,t,rfl,rfl⟩ | ⟨x,t,rfl,rfl⟩
  ·rcases aW hb with⟨j,u,rfl,e⟩ | ⟨y,u,rfl,e⟩
   ·injection e with e1 _;rw[e1]
   ·exact nomatch e
  ·rcases aW hb with⟨j,u,rfl,e⟩ | ⟨y,u,rfl,e⟩
   ·exact nomatch e
   ·injection e with e1 _;rw[e1]
 byValue:=fun k v h=>by
  rcases aW h with⟨i,t,rfl,rfl⟩ | ⟨x,t,rfl,rfl⟩<;>rfl
 pyHash:=fun hv h=>by
  rcases aW hv with⟨i,t,rfl,rfl⟩ | ⟨x,t,rfl,rfl⟩
  ·exact wpAny_pyHash_int h
  ·exact wpAny_pyHash_str h
 eqBool:=fun hu hv h=>by
  rcases aW hu with⟨i,t,rfl,rfl⟩ | ⟨x,t,rfl,rfl⟩
  ·rcases aW hv with⟨j,u,rfl,rfl⟩ | ⟨y,u,rfl,rfl⟩
   ·rw[Ad] at h;exact wpAny_eqBool_int h
   ·rw[Ac] at h;exact SeqAt.EqAt.int_str i t y u _ _ _ _ h
  ·rcases aW hv with⟨j,u,rfl,rfl⟩ | ⟨y,u,rfl,rfl⟩
   ·rw[Ab] at h;exact SeqAt.EqAt.str_int x t j u _ _ _ _ h
   ·rw[Aa] at h;exact wpAny_eqBool_str h
 «strs» :=fun k x t v h=>by
  rcases aW h with⟨i,u,rfl,e⟩ | ⟨y,u,rfl,e⟩
  ·exact nomatch e
  ·injection e with e1 _
   subst e1
   cases v<;>rfl
theorem lK(prog:Program)(w:World)(i:Int)(t:Tok):(cj prog w).is (.inl i) (.int i t)=true:=qD i t
theorem lJ(prog:Program)(w:World)(x:Str)(t:Tok):(cj prog w).is (.inr x) (.str x t)=true:=qC x t
inductive V where
 | non | bl (b:Bool) | int (i:Int) | str (x:Str) | byt (b:Array UInt8) | flt (b:UInt64) | ref (a:Addr) | ty (n:String)
 deriving DecidableEq
def RelV:V->Value->Prop
 | .non,u=>u=Value.none
 | .bl b,u=>u=Value.bool b
 | .int i,u=>∃ t,u=Value.int i t
 | .str x,u=>∃ t,u=Value.str x t
 | .byt b,u=>∃ t,u=Value.bytes b t
 | .flt b,u=>∃ t,u=Value.float b t
 | .ref a,u=>u=Value.ref a
 | .ty n,u=>u=Value.type n
abbrev Vals:List V->List Value->Prop:=Paired RelV
theorem Vals.length{xs:List V}{us:List Value}(r:Vals xs us):xs.length=us.length:=Paired.length r
theorem Vals.get:∀ {xs:List V} {us:List Value} {i:Nat} {x:V},Vals xs us->xs[i]?=some x->∃ u,us[i]?=some u/\RelV x u
 | _,_,_,_,.nil,e=>by simp at e
 | _,_,0,_,.cons r _,e=>by simp at e;subst e;exact⟨_,rfl,r⟩
 | _,_,i+1,x,.cons _ t,e=>by
  obtain⟨u,h1,h2⟩:=Vals.get (i:=i) (x:=x) t (by simpa using e);exact⟨u,by simpa using h1,h2⟩
theorem Vals.set{x:V}{u:Value}(r:RelV x u):∀ {xs:List V} {us:List Value} (i:Nat),Vals xs us->Vals (xs.set i x) (us.set i u)
 | _,_,_,.nil=>.nil
 | _,_,0,.cons _ t=>.cons r t
 | _,_,i+1,.cons q t=>.cons q (Vals.set r i t)
theorem Vals.append:∀ {xs ys:List V} {us ws:List Value},Vals xs us->Vals ys ws->Vals (xs++ys) (us++ws)
 | _,_,_,_,.nil,s=>s
 | _,_,_,_,.cons r t,s=>.cons r (Vals.append t s)
def yI:Option V->Option Value->Prop
 | some v,some u=>RelV v u
 | none,none=>True
 | _,_=>False
def KV{κ:Type}:List (κ×V)->List (κ×Value)->Prop:=Paired fun(p:κ×V) (q:κ×Value)=>p.1=q.1/\RelV p.2 q.2
def kV:Key->V
 | .inl i=>.int i
 | .inr x=>.str x
inductive HO where
 | lst (xs:List V)
 | tup (xs:List V)
 | dK (kvs:List (Key×V)) | dT (kvs:List (List Key×V))
 | set (S:Int->Bool) (n:Nat)
 | ins (C dx:Addr) (fs:List (Str×V))
 | own (x:Addr)
 | xd (fs:List (Str×V))
 | met (f x:Addr)
 | rng (lo hi:Int)
 | frz (o:Obj) (u:HO)
 | tbl (ps:Array Value)
 | ext (φ:Heap->Prop)
noncomputable abbrev Hp:=Addr->Option HO
def upd(H:Hp)(a:Addr)(o:HO):Hp:=fun b=>if b=a then some o else H b
theorem aK{H:Hp}{a:Addr}{o:HO}:upd H a o a=some o:=by unfold upd;rw[E4z rfl]
theorem aq{H:Hp}{a b:Addr}{o:HO}(h:b≠a):upd H a o b=H b:=by unfold upd;rw[F4z h]
theorem ao{H:Hp}{a b:Addr}{o:HO}(h:H a=some o)(h':H b=none):a≠b:=by
 intro e;subst e;rw[h] at h';cases h'
section
variable (P:Program) (w:World)
def bY(H:Hp)(h:Heap)(a:Addr):HO->Prop
 | .lst xs=>xs.length<=sizeLine/\∃ (its:List Value) (n:Nat),Vals xs its/\h.get? a=some { cls:=.type "list",data:=.seq its.toArray n }
 | .tup xs=>xs.length<=sizeLine/\∃ its:List Value,Vals xs its/\IsTup h a its.toArray
 | .dK kvs=>kvs.length<=sizeLine/\(a==sysModules)=false/\∃ vs,KV kvs vs/\h.DictOf (cj P w) a vs
 | .dT kvs => kvs.length <= sizeLine /\ (a == sysModules) = false /\ ∃ xs : List (List Key × Addr × Value),
   Paired (fun(p:List Key×V) (q:List Key×Addr×Value)=>p.1=q.1/\H q.2.1=some (.tup (p.1.map kV))/\RelV p.2 q.2.2) kvs xs /\
   ∃ o es ep,h.get? a=some o/\o.ExactDict/\o.data=.dict es ep/\es.toList=xs.map (entryOfKey (tupleKind (cj P w)))/\(xs.map (·.1)).Nodup
 | .set S n=>h.SetOf (intKind P w) a S n
 | .ins C dx fs => H dx = some (.own a) /\ fs.length <= 1000 /\ dx ≠ a /\ h.get? a = some (PySem.W.instObj C dx) /\
   ∃ mA,h.Ns1 dx mA/\(∀ f,yI (fs.lookup f) (mA f))/\PySem.Within mA (fs.map (·.1))
 | .own _=>∃ o,h.get? a=some o
 | .xd fs=>∃ mA,h.Ns1 a mA/\∀ f,yI (fs.lookup f) (mA f)
 | .rng lo hi=>∃ t u v,h.get? a=some { cls:=.type "range",data:=.fields #[.int lo t,.int hi u,.int 1 v] }
 | .frz o u=>h.get? a=some o/\bY H h a u
 | .tbl ps=>h.get? a=some { cls:=.none,data:=.fields ps }
 | .met f x=>h.get? a=some (PySem.W.methodObj (.ref f) (.ref x))
 | .ext φ=>φ h/\(∃ o,h.get? a=some o)/\∀ h1 h2:Heap,φ h1->(∀ o,h1.get? a=some o->h2.get? a=some o)->φ h2
def HOk(H:Hp)(h:Heap):Prop:=∀ a o,H a=some o->bY P w H h a o
end
section
variable {P:Program} {w:World} {H H':Hp} {h h':Heap} {a:Addr} {o:HO}
theorem bY.lt(x:bY P w H h a o):a<h.objs.size:=by
 cases o with
 | lst xs=>obtain⟨_,_,_,_,e⟩:=x;exact H3z e
 | tup xs=>obtain⟨_,_,_,p⟩:=x;exact p.lt
 | dK kvs=>obtain⟨_,_,_,_,o,_,_,e,_⟩:=x;exact H3z e
 | dT kvs=>obtain⟨_,_,_,_,o,_,_,e,_⟩:=x;exact H3z e
 | set S n=>obtain⟨o,_,_,_,e,_⟩:=x;exact H3z e
 | ins C dx fs=>obtain⟨_,_,_,e,_⟩:=x;exact H3z e
 | own y=>obtain⟨_,e⟩:=x;exact H3z e
 | xd fs=>obtain⟨_,⟨_,_,_,e,_⟩,_⟩:=x;exact H3z e
 | rng lo hi=>obtain⟨_,_,_,e⟩:=x;exact H3z e
 | frz ob u=>obtain⟨e,_⟩:=x;exact H3z e
 | tbl ps=>exact H3z (show h.get? a=some _ from x)
 | met f y=>exact H3z (show h.get? a=some _ from x)
 | ext φ=>obtain⟨_,⟨_,e⟩,_⟩:=x;exact H3z e
theorem Paired.mapP{α β:Type}{F G:α->β->Prop}:∀ {l₁:List α} {l₂:List β},Paired F l₁ l₂->(∀ a b,F a b->G a b)->Paired G l₁ l₂
 | _,_,.nil,_=>.nil
 | _,_,.cons r t,f=>.cons (f _ _ r) (Paired.mapP t f)
theorem bY.stay(x:bY P w H h a o)(k:∀ b u,(b=a\/H b=some (.own a))->h.get? b=some u->h'.get? b=some u)
  (ho:∀ b,H b=some (.own a)->H' b=some (.own a)) (ht:∀ b xs,H b=some (.tup xs)->H' b=some (.tup xs)):bY P w H' h' a o:=by
 induction o with
 | lst xs=>obtain⟨z,its,n,r,e⟩:=x;exact⟨z,its,n,r,k _ _ (.inl rfl) e⟩
 | tup xs=>obtain⟨z,its,r,ob,e,c⟩:=x;exact⟨z,its,r,ob,k _ _ (.inl rfl) e,c⟩
 | dK kvs=>obtain⟨z,y,vs,r,ob,es,ep,e,c⟩:=x;exact⟨z,y,vs,r,ob,es,ep,k _ _ (.inl rfl) e,c⟩
 | dT kvs =>
  obtain⟨z,y,xs,r,ob,es,ep,e,c⟩:=x;exact⟨z,y,xs,Paired.mapP r fun p q z=>⟨z.1,ht _ _ z.2.1,z.2.2⟩,ob,es,ep,k _ _ (.inl rfl) e,c⟩
 | set S n=>obtain⟨ob,es,ep,t,e,c⟩:=x;exact⟨ob,es,ep,t,k _ _ (.inl rfl) e,c⟩
 | ins C dx fs =>
  obtain⟨d,z,ne,e,mA,⟨od,es,ep,e2,c⟩,r⟩:=x;exact⟨ho _ d,z,ne,k _ _ (.inl rfl) e,mA,⟨od,es,ep,k _ _ (.inr d) e2,c⟩,r⟩
 | own y=>obtain⟨ob,e⟩:=x;exact⟨ob,k _ _ (.inl rfl) e⟩
 | xd fs=>obtain⟨mA,⟨od,es,ep,e,c⟩,r⟩:=x;exact⟨mA,⟨od,es,ep,k _ _ (.inl rfl) e,c⟩,r⟩
 | rng lo hi=>obtain⟨t,u,v,e⟩:=x;exact⟨t,u,v,k _ _ (.inl rfl) e⟩
 | frz ob u ih=>obtain⟨e,q⟩:=x;exact⟨k _ _ (.inl rfl) e,ih q⟩
 | tbl ps =>
  have e:h.get? a=some { cls:=.none,data:=.fields ps }:=x;show h'.get? a=some { cls:=.none,data:=.fields ps };exact k a _ (.inl rfl) e
 | met f y =>
  have e:h.get? a=some (PySem.W.methodObj (.ref f) (.ref y)):=x;show h'.get? a=some (PySem.W.methodObj (.ref f) (.ref y));exact k a _ (.inl rfl) e
 | ext φ=>obtain⟨p,⟨o,e⟩,st⟩:=x;exact⟨st _ _ p fun o q=>k _ _ (.inl rfl) q,⟨o,k _ _ (.inl rfl) e⟩,st⟩
theorem HOk.lt(x:HOk P w H h)(e:H a=some o):a<h.objs.size:=(x a o e).lt
theorem HOk.fresh(x:HOk P w H h)(e:h.objs.size<=a):H a=none:=by
 cases q:H a with
 | none=>rfl
 | some u=>exact absurd (D1z (x.lt q) e) (B3z _)
theorem HOk.kept(x:HOk P w H h)(k:∀ b u,h.get? b=some u->h'.get? b=some u):HOk P w H h':=fun a o e =>
 (x a o e).stay (fun b u _ q=>k b u q) (fun _ q=>q) fun _ _ q=>q
theorem HOk.laid(x:HOk P w H h)(k:∀ b u,h.get? b=some u->h'.get? b=some u)(hp:h.objs.size<=a)(new:bY P w (upd H a o) h' a o):HOk P w (upd H a o) h':=fun b u e=>by
 have hn:=x.fresh hp
 by_cases hb:b=a
 ·subst hb;rw[aK] at e;cases e;exact new
 ·rw[aq hb] at e
  exact(x b u e).stay (fun c v _ q=>k c v q) (fun c q=>by rw[aq (ao q hn)];exact q) fun c xs q=>by rw[aq (ao q hn)];exact q
end
def Rd(H:Hp)(a:Addr)(u:HO):Prop:=H a=some u\/∃ o,H a=some (.frz o u)
theorem Rd.ok{P:Program}{w:World}{H:Hp}{h:Heap}{a:Addr}{u:HO}(r:Rd H a u)(x:HOk P w H h):bY P w H h a u:=by
 rcases r with r | ⟨o,r⟩
 ·exact x a u r
 ·obtain⟨_,q⟩:=x a _ r
  exact q
def Mut:Option HO->Prop
 | some (.lst _)=>True
 | some (.dK _)=>True
 | some (.dT _)=>True
 | some (.set _ _)=>True
 | some (.ins _ _ _)=>True
 | some (.ext _)=>True
 | _=>False
section
variable {P:Program} {w:World} {H:Hp} {h h':Heap} {x e:Addr} {o':HO}
theorem HOk.write(ok:HOk P w H h)(mu:Mut (H x))(he:e=x\/H e=some (.own x))(k:∀ b u,b≠e->h.get? b=some u->h'.get? b=some u)(heo:∃ u,h'.get? e=some u)
  (new:bY P w (upd H x o') h' x o'):HOk P w (upd H x o') h':=fun b u q=>by
 have nown:∀ c y,H c=some (.own y)->c≠x:=fun c y r z=>by subst z;rw[r] at mu;exact mu
 have ntup:∀ c xs,H c=some (.tup xs)->c≠x:=fun c xs r z=>by subst z;rw[r] at mu;exact mu
 by_cases hb:b=x
 ·subst hb;rw[aK] at q;cases q;exact new
 ·rw[aq hb] at q
  by_cases hbe:b=e
  ·have q':H b=some (.own x):=by
    rcases he with z | z
    ·exact absurd (hbe.trans z) hb
    ·rw[hbe];exact z
   rw[q] at q';cases q'
   obtain⟨v,hv⟩:=heo;exact⟨v,by rw[hbe];exact hv⟩
  ·refine(ok b u q).stay (fun c v hc r=>k c v ?_ r) (fun c r=>by rw[aq (nown c b r)];exact r) fun c xs r=>by rw[aq (ntup c xs r)];exact r
   rcases hc with rfl | hc
   ·exact hbe
   ·rintro rfl
    rcases he with z | z
    ·exact nown c b hc z
    ·rw[hc] at z;cases z;exact hb rfl
end
structure Un (fs ex:List Addr) (H H':Hp) (h h':Heap):Prop where
 keep:∀ b o,h.get? b=some o->H b=none->b∉fs->b∉ex->h'.get? b=some o
 slot:∀ b o,h.get? b=some o->H b=none->b∈fs->b∉ex->∃ sl,h'.get? b=some { o with slots:=sl }
 free:∀ b o,h.get? b=some o->H b=none->b∉ex->H' b=none
 there:∀ b o,h.get? b=some o->b∉ex->∃ o',h'.get? b=some o'
 tups:∀ b xs,H b=some (.tup xs)->H' b=some (.tup xs)
 frzs:∀ b o u,H b=some (.frz o u)->H' b=some (.frz o u)
 tbls:∀ b ps,H b=some (.tbl ps)->∃ more,H' b=some (.tbl (ps++more))
section
variable {fs fs' ex ex':List Addr} {H H1 H2:Hp} {h h1 h2 h':Heap} {a x e:Addr} {o:HO}
theorem Un.any(u:Un fs ex H H1 h h1){b:Addr}{ob:Obj}(q:h.get? b=some ob)(n:H b=none)(hx:b∉ex):∃ sl,h1.get? b=some { ob with slots:=sl }:=by
 by_cases hb:b∈fs
 ·exact u.slot b ob q n hb hx
 ·exact⟨ob.slots,u.keep b ob q n hb hx⟩
theorem Un.trans(a:Un fs ex H H1 h h1)(b:Un fs ex H1 H2 h1 h2):Un fs ex H H2 h h2 where
 keep:=fun c ob q n hc hx=>b.keep c ob (a.keep c ob q n hc hx) (a.free c ob q n hx) hc hx
 slot:=fun c ob q n hc hx=>by
  obtain⟨sl,e1⟩:=a.slot c ob q n hc hx;obtain⟨sl',e2⟩:=b.slot c _ e1 (a.free c ob q n hx) hc hx;exact⟨sl',e2⟩
 free:=fun c ob q n hx=>by
  obtain⟨o',e1⟩:=a.there c ob q hx;exact b.free c o' e1 (a.free c ob q n hx) hx
 there:=fun c ob q hx=>by
  obtain⟨o',e1⟩:=a.there c ob q hx;exact b.there c o' e1 hx
 tups:=fun c xs q=>b.tups c xs (a.tups c xs q)
 frzs:=fun c ob xs q=>b.frzs c ob xs (a.frzs c ob xs q)
 tbls:=fun c ps q=>by
  obtain⟨m1,e1⟩:=a.tbls c ps q;obtain⟨m2,e2⟩:=b.tbls c _ e1;exact⟨m1++m2,by rw[e2,Array.append_assoc]⟩
theorem Un.kept(k:∀ b u,h.get? b=some u->h'.get? b=some u):Un fs ex H H h h' :=
 ⟨fun b ob q _ _ _=>k b ob q,fun b ob q _ _ _=>⟨ob.slots,k b ob q⟩,fun _ _ _ n _=>n,fun b ob q _=>⟨ob,k b ob q⟩,fun _ _ q=>q,fun _ _ _ q=>q,fun _ ps q=>⟨#[],by rw[q];simp⟩⟩
theorem Un.refl:Un fs ex H H h h:=Un.kept fun _ _ q=>q
theorem Un.laid(k:∀ b u,h.get? b=some u->h'.get? b=some u)(hp:h.objs.size<=a)(hn:H a=none):Un fs ex H (upd H a o) h h' where
 keep:=fun b u q _ _ _=>k b u q
 slot:=fun b u q _ _ _=>⟨u.slots,k b u q⟩
 free:=fun b u q n _=>by rw[aq (I3z (D1z (H3z q) hp))];exact n
 there:=fun b u q _=>⟨u,k b u q⟩
 tups:=fun b xs q=>by rw[aq (ao q hn)];exact q
 frzs:=fun b u xs q=>by rw[aq (ao q hn)];exact q
 tbls:=fun b ps q=>⟨#[],by rw[aq (ao q hn),q];simp⟩
theorem Un.write(mu:Mut (H x))(he:e=x\/H e=some (.own x))(k:∀ b u,b≠e->h.get? b=some u->h'.get? b=some u)(heo:∃ u,h'.get? e=some u):Un fs ex H (upd H x o) h h':=by
 have hx:∀ b,H b=none->b≠x:=fun b n z=>by subst z;rw[n] at mu;exact mu
 have hb:∀ b,H b=none->b≠e:=fun b n z=>by
  subst z;rcases he with r | r
  ·exact hx b n r
  ·rw[n] at r;cases r
 have hm:∀ b u,H b=some u->¬ Mut (some u)->b≠x:=fun b u q nm z=>by subst z;rw[q] at mu;exact nm mu
 refine⟨fun b u q n _ _=>k b u (hb b n) q,fun b u q n _ _=>⟨u.slots,k b u (hb b n) q⟩,fun b u q n _=>by rw[aq (hx b n)];exact n,fun b u q _=>?_,
  fun b xs q=>by rw[aq (hm b _ q fun z=>z)];exact q,fun b u xs q=>by rw[aq (hm b _ q fun z=>z)];exact q,fun b ps q=>⟨#[],by rw[aq (hm b _ q fun z=>z),q];simp⟩⟩
 by_cases hbe:b=e
 ·subst hbe;exact heo
 ·exact⟨u,k b u hbe q⟩
theorem Un.mono(u:Un fs ex H H1 h h1)(hs:∀ b∈fs,b∈fs')(hx:∀ b∈ex,b∈ex'):Un fs' ex' H H1 h h1 :=
 ⟨fun b ob q n hb he=>u.keep b ob q n (fun z=>hb (hs b z)) fun z=>he (hx b z),fun _ _ q n _ he=>u.any q n fun z=>he (hx _ z),fun b ob q n he=>u.free b ob q n fun z=>he (hx b z),fun b ob q he=>u.there b ob q fun z=>he (hx b z),u.tups,u.frzs,u.tbls⟩
end
def trk(h:Heap)(H:Hp):List Addr:=(List.range h.objs.size).filter fun a=>(H a).isSome
def jR(h:Heap)(H:Hp):Heap:=PySem.W.hideAll h (trk h H)
theorem gM(h:Heap)(H:Hp):(jR h H).objs.size=h.objs.size:=PySem.W.hideAll_size _ _
theorem jh{h:Heap}{H:Hp}{b:Addr}{o:Obj}(e:h.get? b=some o)(n:H b=none):(jR h H).get? b=some o :=
 W0z _ e fun hm=>by
  have q:(H b).isSome=true:=(List.mem_filter.mp hm).2;rw[n] at q;simp at q
theorem lF{h:Heap}{H:Hp}{b:Addr}{o:Obj}(e:(jR h H).get? b=some o):h.get? b=some o/\H b=none:=by
 have e':h.get? b=some o:=E1z (trk h H) e;refine⟨e',?_⟩
 cases q:H b with
 | none=>rfl
 | some x =>
  have hm:b∈trk h H:=List.mem_filter.mpr ⟨List.mem_range.mpr (H3z e'),by simp[q]⟩;have z:(jR h H).get? b=none:=PySem.W.hideAll_none (trk h H) hm;rw[z] at e;cases e
def yw(g h:Heap)(L:Addr):List (Addr×Obj):=(List.range h.objs.size).filterMap fun a=>if a=L\/(g.get? a).isSome=true then none else(h.get? a).map fun o=>(a,o)
def rest(g h:Heap)(L d:Addr):List (Addr×Obj):=(yw g h L).filter fun p=>decide (p.1≠d)
structure Mod (K:Zf) (mg:Str->Option Value) (base:Heap):Prop where
 kin:K.In base
 glob:base.Ns mainGlobals mg
 blt:∃ mb,base.Ns builtinsNs mb/\∀ x:Str,x≠"__name__"->mb x=bootBuiltins x
 nolimit:base.NoLimit
structure Cx where
 prog:Program
 w:World
 K:Zf
 mg:Str->Option Value
 base:Heap
 A:Around
 N:List Str
 s₀:Shared
 H₀:Hp
 env:Env
 outer:List Env
 stack:List Env
 ex:List Addr
 fn:Str->Bool
 calm:Bool
 pn:List (Addr×Obj)
 xe:Value->Shared->Prop
 lm:Option (Addr×Str):=none
def frs(l:List Env):List Addr:=l.filterMap (·.frame)
abbrev Cx.fs(X:Cx):List Addr:=frs X.outer
def Vis(sc:Scope)(x:Str):Prop:=sc.names.lookup x=some .local\/sc.names.lookup x=some .cell\/sc.names.lookup x=some .free
def Loc(sc:Scope)(x:Str):Prop:=sc.names.lookup x=some .local\/sc.names.lookup x=some .cell
def Look(env:Env)(h:Heap)(m:Str->Option Value)(x:Str)(u:Value):Prop :=
 (env.kindOf x=some .local/\m x=some u)\/((env.kindOf x=some .cell\/env.kindOf x=some .free)/\∃ c,env.cells.lookup x=some c/\h.IsCell c (some u))
structure Cx.Ok (X:Cx):Prop where
 mod:Mod X.K X.mg X.base
 kind:X.env.scope.kind=.function
 glob:X.env.globals=mainGlobals
 blt:X.env.builtins=builtinsNs
 above:X.s₀.heap.objs.size<=X.env.locals
 inj:∀ x y c,X.env.cells.lookup x=some c->X.env.cells.lookup y=some c->x=y
 has:∀ x,(X.env.kindOf x=some .cell\/X.env.kindOf x=some .free)->∃ c,X.env.cells.lookup x=some c
 cab:∀ x c,X.fn x=true->X.env.cells.lookup x=some c->X.s₀.heap.objs.size<=c
 hd:X.calm=true->X.A.handled=none
 frames:X.A.frames=some X.stack
 stk:X.stack=X.outer\/(X.stack=X.env::X.outer/\X.env.frame=some X.env.locals)
 exf:∀ b∈X.ex,b≠X.env.locals/\∀ x c,X.env.cells.lookup x=some c->c≠b
 bs:∀ b o,X.base.get? b=some o->X.s₀.heap.get? b=some o/\X.H₀ b=none
 bsz:X.base.objs.size<=X.s₀.heap.objs.size
 noex:∀ b o,X.base.get? b=some o->b∉X.ex
 exfs:∀ b∈X.ex,b∉X.fs
 funs:X.s₀.heap.FunFrames X.base X.outer
 frf:∀ b∈X.fs,X.H₀ b=none
structure Inv (X:Cx) (z0:List (Addr×Obj)) (σ:List (Option V)) (H:Hp) (s:Shared):Prop where
 ok:X.Ok
 os:s.os=X.s₀.os
 bare:AllBare s.gens
 base:Un X.fs X.ex X.H₀ H X.s₀.heap s.heap
 loc:∃ m,s.heap.Ns X.env.locals m/\∀ (i:Nat) (x:Str) (v:V),X.N[i]?=some x->σ[i]?=some (some v)->Vis X.env.scope x->∃ u,RelV v u/\Look X.env s.heap m x u
 cell:∀ x c,X.env.cells.lookup x=some c->∃ v,s.heap.IsCell c v
 free:H X.env.locals=none
 freeC:∀ x c,X.env.cells.lookup x=some c->H c=none
 pin:∀ p∈X.pn++z0,s.heap.get? p.1=some p.2/\H p.1=none/\p.1≠X.env.locals/\p.1∉X.fs/\∀ v,p.2.data≠.cell v
 hok:HOk X.prog X.w H s.heap
 len:σ.length=X.N.length
section
variable {X:Cx} {z0:List (Addr×Obj)} {σ:List (Option V)} {H H':Hp} {s:Shared} {h':Heap}
theorem Cx.Ok.nofr(ok:X.Ok){b:Addr}{o:Obj}(e:X.base.get? b=some o):b∉X.fs:=fun hb=>by
 have:=(ok.funs.mem hb).1;rw[e] at this;cases this
theorem Inv.bs(I:Inv X z0 σ H s):∀ b o,X.base.get? b=some o->s.heap.get? b=some o/\H b=none:=fun b o e =>
 ⟨I.base.keep b o (I.ok.bs b o e).1 (I.ok.bs b o e).2 (I.ok.nofr e) (I.ok.noex b o e),I.base.free b o (I.ok.bs b o e).1 (I.ok.bs b o e).2 (I.ok.noex b o e)⟩
theorem Inv.bk(I:Inv X z0 σ H s):∀ b o,X.base.get? b=some o->s.heap.get? b=some o:=fun b o e=>(I.bs b o e).1
theorem Inv.mod(I:Inv X z0 σ H s):Mod X.K X.mg X.base:=I.ok.mod
theorem Inv.kIn(I:Inv X z0 σ H s):X.K.In s.heap:=I.ok.mod.kin.keeps I.bk
theorem Inv.lt(I:Inv X z0 σ H s):X.env.locals<s.heap.objs.size:=let ⟨_,hn,_⟩:=I.loc;hn.lt
theorem Inv.sz(I:Inv X z0 σ H s):X.s₀.heap.objs.size<=s.heap.objs.size:=J3z I.ok.above (K3z I.lt)
theorem Inv.nofs(I:Inv X z0 σ H s){a:Addr}(h:s.heap.objs.size<=a):a∉X.fs:=fun hb=>by
 obtain⟨_,o,ho,_⟩:=I.ok.funs.mem hb;exact absurd (D1z (H3z ho) (J3z I.sz h)) (B3z _)
theorem Inv.cne(I:Inv X z0 σ H s):∀ x c,X.env.cells.lookup x=some c->c≠X.env.locals:=fun x c e z=>by
 obtain⟨v,o,ho,hd⟩:=I.cell x c e;obtain⟨m,⟨o',es,ep,ho',hd',_⟩,_⟩:=I.loc;rw[z,ho'] at ho;cases ho;rw[hd'] at hd;cases hd
theorem Inv.funs(I:Inv X z0 σ H s):s.heap.FunFrames X.base X.outer:=by
 have all:∀ (l:List Env),(∀ b∈frs l,b∈X.fs)->X.s₀.heap.FunFrames X.base l->s.heap.FunFrames X.base l:=by
  intro l
  induction l with
  | nil=>intro _ _;trivial
  | cons env r ih =>
   intro hs hl;obtain⟨hk,⟨L,o,hf,hn,ho,hd⟩,hr⟩:=hl;have hL:L∈X.fs:=hs L (by unfold frs;rw[X0z,hf];exact F1z);obtain⟨sl,e⟩:=I.base.slot L o ho (I.ok.frf L hL) hL fun z=>I.ok.exfs L z hL;exact⟨hk,⟨L,_,hf,hn,e,hd⟩,ih (fun b hb=>hs b (by unfold frs;rw[X0z,hf];exact S0z _ hb)) hr⟩
 exact all X.outer (fun _ hb=>hb) I.ok.funs
theorem Inv.stack(I:Inv X z0 σ H s):s.heap.FunFrames X.base X.stack:=by
 rcases I.ok.stk with e | ⟨e,hf⟩
 ·rw[e];exact I.funs
 ·rw[e]
  obtain⟨m,hn,_⟩:=I.loc;refine .cons (by rw[I.ok.kind];decide) hf hn ?_ I.funs;exact Heap.get?_none_of_le (J3z I.ok.bsz I.ok.above)
theorem Inv.stkSub(I:Inv X z0 σ H s):∀ b∈frs X.stack,b∈X.env.locals::X.fs:=fun b hb=>by
 rcases I.ok.stk with e | ⟨e,hf⟩
 ·rw[e] at hb;exact S0z _ hb
 ·rw[e] at hb
  unfold frs at hb;rw[X0z,hf] at hb;exact hb
theorem Inv.stkFree(I:Inv X z0 σ H s):∀ b∈frs X.stack,H b=none:=fun b hb=>by
 rcases List.mem_cons.mp (I.stkSub b hb) with e | hb
 ·rw[e];exact I.free
 ·obtain⟨_,o,ho,_⟩:=I.ok.funs.mem hb
  exact I.base.free b o ho (I.ok.frf b hb) fun z=>I.ok.exfs b z hb
theorem Inv.step{g':Array GenState}{t':Nat}{d':Drawn}{ch:List Addr}(I:Inv X z0 σ H s)
  (hch:∀ b∈ch,(b∈X.ex\/X.s₀.heap.objs.size<=b)/\b≠X.env.locals/\(∀ x c,X.env.cells.lookup x=some c->c≠b)/\∀ p∈X.pn++z0,p.1≠b)
  (keep:∀ b o,b≠X.env.locals->b∉X.fs->b∉ch->s.heap.get? b=some o->H b=none->h'.get? b=some o)
  (slot:∀ b o,b≠X.env.locals->b∈X.fs->b∉ch->s.heap.get? b=some o->H b=none->∃ sl,h'.get? b=some { o with slots:=sl }) (free:∀ b o,b∉ch->s.heap.get? b=some o->H b=none->H' b=none)
  (there:∀ b o,b∉ch->s.heap.get? b=some o->∃ o',h'.get? b=some o')
  (tups:∀ b xs,H b=some (.tup xs)->H' b=some (.tup xs)) (frzs:∀ b o u,H b=some (.frz o u)->H' b=some (.frz o u)) (tbls:∀ b ps,H b=some (.tbl ps)->∃ more,H' b=some (.tbl (ps++more)))
  (ns:∀ m,s.heap.Ns X.env.locals m->h'.Ns X.env.locals m) (hok:HOk X.prog X.w H' h') (hg:AllBare g') :
  Inv X z0 σ H' { s with heap:=h',gens:=g',drawn:=d',toks:=t' }:=by
 have neL:∀ b o,X.s₀.heap.get? b=some o->b≠X.env.locals:=fun b o e=>I3z (D1z (H3z e) I.ok.above)
 have neC:∀ b o,X.s₀.heap.get? b=some o->b∉X.ex->b∉ch:=fun b o e hx hb=>by
  rcases(hch b hb).1 with z | z
  ·exact hx z
  ·exact absurd (D1z (H3z e) z) (B3z _)
 have cellK:∀ x c,X.env.cells.lookup x=some c->∀ v,s.heap.IsCell c v->h'.IsCell c v:=fun x c e v ⟨o,ho,hd⟩=>by
  have nch:c∉ch:=fun z=>(hch c z).2.2.1 x c e rfl
  by_cases hc:c∈X.fs
  ·obtain⟨sl,q⟩:=slot c o (I.cne x c e) hc nch ho (I.freeC x c e)
   exact⟨_,q,hd⟩
  ·exact⟨o,keep c o (I.cne x c e) hc nch ho (I.freeC x c e),hd⟩
 refine⟨I.ok,I.os,hg,⟨fun b o e n hb hx=>?_,fun b o e n hb hx=>?_,fun b o e n hx=>?_,fun b o e hx=>?_,fun b xs e=>tups b xs (I.base.tups b xs e),fun b o xs e=>frzs b o xs (I.base.frzs b o xs e),fun b ps e=>?_⟩,?_,fun x c e=>?_,?_,fun x c e=>?_,fun p hp=>?_,hok,I.len⟩
 ·exact keep b o (neL b o e) hb (neC b o e hx) (I.base.keep b o e n hb hx) (I.base.free b o e n hx)
 ·obtain⟨sl,e1⟩:=I.base.slot b o e n hb hx
  obtain⟨sl',e2⟩:=slot b _ (neL b o e) hb (neC b o e hx) e1 (I.base.free b o e n hx);exact⟨sl',e2⟩
 ·obtain⟨o',e1⟩:=I.base.there b o e hx
  exact free b o' (neC b o e hx) e1 (I.base.free b o e n hx)
 ·obtain⟨o',e1⟩:=I.base.there b o e hx
  exact there b o' (neC b o e hx) e1
 ·obtain⟨m1,e1⟩:=I.base.tbls b ps e
  obtain⟨m2,e2⟩:=tbls b _ e1;exact⟨m1++m2,by rw[e2,Array.append_assoc]⟩
 ·obtain⟨m,hn,hl⟩:=I.loc
  refine⟨m,ns m hn,fun i x v e1 e2 e3=>?_⟩;obtain⟨u,r,l⟩:=hl i x v e1 e2 e3;refine⟨u,r,?_⟩;rcases l with l | ⟨k,c,e,z⟩
  ·exact .inl l
  ·exact .inr ⟨k,c,e,cellK x c e _ z⟩
 ·obtain⟨v,z⟩:=I.cell x c e
  exact⟨v,cellK x c e v z⟩
 ·obtain⟨m,⟨o,_,_,ho,_⟩,_⟩:=I.loc
  exact free _ o (fun z=>(hch _ z).2.1 rfl) ho I.free
 ·obtain⟨v,o,ho,hd⟩:=I.cell x c e
  exact free c o (fun z=>(hch c z).2.2.1 x c e rfl) ho (I.freeC x c e)
 ·obtain⟨e,n,ne,nf,d⟩:=I.pin p hp
  have nch:p.1∉ch:=fun z=>(hch p.1 z).2.2.2 p hp rfl;exact⟨keep p.1 p.2 ne nf nch e n,free p.1 p.2 nch e n,ne,nf,d⟩
theorem Inv.un{t':Nat}(I:Inv X z0 σ H s)(u:Un X.fs [] H H' s.heap h')(hok:HOk X.prog X.w H' h'):Inv X z0 σ H' { s with heap:=h',toks:=t' }:=by
 obtain⟨m,⟨o,es,ep,ho,r⟩,_⟩:=id I.loc;obtain⟨sl,hL⟩:=u.any ho I.free (by simp)
 exact I.step (g':=s.gens) (d':=s.drawn) (ch:=[]) (fun _ z=>nomatch z) (fun b o _ hb _ e n=>u.keep b o e n hb (by simp)) (fun b o _ hb _ e n=>u.slot b o e n hb (by simp)) (fun b o _ e n=>u.free b o e n (by simp)) (fun b o _ e=>u.there b o e (by simp)) u.tups u.frzs u.tbls (fun m' hm=>by
  obtain⟨o',es',ep',ho',r'⟩:=hm;rw[ho] at ho';cases ho'
  exact⟨_,es',ep',hL,r'⟩) hok I.bare
theorem Inv.call{g':Array GenState}{t':Nat}{d':Drawn}{ch:List Addr}(I:Inv X z0 σ H s)(u:Un (frs X.stack) ch H H' s.heap h')(hok:HOk X.prog X.w H' h')(hg:AllBare g')
  (hch:∀ b∈ch,(b∈X.ex\/X.s₀.heap.objs.size<=b)/\b≠X.env.locals/\(∀ x c,X.env.cells.lookup x=some c->c≠b)/\∀ p∈X.pn++z0,p.1≠b) :
  Inv X z0 σ H' { s with heap:=h',gens:=g',drawn:=d',toks:=t' }:=by
 obtain⟨m,⟨o,es,ep,ho,r⟩,_⟩:=id I.loc;obtain⟨sl,hL⟩:=u.any ho I.free fun z=>(hch _ z).2.1 rfl
 exact I.step (ch:=ch) hch (fun b o hL hb hc e n=>u.keep b o e n (fun z=>(List.mem_cons.mp (I.stkSub b z)).elim hL hb) hc) (fun b o _ _ hc e n=>u.any e n hc) (fun b o hc e n=>u.free b o e n hc) (fun b o hc e=>u.there b o e hc) u.tups u.frzs u.tbls (fun m' hm=>by
  obtain⟨o',es',ep',ho',r'⟩:=hm;rw[ho] at ho';cases ho'
  exact⟨_,es',ep',hL,r'⟩) hok hg
theorem Inv.turned{t':Nat}{it:Addr}(I:Inv X z0 σ H s)(k:∀ b o,b≠it->s.heap.get? b=some o->h'.get? b=some o)(hn:H it=none)(hL:it≠X.env.locals)
  (h1:it∈X.ex\/X.s₀.heap.objs.size<=it) (h2:∀ x c,X.env.cells.lookup x=some c->c≠it) (h3:∀ p∈X.pn++z0,p.1≠it):Inv X z0 σ H { s with heap:=h',toks:=t' }:=by
 have nit:∀ b u,H b=some u->b≠it:=fun b u e z=>by rw[z,hn] at e;cases e
 refine I.step (g':=s.gens) (d':=s.drawn) (ch:=[it]) (fun b hb=>?_) (fun b o _ _ hc e _=>k b o (fun z=>hc (by simp[z])) e) (fun b o _ _ hc e _=>⟨o.slots,k b o (fun z=>hc (by simp[z])) e⟩) (fun _ _ _ _ n=>n)
  (fun b o hc e=>⟨o,k b o (fun z=>hc (by simp[z])) e⟩) (fun _ _ e=>e) (fun _ _ _ e=>e) (fun b ps e=>⟨#[],by rw[e];simp⟩) (fun m hm=>?_) (fun b u e=>?_) I.bare
 ·have e:b=it:=by simpa using hb
  subst e;exact⟨h1,hL,h2,h3⟩
 ·obtain⟨o,es,ep,ho,r⟩:=hm
  exact⟨o,es,ep,k _ o (C4z hL) ho,r⟩
 ·refine(I.hok b u e).stay (fun c v hc q=>k c v ?_ q) (fun _ q=>q) fun _ _ q=>q
  rcases hc with z | z
  ·rw[z];exact nit b u e
  ·exact nit c _ z
theorem Inv.tok(I:Inv X z0 σ H s)(t:Nat):Inv X z0 σ H { s with toks:=t }:=I.un (h':=s.heap) (t':=t) Un.refl I.hok
theorem Inv.kept{t':Nat}(I:Inv X z0 σ H s)(k:∀ b u,s.heap.get? b=some u->h'.get? b=some u):Inv X z0 σ H { s with heap:=h',toks:=t' }:=I.un (Un.kept k) (I.hok.kept k)
theorem Inv.laid{a:Addr}{o:HO}{t':Nat}(I:Inv X z0 σ H s)(k:∀ b u,s.heap.get? b=some u->h'.get? b=some u)(hp:s.heap.objs.size<=a)(new:bY X.prog X.w (upd H a o) h' a o) :
  Inv X z0 σ (upd H a o) { s with heap:=h',toks:=t' }:=I.un (Un.laid k hp (I.hok.fresh hp)) (I.hok.laid k hp new)
theorem Inv.write{x e:Addr}{o:HO}{t':Nat}(I:Inv X z0 σ H s)(mu:Mut (H x))(he:e=x\/H e=some (.own x))(k:∀ b u,b≠e->s.heap.get? b=some u->h'.get? b=some u)(heo:∃ u,h'.get? e=some u)
  (new:bY X.prog X.w (upd H x o) h' x o):Inv X z0 σ (upd H x o) { s with heap:=h',toks:=t' }:=I.un (Un.write mu he k heo) (I.hok.write mu he k heo new)
theorem Inv.pins_of{pins':List (Addr×Obj)}(I:Inv X z0 σ H s)(h:∀ p∈pins',s.heap.get? p.1=some p.2/\H p.1=none/\p.1≠X.env.locals/\p.1∉X.fs/\∀ v,p.2.data≠.cell v):Inv X pins' σ H s :=
 ⟨I.ok,I.os,I.bare,I.base,I.loc,I.cell,I.free,I.freeC,fun p hp=>(List.mem_append.mp hp).elim (fun z=>I.pin p (T0z _ z)) (h p),I.hok,I.len⟩
theorem jd{N:List Str}(hN:N.Nodup){i j:Nat}{x:Str}(a:N[i]?=some x)(b:N[j]?=some x):i=j:=by
 obtain⟨h1,e1⟩:=List.getElem?_eq_some_iff.mp a;obtain⟨h2,e2⟩:=List.getElem?_eq_some_iff.mp b;exact(List.getElem_inj hN).mp (e1.trans e2.symm)
theorem jH{M:Model}{A:Around}{E:Value->Shared->Prop}{i:Nat}{x:Str}{v:V}{u:Value}{Q:Unit->Shared->Prop}(I:Inv X z0 σ H s)(hN:X.N.Nodup)(hi:X.N[i]?=some x)(hx:Loc X.env.scope x)(r:RelV v u)
  (h:∀ s',Inv X z0 (σ.set i (some v)) H s'->(∃ a,Heap.SameBut a s.heap s'.heap/\(a=X.env.locals\/X.env.cells.lookup x=some a))->Q () s') (hf:X.fn x=true\/X.env.scope.names.lookup x=some .local:=by first | exact .inl rfl | exact .inr rfl | assumption):wpAny M A (storeName X.env x u) Q E s:=by
 obtain⟨m,hn,hl⟩:=id I.loc
 have hcls:(X.env.scope.kind==.class||(X.env.scope.kind==.module&&X.env.locals !=X.env.globals))=false:=by rw[I.ok.kind];rfl
 have hiσ:i<σ.length:=by rw[I.len];exact(List.getElem?_eq_some_iff.mp hi).1
 have cne:=I.cne
 have tracked:∀ {a:Addr} {h':Heap},(∃ o,s.heap.get? a=some o/\H a=none)->Heap.SameBut a s.heap h'->HOk X.prog X.w H h':=fun {a h'} ha hs b ob e=>by
  obtain⟨_,_,hfree⟩:=ha;refine(I.hok b ob e).stay (fun c w' hc q=>(hs.2 c ?_).trans q) (fun _ q=>q) fun _ _ q=>q;rintro rfl;rcases hc with rfl | hc
  ·rw[hfree] at e;cases e
  ·rw[hfree] at hc;cases hc
 rcases hx with hk | hk
 ·refine wpAny_storeName_local hk hn (fun h' hn' hs=>?_) hcls
  obtain⟨oL,_,_,hoL,_⟩:=id hn;refine h _ ⟨I.ok,I.os,I.bare,⟨fun b o e n hb hx=>?_,fun b o e n hb hx=>?_,I.base.free,fun b o e hx=>?_,I.base.tups,I.base.frzs,I.base.tbls⟩,⟨_,hn',fun j y v' e1 e2 e3=>?_⟩,fun y c e=>?_,I.free,I.freeC,fun p hp=>?_,tracked ⟨oL,hoL,I.free⟩ hs,by simpa using I.len⟩ ⟨_,hs,.inl rfl⟩
  ·exact(hs.2 b (I3z (D1z (H3z e) I.ok.above))).trans (I.base.keep b o e n hb hx)
  ·obtain⟨sl,e1⟩:=I.base.slot b o e n hb hx
   exact⟨sl,(hs.2 b (I3z (D1z (H3z e) I.ok.above))).trans e1⟩
  ·obtain⟨o',e1⟩:=I.base.there b o e hx
   exact⟨o',(hs.2 b (I3z (D1z (H3z e) I.ok.above))).trans e1⟩
  ·by_cases hj:j=i
   ·subst hj
    rw[hi] at e1;cases e1
    rw[List.getElem?_set_self hiσ] at e2;cases e2;exact⟨u,r,.inl ⟨hk,by simp⟩⟩
   ·rw[List.getElem?_set_ne (C4z hj)] at e2
    obtain⟨u',r',q⟩:=hl j y v' e1 e2 e3;refine⟨u',r',?_⟩;rcases q with⟨k,e⟩ | ⟨k,c,e,z⟩
    ·refine .inl ⟨k,?_⟩
     have:y≠x:=fun e=>hj (jd hN e1 (e▸hi));simp[this,e]
    ·exact .inr ⟨k,c,e,z.sameBut hs (cne y c e)⟩
  ·obtain⟨w',z⟩:=I.cell y c e
   exact⟨w',z.sameBut hs (cne y c e)⟩
  ·obtain⟨e,n,ne,nf,d⟩:=I.pin p hp
   exact⟨(hs.2 p.1 ne).trans e,n,ne,nf,d⟩
 ·have hfn:X.fn x=true:=by
   rcases hf with z | z
   ·exact z
   ·rw[z] at hk;cases hk
  obtain⟨c,hc⟩:=I.ok.has x (.inl hk);obtain⟨w',z⟩:=I.cell x c hc;refine wpAny_storeName_cell I.ok.kind hk hc z (fun h' hc' hs=>?_);obtain⟨oc,hoc,hocd⟩:=id z;refine h { s with heap:=h' } ⟨I.ok,I.os,I.bare,⟨fun b o e n hb hx=>?_,fun b o e n hb hx=>?_,I.base.free,fun b o e hx=>?_,I.base.tups,I.base.frzs,I.base.tbls⟩,⟨m,hn.sameBut hs (C4z (cne x c hc)),fun j y v' e1 e2 e3=>?_⟩,fun y c' e=>?_,I.free,I.freeC,fun p hp=>?_,tracked ⟨oc,hoc,I.freeC x c hc⟩ hs,by simpa using I.len⟩ ⟨c,hs,.inr hc⟩
  ·exact(hs.2 b (I3z (D1z (H3z e) (I.ok.cab x c hfn hc)))).trans (I.base.keep b o e n hb hx)
  ·obtain⟨sl,e1⟩:=I.base.slot b o e n hb hx
   exact⟨sl,(hs.2 b (I3z (D1z (H3z e) (I.ok.cab x c hfn hc)))).trans e1⟩
  ·obtain⟨o',e1⟩:=I.base.there b o e hx
   exact⟨o',(hs.2 b (I3z (D1z (H3z e) (I.ok.cab x c hfn hc)))).trans e1⟩
  ·by_cases hj:j=i
   ·subst hj
    rw[hi] at e1;cases e1
    rw[List.getElem?_set_self hiσ] at e2;cases e2;exact⟨u,r,.inr ⟨.inl hk,c,hc,hc'⟩⟩
   ·rw[List.getElem?_set_ne (C4z hj)] at e2
    obtain⟨u',r',q⟩:=hl j y v' e1 e2 e3;refine⟨u',r',?_⟩;rcases q with q | ⟨k,c',e,z'⟩
    ·exact .inl q
    ·refine .inr ⟨k,c',e,z'.sameBut hs ?_⟩
     rintro rfl;exact hj (jd hN e1 (I.ok.inj _ _ _ e hc▸hi))
  ·by_cases hcc:c'=c
   ·subst hcc;exact⟨_,hc'⟩
   ·obtain⟨w2,z2⟩:=I.cell y c' e
    exact⟨w2,z2.sameBut hs hcc⟩
  ·obtain⟨e,n,ne,nf,d⟩:=I.pin p hp
   refine⟨(hs.2 p.1 ?_).trans e,n,ne,nf,d⟩;intro q;rw[q,hoc] at e;have q':oc=p.2:=L2z e;exact d w' (by rw[<- q'];exact hocd)
theorem eE{M:Model}{A:Around}{E:Value->Shared->Prop}{i:Nat}{x:Str}{v:V}{u:Value}{Q:Unit->Shared->Prop}(I:Inv X z0 σ H s)(hN:X.N.Nodup)(hi:X.N[i]?=some x)(hx:Loc X.env.scope x)(r:RelV v u)
  (h:∀ s',Inv X z0 (σ.set i (some v)) H s'->Q () s') (hf:X.fn x=true\/X.env.scope.names.lookup x=some .local:=by first | exact .inl rfl | exact .inr rfl | assumption):wpAny M A (storeName X.env x u) Q E s :=
 jH I hN hi hx r (fun s' I' _=>h s' I') hf
theorem Inv.call'{s':Shared}{ch:List Addr}(I:Inv X z0 σ H s)(ho:s'.os=s.os)(u:Un (frs X.stack) ch H H' s.heap s'.heap)(hok:HOk X.prog X.w H' s'.heap)(hg:AllBare s'.gens)
  (hch:∀ b∈ch,(b∈X.ex\/X.s₀.heap.objs.size<=b)/\b≠X.env.locals/\(∀ x c,X.env.cells.lookup x=some c->c≠b)/\∀ p∈X.pn++z0,p.1≠b):Inv X z0 σ H' s':=by
 obtain⟨h',g',d',t',o'⟩:=s';have e:o'=s.os:=ho;subst e;exact I.call (g':=g') (t':=t') (d':=d') u hok hg hch
end
abbrev XK:=Value->Option Addr->Hp->Prop
abbrev St:=List (Option V)
abbrev VK:=V->Hp->Prop
abbrev TE:=St->Hp->VK->Prop
abbrev TT:=St->Hp->(Bool->Hp->Prop)->Prop
abbrev TA:=St->Hp->(List V->Hp->Prop)->Prop
structure Ends where
 nx:St->Hp->Prop
 rt:VK
 bk:St->Hp->Prop:=fun _ _=>False
 ct:St->Hp->Prop:=fun _ _=>False
abbrev TS:=Ends->St->Hp->Prop
def EP(X:Cx)(z0:List (Addr×Obj))(σ:St)(Q:VK)(u:Value)(s':Shared):Prop:=∃ v H',Inv X z0 σ H' s'/\RelV v u/\Q v H'
def TP(X:Cx)(z0:List (Addr×Obj))(σ:St)(Q:Bool->Hp->Prop)(b:Bool)(s':Shared):Prop:=∃ H',Inv X z0 σ H' s'/\Q b H'
def AP(X:Cx)(z0:List (Addr×Obj))(σ:St)(Q:List V->Hp->Prop)(us:List Value)(s':Shared):Prop:=∃ vs H',Inv X z0 σ H' s'/\Vals vs us/\Q vs H'
def SP(X:Cx)(z0:List (Addr×Obj))(D:Ends)(f:Flow)(s':Shared):Prop :=
 match f with
 | .next=>∃ σ' H',Inv X z0 σ' H' s'/\D.nx σ' H'
 | .brk=>∃ σ' H',Inv X z0 σ' H' s'/\D.bk σ' H'
 | .cont=>∃ σ' H',Inv X z0 σ' H' s'/\D.ct σ' H'
 | .ret u=>∃ v σ' H',Inv X z0 σ' H' s'/\RelV v u/\D.rt v H'
def PE(X:Cx)(e:Expr)(t:TE):Prop :=
 ∀ (z0:List (Addr×Obj)) (s:Shared) (σ:St) (H:Hp) (Q:VK),Inv X z0 σ H s->t σ H Q->wpAny (model X.prog X.w) X.A (eval e X.env) (EP X z0 σ Q) X.xe s
def PT(X:Cx)(e:Expr)(t:TT):Prop :=
 ∀ (z0:List (Addr×Obj)) (s:Shared) (σ:St) (H:Hp) (Q:Bool->Hp->Prop),Inv X z0 σ H s->t σ H Q->wpAny (model X.prog X.w) X.A (isTrue e X.env (eval e X.env)) (TP X z0 σ Q) X.xe s
def PW(X:Cx)(e:Expr)(t:TT):Prop :=
 ∀ (whole:Sem Value) (z0:List (Addr×Obj)) (s:Shared) (σ:St) (H:Hp) (Q:Bool->Hp->Prop),Inv X z0 σ H s->t σ H Q->wpAny (model X.prog X.w) X.A (isTrue e X.env whole) (TP X z0 σ Q) X.xe s
def PA(X:Cx)(es:List Expr)(t:TA):Prop :=
 ∀ (pos:Pos) (z0:List (Addr×Obj)) (s:Shared) (σ:St) (H:Hp) (Q:List V->Hp->Prop),Inv X z0 σ H s->t σ H Q->wpAny (model X.prog X.w) X.A (spliced (backTo pos (starEach es X.env))) (AP X z0 σ Q) X.xe s
def PS(X:Cx)(st:Stmt)(t:TS):Prop :=
 ∀ (z0:List (Addr×Obj)) (s:Shared) (σ:St) (H:Hp) (D:Ends),Inv X z0 σ H s->t D σ H->wpAny (model X.prog X.w) X.A (exec st X.env) (SP X z0 D) X.xe s
def PSs(X:Cx)(st:List Stmt)(t:TS):Prop :=
 ∀ (z0:List (Addr×Obj)) (s:Shared) (σ:St) (H:Hp) (D:Ends),Inv X z0 σ H s->t D σ H->wpAny (model X.prog X.w) X.A (execs st X.env) (SP X z0 D) X.xe s
theorem thn{α:Type}{t:Sem α}{Q Q':α->Shared->Prop}{M:Model}{A:Around}{E:Value->Shared->Prop}{s:Shared}(h:wpAny M A t Q E s)(hQ:∀ a s,Q a s->Q' a s):wpAny M A t Q' E s:=S3z h hQ fun _ _ x=>x
section
variable {X:Cx}
def yQ(i:Nat):TE:=fun σ H Q=>∃ v,σ[i]?=some (some v)/\Q v H
def tC(v:V):TE:=fun _ H Q=>Q v H
theorem dj{i:Nat}{x:Str}{pos:Pos}(hN:X.N[i]?=some x)(hv:Vis X.env.scope x)(hd:(x==("__debug__":Str))=false:=by decide)(hcd:(x==("__classdict__":Str))=false:=by decide):PE X (.Name x pos) (yQ i):=by
 intro z0 s σ H Q I h;obtain⟨v,e,h⟩:=h;obtain⟨m,hn,hl⟩:=I.loc;obtain⟨u,r,l⟩:=hl i x v hN e hv;have fin:EP X z0 σ Q u s:=⟨v,H,I,r,h⟩;rcases l with⟨hk,hm⟩ | ⟨hk,c,hc,hcell⟩
 ·exact wpAny_Name (wpAny_loadName_local I.ok.kind hk hn hm fin) hd
 ·rcases hk with hk | hk
  ·exact wpAny_Name (wpAny_loadName_cell I.ok.kind hk hc hcell fin) hd
  ·exact wpAny_Name (wpAny_loadName_free I.ok.kind hk hc hcell fin hcd) hd
theorem zM{i j pos}:PE X (.Constant (.int i) j pos) (tC (.int i)):=fun _ _ _ H _ I h=>wpAny_Constant_int ⟨.int i,H,I.tok _,⟨_,rfl⟩,h⟩
theorem Cv{b j pos}:PE X (.Constant (.bool b) j pos) (tC (.bl b)):=fun _ _ _ H _ I h=>Constant_bool ⟨.bl b,H,I,rfl,h⟩
theorem zL{j pos}:PE X (.Constant .none j pos) (tC .non):=fun _ _ _ H _ I h=>Constant_none ⟨.non,H,I,rfl,h⟩
theorem uU{x j pos}:PE X (.Constant (.str x) j pos) (tC (.str x)):=fun _ _ _ H _ I h=>Calls.Constant_str ⟨.str x,H,I.tok _,⟨_,rfl⟩,h⟩
def Gl(X:Cx)(x:Str):Prop:=X.env.kindOf x=some .globalImplicit
theorem dY{E:Value->Shared->Prop}{z0:List (Addr×Obj)}{s:Shared}{σ:St}{H:Hp}{x:Str}{u:Value}{pos:Pos}{Q:Value->Shared->Prop}(I:Inv X z0 σ H s)(hg:Gl X x)(hm:X.mg x=some u)(h:Q u s)
  (hd:(x==("__debug__":Str))=false:=by decide):wpAny (model X.prog X.w) X.A (eval (.Name x pos) X.env) Q E s :=
 Calls.Name_function_global I.ok.kind hg (Calls.loadGlobal_global (by rw[I.ok.glob];exact I.mod.glob.keeps I.bk) hm h) hd
theorem cY{E:Value->Shared->Prop}{z0:List (Addr×Obj)}{s:Shared}{σ:St}{H:Hp}{x:Str}{u:Value}{pos:Pos}{Q:Value->Shared->Prop}(I:Inv X z0 σ H s)(hg:Gl X x)(hm:X.mg x=none)(hv:bootBuiltins x=some u)(h:Q u s)
  (hn:x≠"__name__":=by decide) (hd:(x==("__debug__":Str))=false:=by decide):wpAny (model X.prog X.w) X.A (eval (.Name x pos) X.env) Q E s:=by
 obtain⟨mb,h1,h2⟩:=I.mod.blt;exact Calls.Name_function_global I.ok.kind hg (Calls.loadGlobal_builtin (by rw[I.ok.glob];exact I.mod.glob.keeps I.bk) hm (by rw[I.ok.blt];exact h1.keeps I.bk) ((h2 x hn).trans hv) h) hd
theorem gD{x:Str}{v:V}{u:Value}{pos:Pos}(hg:Gl X x)(hm:X.mg x=some u)(r:RelV v u)(hd:(x==("__debug__":Str))=false:=by decide):PE X (.Name x pos) (tC v) :=
 fun _ _ _ H _ I h=>dY I hg hm ⟨v,H,I,r,h⟩ hd
theorem lE{x:Str}{v:V}{u:Value}{pos:Pos}(hg:Gl X x)(hm:X.mg x=none)(hv:bootBuiltins x=some u)(r:RelV v u)(hn:x≠"__name__":=by decide)(hd:(x==("__debug__":Str))=false:=by decide):PE X (.Name x pos) (tC v) :=
 fun _ _ _ H _ I h=>cY I hg hm hv ⟨v,H,I,r,h⟩ hn hd
variable {a b:Expr} {ta tb:TE} {pos:Pos}
def tB(t:TE):TT:=fun σ H Q=>t σ H fun x H1=>∃ c,x=.bl c/\Q c H1
theorem uQ{e:Expr}{t:TE}(h:PE X e t)(he:∀ whole,isTrue e X.env whole=(do let v <- whole;standAt e.pos;holding [v] (truthy v)):=by intro _;rfl):PT X e (tB t):=by
 intro z0 s σ H Q I hw;refine isTrue_plain (thn (h z0 s σ H _ I hw) fun v s1 ⟨x,H1,I1,r1,q1⟩=>?_) (he _);obtain⟨d,rfl,q⟩:=q1;cases r1;exact Q1z ⟨H1,I1,q⟩
variable {tA tB':TT} {rest:List Expr}
def KY(t u:TT):TT:=fun σ H Q=>t σ H fun c H1=>if c=true then u σ H1 Q else Q false H1
def tOr(t u:TT):TT:=fun σ H Q=>t σ H fun c H1=>if c=true then Q true H1 else u σ H1 Q
def KJ(t:TT):TT:=fun σ H Q=>t σ H fun c H1=>Q (!c) H1
theorem vZ(ha:PT X a tA):PW X (.BoolOp .And [a] pos) tA:=by
 intro wh z0 s σ H Q I h;refine isTrue_and (thn (ha z0 s σ H Q I h) fun c s1 e=>?_)
 cases c with
 | true=>exact isTrue_and_nil e
 | false=>exact e
theorem zu(ha:PT X a tA):PW X (.BoolOp .Or [a] pos) tA:=by
 intro wh z0 s σ H Q I h;refine isTrue_or (thn (ha z0 s σ H Q I h) fun c s1 e=>?_)
 cases c with
 | false=>exact isTrue_or_nil e
 | true=>exact e
theorem uP(ha:PT X a tA)(hb:PW X (.BoolOp .And (b::rest) pos) tB'):PW X (.BoolOp .And (a::b::rest) pos) (KY tA tB'):=by
 intro wh z0 s σ H Q I h;refine isTrue_and (thn (ha z0 s σ H _ I h) fun c s1 ⟨H1,I1,q1⟩=>?_)
 cases c with
 | true=>exact hb wh z0 s1 σ H1 Q I1 q1
 | false=>exact⟨H1,I1,q1⟩
theorem zx(ha:PT X a tA)(hb:PW X (.BoolOp .Or (b::rest) pos) tB'):PW X (.BoolOp .Or (a::b::rest) pos) (tOr tA tB'):=by
 intro wh z0 s σ H Q I h;refine isTrue_or (thn (ha z0 s σ H _ I h) fun c s1 ⟨H1,I1,q1⟩=>?_)
 cases c with
 | true=>exact⟨H1,I1,q1⟩
 | false=>exact hb wh z0 s1 σ H1 Q I1 q1
theorem uR(ha:PT X a tA):PT X (.UnaryOp .Not a pos) (KJ tA):=by
 intro z0 s σ H Q I h;exact isTrue_not (ha z0 s σ H (fun c H1=>Q (!c) H1) I h)
def BP(ta tb:TE):TE:=fun σ H Q=>ta σ H fun x H1=>∃ c,x=.bl c/\if c=true then tb σ H1 Q else Q (.bl false) H1
def KH(ta tb:TE):TE:=fun σ H Q=>ta σ H fun x H1=>∃ c,x=.bl c/\if c=true then Q (.bl true) H1 else tb σ H1 Q
def Bv(ta:TE):TE:=fun σ H Q=>ta σ H fun x H1=>∃ c,x=.bl c/\Q (.bl (!c)) H1
theorem zJ{op}{t:TE}(h:PE X a t):PE X (.BoolOp op [a] pos) t:=fun z0 s σ H Q I hw=>BoolOp_one (h z0 s σ H Q I hw)
theorem uV(ha:PE X a ta)(hb:PE X (.BoolOp .And (b::rest) pos) tb):PE X (.BoolOp .And (a::b::rest) pos) (BP ta tb):=by
 intro z0 s σ H Q I h;refine BoolOp_and (thn (ha z0 s σ H _ I h) fun v s1 ⟨x,H1,I1,r1,q1⟩=>?_);obtain⟨c,rfl,q1⟩:=q1;cases r1;refine Q1z ?_
 cases c with
 | true=>exact hb z0 s1 σ H1 Q I1 q1
 | false=>exact⟨.bl false,H1,I1,rfl,q1⟩
theorem zH(ha:PE X a ta)(hb:PE X (.BoolOp .Or (b::rest) pos) tb):PE X (.BoolOp .Or (a::b::rest) pos) (KH ta tb):=by
 intro z0 s σ H Q I h;refine BoolOp_or (thn (ha z0 s σ H _ I h) fun v s1 ⟨x,H1,I1,r1,q1⟩=>?_);obtain⟨c,rfl,q1⟩:=q1;cases r1;refine Q1z ?_
 cases c with
 | false=>exact hb z0 s1 σ H1 Q I1 q1
 | true=>exact⟨.bl true,H1,I1,rfl,q1⟩
theorem zK(ha:PE X a ta):PE X (.UnaryOp .Not a pos) (Bv ta):=by
 intro z0 s σ H Q I h;refine UnaryOp_ (thn (ha z0 s σ H _ I h) fun v s1 ⟨x,H1,I1,r1,q1⟩=>?_);obtain⟨c,rfl,q1⟩:=q1;cases r1;exact not_of (Q1z ⟨.bl (!c),H1,I1,rfl,q1⟩)
def tIf(t:TT)(ta tb:TE):TE:=fun σ H Q=>t σ H fun c H1=>if c=true then ta σ H1 Q else tb σ H1 Q
theorem iZ{c:Expr}(hc:PT X c tA)(ha:PE X a ta)(hb:PE X b tb):PE X (.IfExp c a b pos) (tIf tA ta tb):=by
 intro z0 s σ H Q I h;refine wpAny_IfExp (thn (hc z0 s σ H _ I h) fun d s1 ⟨H1,I1,q1⟩=>?_)
 cases d with
 | true=>exact ha z0 s1 σ H1 Q I1 q1
 | false=>exact hb z0 s1 σ H1 Q I1 q1
end
def SqL(K:Zf)(H:Hp)(a:Addr)(xs:List V):Prop :=
 Rd H a (.lst xs) \/
  ∃ (o:Obj) (its:Array Value) (n:Nat),K.lookup a=some o/\o.cls=.type "list"/\o.dict=none/\o.data=.seq its n/\its.size<=sizeLine/\Vals xs its.toList
def SqT(K:Zf)(H:Hp)(a:Addr)(xs:List V):Prop :=
 Rd H a (.tup xs) \/
  ∃ (o:Obj) (its:Array Value) (n:Nat),K.lookup a=some o/\o.cls=.type "tuple"/\o.data=.seq its n/\its.size<=sizeLine/\Vals xs its.toList
def Mg:Value->Option V
 | .none=>some .non
 | .bool b=>some (.bl b)
 | .int i _=>some (.int i)
 | .str x _=>some (.str x)
 | .bytes b _=>some (.byt b)
 | .float b _=>some (.flt b)
 | .ref a=>some (.ref a)
 | .type n=>some (.ty n)
 | _=>none
theorem RelV.abs{x:V}{u:Value}(r:RelV x u):Mg u=some x:=by
 cases x with
 | non=>cases r;rfl
 | bl _=>cases r;rfl
 | int _=>obtain⟨t,rfl⟩:=r;rfl
 | str _=>obtain⟨t,rfl⟩:=r;rfl
 | byt _=>obtain⟨t,rfl⟩:=r;rfl
 | flt _=>obtain⟨t,rfl⟩:=r;rfl
 | ref _=>cases r;rfl
 | ty _=>cases r;rfl
theorem RelV.inj{x y:V}{u:Value}(r:RelV x u)(q:RelV y u):x=y:=L2z (r.abs.symm.trans q.abs)
theorem Vals.inj:∀ {xs ys:List V} {us:List Value},Vals xs us->Vals ys us->xs=ys
 | _,_,_,.nil,.nil=>rfl
 | _,_,_,.cons r t,.cons r' t'=>by rw[r.inj r',Vals.inj t t']
section
variable {X:Cx} {z0:List (Addr×Obj)} {σ:St} {H:Hp} {s:Shared} {a:Addr} {xs ys:List V}
theorem SqL.of{K:Zf}(h:H a=some (.lst xs)):SqL K H a xs:=.inl (.inl h)
theorem SqT.of{K:Zf}(h:H a=some (.tup xs)):SqT K H a xs:=.inl (.inl h)
theorem Inv.list(I:Inv X z0 σ H s)(h:SqL X.K H a xs):∃ its:List Value,Vals xs its/\PlainL s.heap a its.toArray/\xs.length<=sizeLine:=by
 rcases h with h | ⟨o,its,n,hk,hc,hd,hs,hz,r⟩
 ·obtain⟨z,its,n,r,e⟩:=h.ok I.hok
  exact⟨its,r,⟨_,n,e,rfl,rfl,rfl⟩,z⟩
 ·refine⟨its.toList,r,⟨o,n,I.kIn a o hk,hc,hd,by simpa using hs⟩,?_⟩
  have e:=r.length;simp only[Y0z] at e;omega
theorem Inv.tuple(I:Inv X z0 σ H s)(h:SqT X.K H a xs):∃ its:List Value,Vals xs its/\IsTup s.heap a its.toArray/\xs.length<=sizeLine:=by
 rcases h with h | ⟨o,its,n,hk,hc,hs,hz,r⟩
 ·obtain⟨z,its,r,p⟩:=h.ok I.hok
  exact⟨its,r,p,z⟩
 ·refine⟨its.toList,r,⟨o,I.kIn a o hk,hc,n,by simpa using hs⟩,?_⟩
  have e:=r.length;simp only[Y0z] at e;omega
theorem Inv.list_inj(I:Inv X z0 σ H s)(h:SqL X.K H a xs)(h':SqL X.K H a ys):xs=ys:=by
 obtain⟨its,r,⟨o,n,e,_,_,d⟩,_⟩:=I.list h;obtain⟨its',r',⟨o',n',e',_,_,d'⟩,_⟩:=I.list h';rw[e] at e';cases e';rw[d] at d';injection d' with d1 _
 have:its=its':=by simpa using congrArg Array.toList d1
 subst this;exact r.inj r'
theorem Inv.tuple_inj(I:Inv X z0 σ H s)(h:SqT X.K H a xs)(h':SqT X.K H a ys):xs=ys:=by
 obtain⟨its,r,⟨o,e,_,n,d⟩,_⟩:=I.tuple h;obtain⟨its',r',⟨o',e',_,n',d'⟩,_⟩:=I.tuple h';rw[e] at e';cases e';rw[d] at d';injection d' with d1 _
 have:its=its':=by simpa using congrArg Array.toList d1
 subst this;exact r.inj r'
end
abbrev Cx.wish(X:Cx)(E:Value->Shared->Prop):Cx:={ X with xe:=E }
abbrev Cx.nox(X:Cx):Cx:=X.wish fun _ _=>False
theorem Cx.Ok.wish{X:Cx}(ok:X.Ok)(E:Value->Shared->Prop):(X.wish E).Ok :=
 ⟨ok.mod,ok.kind,ok.glob,ok.blt,ok.above,ok.inj,ok.has,ok.cab,ok.hd,ok.frames,ok.stk,ok.exf,ok.bs,ok.bsz,ok.noex,ok.exfs,ok.funs,ok.frf⟩
theorem Cx.Ok.unwish{X:Cx}{E:Value->Shared->Prop}(ok:(X.wish E).Ok):X.Ok :=
 ⟨ok.mod,ok.kind,ok.glob,ok.blt,ok.above,ok.inj,ok.has,ok.cab,ok.hd,ok.frames,ok.stk,ok.exf,ok.bs,ok.bsz,ok.noex,ok.exfs,ok.funs,ok.frf⟩
section
variable {X:Cx} {z0:List (Addr×Obj)} {σ:St} {H:Hp} {s:Shared} {E:Value->Shared->Prop}
theorem Inv.wish(I:Inv X z0 σ H s)(E:Value->Shared->Prop):Inv (X.wish E) z0 σ H s:=⟨I.ok.wish E,I.os,I.bare,I.base,I.loc,I.cell,I.free,I.freeC,I.pin,I.hok,I.len⟩
theorem Inv.unwish(I:Inv (X.wish E) z0 σ H s):Inv X z0 σ H s:=⟨I.ok.unwish,I.os,I.bare,I.base,I.loc,I.cell,I.free,I.freeC,I.pin,I.hok,I.len⟩
theorem SP.unwish{D:Ends}{f:Flow}{s':Shared}(h:SP (X.wish E) z0 D f s'):SP X z0 D f s':=by
 cases f with
 | next=>obtain⟨σ',H',I,q⟩:=h;exact⟨σ',H',I.unwish,q⟩
 | brk=>obtain⟨σ',H',I,q⟩:=h;exact⟨σ',H',I.unwish,q⟩
 | cont=>obtain⟨σ',H',I,q⟩:=h;exact⟨σ',H',I.unwish,q⟩
 | ret u=>obtain⟨v,σ',H',I,r,q⟩:=h;exact⟨v,σ',H',I.unwish,r,q⟩
end
section
variable {X:Cx} {st:Stmt} {rest:List Stmt} {t u:TS} {e:Expr} {te:TE} {pos:Pos}
def yS:TS:=fun D σ H=>D.nx σ H
def Kz(t u:TS):TS:=fun D σ H=>t { D with nx:=u D } σ H
theorem pO:PSs X [] yS:=fun _ _ σ H _ I h=>wpAny_execs_nil ⟨σ,H,I,h⟩
theorem eG(h1:PS X st t)(h2:PSs X rest u):PSs X (st::rest) (Kz t u):=by
 intro z0 s σ H D I h;refine wpAny_execs_cons (thn (h1 z0 s σ H { D with nx:=u D } I h) fun f s1 q=>?_)
 cases f with
 | next =>
  obtain⟨σ',H',I',q⟩:=q;exact h2 z0 s1 σ' H' D I' q
 | ret v=>exact q
 | brk=>exact q
 | cont=>exact q
theorem iW(h1:PS X st t):PSs X [st] t:=by
 intro z0 s σ H D I h;refine wpAny_execs_cons (thn (h1 z0 s σ H D I h) fun f s1 q=>?_)
 cases f with
 | next=>exact wpAny_execs_nil q
 | ret v=>exact q
 | brk=>exact q
 | cont=>exact q
theorem v9:PS X (.Pass pos) yS:=fun _ _ σ H _ I h=>wpAny_Pass ⟨σ,H,I,h⟩
theorem Inv.quiet{z0:List (Addr×Obj)}{σ:St}{H:Hp}{s:Shared}(I:Inv X z0 σ H s):interactive X.env=false:=by simp[interactive,I.ok.kind]
def BJ(te:TE):TS:=fun D σ H=>te σ H fun _ H1=>D.nx σ H1
theorem dX(he:PE X e te)(hs:swapsWith e none pos.line X.env=pure false:=by rfl):PS X (.Expr e pos) (BJ te):=by
 intro z0 s σ H D I h;exact wpAny_Expr_any (thn (he z0 s σ H _ I h) fun v s1 ⟨x,H1,I1,r1,q1⟩=>⟨σ,H1,I1,q1⟩) I.quiet hs
def KC(te:TE):TS:=fun D σ H=>te σ H D.rt
theorem iC(he:PE X e te):PS X (.Return (some e) pos) (KC te):=by
 intro z0 s σ H D I h;exact wpAny_Return_some (thn (he z0 s σ H _ I h) fun v s1 ⟨x,H1,I1,r1,q1⟩=>⟨x,σ,H1,I1,r1,q1⟩)
def Bu:TS:=fun D _ H=>D.rt .non H
theorem v7:PS X (.Return none pos) Bu:=fun _ _ σ H _ I h=>wpAny_Return_none ⟨.non,σ,H,I,rfl,h⟩
def KQ(c:TT)(t u:TS):TS:=fun D σ H=>c σ H fun b H1=>if b=true then t D σ H1 else u D σ H1
theorem pR{c:Expr}{a b:List Stmt}{tc:TT}(hc:PT X c tc)(ha:PSs X a t)(hb:PSs X b u):PS X (.If c a b pos) (KQ tc t u):=by
 intro z0 s σ H D I h;refine wpAny_If (thn (hc z0 s σ H _ I h) fun d s1 ⟨H1,I1,q1⟩=>?_)
 cases d with
 | true=>exact ha z0 s1 σ H1 D I1 q1
 | false=>exact hb z0 s1 σ H1 D I1 q1
end
abbrev TG:=V->St->Hp->(St->Hp->Prop)->Prop
abbrev TGs:=List V->St->Hp->(St->Hp->Prop)->Prop
def PG(X:Cx)(target:Expr)(t:TG):Prop :=
  ∀ (z0 : List (Addr × Obj)) (s : Shared) (σ : St) (H : Hp) (v : V) (u : Value) (Q : St -> Hp -> Prop), Inv X z0 σ H s -> RelV v u -> t v σ H Q ->
    wpAny (model X.prog X.w) X.A (assign target X.env u) (fun _ s'=>∃ σ' H',Inv X z0 σ' H' s'/\Q σ' H') X.xe s
def PGs(X:Cx)(ts:List Expr)(t:TGs):Prop :=
  ∀ (z0 : List (Addr × Obj)) (s : Shared) (σ : St) (H : Hp) (vs : List V) (us : List Value) (Q : St -> Hp -> Prop), Inv X z0 σ H s -> Vals vs us -> t vs σ H Q ->
    wpAny (model X.prog X.w) X.A (assignInOrder ((assignEach ts X.env).map (·.2)) us) (fun _ s'=>∃ σ' H',Inv X z0 σ' H' s'/\Q σ' H') X.xe s
abbrev Im:=V->V->V->Hp->(Hp->Prop)->Prop
def Ks(X:Cx)(t:Im):Prop :=
  ∀ (z0 : List (Addr × Obj)) (s : Shared) (σ : St) (H : Hp) (o i v : V) (ov iv u : Value) (Q : Hp -> Prop), Inv X z0 σ H s -> RelV o ov -> RelV i iv -> RelV v u -> t o i v H Q ->
    wpAny (model X.prog X.w) X.A (setItem ov iv u) (fun _ s'=>∃ H',Inv X z0 σ H' s'/\Q H') X.xe s
section
variable {X:Cx} {pos:Pos}
def xH(i:Nat):TG:=fun v σ H Q=>Q (σ.set i (some v)) H
theorem wu{i:Nat}{x:Str}(hN:X.N.Nodup)(hi:X.N[i]?=some x)(hx:Loc X.env.scope x)(hf:X.fn x=true\/X.env.scope.names.lookup x=some .local:=by first | exact .inl rfl | exact .inr rfl | assumption):PG X (.Name x pos) (xH i):=by
 intro z0 s σ H v u Q I r h;exact wpAny_assign_Name (eE I hN hi hx r (fun s' I'=>⟨_,H,I',h⟩) hf)
def LC:TGs:=fun vs σ H Q=>vs=[]/\Q σ H
def Ig(t:TG)(u:TGs):TGs:=fun vs σ H Q=>∃ v r,vs=v::r/\t v σ H fun σ' H'=>u r σ' H' Q
theorem wk:PGs X [] LC:=by
 intro z0 s σ H vs us Q I r h;obtain⟨e,h⟩:=h;subst e;cases r;exact assignInOrder_nil ⟨σ,H,I,h⟩
theorem sX{e:Expr}{es:List Expr}{t:TG}{u:TGs}(h1:PG X e t)(h2:PGs X es u)
  (hs:(assignEach (e::es) X.env).map (·.2)=assign e X.env::(assignEach es X.env).map (·.2):=by rfl):PGs X (e::es) (Ig t u):=by
 intro z0 s σ H vs us Q I r h;obtain⟨v,vr,e1,h⟩:=h;subst e1
 cases r with
 | cons r rr =>
  rw[hs];refine assignInOrder_cons (thn (h1 z0 s σ H _ _ _ I r h) fun _ s1 ⟨σ1,H1,I1,q1⟩=>?_);exact h2 z0 s1 σ1 H1 _ _ Q I1 rr q1
def Ly(K:Zf)(n:Nat)(t:TGs):TG:=fun v σ H Q=>∃ a xs,v=.ref a/\SqT K H a xs/\xs.length=n/\t xs σ H Q
theorem uT{es:List Expr}{k:Nat}{t:TGs}{n:Nat}(hc:X.calm=true)(h:PGs X es t)
  (hn:(assignEach es X.env).length=n:=by rfl) (hst:(assignEach es X.env).findIdx? (·.1)=none:=by rfl):PG X (.Tuple es k pos) (Ly X.K n t):=by
 intro z0 s σ H v u Q I r hw;obtain⟨a,xs,e1,hq,hl,hw⟩:=hw;subst e1;cases r;obtain⟨its,rv,ht,hz⟩:=I.tuple hq;refine assign_Tuple_tuple (I.ok.hd hc) ht (by simp[hn,<- hl,rv.length]) hst fun h' hx=>?_;have I1:Inv X z0 σ H { s with heap:=h' }:=I.kept (t':=s.toks) fun b o e=>hx b o (I3z (H3z e)) e;exact h z0 _ σ H xs _ Q I1 (by simpa using rv) hw
def Lz(to ti:TE)(t:Im):TG:=fun v σ H Q=>to σ H fun o H1=>ti σ H1 fun i H2=>t o i v H2 fun H3=>Q σ H3
theorem pY{o i:Expr}{to ti:TE}{t:Im}(ho:PE X o to)(hi:PE X i ti)(hs:Ks X t)
  (ha:∀ v,assign (.Subscript o i pos) X.env v=(do
   let ov <- holding [v] (eval o X.env)
   let iv <- holding [v,ov] (eval i X.env)
   standAt pos
   holding [v,ov,iv] (setItem ov iv v)
   release [v,ov,iv] []):=by intro _;rfl):PG X (.Subscript o i pos) (Lz to ti t):=by
 intro z0 s σ H v u Q I r h;rw[ha];refine T3z (C3z (thn (ho z0 s σ H _ I h) fun ov s1 ⟨x,H1,I1,r1,q1⟩=>?_));refine T3z (C3z (thn (hi z0 s1 σ H1 _ I1 q1) fun iv s2 ⟨y,H2,I2,r2,q2⟩=>?_));refine T3z (D3z (T3z (C3z (thn (hs z0 s2 σ H2 x y v ov iv u _ I2 r1 r2 r q2) fun _ s3 ⟨H3,I3,q3⟩=>?_))));exact wpAny_release ⟨σ,H3,I3,q3⟩
def BL(te:TE)(g:TG):TS:=fun D σ H=>te σ H fun x H1=>g x σ H1 D.nx
theorem mJ{tg e:Expr}{te:TE}{g:TG}(he:PE X e te)(hg:PG X tg g)(hs:swapsWithSole [tg] e pos.line X.env=pure false:=by rfl)(hw:swappedStores [tg] e X.env=pure none:=by rfl)
  (h1:(assignEach [tg] X.env).map (·.2)=[assign tg X.env]:=by rfl):PS X (.Assign [tg] e pos) (BL te g):=by
 intro z0 s σ H D I h;refine wpAny_Assign_stores (thn (he z0 s σ H _ I h) fun v s1 ⟨x,H1,I1,r1,q1⟩=>?_) hs hw;rw[h1];exact thn (hg z0 s1 σ H1 x v _ I1 r1 q1) fun _ s2 q=>q
theorem eH{i:Nat}{x:Str}{e:Expr}{te:TE}{pos':Pos}(hN:X.N.Nodup)(hi:X.N[i]?=some x)(hx:Loc X.env.scope x)(he:PE X e te)(hs:swapsWith e (some (.Name x pos')) pos.line X.env=pure false:=by rfl)(hf:X.fn x=true\/X.env.scope.names.lookup x=some .local:=by first | exact .inl rfl | exact .inr rfl | assumption) :
  PS X (.Assign [.Name x pos'] e pos) (BL te (xH i)):=by
 intro z0 s σ H D I h;refine wpAny_Assign_Name (thn (he z0 s σ H _ I h) fun v s1 ⟨y,H1,I1,r1,q1⟩=>?_) hs;exact eE I1 hN hi hx r1 (fun s2 I2=>⟨_,H1,I2,q1⟩) hf
def KD(i j:Nat)(ta:TA):TS:=fun D σ H=>ta σ H fun vs H1=>∃ v w,vs=[v,w]/\D.nx ((σ.set i (some v)).set j (some w)) H1
theorem zy{i j:Nat}{x y:Str}{a b:Expr}{ta:TA}{px py pt:Pos}{kt k2 pt2}(hc:X.calm=true)(hN:X.N.Nodup)(hi:X.N[i]?=some x)(hj:X.N[j]?=some y)(hij:i≠j)
  (hx:X.env.scope.names.lookup x=some .local) (hy:X.env.scope.names.lookup y=some .local) (ha:PA X [a,b] ta)
  (hw:swappedStores [.Tuple [.Name x px,.Name y py] kt pt] (.Tuple [a,b] k2 pt2) X.env=pure (some [x,y]))
  (hs:swapsWithSole [.Tuple [.Name x px,.Name y py] kt pt] (.Tuple [a,b] k2 pt2) pos.line X.env=pure false:=by rfl) :
  PS X (.Assign [.Tuple [.Name x px,.Name y py] kt pt] (.Tuple [a,b] k2 pt2) pos) (KD i j ta):=by
 intro z0 s σ H D I h;rw[exec_Assign_arm];refine T3z (D3z ?_);rw[hs];refine T3z (U3z ?_);rw[F4z (by decide)];refine T3z (Tuple_ (thn (ha _ z0 s σ H _ I h) fun us s1 ⟨vs,H1,I1,r1,q1⟩=>?_));obtain⟨v,w,e1,q1⟩:=q1;subst e1
 obtain⟨u1,u2,rfl,rv,rw'⟩:∃ u1 u2,us=[u1,u2]/\RelV v u1/\RelV w u2:=by
  cases r1 with
  | cons p q =>
   cases q with
   | cons p' q' =>
    cases q';exact⟨_,_,rfl,p,p'⟩
 refine R1z ?_ (by show 2<=sizeLine;decide)
 have I2:Inv X z0 σ H1 { s1 with heap:=s1.heap.push { cls:=.type "tuple",data:=.seq [u1,u2].toArray } }:=I1.kept (t':=s1.toks) fun b o e=>Heap.get?_push_of_some _ e;rw[hw];refine T3z (U3z ?_);show wpAny (model X.prog X.w) X.A (do rule "assign.swapped-stores";let items <- unpackItems (.ref s1.heap.objs.size) 2 none;assignInOrder [fun v=>bindName X.env y v,fun v=>bindName X.env x v] items.reverse;pure Flow.next) _ _ _;refine T3z (wpAny_rule (T3z (unpackItems_tuple (items := #[u1,u2]) (I.ok.hd hc) (IsTup.new s1.heap _) fun h' hx'=>?_)));have I3:=I2.kept (h':=h') (t':=s1.toks) fun b o e=>hx' b o (I3z (H3z e)) e;show wpAny _ _ (assignInOrder [fun v=>bindName X.env y v,fun v=>bindName X.env x v] [u2,u1] >>=fun _=>pure Flow.next) _ _ _;refine T3z (assignInOrder_cons (wpAny_bindName (eE I3 hN hj (.inl hy) rw' (fun s2 I4=>?_) (.inr hy))));refine assignInOrder_cons (wpAny_bindName (eE I4 hN hi (.inl hx) rv (fun s3 I5=>assignInOrder_nil (U3z ?_)) (.inr hx)));rw[List.set_comm _ _ (C4z hij)] at I5;exact⟨_,H1,I5,q1⟩
end
section
variable {X:Cx} {pos:Pos}
end
structure It where
 go:Nat->Hp->Prop
 yld:Nat->Hp->V->Hp->Prop
 stop:Nat->Hp->Prop
def nD(X:Cx)(z0:List (Addr×Obj))(H:Hp)(b:Addr):Prop :=
 H b=none/\b≠X.env.locals/\b∉X.fs/\(b∈X.ex\/X.s₀.heap.objs.size<=b)/\(∀ x c,X.env.cells.lookup x=some c->c≠b)/\∀ p∈X.pn++z0,p.1≠b
theorem Inv.fpOk{X:Cx}{z0:List (Addr×Obj)}{σ:St}{H H':Hp}{s:Shared}{b:Addr}(I:Inv X z0 σ H s)(hb:s.heap.objs.size<=b)(hn:H' b=none):nD X z0 H' b:=by
 refine⟨hn,L3z (D1z I.lt hb),I.nofs hb,.inr (J3z I.sz hb),fun x c e z=>?_,fun p hp z=>?_⟩
 ·obtain⟨v,q⟩:=I.cell x c e
  exact absurd (D1z q.lt (by rw[z];exact hb)) (B3z _)
 ·exact absurd (D1z (H3z (I.pin p hp).1) (by rw[z];exact hb)) (B3z _)
structure Turn (P:Program) (w:World) (K:Zf) (tg:Expr) (J:It) (fp:List Addr) (it:Addr) (tn:Nat->Heap->Prop):Prop where
 mem:it∈fp
 obj:∀ i h,tn i h->∀ b∈fp,∃ o,h.get? b=some o/\∀ v,o.data≠.cell v
 keep:∀ i h h',tn i h->(∀ b∈fp,∀ o,h.get? b=some o->h'.get? b=some o)->tn i h'
 item:∀ (X:Cx),X.prog=P->X.w=w->X.K=K->X.calm=true->∀ (i:Nat) (z0:List (Addr×Obj)) (s:Shared) (σ:St) (H:Hp) (E:Value->Shared->Prop),Inv X z0 σ H s->(∀ b∈fp,nD X z0 H b)->tn i s.heap->J.go i H ->
  wpAny (model P w) X.A (pyNext (.ref it)) (fun r s1=>∃ u,r=some u /\
   wpAny (model P w) X.A (letOwnedTupleGo tg (.ref it) u) (fun _ s2=>∃ x H',Inv X z0 σ H' s2/\RelV x u/\J.yld i H x H'/\tn (i+1) s2.heap/\∀ b∈fp,H' b=none) E s1) E s
 done:∀ (X:Cx),X.prog=P->X.w=w->X.K=K->X.calm=true->∀ (i:Nat) (z0:List (Addr×Obj)) (s:Shared) (σ:St) (H:Hp) (E:Value->Shared->Prop),Inv X z0 σ H s->(∀ b∈fp,nD X z0 H b)->tn i s.heap->J.stop i H ->
  wpAny (model P w) X.A (pyNext (.ref it)) (fun r s1=>r=none/\Inv X z0 σ H s1) E s
 self:∀ (A:Around) (i:Nat) (s:Shared) (Q:Value->Shared->Prop) (E:Value->Shared->Prop),tn i s.heap->Q (.ref it) s->wpAny (model P w) A (pyIter (.ref it)) Q E s
abbrev TI:=St->Hp->(It->Hp->Prop)->Prop
def PIE(X:Cx)(z0:List (Addr×Obj))(σ:St)(tg:Expr)(R:It->Hp->Prop)(itv:Value)(s2:Shared):Prop :=
 ∃ (it:Addr) (fp:List Addr) (tn:Nat->Heap->Prop) (J:It) (H':Hp),itv=.ref it/\Inv X z0 σ H' s2/\Turn X.prog X.w X.K tg J fp it tn/\tn 0 s2.heap/\(∀ b∈fp,nD X z0 H' b)/\R J H'
def PI(X:Cx)(tg iter:Expr)(wi:TI):Prop :=
  ∀ (z0 : List (Addr × Obj)) (s : Shared) (σ : St) (H : Hp) (R : It -> Hp -> Prop), Inv X z0 σ H s -> wi σ H R ->
    wpAny (model X.prog X.w) X.A (eval iter X.env) (fun v s1=>wpAny (model X.prog X.w) X.A (pyIter v) (PIE X z0 σ tg R) X.xe s1) X.xe s
theorem xu{M:Model}{A:Around}{E:Value->Shared->Prop}{s:Shared}{tg:Expr}{it:Addr}{u:Value}{o:Obj}{n:String}{vs:Array Value}{Q:Unit->Shared->Prop}(ho:s.heap.get? it=some o)(hc:o.cls=.type n)(hd:o.data=.fields vs)
    (hn:["enumerate","zip","dict_itemiterator","dict_reverseitemiterator","odict_iterator","itertools.zip_longest","itertools.pairwise"].contains n=false) (hQ:Q () s):wpAny M A (letOwnedTupleGo tg (.ref it) u) Q E s:=by
  unfold letOwnedTupleGo
  cases tg<;>first
    | exact U3z hQ
    | (cases u<;>first
        | exact U3z hQ
        | (refine T3z (wpAny_load ho ?_)
           rw[hc,hd]
           show wpAny M A (if(["enumerate","zip","dict_itemiterator","dict_reverseitemiterator","odict_iterator","itertools.zip_longest","itertools.pairwise"].contains n&&vs[0]?==some (rawInt _))=true then _ else _) Q E s
           rw[F4z (by intro h;rw[hn,Bool.false_and] at h;cases h)]
           exact U3z hQ))
def Itl(K:Zf)(a:Addr):It :=
 ⟨fun i H=>∃ xs x,SqL K H a xs/\xs[i]?=some x,fun i H x H'=>H'=H/\∀ xs,SqL K H a xs->xs[i]?=some x,fun i H=>∃ xs,SqL K H a xs/\xs.length<=i⟩
def Itt(K:Zf)(a:Addr):It :=
 ⟨fun i H=>∃ xs x,SqT K H a xs/\xs[i]?=some x,fun i H x H'=>H'=H/\∀ xs,SqT K H a xs->xs[i]?=some x,fun i H=>∃ xs,SqT K H a xs/\xs.length<=i⟩
def Itr(lo:Int)(n:Nat):It:=⟨fun i _=>i<n,fun i H x H'=>H'=H/\x=.int (lo+i),fun i _=>n<=i⟩
theorem o9{P:Program}{w:World}{K:Zf}{tg:Expr}(a it:Addr):Turn P w K tg (Itl K a) [it] it (fun i h=>h.IsListIter it a i) where
 mem:=by simp
 obj:=fun i h st b hb=>by
  have e:b=it:=by simpa using hb
  subst e;obtain⟨o,e,c,d⟩:=st;exact⟨o,e,fun v z=>by rw[d] at z;cases z⟩
 keep:=fun i h h' st k=>st.at fun o e=>k it (by simp) o e
 item:=by
  intro X hP hw hK hc i z0 s σ H E I hf st hg;subst hP hw hK;obtain⟨xs,x,hq,hx⟩:=hg;obtain⟨its,rv,p,hz⟩:=I.list hq;obtain⟨u,hu,ru⟩:=rv.get hx;obtain⟨f0,f1,f2,f3,f4,f5⟩:=hf it (by simp);refine wpAny_pyNext_list_item st p.isList (x:=u) (by simpa using hu) fun h' st' sb=>?_;have I1:Inv X z0 σ H { s with heap:=h' }:=I.turned (t':=s.toks) (fun b o hb e=>(sb.2 b hb).trans e) f0 f1 f3 f4 f5;obtain⟨o,e,c,d⟩:=id st';exact⟨u,rfl,xu (s:={ s with heap:=h' }) e c d (by decide) ⟨x,H,I1,ru,⟨rfl,fun ys hy=>by rw[I.list_inj hy hq];exact hx⟩,st',fun b hb=>(hf b hb).1⟩⟩
 done:=by
  intro X hP hw hK hc i z0 s σ H E I hf st hg;subst hP hw hK;obtain⟨xs,hq,hx⟩:=hg;obtain⟨its,rv,p,hz⟩:=I.list hq;obtain⟨f0,f1,f2,f3,f4,f5⟩:=hf it (by simp);have hl:=rv.length;exact wpAny_pyNext_list_end (I.ok.hd hc) st p.isList (by simp;omega) fun h' eb=>⟨rfl,I.turned (t':=s.toks) (fun b o hb e=>eb b o hb e) f0 f1 f3 f4 f5⟩
 self:=fun _ _ _ _ _ st h=>wpAny_pyIter_listiter st h
theorem nG{P:Program}{w:World}{K:Zf}{tg:Expr}(a it:Addr):Turn P w K tg (Itt K a) [it] it (fun i h=>h.IsTupleIter it a i) where
 mem:=by simp
 obj:=fun i h st b hb=>by
  have e:b=it:=by simpa using hb
  subst e;obtain⟨o,e,c,d⟩:=st;exact⟨o,e,fun v z=>by rw[d] at z;cases z⟩
 keep:=fun i h h' st k=>st.at fun o e=>k it (by simp) o e
 item:=by
  intro X hP hw hK hc i z0 s σ H E I hf st hg;subst hP hw hK;obtain⟨xs,x,hq,hx⟩:=hg;obtain⟨its,rv,p,hz⟩:=I.tuple hq;obtain⟨u,hu,ru⟩:=rv.get hx;obtain⟨f0,f1,f2,f3,f4,f5⟩:=hf it (by simp);refine wpAny_pyNext_tuple_item st (show s.heap.IsTuple a its.toArray from p) (x:=u) (by simpa using hu) fun h' st' sb=>?_;have I1:Inv X z0 σ H { s with heap:=h' }:=I.turned (t':=s.toks) (fun b o hb e=>(sb.2 b hb).trans e) f0 f1 f3 f4 f5;obtain⟨o,e,c,d⟩:=id st';exact⟨u,rfl,xu (s:={ s with heap:=h' }) e c d (by decide) ⟨x,H,I1,ru,⟨rfl,fun ys hy=>by rw[I.tuple_inj hy hq];exact hx⟩,st',fun b hb=>(hf b hb).1⟩⟩
 done:=by
  intro X hP hw hK hc i z0 s σ H E I hf st hg;subst hP hw hK;obtain⟨xs,hq,hx⟩:=hg;obtain⟨its,rv,p,hz⟩:=I.tuple hq;obtain⟨f0,f1,f2,f3,f4,f5⟩:=hf it (by simp);have hl:=rv.length;exact wpAny_pyNext_tuple_end (I.ok.hd hc) st (show s.heap.IsTuple a its.toArray from p) (by simp;omega) fun h' eb=>⟨rfl,I.turned (t':=s.toks) (fun b o hb e=>eb b o hb e) f0 f1 f3 f4 f5⟩
 self:=fun _ _ _ _ _ st h=>wpAny_pyIter_tupleiter st h
theorem nH{P:Program}{w:World}{K:Zf}{tg:Expr}(it:Addr)(lo:Int)(n:Nat):Turn P w K tg (Itr lo n) [it] it (fun i h=>IsRangeIter h it (lo+(i:Nat)*1) ((n:Int)-(i:Nat)) 1) where
 mem:=by simp
 obj:=fun i h st b hb=>by
  have e:b=it:=by simpa using hb
  subst e
  exact⟨_,st,fun v z=>by
   have z':Data.fields _=Data.cell v:=z
   cases z'⟩
 keep:=fun i h h' st k=>k it (by simp) _ st
 item:=by
  intro X hP hw hK hc i z0 s σ H E I hf st hg;subst hP hw hK;obtain⟨f0,f1,f2,f3,f4,f5⟩:=hf it (by simp);have W:=Walks.range (prog:=X.prog) (w:=X.w) (I.ok.hd hc) it lo 1 n;refine W.item i s _ _ hg st fun v h' tk hv st' kk=>?_;obtain⟨t,rfl⟩:=hv;have I1:Inv X z0 σ H { s with heap:=h',toks:=tk }:=I.turned (fun b o hb e=>kk b o (by simpa using hb) e) f0 f1 f3 f4 f5;refine⟨_,rfl,xu (s:={ s with heap:=h',toks:=tk }) (n:="range_iterator") st' rfl rfl (by decide) ⟨.int (lo+i),H,I1,⟨t,?_⟩,⟨rfl,rfl⟩,st',fun b hb=>(hf b hb).1⟩⟩;rw[Int.mul_one]
 done:=by
  intro X hP hw hK hc i z0 s σ H E I hf st hg;subst hP hw hK;obtain⟨f0,f1,f2,f3,f4,f5⟩:=hf it (by simp);exact wpAny_pyNext_range_end (I.ok.hd hc) st (by have:n<=i:=hg;omega) fun h' eb=>⟨rfl,I.turned (t':=s.toks) (fun b o hb e=>eb b o hb e) f0 f1 f3 f4 f5⟩
 self:=fun _ _ _ _ _ st h=>wpAny_pyIter_rangeiter st h
section
variable {X:Cx} {tg:Expr}
def HY(K:Zf)(tl:TE):TI:=fun σ H R=>tl σ H fun x H1=>∃ a,x=.ref a/\(∃ xs,SqL K H1 a xs)/\R (Itl K a) H1
def Lw(K:Zf)(tl:TE):TI:=fun σ H R=>tl σ H fun x H1=>∃ a,x=.ref a/\(∃ xs,SqT K H1 a xs)/\R (Itt K a) H1
theorem wg{l:Expr}{tl:TE}(hl:PE X l tl):PI X tg l (HY X.K tl):=by
 intro z0 s σ H R I h;refine thn (hl z0 s σ H _ I h) fun v s1 ⟨x,H1,I1,r1,q1⟩=>?_;obtain⟨a,e,⟨xs,hq⟩,q⟩:=q1;subst e;cases r1;obtain⟨its,rv,p,hz⟩:=I1.list hq;refine wpAny_pyIter_list p.isList ?_;refine⟨s1.heap.objs.size,[s1.heap.objs.size],_,_,H1,rfl,I1.kept (t':=s1.toks) fun b o e=>Heap.get?_push_of_some _ e,o9 a _,⟨_,Heap.get?_push_size _ rfl,rfl,rfl⟩,fun b hb=>?_,q⟩
 have e:b=s1.heap.objs.size:=by simpa using hb
 subst e;exact I1.fpOk (P3z _) (I1.hok.fresh (P3z _))
theorem zE{l:Expr}{tl:TE}(hl:PE X l tl):PI X tg l (Lw X.K tl):=by
 intro z0 s σ H R I h;refine thn (hl z0 s σ H _ I h) fun v s1 ⟨x,H1,I1,r1,q1⟩=>?_;obtain⟨a,e,⟨xs,hq⟩,q⟩:=q1;subst e;cases r1;obtain⟨its,rv,p,hz⟩:=I1.tuple hq;refine G1z (show s1.heap.IsTuple a its.toArray from p) ?_;refine⟨s1.heap.objs.size,[s1.heap.objs.size],_,_,H1,rfl,I1.kept (t':=s1.toks) fun b o e=>Heap.get?_push_of_some _ e,nG a _,⟨_,Heap.get?_push_size _ rfl,rfl,rfl⟩,fun b hb=>?_,q⟩
 have e:b=s1.heap.objs.size:=by simpa using hb
 subst e;exact I1.fpOk (P3z _) (I1.hok.fresh (P3z _))
theorem mG{z0:List (Addr×Obj)}{σ:St}{H:Hp}{s:Shared}{R:It->Hp->Prop}{E:Value->Shared->Prop}{lo hi:Int}{t u v:Tok}{tk:Nat}(I:Inv X z0 σ H s)(h1:-(2^62)<=lo)(h2:lo<2^62)(h3:-(2^62)<=hi)(h4:hi<2^62)
  (q:R (Itr lo (hi-lo).toNat) H):wpAny (model X.prog X.w) X.A (pyIter (.ref s.heap.objs.size)) (PIE X z0 σ tg R) E { s with heap:=s.heap.push { cls:=.type "range",data:=.fields #[.int lo t,.int hi u,.int 1 v] },toks:=tk }:=by
 refine wpAny_pyIter_range (IsRange.new ..) (small_one h1 h2 h3 h4) ?_;have I1:Inv X z0 σ H { s with heap:=s.heap.push { cls:=.type "range",data:=.fields #[.int lo t,.int hi u,.int 1 v] },toks:=tk }:=I.kept fun b o e=>Heap.get?_push_of_some _ e
 refine⟨(s.heap.push { cls:=.type "range",data:=.fields #[.int lo t,.int hi u,.int 1 v] }).objs.size,[(s.heap.push { cls:=.type "range",data:=.fields #[.int lo t,.int hi u,.int 1 v] }).objs.size],_,_,H,rfl,
  I1.kept (t':=tk) fun b o e=>Heap.get?_push_of_some _ e,nH _ lo (hi-lo).toNat,?_,fun b hb=>?_,q⟩
 ·have e1:lo+((0:Nat):Int)*1=lo:=by simp
  have e2:(((hi-lo).toNat:Nat):Int)-((0:Nat):Int)=Builtin.Range.rangeSize lo hi 1:=by rw[rangeSize_one];split<;>omega
  show IsRangeIter _ _ (lo+((0:Nat):Int)*1) ((((hi-lo).toNat:Nat):Int)-((0:Nat):Int)) 1;rw[e1,e2];exact Heap.get?_push_size _ rfl
 ·have e:b=(s.heap.push { cls:=.type "range",data:=.fields #[.int lo t,.int hi u,.int 1 v] }).objs.size:=by simpa using hb
  subst e;exact I1.fpOk (P3z _) (I1.hok.fresh (P3z _))
def HX(ta:TA):TI:=fun σ H R=>ta σ H fun vs H1=>∃ j:Int,vs=[.int j] /\ -(2^62)<=j/\j<2^62/\R (Itr 0 j.toNat) H1
def HW(ta:TA):TI:=fun σ H R=>ta σ H fun vs H1=>∃ i j:Int,vs=[.int i,.int j]/\(-(2^62)<=i/\i<2^62 /\ -(2^62)<=j/\j<2^62)/\R (Itr i (j-i).toNat) H1
theorem pX{a:Expr}{ta:TA}{p pos:Pos}(hg:Gl X "range")(hm:X.mg "range"=none)(ha:PA X [a] ta)(hs:starEach [a] X.env=[(false,eval a X.env)]:=by rfl):PI X tg (.Call (.Name "range" p) [a] [] pos) (HX ta):=by
 intro z0 s σ H R I h;refine Call_ (cY I hg hm boot_range (A0z (thn (ha pos z0 s σ H _ I h) fun us s1 ⟨vs,H1,I1,r1,q1⟩=>?_) hs rfl));obtain⟨j,e,q1,q2,q⟩:=q1;subst e
 cases r1 with
 | cons r rr =>
  cases rr;obtain⟨t,rfl⟩:=r;exact call_range_1 (mG I1 (by omega) (by omega) q1 q2 (by simpa using q))
theorem pW{a b:Expr}{ta:TA}{p pos:Pos}(hg:Gl X "range")(hm:X.mg "range"=none)(ha:PA X [a,b] ta)(hs:starEach [a,b] X.env=[(false,eval a X.env),(false,eval b X.env)]:=by rfl)(hs2:starEach [b] X.env=[(false,eval b X.env)]:=by rfl) :
  PI X tg (.Call (.Name "range" p) [a,b] [] pos) (HW ta):=by
 intro z0 s σ H R I h;refine Call_ (cY I hg hm boot_range (A0z (thn (ha pos z0 s σ H _ I h) fun us s1 ⟨vs,H1,I1,r1,q1⟩=>?_) (by rw[hs,hs2]) (by rw[hs2];rfl)));obtain⟨i,j,e,⟨q1,q2,q3,q4⟩,q⟩:=q1;subst e
 cases r1 with
 | cons r rr =>
  cases rr with
  | cons r' rr =>
   cases rr;obtain⟨t,rfl⟩:=r;obtain⟨t',rfl⟩:=r';exact call_range_2 (mG I1 q1 q2 q3 q4 q)
def KR(wi:TI)(g:TG)(tb:TS):TS:=fun D σ H=>wi σ H fun J H1=>∃ W:Nat->Nat->St->Hp->Prop,(∃ m,W 0 m σ H1)/\∀ i m σ H,W i m σ H ->
 (J.stop i H/\D.nx σ H)\/(J.go i H/\∃ N:St->Hp->Prop,(∀ σ' H',N σ' H'->∃ m',m'<m/\W (i+1) m' σ' H')/\∀ x H',J.yld i H x H'->g x σ H' fun σ2 H2=>tb { D with nx:=N,ct:=N,bk:=D.nx } σ2 H2)
def jN(fp:List Addr)(h:Heap):List (Addr×Obj):=fp.filterMap fun b=>(h.get? b).map fun o=>(b,o)
theorem dG{fp:List Addr}{h:Heap}{b:Addr}{o:Obj}(hb:b∈fp)(e:h.get? b=some o):(b,o)∈jN fp h:=List.mem_filterMap.mpr ⟨b,hb,by rw[e];rfl⟩
theorem qg{fp:List Addr}{h:Heap}{p:Addr×Obj}(hp:p∈jN fp h):p.1∈fp/\h.get? p.1=some p.2:=by
 obtain⟨b,hb,e⟩:=List.mem_filterMap.mp hp
 cases q:h.get? b with
 | none=>rw[q] at e;cases e
 | some o =>
  rw[q] at e;have e':(b,o)=p:=L2z e;subst e';exact⟨hb,q⟩
theorem Inv.pinned{z0:List (Addr×Obj)}{σ:St}{H:Hp}{s:Shared}{fp:List Addr}(I:Inv X z0 σ H s)(hf:∀ b∈fp,nD X z0 H b)(ho:∀ b∈fp,∃ o,s.heap.get? b=some o/\∀ v,o.data≠.cell v):Inv X (z0++jN fp s.heap) σ H s :=
 I.pins_of fun p hp=>(List.mem_append.mp hp).elim (fun z=>I.pin p (Q0z _ z)) fun z=>by
  obtain⟨hb,e⟩:=qg z;obtain⟨f0,f1,f2,_⟩:=hf p.1 hb;obtain⟨o,e',d⟩:=ho p.1 hb;rw[e] at e';cases e';exact⟨e,f0,f1,f2,d⟩
theorem Inv.unpinned{z0 pl:List (Addr×Obj)}{σ:St}{H:Hp}{s:Shared}(I:Inv X (z0++pl) σ H s):Inv X z0 σ H s:=I.pins_of fun p hp=>I.pin p (Q0z _ (T0z _ hp))
theorem zA{iter:Expr}{body:List Stmt}{wi:TI}{g:TG}{tb:TS}{pos:Pos}(hp:PassesOwn (model X.prog X.w) X.A X.env X.xe)(hc:X.calm=true)(hi:PI X tg iter wi)(hg:PG X tg g)(hb:PSs X body tb)
  (hs:∀ x,foldedSetIterable iter X.env x=pure x:=by intro _;rfl):PS X (.For tg iter body [] pos) (KR wi g tb):=by
 intro z0 s σ H D I h;refine wpAny_For (thn (hi z0 s σ H _ I h) fun v s1 h1=>thn h1 fun itv s2 h2=>?_) hs;obtain⟨it,fp,tn,J,H2,e,I2,T,st2,f2,W,⟨m0,w0⟩,turn⟩:=h2;subst e;have stat:∀ {H':Hp},(∀ b∈fp,H' b=none)->∀ b∈fp,nD X z0 H' b:=fun hn b hb=>⟨hn b hb,(f2 b hb).2⟩;refine codeAny_forLoop_any (fun n s'=>∃ i σ' H',Inv X z0 σ' H' s'/\tn i s'.heap/\(∀ b∈fp,H' b=none)/\W i n σ' H') ?_ m0 ⟨0,σ,H2,I2,st2,fun b hb=>(f2 b hb).1,w0⟩;rintro n s3 ⟨i,σ3,H3,I3,st3,fr3,w3⟩;rcases turn i n σ3 H3 w3 with⟨stop,qn⟩ | ⟨go,N,hN,step⟩
 ·refine M2z hp (thn (T.done X rfl rfl rfl hc i z0 s3 σ3 H3 X.xe I3 (stat fr3) st3 stop) fun r s4 ⟨hr,I4⟩=>?_)
  subst hr;exact wpAny_execs_nil ⟨σ3,H3,I4,qn⟩
 ·refine M2z hp (thn (T.item X rfl rfl rfl hc i z0 s3 σ3 H3 X.xe I3 (stat fr3) st3 go) fun r s4 ⟨u,hr,h4⟩=>?_)
  subst hr;refine M2z hp (thn h4 fun _ s5 ⟨x,H5,I5,r5,y5,st5,fr5⟩=>?_);have I5':=I5.pinned (stat fr5) (T.obj _ _ st5);refine M2z hp (thn (hg _ s5 σ3 H5 x u _ I5' r5 (step x H5 y5)) fun _ s6 ⟨σ6,H6,I6,q6⟩=>?_);refine M2z hp (thn (hb _ s6 σ6 H6 _ I6 q6) fun f s7 q7=>?_)
  have again:∀ {σ7:St} {H7:Hp},Inv X (z0++jN fp s5.heap) σ7 H7 s7->N σ7 H7->∃ m,m<n/\∃ i σ' H',Inv X z0 σ' H' s7/\tn i s7.heap/\(∀ b∈fp,H' b=none)/\W i m σ' H':=fun {σ7 H7} I7 n7=>by
   obtain⟨m',hm,w7⟩:=hN σ7 H7 n7;refine⟨m',hm,i+1,σ7,H7,I7.unpinned,T.keep _ _ _ st5 fun b hb o e=>(I7.pin (b,o) (Q0z _ (Q0z _ (dG hb e)))).1,fun b hb=>?_,w7⟩;obtain⟨o,e,d⟩:=T.obj _ _ st5 b hb;exact(I7.pin (b,o) (Q0z _ (Q0z _ (dG hb e)))).2.1
  cases f with
  | next=>obtain⟨σ7,H7,I7,n7⟩:=q7;exact again I7 n7
  | cont=>obtain⟨σ7,H7,I7,n7⟩:=q7;exact again I7 n7
  | brk=>obtain⟨σ7,H7,I7,q7⟩:=q7;exact⟨σ7,H7,I7.unpinned,q7⟩
  | ret v=>obtain⟨x7,σ7,H7,I7,r7,q7⟩:=q7;exact⟨x7,σ7,H7,I7.unpinned,r7,q7⟩
end
abbrev R2:=V->V->Hp->VK->Prop
def OpR(X:Cx)(f:Value->Value->Sem Value)(r:R2):Prop :=
  ∀ (z0 : List (Addr × Obj)) (s : Shared) (σ : St) (H : Hp) (x y : V) (v u : Value) (Q : VK), Inv X z0 σ H s -> RelV x v -> RelV y u -> r x y H Q ->
    wpAny (model X.prog X.w) X.A (f v u) (EP X z0 σ Q) X.xe s
def UnR(X:Cx)(f:Value->Sem Value)(r:V->Hp->VK->Prop):Prop :=
  ∀ (z0 : List (Addr × Obj)) (s : Shared) (σ : St) (H : Hp) (x : V) (v : Value) (Q : VK), Inv X z0 σ H s -> RelV x v -> r x H Q ->
    wpAny (model X.prog X.w) X.A (f v) (EP X z0 σ Q) X.xe s
def cU(X:Cx)(f:Value)(r:List V->Hp->VK->Prop):Prop :=
  ∀ (z0 : List (Addr × Obj)) (s : Shared) (σ : St) (H : Hp) (xs : List V) (us : List Value) (Q : VK), Inv X z0 σ H s -> Vals xs us -> r xs H Q ->
    wpAny (model X.prog X.w) X.A (call f us) (EP X z0 σ Q) X.xe s
def tOp(r:R2)(ta tb:TE):TE:=fun σ H Q=>ta σ H fun x H1=>tb σ H1 fun y H2=>r x y H2 Q
def tUn(r:V->Hp->VK->Prop)(ta:TE):TE:=fun σ H Q=>ta σ H fun x H1=>r x H1 Q
def rI(C:Int->Int->Prop)(g:Int->Int->V):R2:=fun x y H Q=>∃ i j,x=.int i/\y=.int j/\C i j/\Q (g i j) H
def rI0(g:Int->Int->V):R2:=fun x y H Q=>∃ i j,x=.int i/\y=.int j/\Q (g i j) H
def rU(g:Int->V):V->Hp->VK->Prop:=fun x H Q=>∃ i,x=.int i/\Q (g i) H
section
variable {X:Cx} {a b c:Expr} {ta tb tc:TE} {pos:Pos}
theorem Ik(ha:PE X a ta)(hb:PE X b tb){z0:List (Addr×Obj)}{s:Shared}{σ:St}{H:Hp}{R:V->V->Hp->Prop}(I:Inv X z0 σ H s)
  (h:ta σ H fun x H1=>tb σ H1 fun y H2=>R x y H2) {Q:Value->Shared->Prop} {f:Value->Value->Sem Value}
  (hf:∀ v u s2 x y H2,Inv X z0 σ H2 s2->RelV x v->RelV y u->R x y H2->wpAny (model X.prog X.w) X.A (f v u) Q X.xe s2) :
  wpAny (model X.prog X.w) X.A (eval a X.env) (fun v s₁=>wpAny (model X.prog X.w) X.A (eval b X.env) (fun u s₂=>wpAny (model X.prog X.w) X.A (f v u) Q X.xe s₂) X.xe s₁) X.xe s:=by
 refine thn (ha z0 s σ H _ I h) fun v s1 ⟨x,H1,I1,r1,q1⟩=>?_;refine thn (hb z0 s1 σ H1 _ I1 q1) fun u s2 ⟨y,H2,I2,r2,q2⟩=>?_;exact hf v u s2 x y H2 I2 r1 r2 q2
theorem fU{op:Operator}{r:R2}(ho:OpR X (binaryOp op) r)(ha:PE X a ta)(hb:PE X b tb):PE X (.BinOp a op b pos) (tOp r ta tb):=by
 intro z0 s σ H Q I h;exact wpAny_BinOp (Ik ha hb I h fun v u s2 x y H2 I2 rx ry q=>ho z0 s2 σ H2 x y v u Q I2 rx ry q)
theorem Cu{op:UnaryOp}{r:V->Hp->VK->Prop}(ho:UnR X (unaryOp op) r)(ha:PE X a ta):PE X (.UnaryOp op a pos) (tUn r ta):=by
 intro z0 s σ H Q I h;exact UnaryOp_ (thn (ha z0 s σ H _ I h) fun v s1 ⟨x,H1,I1,r1,q1⟩=>ho z0 s1 σ H1 x v Q I1 r1 q1)
theorem opI{f:Value->Value->Sem Value}{C:Int->Int->Prop}{g:Int->Int->Int}
  (rule:∀ (i j:Int) (t u:Tok) (s:Shared) (Q:Value->Shared->Prop) (E:Value->Shared->Prop),C i j->Q (.int (g i j) s.toks) { s with toks:=s.toks+1 }->wpAny (model X.prog X.w) X.A (f (.int i t) (.int j u)) Q E s) :
  OpR X f (rI C fun i j=>.int (g i j)):=by
 intro z0 s σ H x y v u Q I rx ry h;obtain⟨i,j,rfl,rfl,hc,q⟩:=h;obtain⟨t,rfl⟩:=rx;obtain⟨t',rfl⟩:=ry;exact rule i j t t' s _ _ hc ⟨.int (g i j),H,I.tok _,⟨_,rfl⟩,q⟩
theorem IK{f:Value->Value->Sem Value}{g:Int->Int->Int}
  (rule:∀ (i j:Int) (t u:Tok) (s:Shared) (Q:Value->Shared->Prop) (E:Value->Shared->Prop),Q (.int (g i j) s.toks) { s with toks:=s.toks+1 }->wpAny (model X.prog X.w) X.A (f (.int i t) (.int j u)) Q E s) :
  OpR X f (rI0 fun i j=>.int (g i j)):=by
 intro z0 s σ H x y v u Q I rx ry h;obtain⟨i,j,rfl,rfl,q⟩:=h;obtain⟨t,rfl⟩:=rx;obtain⟨t',rfl⟩:=ry;exact rule i j t t' s _ _ ⟨.int (g i j),H,I.tok _,⟨_,rfl⟩,q⟩
theorem Bj{f:Value->Value->Sem Value}{g:Int->Int->Bool}
  (rule:∀ (i j:Int) (t u:Tok) (s:Shared) (Q:Value->Shared->Prop) (E:Value->Shared->Prop),Q (.bool (g i j)) s->wpAny (model X.prog X.w) X.A (f (.int i t) (.int j u)) Q E s) :
  OpR X f (rI0 fun i j=>.bl (g i j)):=by
 intro z0 s σ H x y v u Q I rx ry h;obtain⟨i,j,rfl,rfl,q⟩:=h;obtain⟨t,rfl⟩:=rx;obtain⟨t',rfl⟩:=ry;exact rule i j t t' s _ _ ⟨.bl (g i j),H,I,rfl,q⟩
def Mh(i j:Int):Prop:=0<j/\j<1073741824
def Io(i j:Int):Prop:=(-(2^64)<i/\i<2^64)\/(-(2^64)<j/\j<2^64)
theorem Io.ok{i j:Int}(h:Io i j):IntMulOk i j:=by
 rcases h with⟨h1,h2⟩ | ⟨h1,h2⟩
 ·exact .of_left (intBits_le_64 h1 h2)
 ·exact .of_right (intBits_le_64 h1 h2)
theorem zR:OpR X (binaryOp .Add) (rI0 fun i j=>.int (i+j)):=IK fun _ _ _ _ _ _ _ q=>add_int q
theorem zN:OpR X (binaryOp .Sub) (rI0 fun i j=>.int (i-j)):=IK fun _ _ _ _ _ _ _ q=>sub_int q
theorem wL:OpR X (binaryOp .FloorDiv) (rI Mh fun i j=>.int (i / j)):=opI fun i j _ _ _ _ _ hc q=>by
 have h1:(0:Int)<j:=hc.1;have h2:j<1073741824:=hc.2;exact floordiv_int (by omega) (by rw[Int.fdiv_eq_ediv_of_nonneg i (by omega)];exact q) (.inl (PyProof.noPylong_small (by omega)))
theorem zO:OpR X (binaryOp .Mod) (rI (fun _ j=>0<j) fun i j=>.int (i%j)):=opI fun i j _ _ _ _ _ hc q=>by
 have h1:(0:Int)<j:=hc;exact mod_int' (by omega) (by rw[Int.fmod_eq_emod_of_nonneg i (by omega)];exact q)
theorem wK:OpR X (binaryOp .Mod) (rI (fun _ j=>j≠0) fun i j=>.int (i.fmod j)):=opI fun _ _ _ _ _ _ _ hc q=>mod_int' hc q
theorem unI{f:Value->Sem Value}{g:Int->Int}
  (rule:∀ (i:Int) (t:Tok) (s:Shared) (Q:Value->Shared->Prop) (E:Value->Shared->Prop),Q (.int (g i) s.toks) { s with toks:=s.toks+1 }->wpAny (model X.prog X.w) X.A (f (.int i t)) Q E s) :
  UnR X f (rU fun i=>.int (g i)):=by
 intro z0 s σ H x v Q I rx h;obtain⟨i,rfl,q⟩:=h;obtain⟨t,rfl⟩:=rx;exact rule i t s _ _ ⟨.int (g i),H,I.tok _,⟨_,rfl⟩,q⟩
theorem yN:UnR X (unaryOp .USub) (rU fun i=>.int (-i)):=unI fun _ _ _ _ _ q=>neg_int q
end
section
variable {X:Cx} {a b c:Expr} {ta tb tc:TE} {pos:Pos}
theorem u9{z0:List (Addr×Obj)}{σ:St}{H:Hp}{s:Shared}{Q:VK}{k k':Bool}(I:Inv X z0 σ H s)(q:Q (.bl k) H)(e:k=k'):EP X z0 σ Q (.bool k') s:=by
 subst e;exact⟨.bl k,H,I,rfl,q⟩
theorem Cw:OpR X (compareOp .Lt) (rI0 fun i j=>.bl (decide (i<j))):=Bj fun _ _ _ _ _ _ _ q=>lt_int q
theorem Cy:OpR X (compareOp .LtE) (rI0 fun i j=>.bl (decide (i<=j))):=Bj fun _ _ _ _ _ _ _ q=>le_int q
theorem Cz:OpR X (compareOp .Gt) (rI0 fun i j=>.bl (decide (j<i))):=Bj fun _ _ _ _ _ _ _ q=>gt_int q
theorem CG:OpR X (compareOp .GtE) (rI0 fun i j=>.bl (decide (j<=i))):=Bj fun _ _ _ _ _ _ _ q=>ge_int q
theorem zP:OpR X (compareOp .Is) (fun x y H Q=>y=.non/\Q (.bl (decide (x=.non))) H):=by
 intro z0 s σ H x y v u Q I rx ry h;obtain⟨rfl,q⟩:=h;cases ry;refine is_none_gen (u9 I q ?_)
 cases x<;>first
  | (cases rx;rfl)
  | (obtain⟨t,rfl⟩:=rx;rfl)
theorem wH:OpR X (compareOp .IsNot) (fun x y H Q=>y=.non/\Q (.bl (!decide (x=.non))) H):=by
 intro z0 s σ H x y v u Q I rx ry h;obtain⟨rfl,q⟩:=h;cases ry;refine isnot_none_gen (u9 I q ?_)
 cases x<;>first
  | (cases rx;rfl)
  | (obtain⟨t,rfl⟩:=rx;rfl)
theorem lD{op:CmpOp}{r:R2}(ho:OpR X (compareOp op) r)(ha:PE X a ta)(hb:PE X b tb)(hm:behindInMarks op b=false):PE X (.Compare a [op] [b] pos) (tOp r ta tb):=by
 intro z0 s σ H Q I h;exact wpAny_Compare1 (Ik ha hb I h fun v u s2 x y H2 I2 rx ry q=>ho z0 s2 σ H2 x y v u Q I2 rx ry q) hm
def yR(t:TE):TT:=fun σ H Q=>t σ H fun x H'=>∃ k,x=.bl k/\Q k H'
theorem pN{op:CmpOp}{r:R2}(ho:OpR X (compareOp op) r)(ha:PE X a ta)(hb:PE X b tb)(hm:behindInMarks op b=false):PT X (.Compare a [op] [b] pos) (yR (tOp r ta tb)):=by
 intro z0 s σ H Q I h
 refine wpAny_isTrue_Compare1 (thn (ha z0 s σ H _ I h) fun v s1 ⟨x,H1,I1,r1,q1⟩=>thn (hb z0 s1 σ H1 _ I1 q1) fun u s2 ⟨y,H2,I2,r2,q2⟩ =>
  thn (ho z0 s2 σ H2 x y v u _ I2 r1 r2 q2) fun c s3 ⟨z,H3,I3,r3,k,e,q3⟩=>?_) hm
 subst e;cases r3;exact Q1z ⟨H3,I3,q3⟩
def pD(r r':R2)(ta tb tc:TE):TE:=fun σ H Q=>ta σ H fun x H1=>tb σ H1 fun y H2=>r x y H2 fun z H3=>∃ k,z=.bl k /\
 (if k=true then tc σ H3 fun w' H4=>r' y w' H4 Q else Q (.bl false) H3)
theorem sY{op op':CmpOp}{r r':R2}(ho:OpR X (compareOp op) r)(ho':OpR X (compareOp op') r')(ha:PE X a ta)(hb:PE X b tb)(hc:PE X c tc)
  (hm:lastMarks [op,op'] [b,c]=false:=by with_unfolding_all rfl):PE X (.Compare a [op,op'] [b,c] pos) (pD r r' ta tb tc):=by
 intro z0 s σ H Q I h
 refine Compare_chain (thn (ha z0 s σ H _ I h) fun v s1 ⟨x,H1,I1,r1,q1⟩=>chain_link (thn (hb z0 s1 σ H1 _ I1 q1) fun u s2 ⟨y,H2,I2,r2,q2⟩ =>
  thn (ho z0 s2 σ H2 x y v u _ I2 r1 r2 q2) fun d s3 ⟨z,H3,I3,r3,k,e,q3⟩=>?_)) hm
 subst e;cases r3;refine Q1z ?_
 cases k with
 | false=>exact ite_ff ⟨.bl false,H3,I3,rfl,q3⟩
 | true=>exact ite_tt (chain_last (thn (hc z0 s3 σ H3 _ I3 q3) fun w' s4 ⟨z',H4,I4,r4,q4⟩=>ho' z0 s4 σ H4 y z' u w' Q I4 r2 r4 q4))
theorem sU{op op':CmpOp}{r r':R2}(ho:OpR X (compareOp op) r)(ho':OpR X (compareOp op') r')(ha:PE X a ta)(hb:PE X b tb)(hc:PE X c tc)
  (hm:lastMarks [op,op'] [b,c]=false:=by with_unfolding_all rfl):PT X (.Compare a [op,op'] [b,c] pos) (yR (pD r r' ta tb tc)):=by
 intro z0 s σ H Q I h
 refine isTrue_chain (thn (ha z0 s σ H _ I h) fun v s1 ⟨x,H1,I1,r1,q1⟩=>test_link (thn (hb z0 s1 σ H1 _ I1 q1) fun u s2 ⟨y,H2,I2,r2,q2⟩ =>
  thn (ho z0 s2 σ H2 x y v u _ I2 r1 r2 q2) fun d s3 ⟨z,H3,I3,r3,k,e,q3⟩=>?_)) hm
 subst e;cases r3;refine Q1z ?_
 cases k with
 | false =>
  obtain⟨k',e',q'⟩:=q3;cases e';exact ite_ff ⟨H3,I3,q'⟩
 | true =>
  refine ite_tt (test_last (thn (hc z0 s3 σ H3 _ I3 q3) fun w' s4 ⟨z',H4,I4,r4,q4⟩=>thn (ho' z0 s4 σ H4 y z' u w' _ I4 r2 r4 q4) fun d' s5 ⟨z2,H5,I5,r5,k2,e2,q5⟩=>?_));subst e2;cases r5;exact Q1z ⟨H5,I5,q5⟩
theorem jP:(sizeLine:Nat)<2^63:=by rw[sizeLine_eq];decide
theorem vals1{x:V}{us:List Value}(r:Vals [x] us):∃ u,us=[u]/\RelV x u:=by
 cases r with
 | cons r1 r2=>cases r2;exact⟨_,rfl,r1⟩
theorem uy:cU X (.builtin "abs") (fun xs H Q=>∃ i,xs=[.int i]/\Q (.int (if i<0 then -i else i)) H):=by
 intro z0 s σ H xs us Q I r h;obtain⟨i,rfl,q⟩:=h;obtain⟨u,rfl,t,rfl⟩:=vals1 r;exact call_abs_int fun u tk=>⟨.int (if i<0 then -i else i),H,I.tok _,⟨_,rfl⟩,q⟩
theorem j9:cU X (.type "int") (fun xs H Q=>(∃ i,xs=[.int i]/\Q (.int i) H)\/∃ k,xs=[.bl k]/\Q (.int (if k then 1 else 0)) H):=by
 intro z0 s σ H xs us Q I r h;rcases h with⟨i,rfl,q⟩ | ⟨k,rfl,q⟩
 ·obtain⟨u,rfl,t,rfl⟩:=vals1 r
  exact call_int_int ⟨.int i,H,I,⟨_,rfl⟩,q⟩
 ·obtain⟨u,rfl,r1⟩:=vals1 r
  cases r1;exact call_int_bool ⟨.int (if k then 1 else 0),H,I.tok _,⟨_,rfl⟩,q⟩
end
section
variable {prog:Program} {w:World} {A:Around} {E:Value->Shared->Prop} {s:Shared} {K:Zf} {x dx C f:Addr} {mA:Str->Option Value} {name:Str} {v:Value}
end
theorem yI.some_of{v:V}{o:Option Value}(r:yI (some v) o):∃ u,o=some u/\RelV v u:=by
 cases o with
 | none=>exact(show False from r).elim
 | some u=>exact⟨u,rfl,r⟩
section
variable {P:Program} {w:World} {H H':Hp} {h h':Heap} {a C dx:Addr} {fs fs':List (Str×V)}
end
section
variable {X:Cx} {z0:List (Addr×Obj)} {σ:St} {H:Hp} {s:Shared} {a C dx:Addr} {fs:List (Str×V)} {f:Str} {v:V} {A:Around} {E:Value->Shared->Prop}
end
section
variable {X:Cx} {o e value:Expr} {f:Str} {pos pos' tpos:Pos} {ta tv:TE}
end
section
variable {X:Cx} {z0:List (Addr×Obj)} {σ:St} {H:Hp} {s:Shared} {A:Around} {E:Value->Shared->Prop} {Q:Value->Shared->Prop} {c:Value} {b:Bool}
end
structure Room (k:Nat) (A:Around):Prop where
 hd:A.handled=none
 dp:A.depth+3*k+5<recursionLimit
 un:A.units+16*k+200<cLine
theorem Room.mono{j k:Nat}{A:Around}(r:Room k A)(h:j<=k):Room j A:=⟨r.hd,by have:=r.dp;omega,by have:=r.un;omega⟩
theorem Room.deeper{k:Nat}{A:Around}(r:Room (k+1) A)(env:Env):Room k (A.deeper env) :=
 ⟨r.hd,by have:=r.dp;show A.depth+1+3*k+5<_;omega,by have:=r.un;show A.units+3+16*k+200<_;omega⟩
theorem Room.depth{k:Nat}{A:Around}(r:Room k A):A.depth<recursionLimit:=by have:=r.dp;omega
def Bw:TA:=fun _ H Q=>Q [] H
def vI(ta:TE)(tr:TA):TA:=fun σ H Q=>ta σ H fun x H1=>tr σ H1 fun xs H2=>Q (x::xs) H2
section
variable {X:Cx} {e:Expr} {es:List Expr} {te:TE} {t:TA} {pos:Pos}
theorem bw:PA X [] Bw:=fun _ _ _ _ H Q I h=>S1z ⟨[],H,I,.nil,h⟩
theorem aP(ha:PE X e te)(hr:PA X es t)(hs:starEach (e::es) X.env=(false,eval e X.env)::starEach es X.env:=by rfl):PA X (e::es) (vI te t):=by
 intro pos z0 s σ H Q I h;rw[hs];show wpAny _ _ (spliced ((false,eval e X.env)::backTo pos (starEach es X.env))) _ _ s;refine H1z (thn (ha z0 s σ H _ I h) fun u s1 ⟨x,H1,I1,r1,q1⟩=>?_);exact thn (hr pos z0 s1 σ H1 _ I1 q1) fun us s2 ⟨xs,H2,I2,r2,q2⟩=>⟨x::xs,H2,I2,.cons r1 r2,q2⟩
def Ky(t:TA):TE:=fun σ H Q=>t σ H fun xs H1=>xs.length<=sizeLine/\∀ p,H1 p=none->Q (.ref p) (upd H1 p (.tup xs))
def KN(t:TA):TE:=fun σ H Q=>t σ H fun xs H1=>xs.length<=sizeLine/\∀ p,H1 p=none->Q (.ref p) (upd H1 p (.lst xs))
theorem zG{x1}(h:PA X es t):PE X (.Tuple es x1 pos) (Ky t):=by
 intro z0 s σ H Q I hq;refine wpAny_Tuple_spliced (thn (h pos z0 s σ H _ I hq) fun us s1 ⟨xs,H1,I1,r,z,q⟩=>⟨by rw[<- r.length];exact z,?_⟩);have hf:H1 s1.heap.objs.size=none:=I1.hok.fresh (P3z _);refine⟨.ref s1.heap.objs.size,upd H1 s1.heap.objs.size (.tup xs),I1.laid (t':=s1.toks) (fun b u e=>Heap.get?_push_of_some _ e) (P3z _) ?_,rfl,q _ hf⟩;exact⟨z,us,r,⟨_,Heap.get?_push_size _ rfl,rfl,_,rfl⟩⟩
theorem pZ(h:PA X es t):PE X (.List es pos) (KN t):=by
 intro z0 s σ H Q I hq;refine wpAny_List_spliced (thn (h pos z0 s σ H _ I hq) fun us s1 ⟨xs,H1,I1,r,z,q⟩=>⟨by rw[<- r.length];exact z,?_⟩);have hf:H1 s1.heap.objs.size=none:=I1.hok.fresh (P3z _);refine⟨.ref s1.heap.objs.size,upd H1 s1.heap.objs.size (.lst xs),I1.laid (t':=s1.toks) (fun b u e=>Heap.get?_push_of_some _ e) (P3z _) ?_,rfl,q _ hf⟩;exact⟨z,us,0,r,Heap.get?_push_size _ rfl⟩
end
abbrev Sp:=List V->Hp->VK->XK->Prop
abbrev CXT:=List Env->Hp->Shared->XK->Value->Shared->Prop
structure Env0 (P:Program) (w:World) (K:Zf) (mg:Str->Option Value) (base:Heap) (A:Around) (outer:List Env) (s:Shared) (H:Hp):Prop where
 frames:A.frames=some outer
 mod:Mod K mg base
 bs:∀ b o,base.get? b=some o->s.heap.get? b=some o/\H b=none
 bsz:base.objs.size<=s.heap.objs.size
 funs:s.heap.FunFrames base outer
 frf:∀ b∈frs outer,H b=none
 hok:HOk P w H s.heap
 bare:AllBare s.gens
def CE(outer:List Env)(P:Program)(w:World)(H:Hp)(s:Shared)(Q:VK)(u:Value)(s':Shared):Prop :=
 ∃ v H',s'.os=s.os/\AllBare s'.gens/\Un (frs outer) [] H H' s.heap s'.heap/\HOk P w H' s'.heap/\RelV v u/\Q v H'
def CR(CX:CXT)(outer:List Env)(P:Program)(w:World)(H:Hp)(s:Shared)(Q:VK)(E:XK)(r:Result)(s':Shared):Prop :=
 match r with
 | .ok (.ret u)=>CE outer P w H s Q u s'
 | .ok _=>False
 | .error e=>CX outer H s E e s'
structure FnOk (P:Program) (w:World) (K:Zf) (mg:Str->Option Value) (base:Heap) (CX:CXT) (k:Nat) (f:Addr) (fd:FuncData) (ps:List Str) (sp:Sp):Prop where
 len:∀ vs H Q E,sp vs H Q E->vs.length=ps.length
 run:∀ (A:Around) (outer:List Env) (s:Shared) (H:Hp) (args:Args) (us:List Value) (vs:List V) (Q:VK) (E:XK),Room k A->Env0 P w K mg base A outer s H->BindsTo s fd args (ps.zip us)->Vals vs us->sp vs H Q E ->
  codeAny (model P w) A (.call (.ref f) args) (CR CX outer P w H s Q E) s
theorem FnOk.mono{P:Program}{w:World}{K:Zf}{mg:Str->Option Value}{base:Heap}{CX:CXT}{j k:Nat}{f:Addr}{fd:FuncData}{ps:List Str}{sp:Sp}(F:FnOk P w K mg base CX j f fd ps sp)(h:j<=k) :
  FnOk P w K mg base CX k f fd ps sp:=⟨F.len,fun A outer s H args us vs Q E hr=>F.run A outer s H args us vs Q E (hr.mono h)⟩
theorem FnOk.imp{P:Program}{w:World}{K:Zf}{mg:Str->Option Value}{base:Heap}{CX:CXT}{k:Nat}{f:Addr}{fd:FuncData}{ps:List Str}{sp sp':Sp}(F:FnOk P w K mg base CX k f fd ps sp)
  (h:∀ vs H Q E,sp' vs H Q E->sp vs H Q E):FnOk P w K mg base CX k f fd ps sp' :=
 ⟨fun vs H Q E q=>F.len vs H Q E (h _ _ _ _ q),fun A outer s H args us vs Q E hr he hb hv hs=>F.run A outer s H args us vs Q E hr he hb hv (h _ _ _ _ hs)⟩
section
variable {X:Cx} {z0:List (Addr×Obj)} {σ:St} {H:Hp} {s s':Shared}
theorem Inv.env0(I:Inv X z0 σ H s):Env0 X.prog X.w X.K X.mg X.base X.A X.stack s H :=
 ⟨I.ok.frames,I.ok.mod,I.bs,J3z I.ok.bsz I.sz,I.stack,I.stkFree,I.hok,I.bare⟩
theorem Inv.after{Q:VK}{u:Value}(I:Inv X z0 σ H s)(h:CE X.stack X.prog X.w H s Q u s'):EP X z0 σ Q u s':=by
 obtain⟨v,H',os,bare,un,hok,r,q⟩:=h;obtain⟨hh,g,d,t,os'⟩:=s';obtain rfl:os'=s.os:=os;exact⟨v,H',I.call (h':=hh) (g':=g) (d':=d) (t':=t) (ch:=[]) un hok bare (fun b z=>absurd z (by simp)),r,q⟩
end
def BK(sp:Sp)(dvs:List V)(E:XK)(t:TA):TE:=fun σ H Q=>t σ H fun vs H1=>sp (vs++dvs) H1 Q E
def Binds(K:Zf)(fd:FuncData)(ps:List Str)(ds:List Value):Prop :=
 ∀ (s:Shared) (us:List Value),K.In s.heap->(us++ds).length=ps.length->BindsTo s fd ⟨us,[]⟩ (ps.zip (us++ds))
theorem Binds.all{K:Zf}{fd:FuncData}{ps:List Str}(h:∀ us:List Value,us.length=ps.length->bindArgs fd ⟨us,[]⟩=pure (ps.zip us)):Binds K fd ps []:=fun s us _ hl=>by
 rw[N2z] at hl ⊢;exact .of_eq (h us hl)
def Passes(CX:CXT)(X:Cx)(E:XK):Prop:=∀ (z0:List (Addr×Obj)) (σ:St) (H:Hp) (s:Shared) (e:Value) (s':Shared),Inv X z0 σ H s->CX X.stack H s E e s'->X.xe e s'
section
variable {X:Cx} {CX:CXT} {k:Nat} {f C:Addr} {fd:FuncData} {ps:List Str} {sp:Sp} {dvs:List V} {ds:List Value} {E:XK} {x m:Str} {p pos apos:Pos} {e o:Expr} {es:List Expr} {ta:TE} {t:TA}
theorem yX{z0:List (Addr×Obj)}{σ:St}{H:Hp}{s:Shared}{Q:VK}{us:List Value}{vs:List V}(F:FnOk X.prog X.w X.K X.mg X.base CX k f fd ps sp)(hr:Room k X.A)(hb:Binds X.K fd ps ds)(hd:Vals dvs ds)(hx:Passes CX X E)
  (I:Inv X z0 σ H s) (r:Vals vs us) (h:sp (vs++dvs) H Q E):wpAny (model X.prog X.w) X.A (call (.ref f) us) (EP X z0 σ Q) X.xe s:=by
 have r2:Vals (vs++dvs) (us++ds):=r.append hd
 have hl:(us++ds).length=ps.length:=by rw[<- r2.length];exact F.len _ _ _ _ h
 refine wpAny_call (M3z (F.run X.A X.stack s H ⟨us,[]⟩ (us++ds) (vs++dvs) Q E hr I.env0 (hb s us I.kIn hl) r2 h) fun r s' hq=>?_)
 cases r with
 | error e=>exact hx z0 σ H s e s' I hq
 | ok fl =>
  cases fl with
  | ret u=>exact I.after hq
  | next=>exact False.elim hq
  | brk=>exact False.elim hq
  | cont=>exact False.elim hq
theorem wB(F:FnOk X.prog X.w X.K X.mg X.base CX k f fd ps sp)(hr:Room k X.A)(hg:Gl X x)(hm:X.mg x=some (.ref f))(hk:PySem.W.keepIn X.K (.ref f)=true)(hb:Binds X.K fd ps ds)(hd:Vals dvs ds)(hx:Passes CX X E)
  (ha:PA X (e::es) t) (hdb:(x==("__debug__":Str))=false:=by decide) (he:starEach (e::es) X.env=(false,eval e X.env)::starEach es X.env:=by rfl) (hpl:(backTo pos (starEach es X.env)).any (·.1)=false:=by rfl) :
  PE X (.Call (.Name x p) (e::es) [] pos) (BK sp dvs E t):=by
 intro z0 s σ H Q I h;refine I1z (dY I hg hm ?_ hdb);refine J1z (h₀:=X.base) I.ok.mod.kin hk (thn (ha pos z0 s σ H _ I h) fun us s1 ⟨vs,H1,I1,r,q⟩=>⟨I1.kIn,?_⟩) he hpl;exact yX F hr hb hd hx I1 r q
end
section
variable {X:Cx} {CX:CXT} {k:Nat} {f C:Addr} {fd:FuncData} {ps ks:List Str} {sp:Sp} {E:XK} {x m:Str} {p pos apos kpos:Pos} {e o:Expr} {es:List Expr} {kws:List Keyword} {te ta:TE} {t tk:TA} {nm:Option Str}
variable {g:List Value->List Value->List Value} {gV:List V->List V->List V}
end
structure FnScope (N P:List Str) (sc:Scope):Prop where
 kind:sc.kind=.function
 co:sc.isCoroutine=false
 gen:sc.isGenerator=false
 nd:N.Nodup
 pre:N.take P.length=P
 par:∀ x∈P,sc.names.lookup x=some .local\/sc.names.lookup x=some .cell
 nofree:∀ y∈sc.names,y.2≠.free
theorem kE{kindOf:Str->Option NameKind}{x:Str}:∀ {binds:List (Str×Value)} {m:Str->Option Value},(∀ v,(x,v)∉binds)->bindL kindOf binds m x=m x
 | [],_,_=>rfl
 | (n,v)::r,m,h=>by
  unfold bindL;rw[kE fun w hw=>h w (S0z _ hw)];split
  ·have:x≠n:=by rintro rfl;exact h v F1z
   simp[this]
  ·rfl
theorem kI{kindOf:Str->Option NameKind}{x:Str}:∀ {binds:List (Str×Value)} {m:Str->Option Value},(∀ v,(x,v)∉binds)->bindC kindOf binds m x=m x
 | [],_,_=>rfl
 | (n,v)::r,m,h=>by
  unfold bindC;rw[kI fun w hw=>h w (S0z _ hw)];split
  ·rfl
  ·have:x≠n:=by rintro rfl;exact h v F1z
   simp[this]
theorem g8{kindOf:Str->Option NameKind}{x:Str}{v:Value}:∀ {P:List Str} {vs:List Value} {i:Nat} {m:Str->Option Value},P.Nodup->P[i]?=some x->vs[i]?=some v->kindOf x=some .local ->
  bindL kindOf (P.zip vs) m x=some v
 | [],_,_,_,_,h,_,_=>by simp at h
 | _::_,[],_,_,_,_,h,_=>by simp at h
 | p::P,w::vs,0,m,nd,h1,h2,hk=>by
  simp at h1 h2;subst h1;subst h2
  show bindL kindOf ((p,w)::P.zip vs) m p=_;unfold bindL;rw[kE fun v hv=>(S2z.mp nd).1 (O2z hv).1,E4z hk];simp
 | p::P,w::vs,i+1,m,nd,h1,h2,hk=>by
  show bindL kindOf ((p,w)::P.zip vs) m x=_;unfold bindL;exact g8 (i:=i) (S2z.mp nd).2 (by simpa using h1) (by simpa using h2) hk
theorem ig{kindOf:Str->Option NameKind}{x:Str}{v:Value}:∀ {P:List Str} {vs:List Value} {i:Nat} {m:Str->Option Value},P.Nodup->P[i]?=some x->vs[i]?=some v->kindOf x≠some .local ->
  bindC kindOf (P.zip vs) m x=some v
 | [],_,_,_,_,h,_,_=>by simp at h
 | _::_,[],_,_,_,_,h,_=>by simp at h
 | p::P,w::vs,0,m,nd,h1,h2,hk=>by
  simp at h1 h2;subst h1;subst h2
  show bindC kindOf ((p,w)::P.zip vs) m p=_;unfold bindC;rw[kI fun v hv=>(S2z.mp nd).1 (O2z hv).1,F4z hk];simp
 | p::P,w::vs,i+1,m,nd,h1,h2,hk=>by
  show bindC kindOf ((p,w)::P.zip vs) m x=_;unfold bindC;exact ig (i:=i) (S2z.mp nd).2 (by simpa using h1) (by simpa using h2) hk
def start(N:List Str)(vs:List V):St:=vs.map some++List.replicate (N.length-vs.length) none
def dg(CX:CXT)(P:Program)(w:World)(K:Zf)(mg:Str->Option Value)(base:Heap)(N:List Str)(qual:Str)(scope:Scope)(f:Addr)(cd:Value)(A:Around)(outer:List Env)(s:Shared)(H:Hp)(E:XK):Cx where
 prog:=P
 w:=w
 K:=K
 mg:=mg
 base:=base
 A:=A.deeper (envOfC qual scope s.heap.objs.size f cd)
 N:=N
 s₀:=s
 H₀:=H
 env:=envOfC qual scope s.heap.objs.size f cd
 outer:=outer
 stack:=envOfC qual scope s.heap.objs.size f cd::outer
 ex:=[]
 calm:=true
 fn:=fun _=>true
 pn:=[]
 xe:=fun e s'=>wpAny (model P w) (A.deeper (envOfC qual scope s.heap.objs.size f cd)) (leaving (envOfC qual scope s.heap.objs.size f cd) e) (fun _ s''=>CX outer H s E e s'') (fun e' s''=>CX outer H s E e' s'') s'
theorem fZ{sc:Scope}{n:Nat}{x:Str}(h:sc.names.lookup x=some .cell):∃ c,(cellsFrom n sc.names []).lookup x=some c:=by
 have q:=M0z sc.names n [] (.inl h);exact Option.isSome_iff_exists.mp q
theorem qJ{CX:CXT}{P:Program}{w:World}{K:Zf}{mg:Str->Option Value}{base:Heap}{N ps:List Str}{qual:Str}{scope:Scope}{f:Addr}{cd:Value}{A:Around}{outer:List Env}{s s1:Shared}{H:Hp}{E:XK}{us:List Value}{vs:List V}
  (S:FnScope N ps scope) (hd:A.handled=none) (e0:Env0 P w K mg base A outer s H) (hl:vs.length=ps.length) (r:Vals vs us)
  (x:InCallC s s.heap.objs.size (bindL (envOfC qual scope s.heap.objs.size f cd).kindOf (ps.zip us) fun _=>none) (cellsFrom (s.heap.objs.size+1) scope.names []) (bindC (envOfC qual scope s.heap.objs.size f cd).kindOf (ps.zip us) fun _=>none) s1) :
  Inv (dg CX P w K mg base N qual scope f cd A outer s H E) [] (start N vs) H s1:=by
 have hpl:ps.length<=N.length:=by have:=congrArg List.length S.pre;rw[C2z] at this;omega
 obtain⟨h1,tk,rfl,hk⟩:=x.done;have noA:∀ b:Addr,b∉(dg CX P w K mg base N qual scope f cd A outer s H E).ex:=fun b z=>absurd (show b∈([]:List Addr) from z) (by simp)
 refine⟨⟨e0.mod,S.kind,rfl,rfl,P3z _,fun y z c h1 h2=>?_,fun y hy=>?_,fun y c _ h=>?_,fun _=>hd,U0z e0.frames,.inr ⟨rfl,rfl⟩,fun b z=>absurd z (noA b),e0.bs,e0.bsz,fun b _ _=>noA b,fun b z=>absurd z (noA b),e0.funs,e0.frf⟩,
  rfl,e0.bare,Un.kept hk,⟨_,x.toInCall.ns,fun i y v h1 h2 h3=>?_⟩,fun y c h=>⟨_,x.cell y c h⟩,e0.hok.fresh (P3z _),fun y c h=>?_,fun p hp=>absurd (show p∈([]:List (Addr×Obj)) from hp) (by simp),e0.hok.kept hk,?_⟩
 ·exact name_of_addr x.apart (Z0z h1) (Z0z h2)
 ·have hy:scope.names.lookup y=some .cell\/scope.names.lookup y=some .free:=hy
  rcases hy with hy | hy
  ·exact fZ hy
  ·exact absurd rfl (S.nofree _ (Z0z hy))
 ·exact K3z (x.above y c (Z0z h))
 ·have hi:i<vs.length:=by
   unfold start at h2
   by_cases hi:i<vs.length
   ·exact hi
   ·rw[List.getElem?_append_right (by simpa using hi)] at h2
    rw[List.getElem?_replicate] at h2
    split at h2<;>cases h2
  have ha:vs[i]?=some v:=by
   unfold start at h2;rw[List.getElem?_append_left (by simpa using hi),List.getElem?_map] at h2
   cases e:vs[i]? with
   | none=>rw[e] at h2;cases h2
   | some a=>rw[e] at h2;cases h2;rfl
  obtain⟨u,hu,rv⟩:=r.get ha
  have hp:ps[i]?=some y:=by
   rw[<- S.pre,List.getElem?_take_of_lt (by omega)];exact h1
  have ndP:ps.Nodup:=by rw[<- S.pre];exact S.nd.sublist (List.take_sublist _ _)
  refine⟨u,rv,?_⟩;rcases S.par y (List.mem_of_getElem? hp) with k | k
  ·exact .inl ⟨k,g8 ndP hp hu k⟩
  ·obtain⟨c,e⟩:=fZ (n:=s.heap.objs.size+1) k
   refine .inr ⟨.inl k,c,e,?_⟩;have q:=x.cell y c e;rw[ig ndP hp hu (by show scope.names.lookup y≠_;rw[k];decide)] at q;exact q
 ·exact e0.hok.fresh (K3z (x.above y c (Z0z h)))
 ·unfold start
  show _=N.length;rw[K1z,P2z,List.length_replicate];omega
theorem Aj{CX:CXT}{P:Program}{w:World}{K:Zf}{mg:Str->Option Value}{base:Heap}{k:Nat}{f:Addr}{name qual:Str}{params:Arguments}{body:List Stmt}{scope:Scope}{dV kV doc pm cdv ct oc:Value}{an od:Option Addr}
  {osl:Array (Option Value)} {N ps:List Str} {sp:Sp} (lk:K.lookup f=some ⟨oc,od,.func (PySem.W.fnOf name qual params body scope dV kV doc pm an cdv ct),osl⟩) (hcd:PySem.W.codeIn K cdv qual=true) (S:FnScope N ps scope)
  (len:∀ vs H Q E,sp vs H Q E->vs.length=ps.length)
  (hbody : ∀ (A : Around) (outer : List Env) (s : Shared) (H : Hp) (vs : List V) (Q : VK) (E : XK), Room k (A.deeper (envOfC qual scope s.heap.objs.size f cdv)) -> sp vs H Q E ->
   ∃ t,PSs (dg CX P w K mg base N qual scope f cdv A outer s H E) body t/\t { nx:=fun _ H'=>Q .non H',rt:=Q } (start N vs) H) :
  FnOk P w K mg base CX (k+1) f (PySem.W.fnOf name qual params body scope dV kV doc pm an cdv ct) ps sp:=by
 refine⟨len,fun A outer s H args us vs Q E hr e0 hb r hsp=>?_⟩;have hl:=len _ _ _ _ hsp;have KX:K.In s.heap:=e0.mod.kin.keeps fun b o e=>(e0.bs b o e).1;have lim:s.heap.NoLimit:=e0.mod.nolimit.keeps fun b o e=>(e0.bs b o e).1
 have hkind:∀ y∈ps.zip us,scope.names.lookup y.1=some .local\/(scope.names.lookup y.1=some .cell/\((cellsFrom (s.heap.objs.size+1) scope.names []).lookup y.1).isSome=true):=fun⟨n,v⟩ hy=>by
  rcases S.par n (O2z hy).1 with q | q
  ·exact .inl q
  ·exact .inr ⟨q,M0z _ _ _ (.inl q)⟩
 refine codeAny_call_function hr.depth (KX _ _ lk) rfl S.co S.gen rfl (PySem.W.codeRec_of KX hcd) (hb _ _ _ _ ?_);refine wpAny_newFunctionEnv_cells S.kind hkind fun env he s1 x=>?_;subst he;refine⟨lim.keeps x.toInCall.keep,codeAny_func ?_⟩;obtain⟨t,ht,hq⟩:=hbody A outer s H vs Q E (hr.deeper _) hsp;have I:Inv (dg CX P w K mg base N qual scope f cdv A outer s H E) [] (start N vs) H s1:=qJ S hr.hd e0 hl r x;refine S3z (ht [] s1 (start N vs) H _ I hq) (fun fl s' hs=>?_) fun e s' hs=>hs
 have fin:∀ {σ':St} {H':Hp} {v:V} {u:Value},Inv (dg CX P w K mg base N qual scope f cdv A outer s H E) [] σ' H' s'->RelV v u->Q v H'->CE outer P w H s Q u s' :=
  fun {σ' H' v u} J rv q=>⟨v,H',J.os,J.bare,J.base,J.hok,rv,q⟩
 cases fl with
 | ret u =>
  obtain⟨v,σ',H',J,rv,q⟩:=hs;exact fin J rv q
 | next =>
  obtain⟨σ',H',J,q⟩:=hs;exact fin (v:=V.non) (u:=Value.none) J rfl q
 | brk =>
  obtain⟨_,_,_,q⟩:=hs;exact False.elim q
 | cont =>
  obtain⟨_,_,_,q⟩:=hs;exact False.elim q
section
variable {X:Cx} {x:Str} {p pos:Pos} {e:Expr} {es:List Expr} {t:TA} {id T:String} {r:List V->Hp->VK->Prop}
def tCB(r:List V->Hp->VK->Prop)(t:TA):TE:=fun σ H Q=>t σ H fun vs H1=>r vs H1 Q
theorem bM(hc:cU X (.builtin id) r)(hg:Gl X x)(hm:X.mg x=none)(hv:bootBuiltins x=some (.builtin id))(ha:PA X (e::es) t)(hn:x≠"__name__":=by decide)(hdb:(x==("__debug__":Str))=false:=by decide)
  (he:starEach (e::es) X.env=(false,eval e X.env)::starEach es X.env:=by rfl) (hpl:(backTo pos (starEach es X.env)).any (·.1)=false:=by rfl):PE X (.Call (.Name x p) (e::es) [] pos) (tCB r t):=by
 intro z0 s σ H Q I h;refine I1z (cY I hg hm hv ?_ hn hdb);exact PyProof.Rows.callWith_builtin1 (thn (ha pos z0 s σ H _ I h) fun us s1 ⟨vs,H1,I1,r1,q1⟩=>hc z0 s1 σ H1 vs us Q I1 r1 q1) he hpl
theorem eO(hc:cU X (.type T) r)(hg:Gl X x)(hm:X.mg x=none)(hv:bootBuiltins x=some (.type T))(ha:PA X (e::es) t)(hn:x≠"__name__":=by decide)(hdb:(x==("__debug__":Str))=false:=by decide)
  (he:starEach (e::es) X.env=(false,eval e X.env)::starEach es X.env:=by rfl) (hpl:(backTo pos (starEach es X.env)).any (·.1)=false:=by rfl):PE X (.Call (.Name x p) (e::es) [] pos) (tCB r t):=by
 intro z0 s σ H Q I h;refine I1z (cY I hg hm hv ?_ hn hdb);exact A0z (thn (ha pos z0 s σ H _ I h) fun us s1 ⟨vs,H1,I1,r1,q1⟩=>hc z0 s1 σ H1 vs us Q I1 r1 q1) he hpl
end
end L2
namespace HT
open PySem PyProof.Rows
section
open PySem.SeqAt
open PySem.MeetsSeq PySem.MeetsSeq2 PySem.MeetsSeq3
end
section
variable {prog:Program} {w:World} {A:Around} {E:Value->Shared->Prop} {s:Shared}
theorem yr{t b:Addr}{vs ws:List Value}{Q:Value->Shared->Prop}(ht:IsTup s.heap t vs.toArray)(hb:IsTup s.heap b ws.toArray)(hv:vs≠[])
  (h1:ws=[]->Q (.ref t) s) (h2:ws≠[]->Q (.ref s.heap.objs.size) { s with heap:=s.heap.push { cls:=.type "tuple",data:=.seq (vs++ws).toArray } })
  (hsz:vs.length+ws.length<=sizeLine):wpAny (model prog w) A (binaryOp .Add (.ref t) (.ref b)) Q E s:=by
 obtain⟨⟨cls,dd,data,sl⟩,ho,hc,n,hd⟩:=id ht;obtain⟨⟨cls2,dd2,data2,sl2⟩,ho2,hc2,n2,hd2⟩:=id hb;simp only at hc hd hc2 hd2;subst hc hd hc2 hd2
 have e:vs.toArray++ws.toArray=(vs++ws).toArray:=by simp
 by_cases hw:ws=[]
 ·exact concat_meets ⟨_,ho,rfl⟩ ⟨_,ho2,rfl⟩ noFill_tuple_add seq_tuple_add N0z J0z (D0z _ _)
   (tuple_addW1 t b vs.toArray ws.toArray n n2 dd dd2 sl sl2 (by simpa using hv) (by simp[hw])) ⟨ho,ho2,h1 hw⟩
 ·refine concat_meets ⟨_,ho,rfl⟩ ⟨_,ho2,rfl⟩ noFill_tuple_add seq_tuple_add N0z J0z (D0z _ _)
   (tuple_addW2 t b vs.toArray ws.toArray n n2 dd dd2 sl sl2 (by simpa using hv) (by simpa using hw) (by rw[T1z,T1z];exact hsz)) ⟨ho,ho2,?_⟩
  rw[e];exact h2 hw
end
end HT
namespace L2
open PySem PySem.Spec PyProof.Rows
abbrev TO:=St->Hp->(Option Int->Hp->Prop)->Prop
section
variable {X:Cx} {e:Expr} {te:TE} {lo hi:Option Expr} {tl th:TO} {pos p2:Pos}
def Cp(K:Zf):R2:=fun x y H Q=>∃ a b xs ys,x=.ref a/\y=.ref b/\SqT K H a xs/\SqT K H b ys/\xs≠[]/\xs.length+ys.length<=sizeLine /\
 (ys=[]->Q (.ref a) H)/\(ys≠[]->∀ p,H p=none->Q (.ref p) (upd H p (.tup (xs++ys))))
theorem Vals.nil_iff{xs:List V}{us:List Value}(r:Vals xs us):us=[]↔xs=[]:=by
 cases r with
 | nil=>simp
 | cons _ _=>simp
theorem wM:OpR X (binaryOp .Add) (Cp X.K):=by
 intro z0 s σ H x y v u Q I rx ry h;obtain⟨a,b,xs,ys,rfl,rfl,ha,hb,hx,hz,q1,q2⟩:=h;cases rx;cases ry;obtain⟨its,r1,p1,_⟩:=I.tuple ha;obtain⟨its2,r2,p2,_⟩:=I.tuple hb;refine HT.yr p1 p2 (fun z=>hx (r1.nil_iff.mp z)) (fun z=>⟨.ref a,H,I,rfl,q1 (r2.nil_iff.mp z)⟩) (fun z=>?_) (by rw[<- r1.length,<- r2.length];exact hz);refine⟨.ref s.heap.objs.size,_,I.laid (t':=s.toks) (o:=.tup (xs++ys)) (fun b ob q=>Heap.get?_push_of_some _ q) (P3z _) ?_,rfl,q2 (fun w=>z (r2.nil_iff.mpr w)) _ (I.hok.fresh (P3z _))⟩;exact⟨by rw[K1z];exact hz,_,r1.append r2,IsTup.new _ _⟩
end
def ixN(n:Nat)(i:Int):Option Nat:=if 0<=i then(if i<n then some i.toNat else none) else if -(n:Int)<=i then some (i+n).toNat else none
def atI{α:Type}(xs:List α)(i:Int):Option α:=(ixN xs.length i).bind fun j=>xs[j]?
theorem qI{n:Nat}{i:Int}{j:Nat}(h:ixN n i=some j):seqIndex? i n=some j/\j<n /\ -(n:Int)<=i/\i<n:=by
 unfold ixN at h
 by_cases h0:0<=i
 ·rw[E4z h0] at h
  by_cases h1:i<n
  ·rw[E4z h1] at h
   have e:i.toNat=j:=L2z h;exact⟨by rw[seqIndex_of h0 h1,e],by omega,by omega,h1⟩
  ·rw[F4z h1] at h;cases h
 ·rw[F4z h0] at h
  by_cases h1:-(n:Int)<=i
  ·rw[E4z h1] at h
   have e:(i+n).toNat=j:=L2z h;exact⟨by rw[seqIndex_neg (by omega) h1,e],by omega,h1,by omega⟩
  ·rw[F4z h1] at h;cases h
theorem rK{α:Type}{xs:List α}{i:Int}{v:α}(h:atI xs i=some v):∃ j,seqIndex? i xs.length=some j/\xs[j]?=some v/\j<xs.length /\ -(xs.length:Int)<=i/\i<xs.length:=by
 unfold atI at h
 cases e:ixN xs.length i with
 | none=>rw[e] at h;cases h
 | some j =>
  rw[e] at h;obtain⟨h1,h2,h3,h4⟩:=qI e;exact⟨j,h1,h,h2,h3,h4⟩
def rP(b:Expr):Prop:=∀ o i,subscripted b false o i=operate [o,i] (getItem o i)
def IxR(X:Cx)(r:R2):Prop :=
  ∀ (value slice : Expr) (z0 : List (Addr × Obj)) (s : Shared) (σ : St) (H : Hp) (x y : V) (v u : Value) (Q : VK), Inv X z0 σ H s -> RelV x v -> RelV y u -> r x y H Q ->
    subscripted slice false v u=operate [v,u] (getItem v u)->wpAny (model X.prog X.w) X.A (subscriptTail value slice v u) (EP X z0 σ Q) X.xe s
def MtR(X:Cx)(id:String)(r:V->List V->Hp->VK->Prop):Prop :=
  ∀ (z0 : List (Addr × Obj)) (s : Shared) (σ : St) (H : Hp) (x : V) (xs : List V) (v : Value) (us : List Value) (Q : VK), Inv X z0 σ H s -> RelV x v -> Vals xs us -> r x xs H Q ->
    wpAny (model X.prog X.w) X.A (call (.builtin id) (v::us)) (EP X z0 σ Q) X.xe s
section
variable {X:Cx} {a b:Expr} {ta tb:TE} {pos:Pos}
theorem wA{r:R2}(hr:IxR X r)(ha:PE X a ta)(hb:PE X b tb)(hs:rP b):PE X (.Subscript a b pos) (tOp r ta tb):=by
 intro z0 s σ H Q I h;exact Subscript_ (Ik ha hb I h fun v u s2 x y H2 I2 rx ry q=>hr a b z0 s2 σ H2 x y v u Q I2 rx ry q (hs _ _))
def K8(K:Zf):R2:=fun x y H Q=>∃ p xs i v,x=.ref p/\y=.int i/\SqL K H p xs/\atI xs i=some v/\Q v H
def K7(K:Zf):R2:=fun x y H Q=>∃ p xs i v,x=.ref p/\y=.int i/\SqT K H p xs/\atI xs i=some v/\Q v H
theorem qH:IxR X (K8 X.K):=by
 intro value slice z0 s σ H x y v u Q I rx ry h hs;obtain⟨p,xs,i,z,rfl,rfl,hq,he,q⟩:=h;cases rx;obtain⟨t,rfl⟩:=ry;obtain⟨its,r,pl,hz⟩:=I.list hq;obtain⟨j,h1,h2,h3,h4,h5⟩:=rK he;obtain⟨w,ew,rw'⟩:=r.get h2;have hl:=r.length;have hn:=jP;have fin:EP X z0 σ Q w s:=⟨z,H,I,rw',q⟩
 by_cases h0:0<=i
 ·have hj:i.toNat=j:=by
   rw[seqIndex_of h0 h5] at h1;exact L2z h1
  exact item_listR pl.isList h0 (by omega) (by rw[hj];simpa using ew) fin hs
 ·have hj:(i+(its.toArray.size:Int)).toNat=j:=by
   rw[seqIndex_neg (by omega) h4] at h1;rw[T1z,<- hl];exact L2z h1
  exact subscriptTail_builtinR (x:=w) pl.isList.typeIs slot_list_getitem.lookup
   (wpAny_getItem_list_neg (Q:=fun r s'=>r=w/\EP X z0 σ Q r s') pl.isList (by omega) (by rw[T1z]<;>omega) (by omega) (by rw[hj];simpa using ew) ⟨rfl,fin⟩) hs
theorem Ae:IxR X (K7 X.K):=by
 intro value slice z0 s σ H x y v u Q I rx ry h hs;obtain⟨p,xs,i,z,rfl,rfl,hq,he,q⟩:=h;cases rx;obtain⟨t,rfl⟩:=ry;obtain⟨its,r,pl,hz⟩:=I.tuple hq;obtain⟨j,h1,h2,h3,h4,h5⟩:=rK he;obtain⟨w,ew,rw'⟩:=r.get h2;have hl:=r.length;have hn:=jP;have fin:EP X z0 σ Q w s:=⟨z,H,I,rw',q⟩
 exact subscriptTail_builtinR (x:=w) pl.typeIs slot_tuple_getitem.lookup
  (getItem_tuple (j:=j) (Q:=fun r s'=>r=w/\EP X z0 σ Q r s') pl (by omega) (by omega) (by rw[T1z,<- hl];exact h1) (by simpa using ew) ⟨rfl,fin⟩) hs
theorem n6(its:List Value)(n j:Nat)(u:Value):Obj.mapSeq (·.setIfInBounds j u) { cls:=.type "list",data:=.seq its.toArray n }={ cls:=.type "list",data:=.seq (its.set j u).toArray n }:=by
 simp[Obj.mapSeq]
theorem Inv.lst{z0:List (Addr×Obj)}{σ:St}{H:Hp}{s:Shared}{p:Addr}{xs:List V}(I:Inv X z0 σ H s)(h:H p=some (.lst xs)) :
  ∃ (its:List Value) (n:Nat),Vals xs its/\s.heap.get? p=some { cls:=.type "list",data:=.seq its.toArray n }/\xs.length<=sizeLine:=by
 obtain⟨z,its,n,r,e⟩:=I.hok p _ h;exact⟨its,n,r,e,z⟩
theorem Inv.lstUpd{z0:List (Addr×Obj)}{σ:St}{H:Hp}{s:Shared}{p:Addr}{xs ys:List V}{its its':List Value}{n n':Nat}{f:Obj->Obj}(I:Inv X z0 σ H s)(h:H p=some (.lst xs))
  (ho:s.heap.get? p=some { cls:=.type "list",data:=.seq its.toArray n }) (hf:f { cls:=.type "list",data:=.seq its.toArray n }={ cls:=.type "list",data:=.seq its'.toArray n' }) (r:Vals ys its') (hz:ys.length<=sizeLine) (t:Nat) :
  Inv X z0 σ (upd H p (.lst ys)) { s with heap:=s.heap.update p f,toks:=t }:=by
 have e:(s.heap.update p f).get? p=some { cls:=.type "list",data:=.seq its'.toArray n' }:=by
  rw[Heap.get?_update_self f ho (by rw[hf]<;>rfl),hf]
 refine I.write (x:=p) (e:=p) (by rw[h];trivial) (.inl rfl) (fun b u hb q=>(Heap.get?_update_other _ _ (C4z hb)).trans q) ⟨_,e⟩ ?_
 exact⟨hz,its',n',r,e⟩
def Cd:V->V->V->Hp->(Hp->Prop)->Prop:=fun o i v H Q=>∃ p xs k j,o=.ref p/\i=.int k/\H p=some (.lst xs)/\ixN xs.length k=some j/\Q (upd H p (.lst (xs.set j v)))
theorem set_list:Ks X Cd:=by
 intro z0 s σ H o i v ov iv u Q I ro ri rv h;obtain⟨p,xs,k,j,rfl,rfl,hp,hj,q⟩:=h;cases ro;obtain⟨t,rfl⟩:=ri;obtain⟨its,n,r,ho,hz⟩:=I.lst hp;obtain⟨h1,h2,h3,h4⟩:=qI hj;have hl:=r.length;have hn:=jP
 have I':Inv X z0 σ (upd H p (.lst (xs.set j v))) { s with heap:=s.heap.update p (Obj.mapSeq (·.setIfInBounds j u)) } :=
  I.lstUpd hp ho (n6 its n j u) (r.set rv j) (by rw[R2z];exact hz) s.toks
 by_cases h0:0<=k
 ·have hk:k.toNat=j:=by
   rw[seqIndex_of h0 h4] at h1;exact L2z h1
  exact PySem.W.ki_setAt ho h0 (by omega) (by rw[T1z,<- hl];exact h4) (by rw[hk];exact⟨_,I',q⟩)
 ·have hk:(k+(its.toArray.size:Int)).toNat=j:=by
   rw[seqIndex_neg (by omega) h3] at h1;rw[T1z,<- hl];exact L2z h1
  exact PySem.W.ki_setBack ho (by omega) (by rw[T1z,<- hl];exact h3) (by omega) (by rw[hk];exact⟨_,I',q⟩)
theorem j7:cU X (.builtin "len") (fun xs H Q=>∃ p ys,xs=[.ref p]/\(SqL X.K H p ys\/SqT X.K H p ys)/\Q (.int ys.length) H):=by
 intro z0 s σ H xs us Q I r h;obtain⟨p,ys,rfl,hq,q⟩:=h;obtain⟨u,rfl,rx⟩:=vals1 r;cases rx;have hn:=jP;rcases hq with hq | hq
 ·obtain⟨its,r',pl,hz⟩:=I.list hq
  have hlen:=r'.length;exact Calls.call_len_list pl.isList (by simp only[T1z]<;>omega) ⟨.int ys.length,H,I.tok _,⟨s.toks+1,by rw[T1z,hlen]⟩,q⟩
 ·obtain⟨its,r',pl,hz⟩:=I.tuple hq
  have hlen:=r'.length;exact len_tuple pl (by simp only[T1z]<;>omega) ⟨.int ys.length,H,I.tok _,⟨s.toks+1,by rw[T1z,hlen]⟩,q⟩
theorem fP:cU X (.type "list") (fun xs H Q=>∃ p ys,xs=[.ref p]/\(SqL X.K H p ys\/SqT X.K H p ys)/\∀ l,H l=none->Q (.ref l) (upd H l (.lst ys))):=by
 intro z0 s σ H xs us Q I r h;obtain⟨p,ys,rfl,hq,q⟩:=h;obtain⟨u,rfl,rx⟩:=vals1 r;cases rx
 have fin:∀ (its:List Value),Vals ys its->ys.length<=sizeLine->∀ (h':Heap) (c':Nat),(∀ b o',s.heap.get? b=some o'->h'.get? b=some o') ->
   h'.get? s.heap.objs.size=some { cls:=.type "list",dict:=none,data:=.seq its.toArray c',slots := #[] }->EP X z0 σ Q (.ref s.heap.objs.size) { s with heap:=h' }:=fun its r' hz h' c' kp e =>
  ⟨.ref s.heap.objs.size,_,I.laid (t':=s.toks) kp (P3z _) (show bY X.prog X.w _ h' _ (.lst ys) from⟨hz,its,c',r',e⟩),rfl,q _ (I.hok.fresh (P3z _))⟩
 rcases hq with hq | hq
 ·obtain⟨its,r',pl,hz⟩:=I.list hq
  have hlen:=r'.length;obtain⟨o,ho,hc,n,hd⟩:=pl.isList;exact call_list_seq p (.inl rfl) ho hc hd (fun h' c' kp e=>fin its r' hz h' c' kp e) (by simp only[T1z]<;>omega)
 ·obtain⟨its,r',pl,hz⟩:=I.tuple hq
  have hlen:=r'.length;obtain⟨o,ho,hc,n,hd⟩:=pl;exact call_list_seq p (.inr rfl) ho hc hd (fun h' c' kp e=>fin its r' hz h' c' kp e) (by simp only[T1z]<;>omega)
theorem jz:cU X (.type "tuple") (fun xs H Q=>∃ p ys,xs=[.ref p]/\((SqL X.K H p ys/\∀ l,H l=none->Q (.ref l) (upd H l (.tup ys)))\/(SqT X.K H p ys/\Q (.ref p) H))):=by
 intro z0 s σ H xs us Q I r h;obtain⟨p,ys,rfl,h⟩:=h;obtain⟨u,rfl,rx⟩:=vals1 r;cases rx;rcases h with⟨hq,q⟩ | ⟨hq,q⟩
 ·obtain⟨its,r',pl,hz⟩:=I.list hq
  have hlen:=r'.length;refine call_tuple_list pl.isList (fun h' kp=>?_) (by simp only[T1z]<;>omega);have I1:Inv X z0 σ H { s with heap:=h' }:=I.kept (t':=s.toks) kp
  have I2:Inv X z0 σ (upd H h'.objs.size (.tup ys)) { s with heap:=h'.push { cls:=.type "tuple",data:=.seq its.toArray } } :=
   I1.laid (t':=s.toks) (fun b o e=>Heap.get?_push_of_some _ e) (P3z _) (show bY X.prog X.w _ _ _ (.tup ys) from⟨hz,its,r',IsTup.new _ _⟩)
  exact⟨.ref h'.objs.size,_,I2,rfl,q _ (I1.hok.fresh (P3z _))⟩
 ·obtain⟨its,r',pl,hz⟩:=I.tuple hq
  exact call_tuple_same pl ⟨.ref p,H,I,rfl,q⟩
def tyV(K:Zf)(T:String)(x:V)(H:Hp):Prop:=match x with
 | .str _=>T="str"
 | .int _=>T="int"
 | .ref p => (T = "list" /\ ∃ xs, SqL K H p xs) \/ (T = "tuple" /\ ∃ o, K.lookup p = some o /\ o.cls = .type "tuple" /\ o.dict = none) \/
   (T="dict"/\((∃ kvs,H p=some (.dK kvs))\/∃ kvs,H p=some (.dT kvs)))\/(T="set"/\∃ S n,H p=some (.set S n))
 | _=>False
theorem yO{z0:List (Addr×Obj)}{σ:St}{H:Hp}{s:Shared}{T:String}{x:V}{v:Value}(I:Inv X z0 σ H s)(r:RelV x v)(ty:tyV X.K T x H) :
  s.TypeIs v T/\∀ a,v=.ref a->∃ ob,s.heap.get? a=some ob/\ob.dict=none:=by
 cases x with
 | str z =>
  obtain⟨t,rfl⟩:=r;cases (show T="str" from ty);exact⟨typeIs_str s z t,fun _ e=>nomatch e⟩
 | int i =>
  obtain⟨t,rfl⟩:=r;cases (show T="int" from ty);exact⟨typeIs_int s i t,fun _ e=>nomatch e⟩
 | ref p =>
  cases r;rcases ty with⟨rfl,xs,hq⟩ | ⟨rfl,o,hk,hc,hd⟩ | ⟨rfl,hk⟩ | ⟨rfl,S,n,hk⟩
  ·obtain⟨its,_,pl,_⟩:=I.list hq
   refine⟨pl.isList.typeIs,fun a e=>?_⟩;cases e;obtain⟨o,n,e,c,hd,_⟩:=pl;exact⟨o,e,hd⟩
  ·refine⟨⟨o,I.kIn p o hk,hc⟩,fun a e=>?_⟩
   cases e;exact⟨o,I.kIn _ o hk,hd⟩
  ·have z:∃ o,s.heap.get? p=some o/\o.ExactDict:=by
    rcases hk with⟨kvs,hk⟩ | ⟨kvs,hk⟩
    ·obtain⟨_,_,_,_,o,_,_,e,ex,_⟩:=I.hok p _ hk
     exact⟨o,e,ex⟩
    ·obtain⟨_,_,_,_,o,_,_,e,ex,_⟩:=I.hok p _ hk
     exact⟨o,e,ex⟩
   obtain⟨o,e,ex⟩:=z;refine⟨⟨o,e,ex.1⟩,fun a e2=>?_⟩;cases e2;exact⟨o,e,ex.2.1⟩
  ·obtain⟨o,_,_,_,e,ex,_⟩:=I.hok p _ hk
   refine⟨⟨o,e,ex.1⟩,fun a e2=>?_⟩;cases e2;exact⟨o,e,ex.2.1⟩
 | _=>exact False.elim ty
def tBM(K:Zf)(T:String)(r:V->List V->Hp->VK->Prop)(to:TE)(t:TA):TE:=fun σ H Q=>to σ H fun x H1=>tyV K T x H1/\t σ H1 fun xs H2=>r x xs H2 Q
variable {o e:Expr} {es:List Expr} {to:TE} {t:TA} {name:Str} {apos cpos:Pos} {T id:String} {r:V->List V->Hp->VK->Prop}
theorem jO(pa:PlainAttrs T)(slot:Slot T name id)(hty:typeOf (.builtin id)=pure (.type "method_descriptor"))(hm:MtR X id r)(ho:PE X o to)(ha:PA X (e::es) t)
  (hbase:attributeBase o name X.env (eval o X.env)=eval o X.env:=by rfl)
  (hfew : ((backTo cpos (starEach (e :: es) X.env)).all (fun x => !x.1) && (backToKw cpos (keywordEach [] X.env)).all (fun x => x.1.isSome)
   && decide ((e::es).length+([]:List Keyword).length+(if([]:List Keyword).isEmpty then 0 else 1)<30))=true:=by rfl)
  (hline:(apos.endLine==cpos.line)=true:=by rfl) (hs:starEach (e::es) X.env=(false,eval e X.env)::starEach es X.env:=by rfl) (hplain:(backTo cpos (starEach es X.env)).any (·.1)=false:=by rfl) :
  PE X (.Call (.Attribute o name apos) (e::es) [] cpos) (tBM X.K T r to t):=by
 intro z0 s σ H Q I h;refine wpAny_Call_method_late hbase hfew hline rfl (thn (ho z0 s σ H _ I h) fun v s1 ⟨x,H1,I1,r1,ty,q1⟩=>?_);obtain⟨h1,h2⟩:=yO I1 r1 ty;refine⟨T,id,pa,slot,hty,h1,h2,?_⟩;have hA:=ha cpos z0 s1 σ H1 _ I1 q1;rw[hs] at hA ⊢;refine Calls.callWith_builtin (by show(false||(backTo cpos (starEach es X.env)).any (·.1))=false;rw[hplain]<;>rfl) (Calls.evalArgs_plain ?_);exact thn hA fun us s2 ⟨vs,H2,I2,r2,q2⟩=>hm z0 s2 σ H2 x vs v us Q I2 r1 r2 q2
end
def MtM(X:Cx)(id:String)(r:V->List V->Hp->VK->Prop):Prop :=
  ∀ (z0 : List (Addr × Obj)) (s : Shared) (σ : St) (H : Hp) (x : V) (xs : List V) (v : Value) (us : List Value) (Q : VK), Inv X z0 σ H s -> RelV x v -> Vals xs us -> r x xs H Q ->
    wpAny (model X.prog X.w) X.A (call (.builtin id) (v::us)) (EP X z0 σ Q) X.xe s
theorem Vals.one:∀ {x:V} {us:List Value},Vals [x] us->∃ u,us=[u]/\RelV x u
 | _,_,.cons r .nil=>⟨_,rfl,r⟩
theorem Vals.rep{xs:List V}{us:List Value}(h:Vals xs us):∀ k:Nat,Vals (List.replicate k xs).flatten (List.replicate k us).flatten
 | 0=>.nil
 | k+1=>by
  rw[A1z,A1z,U1z,U1z];exact Vals.append h (Vals.rep h k)
theorem foldl_rep(its:List Value):∀ (k:Nat) (acc:List Value),
  List.foldl (fun x1 x2=>x1++x2) acc.toArray (List.replicate k its.toArray)=(acc++(List.replicate k its).flatten).toArray
 | 0,acc=>by simp
 | k+1,acc=>by
  have e:acc.toArray++its.toArray=(acc++its).toArray:=by simp
  have e2:(acc++its)++(List.replicate k its).flatten=acc++(List.replicate (k+1) its).flatten:=by
   rw[A1z,U1z,List.append_assoc]
  rw[<- e2,<- foldl_rep its k (acc++its),<- e,A1z,List.foldl_cons]
section
variable {X:Cx} {z0:List (Addr×Obj)} {σ:St} {H:Hp} {s:Shared} {l b:Addr} {xs ys zs:List V}
theorem Inv.lset{its its':List Value}{n:Nat}{f:Array Value->Array Value}{t':Nat}(I:Inv X z0 σ H s)(hH:H l=some (.lst xs))
  (e:s.heap.get? l=some { cls:=.type "list",data:=.seq its.toArray n }) (hf:f its.toArray=its'.toArray) (hv:Vals ys its') (hz:ys.length<=sizeLine) :
  Inv X z0 σ (upd H l (.lst ys)) { s with heap:=s.heap.update l (Obj.mapSeq f),toks:=t' }:=by
 have q:=PySem.IsL.update e f;rw[hf] at q;refine I.write (x:=l) (e:=l) (by rw[hH];exact trivial) (.inl rfl) (fun b' u hb hu=>(Heap.get?_update_other s.heap (Obj.mapSeq f) (C4z hb)).trans hu) ⟨_,q⟩ ?_;exact⟨hz,its',_,hv,q⟩
theorem Inv.lnew{its:List Value}{t':Nat}(I:Inv X z0 σ H s)(hv:Vals ys its)(hz:ys.length<=sizeLine) :
  Inv X z0 σ (upd H s.heap.objs.size (.lst ys)) { s with heap:=s.heap.push { cls:=.type "list",data:=.seq its.toArray },toks:=t' } :=
 I.laid (fun _ _ q=>Heap.get?_push_of_some _ q) (P3z _) ⟨hz,its,0,hv,Heap.get?_push_size _ rfl⟩
theorem Inv.fresh(I:Inv X z0 σ H s):H s.heap.objs.size=none:=I.hok.fresh (P3z _)
theorem Inv.lstM(I:Inv X z0 σ H s)(hH:H l=some (.lst xs)):xs.length<=sizeLine/\∃ (its:List Value) (n:Nat),Vals xs its/\xs.length=its.length/\s.heap.get? l=some { cls:=.type "list",data:=.seq its.toArray n }:=by
 obtain⟨z,its,n,r,e⟩:=I.hok l _ hH;exact⟨z,its,n,r,r.length,e⟩
theorem jc{n:Nat}(h:n<=sizeLine):Builtin.List.listTooLong n=false:=by
 unfold Builtin.List.listTooLong;exact K2z (by omega)
end
section
variable {X:Cx}
def vY:V->List V->Hp->VK->Prop:=fun x vs H Q=>∃ l xs y,x=.ref l/\vs=[y]/\H l=some (.lst xs)/\xs.length<sizeLine/\Q .non (upd H l (.lst (xs++[y])))
theorem eU:MtM X "list.append" vY:=by
 intro z0 s σ H x vs v us Q I rx rv h;obtain⟨l,xs,y,rfl,rfl,hH,hz,q⟩:=h;cases rx;obtain⟨u,rfl,ru⟩:=rv.one;obtain⟨z,its,n,r,hl,e⟩:=I.lstM hH;refine V3z F.slot_list_append ⟨_,e,rfl⟩ F.entry_list_append (F.args_list_append_2 _ _) (PySem.list_append l its.toArray n u (by rw[T1z];omega)) ⟨e,?_⟩;refine⟨.non,_,I.lset (its':=its++[u]) hH e (by simp) (r.append (.cons ru .nil)) ?_,rfl,q⟩;rw[K1z,List.length_singleton];omega
theorem len_rep{α:Type}(xs:List α)(k:Nat):(List.replicate k xs).flatten.length=k*xs.length:=by
 induction k with
 | zero=>simp
 | succ k ih=>rw[A1z,U1z,K1z,ih,Nat.succ_mul,Nat.add_comm]
end
section
variable {prog:Program} {w:World} {A:Around} {E:Value->Shared->Prop} {s:Shared}
set_option maxRecDepth 100000 in
end
section
variable {X:Cx}
end
end L2
namespace Att
open PySem PySem.W PySem.Calls PyProof.Rows
theorem gK{P:Params}{h:Heap}:∀ (ns:List Int) (vs:List Value),WellAll P h vs (ns.map WData.int)->IntsAre vs ns:=by
 intro ns
 induction ns with
 | nil =>
  intro vs w;rw[N3z] at w;cases w;exact .nil
 | cons n ns ih =>
  intro vs w;rw[E3z] at w
  cases w with
  | cons a b =>
   cases a;exact .cons _ _ (ih _ b)
theorem pJ{l:OpenLaw}{n:Nat}(hn:l.most=some n){P:Params}{h:Heap}{args:List WData}{vals:List Value}
  (hpre:l.row.toRowW.claim.pre args=true) (hwl:WellAll P h vals args) :
  ∃ a vs ns,vals=[Value.ref a]/\args=[WData.list (ns.map WData.int)]/\h.get? a=some { cls:=.type "list",data:=.seq vs.toArray }/\IntsAre vs ns/\ns.length<=n:=by
 have hsh:WShape.hasAll [] args [.list .int]=true:=(pre_splitW hpre).1;have hc:l.pre.holds [] { args:=args }=true:=(pre_splitW hpre).2;obtain⟨d,r,rfl,h1,h2⟩:=hasAllW_cons hsh;obtain rfl:=hasAllW_nil h2;obtain⟨xs,rfl,h3⟩:=hasW_list h1;obtain⟨ns,rfl⟩:=items_int h3
 have hlen:ns.length<=n:=by
  unfold OpenLaw.pre at hc
  have h4:(WTm.not (.lt (.lit (.int n)) (.len (.arg 0)))).holds [] { args:=[.list (ns.map .int)] }=true:=by
   have h4:=(holds_andW hc).1;rw[hn] at h4;exact h4
  have h5:=condW_of h4 (w_not (w_lt w_lit (w_len_list (w_arg rfl))));rw[P2z] at h5;refine Nat.le_of_not_lt fun q=>?_
  have q':(n:Int)<((ns.length:Nat):Int):=by omega
  first
   | (rw[X2z q'] at h5;exact absurd h5 (by decide))
   | (simp at h5;omega)
 cases hwl with
 | cons w1 w2 =>
  cases w2
  cases w1 with
  | list ho hall=>exact⟨_,_,ns,rfl,rfl,ho,gK ns _ hall,hlen⟩
theorem pU(l:OpenLaw)(args:List WData):l.row.toRowW.claim.post args (.bool true) args=true :=
 postW_of (r:=l.row.toRowW) (X:=(true==true))
  (show WShape.has [] (.bool true) .bool=true by first | rfl | decide | simp[WShape.has,WShape.arms,WShape.armsAll])
  (show(WTm.eq .res (.lit (.bool true))).value [] { args:=args,res:=some (.bool true),after:=args }=some (.bool (true==true)) from w_eq_bool (w_res rfl) w_lit) rfl
theorem iu{l:OpenLaw}{n:Nat}{q:Program}{loose:List Str}{XP:(Str->Option Value)->Heap->Prop}{YP:World->Heap->Prop}{d:DefRec}
  (hn:l.most=some n) (hdf:d.params.defaults=[])
  (call : ∀ (w : World) (s₀ s₁ : Shared) (mg mb : Str -> Option Value) (fa : Addr) (o : Obj) (pm cd doc : Value) (a : Addr) (vs : List Value) (ns : List Int),
   Ground q loose [] XP w s₀ mg mb s₁.heap->YP w s₁.heap ->
   s₁.heap.get? fa=some o->o.data=.func (docDef d.name d.params d.body d.scope pm cd doc)->s₁.heap.CodeRec cd d.name->mg d.name=some (.ref fa) ->
   s₁.heap.get? a=some { cls:=.type "list",data:=.seq vs.toArray }->IntsAre vs ns->ns.length<=n->s₁.gens = #[] ->
   codeAny (model l.prog w) callerA (.call (.ref fa) ⟨[.ref a],[]⟩) (fun r s'=>r=.ok (.ret (.bool true))/\OldK s₁.heap s'.heap/\s'.os=s₁.os/\AllBare s'.gens) s₁) :
  WalkO q loose XP YP l.row.toRowW d [] (fun f vs=>PySem.call f vs):=by
 intro w s₀ s₁ mg mb G Y fa o pm cd doc dV kV ho hd hcd hD hmg hg args vals as hpre hlay hrd hwl hlo;obtain rfl:dV=.none:=Dflts.none hD hdf;obtain rfl:kV=.none:=Dflts.noKw hD;obtain⟨a,vs,ns,rfl,rfl,hobj,hints,hlen⟩:=pJ hn hpre hwl;refine enter_call (M3z (call w s₀ s₁ mg mb fa o pm cd doc a vs ns G Y ho (fd_plain hd) hcd hmg hobj hints hlen hg) fun r s' hq=>?_);obtain⟨rfl,h2,h3,h4⟩:=hq;exact⟨.inl ⟨.bool true,.bool true,[],rfl,fun _=>rfl,.bool true,pU l _,fun _=>⟨List.Pairwise.nil,fun _ hm=>(nomatch hm)⟩⟩,h2,h3,h4⟩
section
variable {prog:Program} {w:World} {A:Around} {E:Value->Shared->Prop} {s:Shared} {K:Frag}
def ledger(h:Heap)(L d:Addr):List (Addr×Obj):=(List.range h.objs.size).filterMap fun a=>if a=L\/a=d then none else(h.get? a).map fun o=>(a,o)
end
end Att
namespace L2
open PySem PySem.Spec PyProof.Rows
theorem gj:∀ {vs:List Value} {ns:List Int},IntsAre vs ns->Vals (ns.map V.int) vs
 | _,_,.nil=>.nil
 | _,_,.cons n t h=>.cons ⟨t,rfl⟩ (gj h)
def Only(H:Hp):Prop:=∀ b,H b=none\/∃ o xs,H b=some (.frz o (.lst xs))
theorem tQ{P:Program}{w:World}{K:Zf}{mg mb:Str->Option Value}{CX:CXT}{k:Nat}{fa a:Addr}{fd:FuncData}{x:Str}{sp:Sp}{s₁:Shared}{vs:List Value}{ns:List Int}
  (KX:K.In s₁.heap) (hns:s₁.heap.Ns mainGlobals mg) (hb:s₁.heap.Ns builtinsNs mb) (hbb:∀ x:Str,x≠"__name__"->mb x=bootBuiltins x) (hlim:s₁.heap.NoLimit) (hg:s₁.gens = #[])
  (ha:s₁.heap.get? a=some { cls:=.type "list",data:=.seq vs.toArray }) (hi:IntsAre vs ns) (hl:ns.length<=sizeLine) (hr:Room k callerA)
  (F:∀ base:Heap,K.In base->base.Ns mainGlobals mg->FnOk P w K mg base CX k fa fd [x] sp) (hbind:∀ (s:Shared) (u:Value),BindsTo s fd ⟨[u],[]⟩ [(x,u)])
  (hsp:∀ H:Hp,Only H->SqL K H a (ns.map V.int)->sp [.ref a] H (fun v _=>v=.bl true) fun _ _ _=>False)
  (hCX:∀ H e s',CX [] H s₁ (fun _ _ _=>False) e s'->False) :
  codeAny (model P w) callerA (.call (.ref fa) ⟨[.ref a],[]⟩) (fun r s'=>r=.ok (.ret (.bool true))/\OldK s₁.heap s'.heap/\s'.os=s₁.os/\AllBare s'.gens) s₁:=by
 have rv:=gj hi;have lenV:=hi.length
 have core:∀ H:Hp,Only H->SqL K H a (ns.map V.int)->HOk P w H s₁.heap->(∀ b,H b≠none->b=a)->(H a≠none->K.lookup a=none) ->
   codeAny (model P w) callerA (.call (.ref fa) ⟨[.ref a],[]⟩) (fun r s'=>r=.ok (.ret (.bool true))/\OldK s₁.heap s'.heap/\s'.os=s₁.os/\AllBare s'.gens) s₁:=by
  intro H hO hS hok hA hK;have base_of:∀ {b:Addr} {o:Obj},s₁.heap.get? b=some o->H b=none->(jR s₁.heap H).get? b=some o:=fun e n=>jh e n
  have noA:∀ {b:Addr} {o:Obj} {es:Array DictEntry} {ep:Nat},s₁.heap.get? b=some o->o.data=.dict es ep->H b=none:=fun {b o es ep} e d=>by
   cases q:H b with
   | none=>rfl
   | some u =>
    have e':b=a:=hA b (by rw[q];simp)
    subst e';rw[ha] at e;cases e;have d':Data.seq vs.toArray _=Data.dict es ep:=d;cases d'
  have nsK:∀ {b:Addr} {m:Str->Option Value},s₁.heap.Ns b m->(jR s₁.heap H).Ns b m:=fun {b m} ⟨o,es,ep,e,d,r⟩=>⟨o,es,ep,base_of e (noA e d),d,r⟩
  have hKb:K.In (jR s₁.heap H):=fun b o e=>base_of (KX b o e) (by
   cases q:H b with
   | none=>rfl
   | some u =>
    have e':b=a:=hA b (by rw[q];simp)
    subst e'
    rw[hK (by rw[q];simp)] at e;cases e)
  have hM:Mod K mg (jR s₁.heap H):=⟨hKb,nsK hns,⟨mb,nsK hb,hbb⟩,let ⟨mc,h1,h2⟩:=hlim;⟨mc,nsK h1,h2⟩⟩
  have e0:Env0 P w K mg (jR s₁.heap H) callerA [] s₁ H:=⟨rfl,hM,fun b o e=>lF e,Nat.le_of_eq (gM _ _),trivial,fun b hb=>absurd (show b∈([]:List Addr) from hb) (by simp),hok,.of_eq hg⟩;refine M3z ((F _ hKb (nsK hns)).run callerA [] s₁ H ⟨[.ref a],[]⟩ [.ref a] [.ref a] _ _ hr e0 (hbind s₁ (.ref a)) (.cons rfl .nil) (hsp H hO hS)) fun r s' h=>?_
  cases r with
  | error e=>exact(hCX H e s' h).elim
  | ok fl =>
   cases fl with
   | next=>exact False.elim h
   | brk=>exact False.elim h
   | cont=>exact False.elim h
   | ret u =>
    obtain⟨v,H',os,bare,un,hok',r',q⟩:=h;have q':v=.bl true:=q;subst q';obtain rfl:u=Value.bool true:=r';refine⟨rfl,OldK.of_keep fun b o e=>?_,os,bare⟩
    cases q:H b with
    | none=>exact un.keep b o e q (by intro z;exact absurd (show b∈([]:List Addr) from z) (by simp)) (by simp)
    | some u =>
     rcases hO b with z | ⟨ob,xs,z⟩
     ·rw[q] at z;cases z
     ·have z2:=un.frzs b ob _ z
      obtain⟨e1,_⟩:=hok b _ z;obtain⟨e2,_⟩:=hok' b _ z2;rw[e] at e1;cases e1;exact e2
 cases hk:K.lookup a with
 | some o =>
  have e:=KX a o hk;rw[ha] at e;cases e;refine core (fun _=>none) (fun _=>.inl rfl) (.inr ⟨_,vs.toArray,_,hk,rfl,rfl,rfl,by rw[T1z,lenV];exact hl,by simpa using rv⟩) (fun b u z=>by have z':(none:Option HO)=some u:=z;cases z') (fun b z=>absurd rfl z) fun z=>absurd rfl z
 | none =>
  refine core (fun b=>if b=a then some (.frz { cls:=.type "list",data:=.seq vs.toArray } (.lst (ns.map V.int))) else none) (fun b=>?_) (.inl (.inr ⟨{ cls:=.type "list",data:=.seq vs.toArray },E4z rfl⟩)) (fun b u z=>?_) (fun b z=>?_) fun _=>hk
  ·by_cases hb:b=a
   ·exact .inr ⟨_,_,E4z hb⟩
   ·exact .inl (F4z hb)
  ·by_cases hb:b=a
   ·have z':=(E4z hb).symm.trans z
    cases z';subst hb;exact⟨ha,by rw[P2z];exact hl,vs,_,rv,ha⟩
   ·have z':=(F4z hb).symm.trans z
    cases z'
  ·by_cases hb:b=a
   ·exact hb
   ·exact absurd (F4z hb) z
theorem vC{l:PySem.W.OpenLaw}{n k:Nat}{q:Program}{loose:List Str}{XP:(Str->Option Value)->Heap->Prop}{YP:World->Heap->Prop}{d:DefRec}{K:Params->Zf}{CX:World->CXT}{sp:World->Sp}{x:Str}
    (hn:l.most=some n) (hn2:n<=sizeLine) (hdf:d.params.defaults=[]) (hr:Room k callerA)
    (hY:∀ (w:World) (h:Heap),YP w h->(K w.params).In h)
    (F:∀ (w:World) (mg:Str->Option Value) (fa:Addr) (h:Heap),(K w.params).In h->h.Ns mainGlobals mg->mg d.name=some (.ref fa) ->
      ∃ fd : FuncData, (∀ (s : Shared) (u : Value), BindsTo s fd ⟨[u], []⟩ [(x, u)]) /\
        ∀ base:Heap,(K w.params).In base->base.Ns mainGlobals mg->FnOk l.prog w (K w.params) mg base (CX w) k fa fd [x] (sp w))
    (hsp:∀ (w:World) (H:Hp) (a:Addr) (ns:List Int),ns.length<=n->Only H->SqL (K w.params) H a (ns.map V.int)->sp w [.ref a] H (fun v _=>v=.bl true) fun _ _ _=>False)
    (hCX:∀ (w:World) (H:Hp) (s:Shared) (e:Value) (s':Shared),CX w [] H s (fun _ _ _=>False) e s'->False) :
    PySem.W.WalkO q loose XP YP l.row.toRowW d [] (fun f vs=>PySem.call f vs):=by
  refine Att.iu hn hdf fun w s₀ s₁ mg mb fa o pm cd doc a vs ns G Y ho hd hcd hmg hobj hints hlen hg=>?_
  have KX:=hY w _ Y
  obtain⟨fd,hb,hF⟩:=F w mg fa _ KX G.T.g hmg
  exact tQ KX G.T.g G.T.b G.T.builtins G.T.nolimit hg hobj hints (J3z hlen hn2) hr hF hb (fun H hO hS=>hsp w H a ns hlen hO hS) fun H e s'=>hCX w H s₁ e s'
def bL(s:Stmt):Arguments:=match s with
 | .FunctionDef _ a _ _ _ _ _ _ _ _=>a
 | _=>{ posonlyargs:=[],args:=[],vararg:=none,kwonlyargs:=[],kw_defaults:=[],kwarg:=none,defaults:=[] }
def aQ(s:Stmt):List Stmt:=match s with
 | .FunctionDef _ _ b _ _ _ _ _ _ _=>b
 | _=>[]
def aB(s:Stmt):Scope:=match s with
 | .FunctionDef _ _ _ _ _ _ sc _ _ _=>sc
 | _=>{ kind:=.function,names:=[],isGenerator:=false,isCoroutine:=false }
abbrev CX0:CXT:=fun _ _ _ _ _ _=>False
abbrev E0:XK:=fun _ _ _=>False
structure Fun (K:Zf) (x qual:Str) (st:Stmt) (f:Addr) (fd:FuncData):Prop where
 ex:∃ (oc:Value) (od:Option Addr) (kV doc pm:Value) (an:Option Addr) (cdv ct:Value) (osl:Array (Option Value)),
  fd=PySem.W.fnOf x qual (bL st) (aQ st) (aB st) .none kV doc pm an cdv ct/\K.lookup f=some ⟨oc,od,.func fd,osl⟩/\PySem.W.codeIn K cdv qual=true
 kp:PySem.W.keepIn K (.ref f)=true
section
variable {P:Program} {w:World} {K:Zf} {mg:Str->Option Value} {base:Heap}
theorem Fun.binds{x qual:Str}{st:Stmt}{f:Addr}{fd:FuncData}{ps:List Str}(F:Fun K x qual st f fd)
  (h:∀ (kV doc pm:Value) (an:Option Addr) (cdv ct:Value) (us:List Value),us.length=ps.length->bindArgs (PySem.W.fnOf x qual (bL st) (aQ st) (aB st) .none kV doc pm an cdv ct) ⟨us,[]⟩=pure (ps.zip us)):Binds K fd ps []:=by
 obtain⟨oc,od,kV,doc,pm,an,cdv,ct,osl,rfl,lk,hcd⟩:=F.ex;exact .all (h kV doc pm an cdv ct)
theorem qN{x qual:Str}{st:Stmt}{f:Addr}{oc:Value}{od an:Option Addr}{osl:Array (Option Value)}{kV doc pm cdv ct:Value}(l:K.lookup f=some ⟨oc,od,.func (PySem.W.fnOf x qual (bL st) (aQ st) (aB st) .none kV doc pm an cdv ct),osl⟩)
  (c:PySem.W.codeIn K cdv qual=true) (k:PySem.W.keepIn K (.ref f)=true):Fun K x qual st f (PySem.W.fnOf x qual (bL st) (aQ st) (aB st) .none kV doc pm an cdv ct):=⟨⟨oc,od,kV,doc,pm,an,cdv,ct,osl,rfl,l,c⟩,k⟩
end
section
variable {X:Cx}
end
theorem oh{A B:Prop}(h:B):if false=true then A else B:=by
 rw[F4z L1z];exact h
theorem mV{A B:Prop}(h:A):if true=true then A else B:=by
 rw[E4z rfl];exact h
def Same(H H':Hp):Prop:=∀ b o,H b=some o->H' b=some o
theorem Same.refl(H:Hp):Same H H:=fun _ _ h=>h
theorem Same.trans{H H1 H2:Hp}(a:Same H H1)(b:Same H1 H2):Same H H2:=fun c o h=>b c o (a c o h)
theorem Same.free{H H':Hp}(e:Same H H'){l:Addr}(h:H' l=Option.none):H l=Option.none:=by
 cases q:H l with
 | none=>rfl
 | some o =>
  rw[e l o q] at h;cases h
theorem Same.seq{K:Zf}{H H':Hp}{a:Addr}{xs:List V}(e:Same H H')(h:SqL K H a xs):SqL K H' a xs:=by
 rcases h with(h | ⟨o,h⟩) | h
 ·exact .inl (.inl (e _ _ h))
 ·exact .inl (.inr ⟨o,e _ _ h⟩)
 ·exact .inr h
def d8(cells:List (Str×Addr)):List (Str×NameKind)->List (Str×Addr)->List (Str×Addr)
 | [],acc=>acc
 | (x,k)::r,acc=>if k==.free then d8 cells r ((x,(cells.lookup x).getD 0)::acc) else d8 cells r acc
theorem jk{env:Env}(f:Str×NameKind->List (Str×Addr)->Sem (ForInStep (List (Str×Addr))))
  (hf:∀ name kind cs,f (name,kind) cs=if kind==.free then(do let a <- cellOf env name;pure (.yield ((name,a)::cs))) else pure (.yield cs)) :
  ∀ (l:List (Str×NameKind)) (acc:List (Str×Addr)),(∀ x,(x,NameKind.free)∈l->∃ c,env.cells.lookup x=some c)->(forIn l acc f:Sem (List (Str×Addr)))=pure (d8 env.cells l acc)
 | [],acc,_=>by rw[List.forIn_nil];rfl
 | (x,k)::r,acc,h=>by
  rw[List.forIn_cons,hf];unfold d8
  cases hk:k==NameKind.free with
  | false =>
   simp only[M1z,B4z];show(forIn r acc f:Sem _)=_;exact jk f hf r acc fun y hy=>h y (S0z _ hy)
  | true =>
   simp only[D4z]
   have ek:k=.free:=by simpa using hk
   obtain⟨c,hc⟩:=h x (by rw[ek];exact F1z)
   have e1:cellOf env x=pure c:=by unfold cellOf;rw[hc]
   rw[e1,hc];show(forIn r ((x,c)::acc) f:Sem _)=_;exact jk f hf r _ fun y hy=>h y (S0z _ hy)
theorem cC{env:Env}{scope:Scope}(h:∀ x,(x,NameKind.free)∈scope.names->∃ c,env.cells.lookup x=some c):closureFor scope env=pure (d8 env.cells scope.names []):=by
 simp only[closureFor];rw[jk (env:=env) _ (fun name kind cs=>by cases hk:kind==NameKind.free<;>simp[hk]) scope.names [] h];rfl
theorem lG{M:Model}{A:Around}{E:Value->Shared->Prop}{s:Shared}{scope:Scope}{globals:Addr}{closure:List (Str×Addr)}{qual:Str}{outer:Env}{Q:Env->Shared->Prop}
  (hQ:Q (newEnv scope s.heap.objs.size globals (cellsFrom (s.heap.objs.size+1) scope.names closure) qual none .none (some outer) builtinsNs) { s with heap:=pushCells (s.heap.push { cls:=.type "dict",data:=.dict #[] }) scope.names }) :
  wpAny M A (newFunctionEnv scope globals closure [] qual none .none (some outer)) Q E s:=by
 simp only[newFunctionEnv,Option.isSome_some,D4z];refine T3z (wpAny_alloc ?_);refine T3z (wpAny_layCells _ (fun name kind cells=>by cases hkc:kind==NameKind.cell<;>simp[hkc]) _ _ _ _ ?_);rw[show({ s with heap:=s.heap.push { cls:=.type "dict",data:=.dict #[] } }:Shared).heap.objs.size=s.heap.objs.size+1 from Y2z ..];rw[List.forIn_nil];exact T3z (U3z (U3z hQ))
theorem eV{α:Type}:∀ {l:List (Str×α)} {x:Str} {c:α},(x,c)∈l->∃ d,l.lookup x=some d
 | (y,d)::r,x,c,h=>by
  rw[D2z]
  cases hb:x==y with
  | true=>exact⟨d,rfl⟩
  | false =>
   rcases List.mem_cons.mp h with e | h
   ·cases e;simp at hb
   ·exact eV h
theorem aV{α:Type}:∀ {l:List (Str×α)} {x:Str} {c:α},(l.map (·.1)).Nodup->(x,c)∈l->l.lookup x=some c
 | (y,d)::r,x,c,hn,h=>by
  rw[E3z,S2z] at hn;rw[D2z];rcases List.mem_cons.mp h with e | h'
  ·cases e;simp
  ·have hne:(x==y)=false:=by
    rw[B1z];intro exy;exact hn.1 (List.mem_map.mpr ⟨(x,c),h',exy⟩)
   rw[hne];exact aV hn.2 h'
theorem bU{x:Str}{c:Addr}:∀ (names:List (Str×NameKind)) (n:Nat) (acc:List (Str×Addr)),(cellsFrom n names acc).lookup x=some c ->
  ((x,NameKind.cell)∈names/\n<=c)\/((x,NameKind.cell)∉names/\acc.lookup x=some c)
 | [],_,_,h=>.inr ⟨by simp,h⟩
 | (y,k)::r,n,acc,h=>by
  unfold cellsFrom at h
  cases hk:k==NameKind.cell with
  | true =>
   have ek:k=.cell:=by simpa using hk
   subst ek;rw[E4z (show(NameKind.cell==NameKind.cell)=true from rfl)] at h;rcases bU r _ _ h with⟨h1,h2⟩ | ⟨h1,h2⟩
   ·exact .inl ⟨S0z _ h1,by omega⟩
   ·rw[D2z] at h2
    cases hb:x==y with
    | true =>
     rw[hb] at h2;cases h2
     have:x=y:=by simpa using hb
     subst this;exact .inl ⟨F1z,P3z _⟩
    | false =>
     rw[hb] at h2;refine .inr ⟨fun hm=>?_,h2⟩;rcases List.mem_cons.mp hm with e | hm
     ·cases e;simp at hb
     ·exact h1 hm
  | false =>
   rw[hk] at h;simp only[M1z,B4z] at h;rcases bU r _ _ h with⟨h1,h2⟩ | ⟨h1,h2⟩
   ·exact .inl ⟨S0z _ h1,h2⟩
   ·refine .inr ⟨fun hm=>?_,h2⟩
    rcases List.mem_cons.mp hm with e | hm
    ·cases e;simp at hk
    ·exact h1 hm
theorem cF:∀ (names:List (Str×NameKind)) (n:Nat) (acc:List (Str×Addr)),(acc.Pairwise fun x y=>x.2≠y.2)->(∀ p∈acc,p.2<n)->(cellsFrom n names acc).Pairwise fun x y=>x.2≠y.2
 | [],_,_,h,_=>h
 | (y,k)::r,n,acc,h,hl=>by
  unfold cellsFrom;split
  ·refine cF r _ _ (List.pairwise_cons.mpr ⟨fun p hp e=>?_,h⟩) fun p hp=>?_
   ·have e':n=p.2:=e
    have q:=hl p hp;rw[<- e'] at q;exact B3z _ q
   ·rcases List.mem_cons.mp hp with e | hp
    ·subst e;exact Nat.lt_succ_self _
    ·exact V1z (hl p hp)
  ·exact cF r _ _ h hl
theorem jx{cells:List (Str×Addr)}(inj:∀ x y c,cells.lookup x=some c->cells.lookup y=some c->x=y):∀ (names:List (Str×NameKind)) (acc:List (Str×Addr)),(names.map (·.1)).Nodup->(∀ x,(x,NameKind.free)∈names->∃ c,cells.lookup x=some c) ->
  (acc.Pairwise fun x y=>x.2≠y.2)->(∀ p∈acc,cells.lookup p.1=some p.2/\p.1∉names.map (·.1))->((d8 cells names acc).Pairwise fun x y=>x.2≠y.2)/\∀ p∈d8 cells names acc,cells.lookup p.1=some p.2
 | [],acc,_,_,h1,h2=>⟨h1,fun p hp=>(h2 p hp).1⟩
 | (y,k)::r,acc,hn,hf,h1,h2=>by
  rw[E3z,S2z] at hn;have hf':∀ x,(x,NameKind.free)∈r->∃ c,cells.lookup x=some c:=fun x hx=>hf x (S0z _ hx);unfold d8;split
  ·rename_i hk
   have ek:k=.free:=by simpa using hk
   subst ek;obtain⟨c,hc⟩:=hf y F1z;rw[hc];refine jx inj r _ hn.2 hf' (List.pairwise_cons.mpr ⟨fun p hp e=>?_,h1⟩) fun p hp=>?_
   ·have e':c=p.2:=e
    obtain⟨a1,a2⟩:=h2 p hp;rw[<- e'] at a1;have:=inj _ _ _ a1 hc;exact a2 (by rw[this];simp)
   ·rcases List.mem_cons.mp hp with e | hp
    ·subst e;exact⟨hc,hn.1⟩
    ·exact⟨(h2 p hp).1,fun z=>(h2 p hp).2 (S0z _ z)⟩
  ·exact jx inj r _ hn.2 hf' h1 fun p hp=>⟨(h2 p hp).1,fun z=>(h2 p hp).2 (S0z _ z)⟩
theorem jy{cells:List (Str×Addr)}{p:Str×Addr}:∀ (names:List (Str×NameKind)) (acc:List (Str×Addr)),p∈acc->p∈d8 cells names acc
 | [],_,h=>h
 | (y,k)::r,acc,h=>by
  unfold d8;split
  ·exact jy r _ (S0z _ h)
  ·exact jy r _ h
theorem fY{cells:List (Str×Addr)}{x:Str}:∀ (names:List (Str×NameKind)) (acc:List (Str×Addr)),(x,NameKind.free)∈names->∃ c,(x,c)∈d8 cells names acc
 | (y,k)::r,acc,h=>by
  unfold d8;rcases List.mem_cons.mp h with e | h
  ·cases e
   rw[E4z (show(NameKind.free==NameKind.free)=true from rfl)];exact⟨_,jy r _ F1z⟩
  ·split
   ·exact fY r _ h
   ·exact fY r _ h
theorem cN{env:Env}{x:Str}:∀ (names:List (Str×NameKind)),
  (names.map fun (n, k) => if (k == NameKind.free && env.scope.kind == .function && env.kindOf n == some .cell) then (n, NameKind.cell) else (n, k)).lookup x =
   (names.lookup x).map fun k=>if(k==NameKind.free&&env.scope.kind==.function&&env.kindOf x==some .cell) then NameKind.cell else k
 | []=>rfl
 | (y,k)::r=>by
  have ih:=cN (x:=x) (env:=env) r
  by_cases hx:x=y
  ·subst hx
   cases hc:(k==NameKind.free&&env.scope.kind==.function&&env.kindOf x==some .cell)<;>simp only[E3z,hc,D2z,beq_self_eq_true,T2z,D4z,B4z,M1z]
  ·have hb:(x==y)=false:=by simpa using hx
   cases hc:(k==NameKind.free&&env.scope.kind==.function&&env.kindOf y==some .cell)<;>simp only[E3z,hc,D2z,hb,D4z,B4z,M1z]<;>exact ih
def mD(N:List Str)(σ:St)(x:Str):Option V:=match N.idxOf? x with
 | some j=>(σ[j]?).getD none
 | none=>none
def lH(N:List Str)(names:List (Str×NameKind))(σ:St):St:=names.map fun p=>if p.2==.free then mD N σ p.1 else none
def ni(scope:Scope)(cells:List (Str×Addr))(C:Addr)(env:Env):Env :=
 { scope:=relabel scope env,locals:=C,globals:=env.globals,cells:=cells,qual:=env.qual,func:=none,code:=env.code,frame:=env.frame,builtins:=env.builtins }
structure CompOf (X:Cx) (scope:Scope) (Xc:Cx):Prop where
 prog:Xc.prog=X.prog
 w:Xc.w=X.w
 K:Xc.K=X.K
 mg:Xc.mg=X.mg
 base:Xc.base=X.base
 A:Xc.A=X.A
 N:Xc.N=scope.names.map (·.1)
 sc:Xc.env.scope=relabel scope X.env
 calm:Xc.calm=true
 fn:Xc.fn=fun x=>scope.names.lookup x==some .cell
 xe:Xc.xe=fun _ _=>False
def jZ(X:Cx)(scope:Scope)(cells:List (Str×Addr))(C:Addr)(s:Shared)(H:Hp)(fp:List Addr):Cx where
 prog:=X.prog
 w:=X.w
 K:=X.K
 mg:=X.mg
 base:=X.base
 A:=X.A
 N:=scope.names.map (·.1)
 s₀:=s
 H₀:=H
 env:=ni scope cells C X.env
 outer:=X.stack
 stack:=X.stack
 ex:=fp
 fn:=fun x=>scope.names.lookup x==some .cell
 calm:=true
 pn:=[]
 xe:=fun _ _=>False
def rT(X:Cx)(ifs:List Expr)(t:TT):Prop :=
  ∀ (z0 : List (Addr × Obj)) (s : Shared) (σ : St) (H : Hp) (Q : Bool -> Hp -> Prop), Inv X z0 σ H s -> t σ H Q ->
    wpAny (model X.prog X.w) X.A (forIn ifs true fun c r=>if r=true then do let ok <- isTrue c X.env (eval c X.env);pure (ForInStep.yield ok) else pure (ForInStep.yield r)) (TP X z0 σ Q) X.xe s
theorem sW{X:Cx}:rT X [] (fun _ H Q=>Q true H):=fun _ _ _ H _ I h=>wpAny_tests_nil ⟨H,I,h⟩
theorem sV{X:Cx}{c:Expr}{t:TT}(h:PT X c t):rT X [c] t:=fun z0 s σ H Q I hw=>wpAny_tests_one (h z0 s σ H Q I hw)
def lg(X:Cx)(scope:Scope)(wi:TI)(mk:St->St)(g:Cx->TG)(tc:Cx->TT)(te:Cx->TE):TE:=fun σ H Q=>wi σ H fun J H1=>∀ acc,H1 acc=none->∀ Xc,CompOf X scope Xc ->
  ∃ W : Nat -> Nat -> St -> Hp -> Prop, (∃ m, W 0 m (mk σ) (upd H1 acc (.lst []))) /\ ∀ i m σc H, W i m σc H ->
    (J.stop i H/\Q (.ref acc) H)\/(J.go i H/\∃ N:St->Hp->Prop,(∀ σ' H',N σ' H'->∃ m',m'<m/\W (i+1) m' σ' H')/\∀ x H',J.yld i H x H' ->
      g Xc x σc H' fun σ2 H2=>tc Xc σ2 H2 fun b H3=>if b=true then te Xc σ2 H3 fun v H4=>∃ ys,H4 acc=some (.lst ys)/\ys.length<sizeLine/\N σ2 (upd H4 acc (.lst (ys++[v]))) else N σ2 H3)
theorem dO{prog:Program}{w:World}{A:Around}{R:Result->Shared->Prop}{s:Shared}{elt target iter:Expr}{ifs:List Expr}{scope:Scope}{pos:Pos}{it acc:Value}{env:Env}(I:Nat->Shared->Prop)
  (turn:∀ n s,I n s->wpAny (model prog w) A (pyNext it) (fun r s₁=>match r with
   | none=>R (.ok .next) s₁
   | some v=>wpAny (model prog w) A (letOwnedTupleGo target it v) (fun _ s₁'=>wpAny (model prog w) A (assign target env v) (fun _ s₂ =>
     wpAny (model prog w) A (forIn ifs true fun c r=>if r=true then do let ok <- isTrue c env (eval c env);pure (ForInStep.yield ok) else pure (ForInStep.yield r)) (fun ok s₃ =>
      if ok=true then wpAny (model prog w) A (eval elt env) (fun x s₄ =>
       wpAny (model prog w) A (call (.builtin "list.append") [acc,x]) (fun _ s₅=>∃ m,m<n/\I m s₅) (fun _ _=>False) s₄) (fun _ _=>False) s₃
      else ∃ m,m<n/\I m s₃) (fun _ _=>False) s₂) (fun _ _=>False) s₁') (fun _ _=>False) s₁) (fun _ _=>False) s)
  (n:Nat) (h:I n s) :
  codeAny (model prog w) A (.compLoop (.ListComp elt [⟨target,iter,ifs,0⟩] scope pos) 0 it acc env) R s:=by
 refine codeAny_loop rfl I (fun n s hI=>?_) n h;show wpAny _ A ((compTurn (.ListComp elt [⟨target,iter,ifs,0⟩] scope pos) 0 it acc env).onRaise (fun x=>do noteFrame x env;theTreesLotGoes x)) _ _ s;refine wpAny_noted ?_;rw[compTurn_list];refine T3z (D3z (T3z (S3z (turn n s hI) (fun r s₁ h₁=>?_) fun _ _ h'=>h'.elim)))
 cases r with
 | none=>exact U3z h₁
 | some v =>
  refine T3z (S3z h₁ (fun _ s₁' h₁'=>?_) fun _ _ h'=>h'.elim);refine T3z (S3z h₁' (fun _ s₂ h₂=>T3z (S3z h₂ (fun ok s₃ h₃=>?_) fun _ _ h'=>h'.elim)) fun _ _ h'=>h'.elim)
  cases ok with
  | false=>exact U3z ⟨rfl,h₃⟩
  | true =>
   exact T3z (T3z (S3z h₃ (fun x s₄ h₄=>T3z (S3z h₄ (fun _ s₅ h₅=>U3z (U3z ⟨rfl,h₅⟩)) fun _ _ h'=>h'.elim)) fun _ _ h'=>h'.elim))
section
variable {X:Cx}
theorem fK{z0:List (Addr×Obj)}{σ:St}{H:Hp}{s:Shared}{scope:Scope}(I:Inv X z0 σ H s)(hnd:(scope.names.map (·.1)).Nodup)
  (hcap:∀ x,(x,NameKind.free)∈scope.names->X.env.kindOf x=some .cell\/X.env.kindOf x=some .free) :
  (∀ x,(x,NameKind.free)∈scope.names->∃ c,X.env.cells.lookup x=some c) /\
  ((cellsFrom (s.heap.objs.size+1) scope.names (d8 X.env.cells scope.names [])).Pairwise fun x y=>x.2≠y.2) /\
  (∀ x c,(cellsFrom (s.heap.objs.size+1) scope.names (d8 X.env.cells scope.names [])).lookup x=some c->((x,NameKind.cell)∈scope.names/\s.heap.objs.size+1<=c)\/((x,NameKind.cell)∉scope.names/\X.env.cells.lookup x=some c/\c<s.heap.objs.size)) /\
  (∀ x,(x,NameKind.free)∈scope.names->(cellsFrom (s.heap.objs.size+1) scope.names (d8 X.env.cells scope.names [])).lookup x=X.env.cells.lookup x):=by
 have hf:∀ x,(x,NameKind.free)∈scope.names->∃ c,X.env.cells.lookup x=some c:=fun x hx=>I.ok.has x (hcap x hx);have ok:=jx I.ok.inj scope.names [] hnd hf List.Pairwise.nil (fun p hp=>absurd hp (by simp))
 have small:∀ x c,X.env.cells.lookup x=some c->c<s.heap.objs.size:=fun x c e=>by
  obtain⟨v,z⟩:=I.cell x c e;exact z.lt
 refine⟨hf,cF _ _ _ ok.1 fun p hp=>V1z (small p.1 p.2 (ok.2 p hp)),fun x c e=>?_,fun x hx=>?_⟩
 ·rcases bU _ _ _ e with h | ⟨h1,h2⟩
  ·exact .inl h
  ·have h3:=ok.2 _ (Z0z h2)
   exact .inr ⟨h1,h3,small _ _ h3⟩
 ·obtain⟨c,hc⟩:=hf x hx
  have nc:(x,NameKind.cell)∉scope.names:=fun z=>by
   have e1:=aV hnd z;rw[aV hnd hx] at e1;cases e1
  obtain⟨d,hd⟩:=fY (cells:=X.env.cells) scope.names [] hx;obtain⟨d',hd'⟩:=eV hd;have hs:((cellsFrom (s.heap.objs.size+1) scope.names (d8 X.env.cells scope.names [])).lookup x).isSome=true:=M0z _ _ _ (.inr (by rw[hd'];rfl));obtain⟨c',hc'⟩:=Option.isSome_iff_exists.mp hs;rcases bU _ _ _ hc' with⟨h,_⟩ | ⟨_,h2⟩
  ·exact absurd h nc
  ·rw[hc',ok.2 _ (Z0z h2)]
theorem wF:∀ (names:List (Str×NameKind)) (h:Heap) (acc:List (Str×Addr)) {x:Str} {c:Addr},(cellsFrom h.objs.size names acc).lookup x=some c->(x,NameKind.cell)∈names->(pushCells h names).IsCell c none:=by
 intro names
 induction names with
 | nil=>intro h acc x c e hx;cases hx
 | cons p r ih =>
  obtain⟨y,k⟩:=p;intro h acc x c e hx;unfold cellsFrom at e;unfold pushCells
  by_cases hin:(x,NameKind.cell)∈r
  ·split at e
   ·rename_i hk
    rw[E4z hk];refine ih (h.push { cls:=.type "cell",data:=.cell none }) ((y,h.objs.size)::acc) ?_ hin;rw[Y2z];exact e
   ·rename_i hk
    rw[F4z hk];exact ih h acc e hin
  ·rcases List.mem_cons.mp hx with ex | hx
   ·cases ex
    rw[E4z (show(NameKind.cell==NameKind.cell)=true from rfl)] at e ⊢;rcases bU _ _ _ e with⟨h1,_⟩ | ⟨_,h2⟩
    ·exact absurd h1 hin
    ·rw[D2z] at h2
     simp at h2;subst h2;exact⟨_,U2z _ _ _ _ (Heap.get?_push_size _ rfl),rfl⟩
   ·exact absurd hx hin
theorem uw{z0:List (Addr×Obj)}{σ:St}{H:Hp}{s:Shared}{scope:Scope}{fp:List Addr}(I:Inv X z0 σ H s)(hc:X.calm=true)(hk:scope.kind=.function)(hnd:(scope.names.map (·.1)).Nodup)
  (hcap:∀ x,(x,NameKind.free)∈scope.names->X.env.kindOf x=some .cell\/X.env.kindOf x=some .free) (hfp:∀ b∈fp,nD X z0 H b) (hlt:∀ b∈fp,b<s.heap.objs.size) :
  Inv (jZ X scope (cellsFrom (s.heap.objs.size+1) scope.names (d8 X.env.cells scope.names [])) s.heap.objs.size s H fp) [] (lH X.N scope.names σ) H { s with heap:=pushCells (s.heap.push { cls:=.type "dict",data:=.dict #[] }) scope.names }:=by
 obtain⟨hf,apart,look,same⟩:=fK I hnd hcap;have keep:∀ b o,s.heap.get? b=some o->(pushCells (s.heap.push { cls:=.type "dict",data:=.dict #[] }) scope.names).get? b=some o:=fun b o e=>U2z _ _ b o (Heap.get?_push_of_some _ e);have ckd:=cellsFrom_ok scope.names (s.heap.push { cls:=.type "dict",data:=.dict #[] }) (s.heap.objs.size+1) [] ⟨fun _ _ hm=>(nomatch hm),List.Pairwise.nil⟩ (by rw[Y2z];exact P3z _);rw[Y2z] at ckd;have own:∀ x c,(cellsFrom (s.heap.objs.size+1) scope.names (d8 X.env.cells scope.names [])).lookup x=some c->(x,NameKind.cell)∈scope.names->(pushCells (s.heap.push { cls:=.type "dict",data:=.dict #[] }) scope.names).IsCell c none:=fun x c e hx=>wF scope.names (s.heap.push { cls:=.type "dict",data:=.dict #[] }) _ (by rw[Y2z];exact e) hx;have kinds:∀ x,(jZ X scope (cellsFrom (s.heap.objs.size+1) scope.names (d8 X.env.cells scope.names [])) s.heap.objs.size s H fp).env.kindOf x=(scope.names.lookup x).map fun k=>if(k==NameKind.free&&X.env.scope.kind==.function&&X.env.kindOf x==some .cell) then NameKind.cell else k:=fun x=>cN scope.names;have fresh:∀ {b:Addr},s.heap.objs.size<=b->H b=none:=fun hb=>I.hok.fresh hb
 refine⟨⟨I.ok.mod,hk,I.ok.glob,I.ok.blt,P3z _,fun x y c e1 e2=>name_of_addr apart (Z0z e1) (Z0z e2),fun x hx=>?_,fun x c hx e=>?_,fun _=>I.ok.hd hc,I.ok.frames,.inl rfl,fun b hb=>⟨I3z (hlt b hb),fun x c e=>?_⟩,I.bs,J3z I.ok.bsz I.sz,fun b o e hb=>?_,fun b hb z=>?_,I.stack,I.stkFree⟩,
  rfl,I.bare,Un.kept keep,⟨fun _=>none,?_,fun i x v e1 e2 e3=>?_⟩,fun x c e=>?_,fresh (P3z _),fun x c e=>?_,fun p hp=>absurd (show p∈([]:List (Addr×Obj)) from hp) (by simp),I.hok.kept keep,?_⟩
 ·
  rw[kinds x] at hx
  cases hl:scope.names.lookup x with
  | none=>rw[hl] at hx;rcases hx with h | h<;>cases h
  | some k =>
   rw[hl] at hx;have hm:=Z0z hl
   cases k with
   | cell=>exact Option.isSome_iff_exists.mp (M0z _ _ _ (.inl hl))
   | free =>
    obtain⟨c,h⟩:=hf x hm;exact⟨c,(same x hm).trans h⟩
   | _=>simp at hx
 ·have hm:(x,NameKind.cell)∈scope.names:=Z0z (by simpa[jZ] using hx)
  rcases look x c e with⟨_,h⟩ | ⟨h,_⟩
  ·exact W1z h
  ·exact absurd hm h
 ·rcases look x c e with⟨_,h⟩ | ⟨_,h,_⟩
  ·exact L3z (D1z (hlt b hb) (W1z h))
  ·exact(hfp b hb).2.2.2.2.1 x c h
 ·rcases(hfp b hb).2.2.2.1 with z | z
  ·exact I.ok.noex b o e z
  ·exact absurd (D1z (H3z e) (J3z I.ok.bsz z)) (B3z _)
 ·rcases List.mem_cons.mp (I.stkSub b z) with h | h
  ·exact(hfp b hb).2.1 h
  ·exact(hfp b hb).2.2.1 h
 ·exact(Heap.Ns.new s.heap (.type "dict")).keeps (U2z _ _)
 ·
  have e1':(scope.names.map (·.1))[i]?=some x:=e1;rw[List.getElem?_map] at e1';unfold lH at e2;rw[List.getElem?_map] at e2
  cases hp:scope.names[i]? with
  | none=>rw[hp] at e2;cases e2
  | some p =>
   rw[hp] at e1' e2;have ex:p.1=x:=L2z e1';have e2':(if p.2==.free then mD X.N σ p.1 else none)=some v:=L2z e2
   cases hk2:p.2==NameKind.free with
   | false=>rw[hk2] at e2';simp at e2'
   | true =>
    rw[hk2] at e2';simp only[D4z] at e2'
    have ek:p.2=.free:=by simpa using hk2
    have hm:(x,NameKind.free)∈scope.names:=by
     have:=List.mem_of_getElem? hp;rw[<- ex,<- ek];exact this
    unfold mD at e2';rw[ex] at e2'
    cases hj:X.N.idxOf? x with
    | none=>rw[hj] at e2';cases e2'
    | some j =>
     rw[hj] at e2';have e3:(σ[j]?).getD none=some v:=e2'
     have hσ:σ[j]?=some (some v):=by
      cases q:σ[j]? with
      | none=>rw[q] at e3;simp at e3
      | some o=>rw[q] at e3;simp at e3;rw[e3]
     have hN:X.N[j]?=some x:=by
      rw[List.idxOf?,List.findIdx?_eq_some_iff_getElem] at hj;obtain⟨h1,h2,_⟩:=hj;rw[List.getElem?_eq_getElem h1];simpa using h2
     obtain⟨m,hn,hl⟩:=I.loc;have kx:=hcap x hm;obtain⟨u,r,l⟩:=hl j x v hN hσ (by rcases kx with k | k;exact .inr (.inl k);exact .inr (.inr k));refine⟨u,r,.inr ⟨?_,?_⟩⟩
     ·rw[kinds x,aV hnd hm]
      simp only[T2z];split
      ·exact .inl rfl
      ·exact .inr rfl
     ·rcases l with⟨k,_⟩ | ⟨_,c,hc',z⟩
      ·rcases kx with k' | k'<;>(rw[k'] at k;cases k)
      ·exact⟨c,(same x hm).trans hc',z.keeps keep⟩
 ·rcases look x c e with⟨h,_⟩ | ⟨_,h,_⟩
  ·exact⟨_,own x c e h⟩
  ·obtain⟨v,z⟩:=I.cell x c h
   exact⟨v,z.keeps keep⟩
 ·rcases look x c e with⟨_,h⟩ | ⟨_,h,_⟩
  ·exact fresh (W1z h)
  ·exact I.freeC x c h
 ·show(lH X.N scope.names σ).length=(scope.names.map (·.1)).length
  unfold lH;rw[P2z,P2z]
structure Blk (X:Cx) (z0:List (Addr×Obj)) (H:Hp) (s:Shared) (C:Addr):Prop where
 ns:∃ m,s.heap.Ns C m
 free:H C=none
 loc:C≠X.env.locals
 abv:X.s₀.heap.objs.size<=C
 cel:∀ x c,X.env.cells.lookup x=some c->c≠C
 pin:∀ p∈X.pn++z0,p.1≠C
theorem j4{elt tg iter:Expr}{ifs:List Expr}{scope:Scope}{pos:Pos}{wi:TI}{g:Cx->TG}{tc:Cx->TT}{te:Cx->TE}(hc:X.calm=true)(hk:scope.kind=.function)(hnd:(scope.names.map (·.1)).Nodup)
  (hcap:∀ x,(x,NameKind.free)∈scope.names->X.env.kindOf x=some .cell\/X.env.kindOf x=some .free) (hi:PI X tg iter wi)
  (hin:∀ Xc:Cx,CompOf X scope Xc->PG Xc tg (g Xc)/\rT Xc ifs (tc Xc)/\PE Xc elt (te Xc)) {z0:List (Addr×Obj)} {s:Shared} {σ:St} {H:Hp} {Q:VK} (I:Inv X z0 σ H s) (h:lg X scope wi (lH X.N scope.names) g tc te σ H Q) {R:Value->Addr->Result->Shared->Prop}
  (fin:∀ acc C H' s',Inv X z0 σ H' s'->Blk X z0 H' s' C->Q (.ref acc) H'->R (.ref acc) C (.ok .next) s') :
  wpAny (model X.prog X.w) X.A (eval iter X.env) (fun x s₁=>wpAny (model X.prog X.w) X.A (pyIter x) (fun it s₂=>wpAny (model X.prog X.w) X.A (newList []) (fun acc s₃ =>
   wpAny (model X.prog X.w) X.A (newFunctionEnv scope X.env.globals (d8 X.env.cells scope.names []) [] X.env.qual none .none (some X.env)) (fun cenv s₄ =>
    codeAny (model X.prog X.w) X.A (.compStart (.ListComp elt [⟨tg,iter,ifs,0⟩] scope pos) 0 it acc { cenv with scope:=relabel scope X.env }) (R acc cenv.locals) s₄) X.xe s₃) X.xe s₂) X.xe s₁) X.xe s:=by
 refine thn (hi z0 s σ H _ I h) fun v s1 h1=>thn h1 fun itv s2 h2=>?_;obtain⟨it,fp,tn,J,H2,rfl,I2,T,st2,f2,q2⟩:=h2;refine R1z ?_;have hf:H2 s2.heap.objs.size=none:=I2.hok.fresh (P3z _);have I3:=I2.lnew (ys:=[]) (its:=[]) (t':=s2.toks) .nil (Q3z _);generalize hs3:({ s2 with heap:=s2.heap.push { cls:=.type "list",data:=.seq ([]:List Value).toArray },toks:=s2.toks }:Shared)=s3 at I3
 have lt2:∀ b∈fp,b<s2.heap.objs.size:=fun b hb=>by
  obtain⟨o,e,_⟩:=T.obj _ _ st2 b hb;exact H3z e
 have f3:∀ b∈fp,nD X z0 (upd H2 s2.heap.objs.size (.lst [])) b:=fun b hb=>⟨by rw[aq (I3z (lt2 b hb))];exact(f2 b hb).1,(f2 b hb).2⟩
 have sz3:s3.heap.objs.size=s2.heap.objs.size+1:=by rw[<- hs3];exact Y2z ..
 have lt3:∀ b∈fp,b<s3.heap.objs.size:=fun b hb=>by rw[sz3];exact V1z (lt2 b hb)
 have st3:tn 0 s3.heap:=T.keep _ _ _ st2 fun b hb o e=>by rw[<- hs3];exact Heap.get?_push_of_some _ e
 have J0:=uw I3 hc hk hnd hcap f3 lt3;have cO:CompOf X scope (jZ X scope (cellsFrom (s3.heap.objs.size+1) scope.names (d8 X.env.cells scope.names [])) s3.heap.objs.size s3 (upd H2 s2.heap.objs.size (.lst [])) fp):=⟨rfl,rfl,rfl,rfl,rfl,rfl,rfl,rfl,rfl,rfl,rfl⟩;obtain⟨hg,hif,he⟩:=hin _ cO;obtain⟨W,⟨m0,w0⟩,turn⟩:=q2 s2.heap.objs.size hf _ cO;refine lG ?_;have st4:tn 0 (pushCells (s3.heap.push { cls:=.type "dict",data:=.dict #[] }) scope.names):=T.keep _ _ _ st3 fun b _ o e=>U2z _ _ b o (Heap.get?_push_of_some _ e);generalize hXc:jZ X scope (cellsFrom (s3.heap.objs.size+1) scope.names (d8 X.env.cells scope.names [])) s3.heap.objs.size s3 (upd H2 s2.heap.objs.size (.lst [])) fp=Xc at J0 hg hif he turn
 have hprog:Xc.prog=X.prog:=by rw[<- hXc];rfl
 have hw:Xc.w=X.w:=by rw[<- hXc];rfl
 have hK:Xc.K=X.K:=by rw[<- hXc];rfl
 have hA:Xc.A=X.A:=by rw[<- hXc];rfl
 have hcm:Xc.calm=true:=by rw[<- hXc];rfl
 have hxe:Xc.xe=fun _ _=>False:=by rw[<- hXc];rfl
 have hen:Xc.env=ni scope (cellsFrom (s3.heap.objs.size+1) scope.names (d8 X.env.cells scope.names [])) s3.heap.objs.size X.env:=by rw[<- hXc];rfl
 have hex:Xc.ex=fp:=by rw[<- hXc];rfl
 have hfs:Xc.fs=frs X.stack:=by rw[<- hXc];rfl
 have hs0:Xc.s₀=s3:=by rw[<- hXc];rfl
 have hH0:Xc.H₀=upd H2 s2.heap.objs.size (.lst []):=by rw[<- hXc];rfl
 have hpn:Xc.pn=[]:=by rw[<- hXc];rfl
 have stat:∀ {H':Hp},(∀ b∈fp,H' b=none)->∀ b∈fp,nD Xc [] H' b:=fun {H'} hn b hb=>by
  refine⟨hn b hb,(J0.ok.exf b (by rw[hex];exact hb)).1,fun z=>J0.ok.exfs b (by rw[hex];exact hb) z,.inl (by rw[hex];exact hb),(J0.ok.exf b (by rw[hex];exact hb)).2,fun p hp=>?_⟩
  rw[hpn] at hp;exact absurd hp (by simp)
 have loop:codeAny (model X.prog X.w) X.A (.compLoop (.ListComp elt [⟨tg,iter,ifs,0⟩] scope pos) 0 (.ref it) (.ref s2.heap.objs.size) Xc.env)
   (R (.ref s2.heap.objs.size) s3.heap.objs.size) { s3 with heap:=pushCells (s3.heap.push { cls:=.type "dict",data:=.dict #[] }) scope.names }:=by
  refine dO (fun n s'=>∃ i σ' H',Inv Xc [] σ' H' s'/\tn i s'.heap/\(∀ b∈fp,H' b=none)/\W i n σ' H') ?_ m0 ⟨0,_,_,J0,st4,fun b hb=>(f3 b hb).1,w0⟩;rintro n s5 ⟨i,σ5,H5,I5,st5,fr5,w5⟩;rcases turn i n σ5 H5 w5 with⟨stop,qn⟩ | ⟨go,N,hN,step⟩
  ·have q:=T.done Xc hprog hw hK hcm i [] s5 σ5 H5 (fun _ _=>False) I5 (stat fr5) st5 stop
   rw[hA] at q;refine thn q fun r s6 ⟨hr,I6⟩=>?_;subst hr
   have hL:Xc.env.locals=s3.heap.objs.size:=by rw[hen];rfl
   have ub:=I6.base;rw[hfs,hex,hH0,hs0] at ub
   have IX:Inv X z0 σ H5 s6:=by
    refine I3.call' (ch:=fp) ?_ ub ?_ I6.bare fun b hb=>⟨(f3 b hb).2.2.2.1,(f3 b hb).2.1,(f3 b hb).2.2.2.2.1,(f3 b hb).2.2.2.2.2⟩
    ·have:=I6.os
     rw[hs0] at this;exact this
    ·have hok:=I6.hok
     rw[hprog,hw] at hok;exact hok
   refine fin _ _ _ _ IX ⟨?_,?_,L3z I3.lt,I3.sz,fun x c e=>?_,fun p hp=>?_⟩ qn
   ·obtain⟨m,hn,_⟩:=I6.loc
    rw[hL] at hn;exact⟨m,hn⟩
   ·have:=I6.free
    rw[hL] at this;exact this
   ·obtain⟨v,z⟩:=I3.cell x c e
    exact I3z z.lt
   ·exact I3z (H3z (I3.pin p hp).1)
  ·have q:=T.item Xc hprog hw hK hcm i [] s5 σ5 H5 (fun _ _=>False) I5 (stat fr5) st5 go
   rw[hA] at q;refine thn q fun r s6 ⟨u,hr,h6⟩=>?_;subst hr;refine thn h6 fun _ s7 ⟨x,H7,I7,r7,y7,st7,fr7⟩=>?_;have I7':=I7.pinned (stat fr7) (T.obj _ _ st7);have q8:=hg _ s7 σ5 H7 x u _ I7' r7 (step x H7 y7);rw[hprog,hw,hA,hxe] at q8;refine thn q8 fun _ s8 ⟨σ8,H8,I8,z8⟩=>?_;have q9:=hif _ s8 σ8 H8 _ I8 z8;rw[hprog,hw,hA,hxe] at q9;refine thn q9 fun ok s9 ⟨H9,I9,z9⟩=>?_
   have again:∀ {s':Shared} {σ':St} {H':Hp},Inv Xc ([]++jN fp s7.heap) σ' H' s'->N σ' H'->∃ m,m<n/\∃ i σ' H',Inv Xc [] σ' H' s'/\tn i s'.heap/\(∀ b∈fp,H' b=none)/\W i m σ' H':=fun {s' σ' H'} I' n'=>by
    obtain⟨m',hm,w'⟩:=hN σ' H' n';refine⟨m',hm,i+1,σ',H',I'.unpinned,T.keep _ _ _ st7 fun b hb o e=>(I'.pin (b,o) (Q0z _ (Q0z _ (dG hb e)))).1,fun b hb=>?_,w'⟩;obtain⟨o,e,d⟩:=T.obj _ _ st7 b hb;exact(I'.pin (b,o) (Q0z _ (Q0z _ (dG hb e)))).2.1
   cases ok with
   | false =>
    rw[F4z L1z] at z9 ⊢;exact again I9 z9
   | true =>
    rw[E4z rfl] at z9 ⊢;have q10:=he _ s9 σ8 H9 _ I9 z9;rw[hprog,hw,hA,hxe] at q10;refine thn q10 fun uv s10 ⟨v,H10,I10,r10,ys,hy,hz,z10⟩=>?_;have q11:=eU (X:=Xc) _ s10 σ8 H10 (.ref s2.heap.objs.size) [v] (.ref s2.heap.objs.size) [uv] (fun _ H'=>N σ8 H') I10 rfl (.cons r10 .nil) ⟨_,ys,v,rfl,rfl,hy,hz,z10⟩;rw[hprog,hw,hA,hxe] at q11;exact thn q11 fun _ s11 ⟨_,H11,I11,_,z11⟩=>again I11 z11
 have eenv:({ (newEnv scope s3.heap.objs.size X.env.globals (cellsFrom (s3.heap.objs.size+1) scope.names (d8 X.env.cells scope.names [])) X.env.qual none .none (some X.env) builtinsNs) with scope:=relabel scope X.env }:Env)=Xc.env:=by rw[hen];rfl
 rw[eenv];exact codeAny_compStart_list loop (T.self X.A 0 _ _ _ st4 loop)
theorem Blk.gone{z0:List (Addr×Obj)}{σ:St}{H:Hp}{s:Shared}{C:Addr}{h':Heap}(b:Blk X z0 H s C)(I:Inv X z0 σ H s)(hs:Heap.SameBut C s.heap h'):Inv X z0 σ H { s with heap:=h' } :=
 I.turned (t':=s.toks) (fun c o hc e=>(hs.2 c hc).trans e) b.free b.loc (.inr b.abv) b.cel b.pin
theorem gF{elt tg iter:Expr}{ifs:List Expr}{scope:Scope}{pos:Pos}{wi:TI}{g:Cx->TG}{tc:Cx->TT}{te:Cx->TE}(hc:X.calm=true)(hk:scope.kind=.function)(hnd:(scope.names.map (·.1)).Nodup)
  (hcap:∀ x,(x,NameKind.free)∈scope.names->X.env.kindOf x=some .cell\/X.env.kindOf x=some .free) (hi:PI X tg iter wi)
  (hin:∀ Xc:Cx,CompOf X scope Xc->PG Xc tg (g Xc)/\rT Xc ifs (tc Xc)/\PE Xc elt (te Xc)) (hs:∀ x,foldedSetIterable iter X.env x=pure x) :
  PE X (.ListComp elt [⟨tg,iter,ifs,0⟩] scope pos) (lg X scope wi (lH X.N scope.names) g tc te):=by
 intro z0 s σ H Q I h;rw[eval_ListComp];refine wpAny_comprehension_free (use:=none) (cl:=d8 X.env.cells scope.names []) rfl hs (cC (fK I hnd hcap).1) hk (fun x hx hl=>aV hnd (by rw[<- hl];exact hx)) ?_;refine j4 hc hk hnd hcap hi hin I h fun acc C H' s' I' b q=>?_;obtain⟨m,hn⟩:=b.ns;exact⟨m,hn,fun h' hsb=>⟨.ref acc,H',b.gone I' hsb,rfl,q⟩⟩
theorem pP{i:Nat}{x:Str}{elt tg iter:Expr}{ifs:List Expr}{scope:Scope}{pos pos' spos:Pos}{wi:TI}{g:Cx->TG}{tc:Cx->TT}{te:Cx->TE}(hN:X.N.Nodup)(hix:X.N[i]?=some x)(hx:X.env.scope.names.lookup x=some .local)
  (hc:X.calm=true) (hk:scope.kind=.function) (hnd:(scope.names.map (·.1)).Nodup)
  (hcap:∀ x,(x,NameKind.free)∈scope.names->X.env.kindOf x=some .cell\/X.env.kindOf x=some .free) (hi:PI X tg iter wi)
  (hin:∀ Xc:Cx,CompOf X scope Xc->PG Xc tg (g Xc)/\rT Xc ifs (tc Xc)/\PE Xc elt (te Xc)) (hs:∀ x,foldedSetIterable iter X.env x=pure x)
  (hsw:swapsWith (.ListComp elt [⟨tg,iter,ifs,0⟩] scope pos) (some (.Name x pos')) spos.line X.env=pure true) :
  PS X (.Assign [.Name x pos'] (.ListComp elt [⟨tg,iter,ifs,0⟩] scope pos) spos) (BL (lg X scope wi (lH X.N scope.names) g tc te) (xH i)):=by
 intro z0 s σ H D I h;rw[exec_Assign_Name_used _ _ _ _ hsw];refine T3z (D3z (T3z ?_));show wpAny _ X.A (do let _ <- comprehension (.ListComp elt [⟨tg,iter,ifs,0⟩] scope pos) scope X.env _ (newList []) false (eval iter X.env) (some (assign (.Name x pos') X.env))) _ _ s
 refine T3z (thn (wpAny_comprehension_free (use:=some (assign (.Name x pos') X.env)) (Q:=fun _ s'=>SP X z0 D .next s') (cl:=d8 X.env.cells scope.names []) rfl hs (cC (fK I hnd hcap).1) hk (fun x hx hl=>aV hnd (by rw[<- hl];exact hx))
  (j4 hc hk hnd hcap hi hin I h fun acc C H' s' I' b q=>?_)) fun _ s' hq=>U3z (U3z hq))
 show wpAny _ X.A (assign (.Name x pos') X.env (.ref acc)) _ _ s';refine wpAny_assign_Name (jH I' hN hix (.inl hx) (v:=.ref acc) rfl (fun s'' I'' ⟨a,hsb,ha⟩=>?_) (.inr hx));obtain⟨m,hn⟩:=b.ns
 have hCa:C≠a:=by
  rcases ha with ha | ha
  ·rw[ha];exact b.loc
  ·exact(b.cel x a ha).symm
 have b2:Blk X z0 H' s'' C:=⟨⟨m,hn.sameBut hsb hCa⟩,b.free,b.loc,b.abv,b.cel,b.pin⟩;exact⟨m,hn.sameBut hsb hCa,fun h' hsb'=>⟨_,H',b2.gone I'' hsb',q⟩⟩
end
section
variable {prog:Program} {w:World} {A:Around} {E:Value->Shared->Prop} {s:Shared}
theorem uq{it t:Addr}{i:Nat}{its:Array Value}{Q:Value->Shared->Prop}(hh:A.handled=none)(hit:s.heap.IsTupleIter it t i)(ht:s.heap.IsTuple t its)
  (hs:∀ x h',its[i]?=some x->h'.IsTupleIter it t (i+1)->Heap.SameBut it s.heap h'->Q x { s with heap:=h' })
  (he:∀ h' e,its[i]?=none->Heap.ExtBut it s.heap h'->(∃ o,h'.get? e=some o/\o.cls=.type "StopIteration")->E (.ref e) { s with heap:=h' }) :
  wpAny (model prog w) A (Builtin.SmallTypes.nextOf (.ref it)) Q E s:=by
 obtain⟨oi,hoi,hci,hdi⟩:=id hit;obtain⟨ot,hot,_,nt,hdt⟩:=ht;unfold Builtin.SmallTypes.nextOf;refine T3z (wpAny_callSpecial?_slot (name:=Str.ofString "__next__") hit.typeIs F.slot_tuple_iterator_next (wpAny_call_entry F.slot_tuple_iterator_next hit.typeIs F.entry_tuple_iterator_next ?_ (F.args_tuple_iterator_next_1 _)));show wpAny _ _ (field (.ref it) 0 >>=_) _ _ s;refine T3z (R3z hoi hdi (x:=.ref t) rfl ?_);have nn:¬ ((Value.ref t==Value.none)=true):=L1z;show wpAny _ _ (if(Value.ref t==Value.none)=true then _ else _) _ _ s;rw[F4z nn];show wpAny _ _ (field (.ref it) 1 >>=_) _ _ s;refine T3z (R3z hoi hdi (x:=.int i 0) rfl ?_);show wpAny _ _ (seqItems? (.ref t) >>=_) _ _ s;refine T3z (Z2z hot hdt ?_)
 cases hx:its[i]? with
 | some x =>
  simp only[Int.toNat_natCast,hx];have fin:(s.heap.update it fun o=>o.mapFields (·.setIfInBounds 1 (rawInt ((i:Int)+1)))).IsTupleIter it t (i+1):=⟨_,Heap.get?_update_self _ hoi (Obj.isFreed_of_fields (Obj.data_mapFields hdi _)),(Obj.cls_mapFields ..).trans hci,by rw[Obj.data_mapFields hdi];simp[rawInt]⟩;exact T3z (wpAny_setField hoi hdi (by simp) (U3z ⟨x,rfl,U3z (hs x _ hx fin (Heap.SameBut.update ..))⟩))
 | none =>
  simp only[Int.toNat_natCast,hx];refine T3z (wpAny_rule (T3z (wpAny_setField hoi hdi (by simp) (T3z (m:=newExc (.type "StopIteration") []) ?_))));simp only[newExc,newTuple];refine T3z (R1z (T3z (m:=firstArgMember _ _) (wpAny_of_eq (a:=Value.none) (by first | rfl | (simp only[firstArgMember];rfl)) (R1z ?_ (by size_fits)))) (by size_fits));simp only[raiseNew];refine T3z (wpAny_handled ?_)
  first | rw[show A.in1.handled=none from hh] | rw[hh]
  exact T3z (U3z (wpAny_throw (he _ _ hx (((Heap.SameBut.update ..).extBut.push _).push _) ⟨_,Heap.get?_push_size _ rfl,rfl⟩)))
structure ZT (h:Heap) (z ti to i1 i2 t1 t2:Addr) (k:Nat) (f:Value):Prop where
 hz:IsZip h z ti to f
 hi:IsPair h ti (.ref i1) (.ref i2)
 ho:∃ a b,IsPair h to a b
 h1:h.IsTupleIter i1 t1 k
 h2:h.IsTupleIter i2 t2 k
theorem ZT.keep{h h':Heap}{z ti to i1 i2 t1 t2:Addr}{k:Nat}{f:Value}(x:ZT h z ti to i1 i2 t1 t2 k f)(kp:∀ b∈[z,ti,to,i1,i2],∀ o,h.get? b=some o->h'.get? b=some o):ZT h' z ti to i1 i2 t1 t2 k f :=
 ⟨kp z (by simp) _ x.hz,kp ti (by simp) _ x.hi,let ⟨a,b,e⟩:=x.ho;⟨a,b,kp to (by simp) _ e⟩,x.h1.at fun o e=>kp i1 (by simp) o e,x.h2.at fun o e=>kp i2 (by simp) o e⟩
theorem oV{z ti to i1 i2 t1 t2:Addr}{k:Nat}{xs ys:Array Value}{Q:Fin->Shared->Prop}(hh:A.handled=none)(D:ZipApart z ti to i1 i2 t1 t2)(hZ:ZT s.heap z ti to i1 i2 t1 t2 k .none)
  (ht1:s.heap.IsTuple t1 xs) (ht2:s.heap.IsTuple t2 ys)
  (hs : ∀ x y h', xs[k]? = some x -> ys[k]? = some y -> ZT h' z ti to i1 i2 t1 t2 (k + 1) (rawInt s.heap.objs.size) -> IsPair h' s.heap.objs.size x y -> h'.objs.size = s.heap.objs.size + 1 ->
   (∀ c o,c∉[z,to,i1,i2]->s.heap.get? c=some o->h'.get? c=some o)->Q (.done (.ret (.ref s.heap.objs.size))) { s with heap:=h' })
  (he:∀ h' e,(xs[k]?=none\/ys[k]?=none)->(∀ c o,c∉[z,to,i1,i2]->s.heap.get? c=some o->h'.get? c=some o)->(∃ o,h'.get? e=some o/\o.cls=.type "StopIteration")->E (.ref e) { s with heap:=h' }) :
  wpAny (model prog w) A (Builtin.«zip.__next__» ⟨[.ref z],[]⟩) Q E s:=by
 obtain⟨hz,hi,⟨a,b,ho⟩,h1,h2⟩:=hZ;show wpAny _ _ (field (.ref z) 2 >>=_) _ _ _;refine T3z (R3z hz rfl (x:=.bool false) rfl ?_);show wpAny _ _ (field (.ref z) 3 >>=_) _ _ _;refine T3z (R3z hz rfl (x:=.ref ti) rfl (T3z (Z2z hi rfl ?_)));show wpAny _ _ (Builtin.SmallTypes.ownedTupleIsFree (.ref z) >>=_) _ _ _;unfold Builtin.SmallTypes.ownedTupleIsFree;refine T3z (T3z (R3z hz rfl (x:=.none) rfl (U3z ?_)));simp only[D4z];refine T3z (wpAny_rule (T3z (R3z hz rfl (x:=.ref to) rfl (T3z (N1z hz (by simp) fun ha za sa=>?_)))))
 replace za:IsZip ha z ti to .ellipsis:=za
 refine T3z ?_;simp only[List.zipIdx_cons,List.zipIdx_nil,List.forIn_cons,List.forIn_nil];refine T3z (T3z (wpAny_onRaise ?_))
 have ne4:∀ {c:Addr},c∉[z,to,i1,i2]->c≠z/\c≠to/\c≠i1/\c≠i2:=fun hc=>by simpa using hc
 show wpAny _ _ (Builtin.SmallTypes.nextOf (.ref i1) >>=_) _ _ _;refine T3z (uq hh (h1.extBut sa.extBut D.i1z) (ht1.extBut sa.extBut D.l1z) (fun x hb hx itb sb=>U3z ?_) fun hb e hx eb ⟨oe,oe1,oe2⟩=>?_)
 ·have tob:IsPair hb to a b:=sb.extBut _ _ D.TOi1 (sa.extBut _ _ D.TOz ho)
  refine T3z (Z2z tob rfl (T3z (wpAny_updateSeq_pair tob fun hc toc sc=>T3z (wpAny_letGo (U3z ?_)))))
  replace toc:IsPair hc to x b:=toc
  refine T3z (T3z (wpAny_onRaise ?_));have h2c:hc.IsTupleIter i2 t2 k:=((h2.extBut sa.extBut D.i2z).extBut sb.extBut D.i12.symm).extBut sc.extBut D.TOi2.symm;have t2c:hc.IsTuple t2 ys:=((ht2.extBut sa.extBut D.l2z).extBut sb.extBut D.l2i1).extBut sc.extBut D.l2TO;show wpAny _ _ (Builtin.SmallTypes.nextOf (.ref i2) >>=_) _ _ _;refine T3z (uq hh h2c t2c (fun y hd hy itd sd=>U3z ?_) fun hd e hy ed ⟨oe,oe1,oe2⟩=>?_)
  ·have tod:IsPair hd to x b:=sd.extBut _ _ D.TOi2 toc
   refine T3z (Z2z tod rfl (T3z (wpAny_updateSeq_pair tod fun hf tof sf=>T3z (wpAny_letGo (U3z (U3z ?_))))))
   replace tof:IsPair hf to x y:=tof
   refine T3z (Z2z tof rfl (T3z (wpAny_newTuple ?_)))
   have szf:hf.objs.size=s.heap.objs.size:=by rw[sf.1,sd.1,sc.1,sb.1,sa.1]
   have zf:IsZip hf z ti to .ellipsis:=sf.extBut _ _ D.TOz.symm (sd.extBut _ _ D.i2z.symm (sc.extBut _ _ D.TOz.symm (sb.extBut _ _ D.i1z.symm za)))
   have kf:∀ c o,c∉[z,to,i1,i2]->s.heap.get? c=some o->hf.get? c=some o:=fun c o hc' e=>by
    obtain⟨c1,c2,c3,c4⟩:=ne4 hc';exact sf.extBut _ _ c2 (sd.extBut _ _ c4 (sc.extBut _ _ c2 (sb.extBut _ _ c3 (sa.extBut _ _ c1 e))))
   have i1f:hf.IsTupleIter i1 t1 (k+1):=((itb.extBut sc.extBut D.TOi1.symm).extBut sd.extBut D.i12).extBut sf.extBut D.TOi1.symm;have i2f:hf.IsTupleIter i2 t2 (k+1):=itd.extBut sf.extBut D.TOi2.symm;have tif:IsPair hf ti (.ref i1) (.ref i2):=sf.extBut _ _ D.TITO (sd.extBut _ _ D.TIi2 (sc.extBut _ _ D.TITO (sb.extBut _ _ D.TIi1 (sa.extBut _ _ D.TIz hi))));have zlt:z<hf.objs.size:=H3z zf;show wpAny _ _ (Builtin.SmallTypes.ownedTupleHandOut (.ref z) (.ref hf.objs.size) >>=_) _ _ _;unfold Builtin.SmallTypes.ownedTupleHandOut;have zg:IsZip (hf.push { cls:=.type "tuple",data:=.seq #[x,y] }) z ti to .ellipsis:=Heap.get?_push_of_some _ zf;refine T3z (T3z (N1z zg (by simp) fun hk zk sk=>N1z (show IsZip hk z ti to (rawInt hf.objs.size) from zk) (by simp) fun hm zm sm=>U3z ?_))
   replace zm:IsZip hm z ti to (rawInt hf.objs.size):=zm
   have up:∀ c o,c≠z->hf.get? c=some o->hm.get? c=some o:=fun c o c1 e=>sm.extBut _ _ c1 (sk.extBut _ _ c1 (Heap.get?_push_of_some _ e));have new:IsPair hm hf.objs.size x y:=sm.extBut _ _ (L3z zlt) (sk.extBut _ _ (L3z zlt) (Heap.get?_push_size _ rfl))
   have szm:hm.objs.size=hf.objs.size+1:=by rw[sm.1,sk.1,Y2z]
   have q:=hs x y hm hx hy ⟨by rw[<- szf];exact zm,up _ _ D.TIz tif,⟨x,y,up _ _ D.TOz tof⟩,i1f.at fun o e=>up _ o D.i1z e,i2f.at fun o e=>up _ o D.i2z e⟩ (by rw[<- szf];exact new) (by rw[szm,szf]) fun c o hc' e=>up c o (ne4 hc').1 (kf c o hc' e)
   rw[<- szf] at q;exact q
  ·have zd:IsZip hd z ti to .ellipsis:=ed _ _ D.i2z.symm (sc.extBut _ _ D.TOz.symm (sb.extBut _ _ D.i1z.symm za))
   have ez:e≠z:=fun q=>by subst q;rw[zd] at oe1;cases oe1;simp at oe2
   refine N1z zd (by simp) fun hf _ sf=>he hf e (.inr hy) (fun c o hc' q=>?_) ⟨oe,sf.extBut _ _ ez oe1,oe2⟩;obtain⟨c1,c2,c3,c4⟩:=ne4 hc';exact sf.extBut _ _ c1 (ed _ _ c4 (sc.extBut _ _ c2 (sb.extBut _ _ c3 (sa.extBut _ _ c1 q))))
 ·have zb:IsZip hb z ti to .ellipsis:=eb _ _ D.i1z.symm za
  have ez:e≠z:=fun q=>by subst q;rw[zb] at oe1;cases oe1;simp at oe2
  refine N1z zb (by simp) fun hf _ sf=>he hf e (.inl hx) (fun c o hc' q=>?_) ⟨oe,sf.extBut _ _ ez oe1,oe2⟩;obtain⟨c1,c2,c3,c4⟩:=ne4 hc';exact sf.extBut _ _ c1 (eb _ _ c3 (sa.extBut _ _ c1 q))
theorem gB{z ti to i1 i2 t1 t2:Addr}{k:Nat}{xs ys:Array Value}{Q:Option Value->Shared->Prop}(hh:A.handled=none)(D:ZipApart z ti to i1 i2 t1 t2)(hZ:ZT s.heap z ti to i1 i2 t1 t2 k .none)
  (ht1:s.heap.IsTuple t1 xs) (ht2:s.heap.IsTuple t2 ys)
  (hs : ∀ x y h', xs[k]? = some x -> ys[k]? = some y -> ZT h' z ti to i1 i2 t1 t2 (k + 1) (rawInt s.heap.objs.size) -> IsPair h' s.heap.objs.size x y -> h'.objs.size = s.heap.objs.size + 1 ->
   (∀ c o,c∉[z,to,i1,i2]->s.heap.get? c=some o->h'.get? c=some o)->Q (some (.ref s.heap.objs.size)) { s with heap:=h' })
  (he:∀ h',(xs[k]?=none\/ys[k]?=none)->(∀ c o,c∉[z,to,i1,i2]->s.heap.get? c=some o->h'.get? c=some o)->Q none { s with heap:=h' }) :
  wpAny (model prog w) A (pyNext (.ref z)) Q E s:=by
 have hT:s.TypeIs (.ref z) "zip":=⟨_,hZ.hz,rfl⟩;unfold pyNext
 refine T3z (wpAny_attempt (wpAny_callSpecial?_slot (name:=Str.ofString "__next__") hT F.slot_zip_next (wpAny_call_entry F.slot_zip_next hT F.entry_zip_next
  (oV hh D hZ ht1 ht2 (fun x y h' a1 a2 a3 a4 a5 a6=>⟨_,rfl,U3z (hs x y h' a1 a2 a3 a4 a5 a6)⟩) fun h' e a1 a2 ⟨o,e1,e2⟩=>?_) (F.args_zip_next_1 _))))
 exact T3z (wpAny_isInstance (T:="StopIteration") (b:=true) ⟨o,e1,e2⟩ isSubtype_stop (U3z (he h' a1 a2)))
abbrev itT(t:Addr):Obj:={ cls:=.type "tuple_iterator",data:=.fields #[.ref t,.int 0 0] }
theorem vA(hp H1 H2 H3 H4 H5:Heap)(t1 t2:Addr)(e1:H1=hp.push (itT t1))(e2:H2=H1.push (itT t2))(e3:H3=H2.push { cls:=.type "tuple",data:=.seq #[.ref hp.objs.size,.ref H1.objs.size] })(e4:H4=H3.push { cls:=.type "tuple",data:=.seq #[.none,.none] })
  (e5:H5=H4.push { cls:=.type "zip",data:=.fields #[.none,.bool false,.bool false,.ref H2.objs.size,.ref H3.objs.size] }) :
  H4.objs.size=hp.objs.size+4/\H5.objs.size=hp.objs.size+5/\(∀ c o,hp.get? c=some o->H5.get? c=some o)/\ZT H5 (hp.objs.size+4) (hp.objs.size+2) (hp.objs.size+3) hp.objs.size (hp.objs.size+1) t1 t2 0 .none:=by
 have z1:H1.objs.size=hp.objs.size+1:=by rw[e1,Y2z]
 have z2:H2.objs.size=hp.objs.size+2:=by rw[e2,Y2z,z1]
 have z3:H3.objs.size=hp.objs.size+3:=by rw[e3,Y2z,z2]
 have z4:H4.objs.size=hp.objs.size+4:=by rw[e4,Y2z,z3]
 have z5:H5.objs.size=hp.objs.size+5:=by rw[e5,Y2z,z4]
 have k5:∀ c o,H4.get? c=some o->H5.get? c=some o:=fun c o e=>by rw[e5];exact Heap.get?_push_of_some _ e
 have k4:∀ c o,H3.get? c=some o->H5.get? c=some o:=fun c o e=>k5 c o (by rw[e4];exact Heap.get?_push_of_some _ e)
 have k3:∀ c o,H2.get? c=some o->H5.get? c=some o:=fun c o e=>k4 c o (by rw[e3];exact Heap.get?_push_of_some _ e)
 have k2:∀ c o,H1.get? c=some o->H5.get? c=some o:=fun c o e=>k3 c o (by rw[e2];exact Heap.get?_push_of_some _ e)
 have k1:∀ c o,hp.get? c=some o->H5.get? c=some o:=fun c o e=>k2 c o (by rw[e1];exact Heap.get?_push_of_some _ e)
 refine⟨z4,z5,k1,?_,?_,⟨.none,.none,?_⟩,⟨_,k2 _ _ (by rw[e1];exact Heap.get?_push_size _ rfl),rfl,rfl⟩,⟨_,k3 _ _ (by rw[e2,<- z1];exact Heap.get?_push_size _ rfl),rfl,rfl⟩⟩
 ·have q:H5.get? H4.objs.size=some { cls:=.type "zip",data:=.fields #[.none,.bool false,.bool false,.ref H2.objs.size,.ref H3.objs.size] }:=by rw[e5];exact Heap.get?_push_size _ rfl
  rw[z2,z3,z4] at q;exact q
 ·have q:H5.get? H2.objs.size=some { cls:=.type "tuple",data:=.seq #[.ref hp.objs.size,.ref H1.objs.size] }:=k4 _ _ (by rw[e3];exact Heap.get?_push_size _ rfl)
  rw[z1,z2] at q;exact q
 ·have q:H5.get? H3.objs.size=some { cls:=.type "tuple",data:=.seq #[.none,.none] }:=k5 _ _ (by rw[e4];exact Heap.get?_push_size _ rfl)
  rw[z3] at q;exact q
theorem rW(t1 t2:Addr)(xs ys:Array Value) :
    Meets (Builtin.«zip.__new__» ⟨[.type "zip",.ref t1,.ref t2],[]⟩) (fun _ R s=>s.heap.IsTuple t1 xs/\s.heap.IsTuple t2 ys /\
      ∀ h', (∀ c o, s.heap.get? c = some o -> h'.get? c = some o) -> h'.objs.size = s.heap.objs.size + 5 -> ZT h' (s.heap.objs.size + 4) (s.heap.objs.size + 2) (s.heap.objs.size + 3) s.heap.objs.size (s.heap.objs.size + 1) t1 t2 0 .none ->
        R (.ok (.ret (.ref (s.heap.objs.size+4)))) { s with heap:=h' }) :=
  .of_wp fun prog w A R s h=>by
    obtain⟨hp,g,d,tk,os⟩:=s;obtain⟨hl1,hl2,h⟩:=h
    have hsub:=sub_zip
    have hL1:Heap.IsTuple (Shared.heap ⟨hp,g,d,tk,os⟩) t1 xs:=hl1
    have hL2:Heap.IsTuple (Shared.heap ⟨hp.push (itT t1),g,d,tk,os⟩) t2 ys:=let ⟨o,e,r⟩:=hl2;⟨o,Heap.get?_push_of_some _ e,r⟩
    wp_walk using G1z hL1,G1z hL2
    refine⟨_,rfl,?_⟩
    obtain⟨z4,z5,kp,Z⟩:=vA hp _ _ _ _ _ t1 t2 rfl rfl rfl rfl rfl
    have q:=h _ kp z5 Z
    rw[<- z4] at q
    exact q
theorem rE{t1 t2:Addr}{xs ys:Array Value}{Q:Value->Shared->Prop}(hl1:s.heap.IsTuple t1 xs)(hl2:s.heap.IsTuple t2 ys)
  (h : ∀ h', (∀ c o, s.heap.get? c = some o -> h'.get? c = some o) -> h'.objs.size = s.heap.objs.size + 5 -> ZT h' (s.heap.objs.size + 4) (s.heap.objs.size + 2) (s.heap.objs.size + 3) s.heap.objs.size (s.heap.objs.size + 1) t1 t2 0 .none ->
   Q (.ref (s.heap.objs.size+4)) { s with heap:=h' }):wpAny (model prog w) A (call (.type "zip") [.ref t1,.ref t2]) Q E s:=by
 refine callType_new F.called_zip (by decide) (F.typeCall_zip_2 _ _) (F.newCall_zip_2 _ _) (fun obj=>F.args_object_init_3 obj _ _) F.entry_zip_new (rW t1 t2 xs ys) ⟨hl1,hl2,fun h' kp z5 Z=>?_⟩;exact⟨⟨_,Z.hz,rfl⟩,h h' kp z5 Z⟩
end
namespace RF
end RF
section
variable {prog:Program} {w:World} {A:Around} {E:Value->Shared->Prop} {s:Shared}
end
end L2
namespace L2
open PySem PySem.Spec PyProof.Rows PySem.SeqAt
section
variable {prog:Program} {w:World} {A:Around} {E:Value->Shared->Prop} {s:Shared}
end
end L2
namespace L2
open PySem PySem.Spec PyProof.Rows
def Itz(K:Zf)(t1 t2:Addr):It :=
  ⟨fun i H=>∃ xs ys x y,SqT K H t1 xs/\SqT K H t2 ys/\xs[i]?=some x/\ys[i]?=some y,
   fun i H v H'=>∃ p,H p=none/\v=.ref p/\∀ xs ys x y,SqT K H t1 xs->SqT K H t2 ys->xs[i]?=some x->ys[i]?=some y->H'=upd H p (.tup [x,y]),
   fun i H=>∃ xs ys,SqT K H t1 xs/\SqT K H t2 ys/\(xs.length<=i\/ys.length<=i)⟩
theorem Inv.turnedNew{X:Cx}{z0:List (Addr×Obj)}{σ:St}{H:Hp}{s:Shared}{h':Heap}{ch:List Addr}{o:HO}{t':Nat}(I:Inv X z0 σ H s)(hf:∀ b∈ch,nD X z0 H b)(k:∀ b u,b∉ch->s.heap.get? b=some u->h'.get? b=some u)
  (new:bY X.prog X.w (upd H s.heap.objs.size o) h' s.heap.objs.size o):Inv X z0 σ (upd H s.heap.objs.size o) { s with heap:=h',toks:=t' }:=by
 have hn:H s.heap.objs.size=none:=I.hok.fresh (P3z _);refine I.call' (s':={ s with heap:=h',toks:=t' }) (ch:=ch) rfl ?_ ?_ I.bare fun b hb=>⟨(hf b hb).2.2.2.1,(hf b hb).2.1,(hf b hb).2.2.2.2.1,(hf b hb).2.2.2.2.2⟩
 ·refine⟨fun b u e _ _ hc=>k b u hc e,fun b u e _ _ hc=>⟨u.slots,k b u hc e⟩,fun b u e n hc=>?_,fun b u e hc=>⟨u,k b u hc e⟩,fun b xs e=>?_,fun b u xs e=>?_,fun b ps e=>⟨#[],?_⟩⟩
  ·rw[aq (I3z (H3z e))];exact n
  ·rw[aq (ao e hn)];exact e
  ·rw[aq (ao e hn)];exact e
  ·rw[aq (ao e hn),e];simp
 ·intro b u e
  by_cases hb:b=s.heap.objs.size
  ·subst hb;rw[aK] at e;cases e;exact new
  ·rw[aq hb] at e
   refine(I.hok b u e).stay (fun c v hc q=>k c v (fun z=>?_) q) (fun c q=>by rw[aq (ao q hn)];exact q) fun c xs q=>by rw[aq (ao q hn)];exact q
   have zn:=(hf c z).1;rcases hc with rfl | hc
   ·rw[zn] at e;cases e
   ·rw[zn] at hc;cases hc
theorem Inv.turnedAll{X:Cx}{z0:List (Addr×Obj)}{σ:St}{H:Hp}{s:Shared}{h':Heap}{ch:List Addr}{t':Nat}(I:Inv X z0 σ H s)(hf:∀ b∈ch,nD X z0 H b)(k:∀ b u,b∉ch->s.heap.get? b=some u->h'.get? b=some u) :
  Inv X z0 σ H { s with heap:=h',toks:=t' }:=by
 refine I.call' (s':={ s with heap:=h',toks:=t' }) (ch:=ch) rfl ?_ ?_ I.bare fun b hb=>⟨(hf b hb).2.2.2.1,(hf b hb).2.1,(hf b hb).2.2.2.2.1,(hf b hb).2.2.2.2.2⟩
 ·exact⟨fun b u e _ _ hc=>k b u hc e,fun b u e _ _ hc=>⟨u.slots,k b u hc e⟩,fun b u e n hc=>n,fun b u e hc=>⟨u,k b u hc e⟩,fun b xs e=>e,fun b u xs e=>e,fun b ps e=>⟨#[],by rw[e];simp⟩⟩
 ·intro b u e
  refine(I.hok b u e).stay (fun c v hc q=>k c v (fun z=>?_) q) (fun c q=>q) fun c xs q=>q;have zn:=(hf c z).1;rcases hc with rfl | hc
  ·rw[zn] at e;cases e
  ·rw[zn] at hc;cases hc
theorem sy{P:Program}{w:World}{K:Zf}{es:List Expr}{kt:Nat}{pt:Pos}{z ti to i1 i2 t1 t2:Addr}(D:ZipApart z ti to i1 i2 t1 t2) :
    Turn P w K (.Tuple es kt pt) (Itz K t1 t2) [z,ti,to,i1,i2] z (fun i h=>ZT h z ti to i1 i2 t1 t2 i .none) where
  mem:=by simp
  obj:=fun i h st b hb=>by
    simp at hb
    rcases hb with rfl | rfl | rfl | rfl | rfl
    · exact⟨_,st.hz,fun v q=>by have q':Data.fields _=Data.cell v:=q;cases q'⟩
    · exact⟨_,st.hi,fun v q=>by have q':Data.seq _ _=Data.cell v:=q;cases q'⟩
    · obtain⟨a,c,e⟩:=st.ho
      exact⟨_,e,fun v q=>by have q':Data.seq _ _=Data.cell v:=q;cases q'⟩
    · obtain⟨o,e,_,d⟩:=st.h1
      exact⟨o,e,fun v q=>by rw[d] at q;cases q⟩
    · obtain⟨o,e,_,d⟩:=st.h2
      exact⟨o,e,fun v q=>by rw[d] at q;cases q⟩
  keep:=fun i h h' st k=>st.keep k
  item:=by
    intro X hP hw hK hc i z0 s σ H E I hf st hg
    subst hP hw hK
    obtain⟨xs,ys,x,y,hq1,hq2,hx,hy⟩:=hg
    obtain⟨its1,rv1,p1,_⟩:=I.tuple hq1
    obtain⟨its2,rv2,p2,_⟩:=I.tuple hq2
    obtain⟨u1,hu1,ru1⟩:=rv1.get hx
    obtain⟨u2,hu2,ru2⟩:=rv2.get hy
    refine gB (I.ok.hd hc) D st (show s.heap.IsTuple t1 its1.toArray from p1) (show s.heap.IsTuple t2 its2.toArray from p2) (fun a b h' ha hb Z pr sz kp=>?_) fun h' hn _=>?_
    · have ea : a = u1 := by have : its1[i]? = some a := by simpa using ha
                             rw[hu1] at this;exact(L2z this).symm
      have eb : b = u2 := by have : its2[i]? = some b := by simpa using hb
                             rw[hu2] at this;exact(L2z this).symm
      subst ea eb
      have szl:2<=sizeLine:=by decide
      have hf4:∀ c∈[z,to,i1,i2],nD X z0 H c:=fun c hc'=>hf c (by simp at hc' ⊢;rcases hc' with h | h | h | h<;>simp[h])
      have I1:Inv X z0 σ (upd H s.heap.objs.size (.tup [x,y])) { s with heap:=h',toks:=s.toks }:=I.turnedNew hf4 kp ⟨szl,[a,b],.cons ru1 (.cons ru2 .nil),⟨_,pr,rfl,_,rfl⟩⟩
      have fresh:H s.heap.objs.size=none:=I.hok.fresh (P3z _)
      have ltf:∀ c∈[z,ti,to,i1,i2],c≠s.heap.objs.size:=fun c hc' e=>by
        have:H c=none:=(hf c hc').1
        simp at hc'
        have lt:c<s.heap.objs.size:=by
          rcases hc' with rfl | rfl | rfl | rfl | rfl
          · exact H3z st.hz
          · exact H3z st.hi
          · obtain⟨_,_,e'⟩:=st.ho;exact H3z e'
          · obtain⟨o,e',_⟩:=st.h1;exact H3z e'
          · obtain⟨o,e',_⟩:=st.h2;exact H3z e'
        exact I3z lt e
      refine⟨_,rfl,wpAny_letOwnedTupleGo_zip (s:={ s with heap:=h' }) Z.hz fun h2 z2 sb=>?_⟩
      have fz:=hf z (by simp)
      have I2:Inv X z0 σ (upd H s.heap.objs.size (.tup [x,y])) { s with heap:=h2 }:=I1.turned (t':=s.toks) (fun c o hc' e=>(sb.2 c hc').trans e) (by rw[aq (ltf z (by simp))];exact fz.1) fz.2.1 fz.2.2.2.1 fz.2.2.2.2.1 fz.2.2.2.2.2
      refine⟨.ref s.heap.objs.size,_,I2,rfl,⟨_,fresh,rfl,fun xs' ys' x' y' a1 a2 a3 a4=>?_⟩,?_,fun c hc'=>by rw[aq (ltf c hc')];exact(hf c hc').1⟩
      · have e1:=I.tuple_inj a1 hq1
        have e2:=I.tuple_inj a2 hq2
        subst e1 e2
        rw[hx] at a3;rw[hy] at a4
        cases a3;cases a4
        rfl
      · obtain⟨a',b',e'⟩:=Z.ho
        exact⟨z2,(sb.2 ti D.TIz).trans Z.hi,⟨a',b',(sb.2 to D.TOz).trans e'⟩,Z.h1.at fun o e=>(sb.2 i1 D.i1z).trans e,Z.h2.at fun o e=>(sb.2 i2 D.i2z).trans e⟩
    · rcases hn with hn | hn
      · have:its1[i]?=none:=by simpa using hn
        rw[hu1] at this;cases this
      · have:its2[i]?=none:=by simpa using hn
        rw[hu2] at this;cases this
  done:=by
    intro X hP hw hK hc i z0 s σ H E I hf st hg
    subst hP hw hK
    obtain⟨xs,ys,hq1,hq2,hl⟩:=hg
    obtain⟨its1,rv1,p1,_⟩:=I.tuple hq1
    obtain⟨its2,rv2,p2,_⟩:=I.tuple hq2
    have l1:=rv1.length
    have l2:=rv2.length
    refine gB (I.ok.hd hc) D st (show s.heap.IsTuple t1 its1.toArray from p1) (show s.heap.IsTuple t2 its2.toArray from p2) (fun a b h' ha hb Z pr sz kp=>?_) fun h' _ kp=>⟨rfl,?_⟩
    · exfalso
      have h1 : i < its1.length := by have : its1[i]? = some a := by simpa using ha
                                      exact(List.getElem?_eq_some_iff.mp this).1
      have h2 : i < its2.length := by have : its2[i]? = some b := by simpa using hb
                                      exact(List.getElem?_eq_some_iff.mp this).1
      omega
    · have hf4:∀ c∈[z,to,i1,i2],nD X z0 H c:=fun c hc'=>hf c (by simp at hc' ⊢;rcases hc' with h | h | h | h<;>simp[h])
      exact I.turnedAll (t':=s.toks) hf4 kp
  self:=fun _ _ _ _ _ st h=>wpAny_pyIter_zip st.hz h
section
variable {X:Cx}
def Lr(K:Zf)(ta:TA):TI:=fun σ H R=>ta σ H fun vs H1=>∃ a b,vs=[.ref a,.ref b]/\(∃ xs,SqT K H1 a xs)/\(∃ ys,SqT K H1 b ys)/\R (Itz K a b) H1
theorem zB{a b:Expr}{ta:TA}{p pos pt:Pos}{es:List Expr}{kt:Nat}(hg:Gl X "zip")(hm:X.mg "zip"=none)(ha:PA X [a,b] ta)(hs:starEach [a,b] X.env=[(false,eval a X.env),(false,eval b X.env)])(hs2:starEach [b] X.env=[(false,eval b X.env)]) :
  PI X (.Tuple es kt pt) (.Call (.Name "zip" p) [a,b] [] pos) (Lr X.K ta):=by
 intro z0 s σ H R I h;refine Call_ (cY I hg hm boot_zip (A0z (thn (ha pos z0 s σ H _ I h) fun us s1 ⟨vs,H1,I1,r1,q1⟩=>?_) (by rw[hs,hs2]) (by rw[hs2];rfl)));obtain⟨a1,b1,e,⟨xs,hx⟩,⟨ys,hy⟩,q⟩:=q1;subst e
 cases r1 with
 | cons r rr =>
  cases rr with
  | cons r' rr =>
   cases rr;cases (show _=Value.ref a1 from r);cases (show _=Value.ref b1 from r');obtain⟨its1,_,p1,_⟩:=I1.tuple hx;obtain⟨its2,_,p2,_⟩:=I1.tuple hy;refine rE (show s1.heap.IsTuple a1 its1.toArray from p1) (show s1.heap.IsTuple b1 its2.toArray from p2) fun h' kp sz Z=>?_;refine wpAny_pyIter_zip (s:={ s1 with heap:=h' }) Z.hz ?_;have I2:Inv X z0 σ H1 { s1 with heap:=h' }:=I1.kept (t':=s1.toks) kp;refine⟨s1.heap.objs.size+4,_,_,_,H1,rfl,I2,sy (zipApart_new p1.lt p2.lt),Z,fun c hc=>?_,q⟩
   have hc':s1.heap.objs.size<=c:=by
    simp at hc
    rcases hc with h | h | h | h | h<;>rw[h]<;>first | exact P3z _ | exact E2z _ _
   exact I1.fpOk hc' (I1.hok.fresh hc')
end
section
variable {X:Cx}
end
section
variable {X:Cx} {tg:Expr}
end
section
variable {prog:Program} {w:World} {A:Around} {E:Value->Shared->Prop} {s:Shared}
theorem vh(hh:A.handled=none)(it t:Addr)(ap:t≠it)(its:Array Value):Draws prog w A it [it,t] its.size (fun k v=>its[k]?=some v) (fun k h=>h.IsTupleIter it t k/\h.IsTuple t its) where
 live:=fun _ _ q=>by obtain⟨⟨o,e,_⟩,_⟩:=q;exact⟨o,e⟩
 frame:=fun _ _ _ q kp=>by
  obtain⟨⟨o,e,r⟩,⟨o2,e2,r2⟩⟩:=q;exact⟨⟨o,kp it (by simp) o e,r⟩,⟨o2,kp t (by simp) o2 e2,r2⟩⟩
 item:=fun k s Q E lt q fin=>uq hh q.1 q.2 (fun x h' hx a sb=>fin x h' s.toks hx ⟨a,by obtain⟨o2,e2,r2⟩:=q.2;exact⟨o2,(sb.2 t ap).trans e2,r2⟩⟩ sb) fun h' e hx _ _=>by
  have:its[k]?=some its[k]:=by simp[lt]
  rw[this] at hx;cases hx
 done:=fun s Q E q fin=>uq hh q.1 q.2 (fun x h' hx _ _=>by simp at hx) fun h' e _ a b=>fin h' e a b
set_option maxHeartbeats 1000000 in
theorem rm(t:Addr)(its:Array Value)(n:Nat)(dd:Option Addr)(sl:Array (Option Value)) :
  Meets (Builtin.«enumerate.__new__» ⟨[.type "enumerate",.ref t],[]⟩) (fun _ R s=>s.heap.get? t=some { cls:=.type "tuple",dict:=dd,data:=.seq its n,slots:=sl } /\
   R (.ok (.ret (.ref (s.heap.push (itT t)).objs.size))) { s with heap:=(s.heap.push (itT t)).push { cls:=.type "enumerate",data:=.fields #[.none,.bool false,.ref s.heap.objs.size,rawInt 0,.none,.none] } }) :=
 .of_wp fun prog w A R s h=>by
  obtain⟨hp,g,d,tk,os⟩:=s;obtain⟨hl,h⟩:=h
  have hsub:=sub_enumerate;have hL:Heap.IsTuple (Shared.heap ⟨hp,g,d,tk,os⟩) t its:=⟨_,hl,rfl,n,rfl⟩
  wp_walk using E0z hl
  refine wpAny_stack_any fun fr=>U3z ?_;split
  ·rename_i c _ _ _ _ _
   cases (c==Value.type "enumerate")<;>(wp_walk using E0z hl,G1z hL;exact⟨_,rfl,h⟩)
  ·wp_walk using E0z hl,G1z hL;exact⟨_,rfl,h⟩
theorem oM{t:Addr}{its:Array Value}{Q:Value->Shared->Prop}(ht:s.heap.IsTuple t its)
  (q:∀ h',IsEnum h' (s.heap.objs.size+1) s.heap.objs.size 0 .none->h'.IsTupleIter s.heap.objs.size t 0->(∀ b o,s.heap.get? b=some o->h'.get? b=some o)->Q (.ref (s.heap.objs.size+1)) { s with heap:=h' }) :
  wpAny (model prog w) A (call (.type "enumerate") [.ref t]) Q E s:=by
 obtain⟨⟨c,dd,dt,sl⟩,e,hc,n,hd⟩:=ht;cases (show c=.type "tuple" from hc);cases (show dt=.seq its n from hd);refine callType_new F.called_enumerate (by decide) (F.typeCall_enumerate_1 _) (F.newCall_enumerate_1 _) (fun obj=>F.args_object_init_2 obj _) F.entry_enumerate_new (rm t its n dd sl) ⟨e,?_⟩;have z:(s.heap.push (itT t)).objs.size=s.heap.objs.size+1:=Y2z ..;have en:=Heap.get?_push_size (s.heap.push (itT t)) (o:={ cls:=.type "enumerate",data:=.fields #[.none,.bool false,.ref s.heap.objs.size,rawInt 0,.none,.none] }) rfl;rw[z] at en;show _/\_;rw[z];exact⟨⟨_,en,rfl⟩,q _ en ⟨_,Heap.get?_push_of_some _ (Heap.get?_push_size _ rfl),rfl,rfl⟩ fun b o x=>Heap.get?_push_of_some _ (Heap.get?_push_of_some _ x)⟩
end
def Ite(K:Zf)(t:Addr):It :=
 ⟨fun i H=>∃ xs x,SqT K H t xs/\xs[i]?=some x,fun i H v H'=>∃ p,H p=none/\v=.ref p/\∀ xs x,SqT K H t xs->xs[i]?=some x->H'=upd H p (.tup [.int i,x]),fun i H=>∃ xs,SqT K H t xs/\xs.length=i⟩
theorem pq{P:Program}{w:World}{K:Zf}{es:List Expr}{kt:Nat}{pt:Pos}{e it t:Addr}(d1:e≠it)(d2:e≠t)(d3:t≠it) :
  Turn P w K (.Tuple es kt pt) (Ite K t) [e,it] e (fun i h=>(∃ old,IsEnum h e it (i:Int) old)/\h.IsTupleIter it t i) where
 mem:=by simp
 obj:=fun i h q b hb=>by
  obtain⟨⟨old,q1⟩,o2,q2,_,q3⟩:=q;simp at hb;rcases hb with rfl | rfl
  ·exact⟨_,q1,fun v z=>by have z':Data.fields _=Data.cell v:=z;cases z'⟩
  ·exact⟨o2,q2,fun v z=>by rw[q3] at z;cases z⟩
 keep:=fun i h h' q kp=>by
  obtain⟨⟨old,q1⟩,o2,q2,q3⟩:=q;exact⟨⟨old,kp e (by simp) _ q1⟩,o2,kp it (by simp) _ q2,q3⟩
 item:=by
  intro X hP hw hK hc i z0 s σ H E I hf q hg;subst hP hw hK;obtain⟨xs,x,hq,hx⟩:=hg;obtain⟨⟨old,q1⟩,q2⟩:=q;obtain⟨its,rv,p,hz⟩:=I.tuple hq;obtain⟨u,hu,ru⟩:=rv.get hx
  have hi:i<its.toArray.size:=by simpa using(List.getElem?_eq_some_iff.mp hu).1
  have D:=vh (prog:=X.prog) (w:=X.w) (A:=X.A.in1) (I.ok.hd hc) it t d3 its.toArray;refine wpAny_pyNext_enum_itemD D q1 ⟨q2,(show s.heap.IsTuple t its.toArray from p)⟩ hi d1 (by simp;exact⟨d1,d2⟩) fun y h' tk hy eo st' new sz kp=>?_
  have ey:y=u:=by
   have:its[i]?=some y:=by simpa using hy
   rw[hu] at this;exact(L2z this).symm
  subst ey
  have szl:2<=sizeLine:=by decide
  have hlt:∀ c∈[e,it],c<s.heap.objs.size:=fun c hc'=>by
   simp at hc';rcases hc' with rfl | rfl
   ·exact H3z q1
   ·obtain⟨o2,q2,_⟩:=q2;exact H3z q2
  have I1:Inv X z0 σ (upd H s.heap.objs.size (.tup [.int i,x])) { s with heap:=h',toks:=tk+1 }:=I.turnedNew (ch:=[e,it]) hf (fun b o hb z=>kp b o (fun q=>hb (by simp[q])) (fun q=>hb (by simp[q])) z) ⟨szl,[.int i tk,y],.cons ⟨tk,rfl⟩ (.cons ru .nil),⟨_,new,rfl,_,rfl⟩⟩;refine⟨_,rfl,wpAny_letOwnedTupleGo_enum (s:={ s with heap:=h',toks:=tk+1 }) eo fun h2 e2 sb=>?_⟩;obtain⟨f0,f1,f2,f3,f4,f5⟩:=hf e (by simp);have I2:Inv X z0 σ (upd H s.heap.objs.size (.tup [.int i,x])) { s with heap:=h2,toks:=tk+1 }:=I1.turned (t':=tk+1) (fun c o hc' z=>(sb.2 c hc').trans z) (by rw[aq (I3z (hlt e (by simp)))];exact f0) f1 f3 f4 f5;refine⟨.ref s.heap.objs.size,_,I2,rfl,⟨_,I.hok.fresh (P3z _),rfl,fun xs' x' a1 a2=>?_⟩,⟨⟨y,by simpa using e2⟩,?_⟩,fun b hb=>by rw[aq (I3z (hlt b hb))];exact(hf b hb).1⟩
  ·have e1:=I.tuple_inj a1 hq
   subst e1;rw[hx] at a2;cases a2;rfl
  ·obtain⟨o3,g1,g2⟩:=st'.1
   exact⟨o3,(sb.2 it d1.symm).trans g1,g2⟩
 done:=by
  intro X hP hw hK hc i z0 s σ H E I hf q hg;subst hP hw hK;obtain⟨xs,hq,hl⟩:=hg;obtain⟨⟨old,q1⟩,q2⟩:=q;obtain⟨its,rv,p,hz⟩:=I.tuple hq
  have hn:its.toArray.size=i:=by rw[T1z,<- rv.length,hl]
  have D:=vh (prog:=X.prog) (w:=X.w) (A:=X.A.in1) (I.ok.hd hc) it t d3 its.toArray;refine wpAny_pyNext_enum_endD D q1 ⟨by rw[hn];exact q2,(show s.heap.IsTuple t its.toArray from p)⟩ fun h' eb=>⟨rfl,?_⟩;obtain⟨f0,f1,f2,f3,f4,f5⟩:=hf it (by simp);exact I.turned (t':=s.toks) (fun b o hb z=>eb b o hb z) f0 f1 f3 f4 f5
 self:=fun _ _ _ _ _ q h=>by obtain⟨⟨old,q1⟩,_⟩:=q;exact wpAny_pyIter_enum q1 h
section
variable {X:Cx}
def Ia(K:Zf)(ta:TA):TI:=fun σ H R=>ta σ H fun vs H1=>∃ a,vs=[.ref a]/\(∃ xs,SqT K H1 a xs)/\R (Ite K a) H1
theorem wj{a:Expr}{ta:TA}{p pos pt:Pos}{es:List Expr}{kt:Nat}(hg:Gl X "enumerate")(hm:X.mg "enumerate"=none)(ha:PA X [a] ta)(hs:starEach [a] X.env=[(false,eval a X.env)]) :
  PI X (.Tuple es kt pt) (.Call (.Name "enumerate" p) [a] [] pos) (Ia X.K ta):=by
 intro z0 s σ H R I h;refine Call_ (cY I hg hm (show bootBuiltins "enumerate"=some (.type "enumerate") by decide +kernel) (A0z (thn (ha pos z0 s σ H _ I h) fun us s1 ⟨vs,H1,I1,r1,q1⟩=>?_) hs rfl));obtain⟨a1,e,⟨xs,hx⟩,q⟩:=q1;subst e
 cases r1 with
 | cons r rr =>
  cases rr;cases (show _=Value.ref a1 from r);obtain⟨its1,rv,p1,hz⟩:=I1.tuple hx;refine oM (show s1.heap.IsTuple a1 its1.toArray from p1) fun h' en ti kp=>?_;refine wpAny_pyIter_enum (s:={ s1 with heap:=h' }) en ?_;have I2:Inv X z0 σ H1 { s1 with heap:=h' }:=I1.kept (t':=s1.toks) kp;have lt1:a1<s1.heap.objs.size:=p1.lt;refine⟨s1.heap.objs.size+1,_,_,_,H1,rfl,I2,pq (Nat.succ_ne_self _) (L3z (V1z lt1)) (I3z lt1),⟨⟨_,en⟩,ti⟩,fun c hc=>?_,q⟩
  have hc':s1.heap.objs.size<=c:=by
   simp at hc
   rcases hc with h | h<;>rw[h]<;>first | exact P3z _ | exact E2z _ _
  exact I1.fpOk hc' (I1.hok.fresh hc')
end
section
variable {X:Cx}
end
section
variable {prog:Program} {w:World} {A:Around} {E:Value->Shared->Prop} {s:Shared}
end
section
variable {X:Cx}
end
section
variable {prog:Program} {w:World} {A:Around} {E:Value->Shared->Prop} {s:Shared}
end
section
variable {X:Cx}
end
section
variable {X:Cx}
end
theorem fV:fillsNumberSlot (.type "tuple") "mul"=pure false :=
 PySem.fillsNumberSlot_seq (id:="tuple.__mul__") (r:=some (.builtin "tuple.__rmul__")) O0z.lookup (by decide +kernel) PySem.F.slot_tuple_rmul.lookup (by decide +kernel)
theorem jK:seqRepeat? (.type "tuple")=pure (some (.builtin "tuple.__mul__")):=by
 unfold seqRepeat?;rw[PySem.seqSlot_of (T:="tuple") (name:="__mul__") (id:="tuple.__mul__") O0z.lookup (by decide +kernel),PySem.seqSlot_of (T:="tuple") (name:="__rmul__") (id:="tuple.__rmul__") PySem.F.slot_tuple_rmul.lookup (by decide +kernel)];rfl
theorem iB(a:Int)(t:Tok)(l:Addr)(items:Array Value)(n:Nat)(dd:Option Addr)(sl:Array (Option Value)) :
  Meets (Builtin.«int.__rmul__» ⟨[.int a t,.ref l],[]⟩) (fun _ R s=>s.heap.get? l=some { cls:=.type "tuple",dict:=dd,data:=.seq items n,slots:=sl }/\R (.ok (.ret Value.notImplemented)) s) :=
 .of_wp fun prog w A R s h=>by obtain⟨hp,g,d,tk,os⟩:=s;obtain⟨hl,h⟩:=h;wp_walk;exact⟨_,rfl,h⟩
theorem nR(l:Addr)(items:Array Value)(n:Nat)(dd:Option Addr)(sl:Array (Option Value))(t:Tok) :
  Meets (Builtin.«tuple.__mul__» ⟨[.ref l,.int 1 t],[]⟩) (fun _ R s=>s.heap.get? l=some { cls:=.type "tuple",dict:=dd,data:=.seq items n,slots:=sl }/\R (.ok (.ret (Value.ref l))) { s with heap:=s.heap,toks:=s.toks }) :=
 .of_wp fun prog w A R s h=>by obtain⟨hp,g,d,tk,os⟩:=s;obtain⟨hl,h⟩:=h;have f1:=F2z;have f2:=F0z;wp_walk using Q2z hl;exact⟨_,rfl,h⟩
theorem nQ(l:Addr)(x:Value)(n:Nat)(dd:Option Addr)(sl:Array (Option Value))(t:Tok) :
  Meets (Builtin.«tuple.__mul__» ⟨[.ref l,.int 2 t],[]⟩) (fun _ R s=>s.heap.get? l=some { cls:=.type "tuple",dict:=dd,data:=.seq #[x] n,slots:=sl }/\R (.ok (.ret (Value.ref s.heap.objs.size))) { s with heap:=s.heap.push { cls:=Value.type "tuple",data:=Data.seq #[x,x] },toks:=s.toks }) :=
 .of_wp fun prog w A R s h=>by obtain⟨hp,g,d,tk,os⟩:=s;obtain⟨hl,h⟩:=h;have f1:=F2z;have f2:=F0z;wp_walk using Q2z hl;exact⟨_,rfl,h⟩
theorem nO(l:Addr)(x:Value)(n:Nat)(dd:Option Addr)(sl:Array (Option Value))(t:Tok) :
  Meets (Builtin.«tuple.__mul__» ⟨[.ref l,.int 3 t],[]⟩) (fun _ R s=>s.heap.get? l=some { cls:=.type "tuple",dict:=dd,data:=.seq #[x] n,slots:=sl }/\R (.ok (.ret (Value.ref s.heap.objs.size))) { s with heap:=s.heap.push { cls:=Value.type "tuple",data:=Data.seq #[x,x,x] },toks:=s.toks }) :=
 .of_wp fun prog w A R s h=>by obtain⟨hp,g,d,tk,os⟩:=s;obtain⟨hl,h⟩:=h;have f1:=F2z;have f2:=F0z;wp_walk using Q2z hl;exact⟨_,rfl,h⟩
theorem nM(l:Addr)(x:Value)(n:Nat)(dd:Option Addr)(sl:Array (Option Value))(t:Tok) :
  Meets (Builtin.«tuple.__mul__» ⟨[.ref l,.int 4 t],[]⟩) (fun _ R s=>s.heap.get? l=some { cls:=.type "tuple",dict:=dd,data:=.seq #[x] n,slots:=sl }/\R (.ok (.ret (Value.ref s.heap.objs.size))) { s with heap:=s.heap.push { cls:=Value.type "tuple",data:=Data.seq #[x,x,x,x] },toks:=s.toks }) :=
 .of_wp fun prog w A R s h=>by obtain⟨hp,g,d,tk,os⟩:=s;obtain⟨hl,h⟩:=h;have f1:=F2z;have f2:=F0z;wp_walk using Q2z hl;exact⟨_,rfl,h⟩
theorem nJ(l:Addr)(x:Value)(n:Nat)(dd:Option Addr)(sl:Array (Option Value))(t:Tok) :
  Meets (Builtin.«tuple.__mul__» ⟨[.ref l,.int 5 t],[]⟩) (fun _ R s=>s.heap.get? l=some { cls:=.type "tuple",dict:=dd,data:=.seq #[x] n,slots:=sl }/\R (.ok (.ret (Value.ref s.heap.objs.size))) { s with heap:=s.heap.push { cls:=Value.type "tuple",data:=Data.seq #[x,x,x,x,x] },toks:=s.toks }) :=
 .of_wp fun prog w A R s h=>by obtain⟨hp,g,d,tk,os⟩:=s;obtain⟨hl,h⟩:=h;have f1:=F2z;have f2:=F0z;wp_walk using Q2z hl;exact⟨_,rfl,h⟩
theorem nT(l:Addr)(x:Value)(n:Nat)(dd:Option Addr)(sl:Array (Option Value))(t:Tok) :
  Meets (Builtin.«tuple.__mul__» ⟨[.ref l,.int 0 t],[]⟩) (fun _ R s=>s.heap.get? l=some { cls:=.type "tuple",dict:=dd,data:=.seq #[x] n,slots:=sl }/\R (.ok (.ret (Value.ref s.heap.objs.size))) { s with heap:=s.heap.push { cls:=.type "tuple",data:=.seq #[] },toks:=s.toks }) :=
 .of_wp fun prog w A R s h=>by obtain⟨hp,g,d,tk,os⟩:=s;obtain⟨hl,h⟩:=h;have f1:=F2z;have f2:=F0z;wp_walk using Q2z hl;exact⟨_,rfl,h⟩
end L2
namespace L2
open PySem PySem.Spec PyProof.Rows PySem.SeqAt
section
variable {X:Cx}
def Cq(K:Zf):R2:=fun x y H Q=>∃ l b us zs,x=.ref l/\y=.ref b/\SqL K H l us/\SqL K H b zs/\us.length+zs.length<=sizeLine/\∀ p,H p=none->Q (.ref p) (upd H p (.lst (us++zs)))
theorem wN:OpR X (binaryOp .Add) (Cq X.K):=by
 intro z0 s σ H x y v u Q I rx ry h;obtain⟨l,b,us,zs,rfl,rfl,hH,hB,hz,q⟩:=h;cases (show v=Value.ref l from rx);cases (show u=Value.ref b from ry);obtain⟨its,r,pl,z1⟩:=I.list hH;obtain⟨its2,r2,pl2,z2⟩:=I.list hB;have e1:=r.length;have e2:=r2.length;obtain⟨⟨c1,d1,w1,t1⟩,n1,o1,hc1,hd1,hs1⟩:=pl;obtain⟨⟨c2,d2,w2,t2⟩,n2,o2,hc2,hd2,hs2⟩:=pl2;simp only at hc1 hs1 hc2 hs2;subst hc1 hs1 hc2 hs2;refine concat_meets ⟨_,o1,rfl⟩ ⟨_,o2,rfl⟩ noFill_list_add seq_list_add PySem.F.slot_list_add PySem.F.entry_list_add (PySem.F.args_list_add_2 _ _) (list_addW l b its.toArray its2.toArray n1 n2 d1 d2 t1 t2 (by rw[T1z,T1z];omega)) ⟨o1,o2,?_⟩;rw[show its.toArray++its2.toArray=(its++its2).toArray by simp];exact⟨.ref _,_,I.lnew (t':=s.toks) (r.append r2) (by rw[K1z];omega),rfl,q _ I.fresh⟩
def Cg(K:Zf):R2:=fun x y H Q=>∃ l k us,x=.ref l/\y=.int k/\SqL K H l us /\ -(2^63)<=k/\k<2^63/\us.length*k.toNat<=sizeLine /\
 ∀ p,H p=none->Q (.ref p) (upd H p (.lst (List.replicate k.toNat us).flatten))
theorem qd:OpR X (binaryOp .Mult) (Cg X.K):=by
 intro z0 s σ H x y v u Q I rx ry h;obtain⟨l,k,us,rfl,rfl,hH,h1,h2,hz,q⟩:=h;cases (show v=Value.ref l from rx);obtain⟨t,rfl⟩:=ry;obtain⟨its,r,pl,z1⟩:=I.list hH;have hl:=r.length;obtain⟨⟨c1,d1,w1,t1⟩,n1,e,hc1,hd1,hs1⟩:=pl;simp only at hc1 hs1;subst hc1 hs1
 have a1:its.toArray.size*k.toNat<=sizeLine:=by rw[T1z,<- hl];exact hz
 have a2:¬ its.toArray.size*k.toNat>(2^63-1) / 8:=by
  have:(sizeLine:Nat)<=(2^63-1) / 8:=by decide
  omega
 have a3:¬ (!Builtin.List.listFitsIndex k)=true:=by rw[fitsIndex_both h1 h2];exact L1z
 have a4:¬ Builtin.List.listTooLong (its.toArray.size*k.toNat)=true:=by rw[jc a1];exact L1z
 have a5:List.foldl (fun x1 x2=>x1++x2) #[] (List.replicate (if its.toArray.isEmpty=true then 0 else k.toNat) its.toArray)=(List.replicate k.toNat its).flatten.toArray:=by
  have f0:∀ m:Nat,List.foldl (fun x1 x2=>x1++x2) #[] (List.replicate m its.toArray)=(List.replicate m its).flatten.toArray:=fun m=>(foldl_rep its m []).trans (by rw[List.nil_append]);rw[f0]
  cases its with
  | nil=>simp
  | cons a r'=>rw[F4z (by simp)]
 refine wpAny_binaryOp_repeat_ref (T:="list") (U:="int") (by decide) ⟨_,e,rfl⟩ (fun s'=>typeIs_int s' k t) noFill_list_mul F.fills_int_mul F.slot_int_rmul repeat_list F.slot_int_index.lookup ?_;refine V3z F.slot_int_rmul (typeIs_int s k t) F.entry_int_rmul (F.args_int_rmul_2 _ _) (lm_int_rmul_list_any k t l its.toArray n1 d1 t1) ⟨e,rfl,⟨_,e,rfl⟩,?_⟩;refine V3z F.slot_list_mul ⟨_,e,rfl⟩ F.entry_list_mul (F.args_list_mul_2 _ _) (lm_list_mul_any l its.toArray n1 d1 t1 k t a3 a2 a4) ⟨e,?_⟩;rw[a5];exact⟨.ref _,_,I.lnew (t':=s.toks) (r.rep k.toNat) (by rw[len_rep,Nat.mul_comm];exact hz),rfl,q _ I.fresh⟩
end
section
variable {X:Cx}
end
section
variable {prog:Program} {w:World} {A:Around} {E:Value->Shared->Prop} {s:Shared}
end
section
variable {X:Cx}
end
end L2
namespace HT
open PySem PySem.Spec PyProof.Rows PySem.SeqAt L2
section
variable {prog:Program} {w:World} {A:Around} {E:Value->Shared->Prop} {s:Shared}
end
end HT
namespace L2
open PySem PyProof.Rows
section
variable {X:Cx}
end
end L2
namespace DE
open PySem
inductive D where
 | non | bl (b:Bool) | int (i:Int) | str (x:Str) | tup (xs:List D) | lst (xs:List D)
 | exc (c:Str)
 | dic (ks:List (Sum Int Str)) (xs:List D)
 deriving Inhabited
inductive Sl where
 | no | sh (d:D) | ow (ds:List D) | oo (dss:List (List D))
 deriving Inhabited
abbrev Rho:=List (Str×Sl)
inductive Fl where
 | nxt (ρ:Rho) | ret (d:D)
 deriving Inhabited
def b2i(b:Bool):Int:=if b then 1 else 0
mutual
def deq:D->D->Bool
 | .non,.non=>true
 | .bl a,.bl b=>a==b
 | .bl a,.int j=>b2i a==j
 | .int i,.bl b=>i==b2i b
 | .int i,.int j=>i==j
 | .str x,.str y=>x==y
 | .tup xs,.tup ys=>jY xs ys
 | .lst xs,.lst ys=>jY xs ys
 | _,_=>false
def jY:List D->List D->Bool
 | [],[]=>true
 | x::xs,y::ys=>deq x y&&jY xs ys
 | _,_=>false
end
mutual
def dep:D->Nat
 | .tup xs=>deps xs+1
 | .lst xs=>deps xs+1
 | .exc _=>1000
 | .dic _ _=>1000
 | _=>0
def deps:List D->Nat
 | []=>0
 | x::xs=>max (dep x) (deps xs)
end
def asB:D->Option Bool
 | .bl b=>some b
 | _=>none
def asI:D->Option Int
 | .int i=>some i
 | _=>none
def items:D->Option (List D)
 | .tup xs=>some xs
 | .lst xs=>some xs
 | _=>none
def Kf:D->Option (List D)
 | .lst xs=>some xs
 | _=>none
def tupI:D->Option (List D)
 | .tup xs=>some xs
 | _=>none
def lY:List D->Option (List Int)
 | []=>some []
 | .int i::r=>(lY r).map (i::·)
 | _=>none
def oR:List D->Option (List Bool)
 | []=>some []
 | .bl i::r=>(oR r).map (i::·)
 | _=>none
def small(i:Int):Bool:=decide (-(2^64)<i)&&decide (i<2^64)
def mid(i:Int):Bool:=decide (i.natAbs.log2<10000)
def szl(n:Nat):Bool:=decide (n<=100000)
def yZ:List D->Int->Option D
 | [x],j=>if decide (0<=j)&&decide (j<=5) then some (.tup (List.replicate j.toNat x)) else none
 | _,_=>none
def binop:Operator->D->D->Option D
 | .Add,.int i,.int j=>some (.int (i+j))
 | .Add,.tup xs,.tup ys=>if szl (xs.length+ys.length) then some (.tup (xs++ys)) else none
 | .Add,.lst xs,.lst ys=>if szl (xs.length+ys.length) then some (.lst (xs++ys)) else none
 | .Sub,.int i,.int j=>some (.int (i-j))
 | .Mult,.int i,.int j=>if small i||small j||(mid i&&mid j) then some (.int (i*j)) else none
 | .Mult,.lst xs,.int j=>if decide (j<=1000)&&decide (-1000<=j)&&szl (xs.length*j.toNat) then some (.lst (List.replicate j.toNat xs).flatten) else none
 | .Mult,.tup xs,.int j=>yZ xs j
 | .FloorDiv,.int i,.int j=>if decide (0<j)&&decide (j<1073741824) then some (.int (i / j)) else if decide (j≠0)&&decide (j.natAbs.log2<9000) then some (.int (i.fdiv j)) else none
 | .Mod,.int i,.int j=>if decide (0<j) then some (.int (i%j)) else if decide (j≠0) then some (.int (i.fmod j)) else none
 | _,_,_=>none
def lX:List D->Option (List Str)
 | []=>some []
 | .str i::r=>(lX r).map (i::·)
 | _=>none
def inS(x:D)(ys:List D):Option Bool:=(lX ys).bind fun ss=>if decide (dep x<=50) then some (ss.any fun t=>deq (.str t) x) else none
def inT(x:D)(ys:List D):Option Bool:=match asI x,lY ys with
 | some i,some ns=>some (ns.any (· ==i))
 | _,_=>inS x ys
def Bl:D->Option (Sum Int Str)
 | .int i=>some (.inl i)
 | .str x=>some (.inr x)
 | _=>none
def yC(ks:List (Sum Int Str))(ds:List D)(k:Sum Int Str):Option D:=((ks.zip ds).find? fun q=>decide (q.1=k)).map (·.2)
def w6:D->Bool
 | .non=>true
 | _=>false
def cmpop:CmpOp->D->D->Option D
 | .Eq,x,y=>if decide (dep x<=50)&&decide (dep y<=50) then some (.bl (deq x y)) else none
 | .NotEq,x,y=>if decide (dep x<=50)&&decide (dep y<=50) then some (.bl (!deq x y)) else none
 | .Lt,.int i,.int j=>some (.bl (decide (i<j)))
 | .LtE,.int i,.int j=>some (.bl (decide (i<=j)))
 | .Gt,.int i,.int j=>some (.bl (decide (j<i)))
 | .GtE,.int i,.int j=>some (.bl (decide (j<=i)))
 | .Is,x,.non=>some (.bl (w6 x))
 | .IsNot,x,.non=>some (.bl (!w6 x))
 | .Is,.bl a,.bl b=>some (.bl (a==b))
 | .IsNot,.bl a,.bl b=>some (.bl (!(a==b)))
 | .In,x,.tup ys=>(inT x ys).map fun b=>.bl b
 | .NotIn,x,.tup ys=>(inT x ys).map fun b=>.bl (!b)
 | _,_,_=>none
def ixD(n:Nat)(i:Int):Option Nat:=if 0<=i then(if i<n then some i.toNat else none) else if -(n:Int)<=i then some (i+n).toNat else none
def atD(xs:List D)(i:Int):Option D:=(ixD xs.length i).bind fun j=>xs[j]?
def Bf:D->D->Option D
 | .tup xs,.int i=>atD xs i
 | .lst xs,.int i=>atD xs i
 | .dic ks ds,y=>(Bl y).bind (yC ks ds)
 | _,_=>none
mutual
def dZ:D->Bool
 | .non=>true
 | .bl _=>true
 | .int _=>true
 | .str _=>true
 | .tup ds=>mY ds
 | _=>false
def mY:List D->Bool
 | []=>true
 | d::r=>dZ d&&mY r
end
def Bm:String->D->Bool
 | "int",.int _=>true
 | "int",.bl _=>true
 | "bool",.bl _=>true
 | "tuple",.tup _=>true
 | "list",.lst _=>true
 | "str",.str _=>true
 | _,_=>false
def LR:Expr->Option Int
 | .Constant (.int c) _ _=>some c
 | _=>none
def HJ(k:Keyword):Option Int:=if k.arg==some "default" then LR k.value else none
def blt:String->List D->Option D
 | "len",[d]=>do let l <- items d;some (.int l.length)
 | "all",[.lst xs]=>do let bs <- oR xs;some (.bl (bs.all id))
 | "tuple",[d]=>do let l <- items d;some (.tup l)
 | "list",[d]=>do let l <- items d;some (.lst l)
 | "abs",[.int i]=>some (.int (if i<0 then -i else i))
 | "int",[.bl b]=>some (.int (b2i b))
 | "int",[.int i]=>some (.int i)
 | _,_=>none
structure Cxt where
 cst:List (Str×D)
 blt:List (Str×String)
 fns:List Str
 exs:List Str
 top:Str
 rs:Bool
 call:Str->List D->Option D
 callx:Str->List D->Option Str
def isExc:D->Bool
 | .exc _=>true
 | .dic _ _=>true
 | _=>false
def oW(top c c':Str):Bool:=c==c'||c'==top
noncomputable def kW(scope sc:Scope):Scope :=
 { scope with names:=scope.names.map fun(n,k)=>if(k==.free&&sc.kind==.function&&sc.names.lookup n==some .cell) then(n,.cell) else(n,k) }
def yD:Option Sl->Sl
 | some (.sh d)=>.sh d
 | _=>.no
def bB(scope:Scope)(ρ:Rho):Rho:=scope.names.map fun p=>(p.1,if p.2==.free then yD (ρ.lookup p.1) else .no)
def gH:List Str->Bool
 | []=>true
 | x::r => !r.contains x&&gH r
def fu(sc scope:Scope):Bool :=
 scope.kind==.function&&gH (scope.names.map (·.1))&&scope.names.all fun p=>p.2 !=.free||sc.names.lookup p.1==some .cell||sc.names.lookup p.1==some .free
def bV:Rho->Str->Sl->Rho
 | [],_,_=>[]
 | (y,s)::r,x,v=>if x==y then(y,v)::r else(y,s)::bV r x v
def au(x:Str):Bool:=x !="__debug__"&&x !="__classdict__"
def ownIn(scope:Scope)(x:Str):Bool:=scope.names.lookup x==some .local||scope.names.lookup x==some .cell
def bindNames(scope:Scope):List Expr->List D->Rho->Option Rho
 | [],[],ρ=>some ρ
 | .Name x _::es,d::ds,ρ=>if ownIn scope x&&(ρ.map (·.1)).contains x then bindNames scope es ds (bV ρ x (.sh d)) else none
 | _,_,_=>none
def fL(scope:Scope):Expr->D->Rho->Option Rho
 | .Name x _,d,ρ=>if ownIn scope x&&(ρ.map (·.1)).contains x then some (bV ρ x (.sh d)) else none
 | .Tuple es _ _,.tup ds,ρ=>bindNames scope es ds ρ
 | _,_,_=>none
def lN(cx:Cxt)(sc:Scope)(x:Str):Bool:=sc.names.lookup x==some .globalImplicit
def aU(cx:Cxt)(sc:Scope)(x:Str):Option String:=if lN cx sc x then cx.blt.lookup x else none
def cB(f:D->Option (Option D)):List D->Option (List D)
 | []=>some []
 | x::r=>do
  match <- f x with
  | some v=>(cB f r).map (v::·)
  | none=>cB f r
def bK(lo hi:Int):List D:=(List.range (hi-lo).toNat).map fun(k:Nat)=>.int (lo+(k:Int))
def iD(f:Expr->Option D):List Expr->Option (List D)
 | []=>some []
 | e::r=>do let d <- f e;let ds <- iD f r;some (d::ds)
def fC(op:BoolOp)(f:Expr->Option D):List Expr->Option D
 | []=>none
 | [e]=>f e
 | e::e'::r=>do
  let d <- f e
  let b <- asB d
  match op with
  | .And=>if b then fC op f (e'::r) else some (.bl false)
  | .Or=>if b then some (.bl true) else fC op f (e'::r)
def cL(i:Int):Bool:=decide (-(2^62)<=i)&&decide (i<2^62)
def dW:Expr->Bool
 | .Tuple .. =>true
 | _=>false
inductive Wk where
 | r1 (a:Expr) | r2 (a b:Expr) | r3 (a b c:Expr) | zp (a b:Expr) | rv (a:Expr) | en (a:Expr) | sq
def vB(cx:Cxt)(sc:Scope):Expr->Wk
 | .Call (.Name x _) args [] _=>(match aU cx sc x with
  | some "range"=>(match args with | [a]=>.r1 a | [a,b]=>.r2 a b | [a,b,c]=>.r3 a b c | _=>.sq)
  | some "zip"=>(match args with | [a,b]=>.zp a b | _=>.sq)
  | some "reversed"=>(match args with | [a]=>.rv a | _=>.sq)
  | some "enumerate"=>(match args with | [a]=>.en a | _=>.sq)
  | _=>.sq)
 | _=>.sq
def enD(xs:List D):List D:=xs.zipIdx.map fun q=>.tup [.int (q.2:Int),q.1]
def Bb:D->D->Option (List D)
 | .tup xs,.tup ys=>some ((xs.zip ys).map fun q=>.tup [q.1,q.2])
 | .lst xs,.lst ys=>if true then none else none
 | .lst xs,.tup ys=>if true then none else none
 | .tup xs,.lst ys=>if true then none else none
 | _,_=>none
def evI(cx:Cxt)(tup:Bool)(f:Expr->Option D)(sc:Scope)(e:Expr):Option (List D):=match vB cx sc e with
 | .r1 a=>do let j <- (f a).bind asI;if cL j then some (bK 0 j) else none
 | .r2 a b=>do let i <- (f a).bind asI;let j <- (f b).bind asI;if cL i&&cL j then some (bK i j) else none
 | .r3 a b c=>if true then none else none
 | .zp a b=>do let x <- f a;let y <- f b;if tup then Bb x y else none
 | .rv a=>if true then none else none
 | .en a=>do let x <- f a;if tup then(tupI x).map enD else none
 | .sq=>(f e).bind items
inductive Wc where
 | lr1 (a:Expr) | lr2 (a b:Expr) | tv (a:Expr) | ls (a:Expr) | tr1 (a:Expr) | al
def Iw(cx:Cxt)(sc:Scope):Expr->Option Expr
 | .Call (.Name y _) [a] [] _=>if aU cx sc y==some "set" then some a else none
 | _=>none
def uI(cx:Cxt)(sc:Scope)(b:String)(args:List Expr):Wc:=match args with
 | [e]=>(match b,vB cx sc e with
  | "list",.r1 a=>.lr1 a
  | "list",.r2 a b=>.lr2 a b
  | "tuple",.rv a=>.tv a
  | "tuple",.r1 a=>.tr1 a
  | "len",.sq=>(match Iw cx sc e with | some a=>.ls a | none=>.al)
  | _,_=>.al)
 | _=>.al
def gk:String->Bool
 | "int"=>true
 | "bool"=>true
 | "tuple"=>true
 | "list"=>true
 | "str"=>true
 | _=>false
def tyOf(cx:Cxt)(sc:Scope):Expr->Option String
 | .Name x _=>aU cx sc x
 | _=>none
def xOf(cx:Cxt)(sc:Scope):Expr->Option Str
 | .Name x _=>if lN cx sc x&&(cx.exs.contains x||x==cx.top)&&au x then some x else none
 | _=>none
def cntB(b:Bool)(bs:List Bool):Nat:=(bs.filter (· ==b)).length
def oA(f:Expr->Option D):List Expr->Option Bool
 | []=>some true
 | [c]=>(f c).bind asB
 | _=>none
def jf(m:Str):D->D->Option D
 | .lst xs,.bl b=>do
  let bs <- oR xs
  if m=="count" then some (.int (cntB b bs)) else if m=="index"&&bs.contains b then some (.int (bs.idxOf b)) else none
 | .lst xs,.int i=>do
  let ns <- lY xs
  if m=="count" then some (.int ((ns.filter (· ==i)).length:Nat)) else none
 | _,_=>none
def aA:Expr->Bool
 | .Starred .. =>false
 | .Set .. =>false
 | .Slice .. =>false
 | _=>true
def ev(cx:Cxt):Nat->Scope->Rho->Expr->Option D
 | 0,_,_,_=>none
 | n+1,sc,ρ,e=>match e with
  | .Name x _=>if au x then(match sc.names.lookup x with
    | some .local=>(match ρ.lookup x with | some (.sh d)=>some d | _=>none)
    | some .cell=>(match ρ.lookup x with | some (.sh d)=>some d | _=>none)
    | some .free=>(match ρ.lookup x with | some (.sh d)=>some d | _=>none)
    | some .globalImplicit=>cx.cst.lookup x
    | _=>none) else none
  | .Constant c _ _=>(match c with
    | .none=>some .non
    | .bool b=>some (.bl b)
    | .int i=>some (.int i)
    | .str x=>some (.str x)
    | _=>none)
  | .BinOp a op b _=>do let x <- ev cx n sc ρ a;let y <- ev cx n sc ρ b;binop op x y
  | .UnaryOp op a _=>do
    let x <- ev cx n sc ρ a
    match op with
    | .USub=>(asI x).map fun i=>.int (-i)
    | .Not=>(asB x).map fun b=>.bl (!b)
    | _=>none
  | .BoolOp op es _=>fC op (ev cx n sc ρ) es
  | .Compare a ops bs _=>(match ops,bs with
    | [op],[b]=>do let x <- ev cx n sc ρ a;let y <- ev cx n sc ρ b;cmpop op x y
    | [op,op'],[b,c]=>if !aA c then none else do
     let x <- ev cx n sc ρ a
     let y <- ev cx n sc ρ b
     let k <- (cmpop op x y).bind asB
     if k then do let z <- ev cx n sc ρ c;cmpop op' y z else some (.bl false)
    | _,_=>none)
  | .IfExp c a b _=>do
    let k <- (ev cx n sc ρ c).bind asB
    if k then ev cx n sc ρ a else ev cx n sc ρ b
  | .Tuple es _ _=>do let ds <- iD (ev cx n sc ρ) es;if szl ds.length then some (.tup ds) else none
  | .List es _=>do let ds <- iD (ev cx n sc ρ) es;if szl ds.length then some (.lst ds) else none
  | .Subscript a b _=>do
    let x <- ev cx n sc ρ a
    match b with
    | .Slice .. =>if true then none else none
    | b=>do
     let y <- ev cx n sc ρ b
     Bf x y
  | .Call f args kws p=>(match f,kws with
    | .Name x _,[] =>
     if lN cx sc x then
      match cx.blt.lookup x with
      | some "isinstance"=>(match args with
       | [a,t]=>do
        let d <- ev cx n sc ρ a
        match xOf cx sc t with
        | some c'=>(match d with | .exc c=>if cx.exs.contains c then some (.bl (oW cx.top c c')) else none | _=>none)
        | none=>do
         let ty <- tyOf cx sc t
         match d with
         | .exc c=>if cx.exs.contains c&&ty=="ValueError" then some (.bl true) else none
         | .dic _ _=>none
         | d=>if gk ty then some (.bl (Bm ty d)) else none
       | _=>none)
      | some b=>(match uI cx sc b args with
       | .lr1 a=>do let j <- (ev cx n sc ρ a).bind asI;if cL j&&szl j.toNat then some (.lst (bK 0 j)) else none
       | .lr2 a a'=>do let i <- (ev cx n sc ρ a).bind asI;let j <- (ev cx n sc ρ a').bind asI;if cL i&&cL j&&szl (j-i).toNat then some (.lst (bK i j)) else none
       | .tr1 a=>if true then none else none
       | .tv a=>if true then none else none
       | .ls a=>if true then none else none
       | .al=>if args.isEmpty then none else do let ds <- iD (ev cx n sc ρ) args;blt b ds)
      | none=>if cx.fns.contains x && !args.isEmpty then do let ds <- iD (ev cx n sc ρ) args;cx.call x ds else none
     else none
    | .Name x _,[k]=>(match args with
     | [a]=>if aU cx sc x==some "max" then none else none
     | _=>none)
    | .Attribute (.Name y py) m ap,[]=>(match args with
     | [e]=>if ap.endLine==p.line then do
       let x <- ev cx n sc ρ (.Name y py)
       let z <- ev cx n sc ρ e
       jf m x z else none
     | _=>none)
    | .Attribute (.Dict ks vs dp) m ap,[]=>if true then none else none
    | .Subscript (.List es _) ix _,[]=>if true then none else none
    | _,_=>none)
  | .ListComp elt gens scope _=>(match gens with
    | [⟨tg,iter,ifs,a⟩]=>if a==0&&fu sc scope then do
      let l <- evI cx (dW tg) (ev cx n sc ρ) sc iter
      if szl l.length then do
       let out <- cB (fun d=>do
        let ρ1 <- fL scope tg d (bB scope ρ)
        let b <- oA (ev cx n (kW scope sc) ρ1) ifs
        if b then(ev cx n (kW scope sc) ρ1 elt).map some else some none) l
       some (.lst out)
      else none
     else none
    | _=>none)
  | _=>none
def rN(f:Expr->Option D)(g:Expr->Option Str):List Expr->Option Str
 | []=>none
 | e::r=>match f e with
  | some _=>rN f g r
  | none=>g e
def evx(cx:Cxt):Nat->Scope->Rho->Expr->Option Str
 | 0,_,_,_=>none
 | n+1,sc,ρ,e=>match e with
  | .Call (.Name x _) args [] _=>if lN cx sc x && !args.isEmpty&&args.all aA&&cx.fns.contains x then
    (match iD (ev cx n sc ρ) args with
    | some ds=>cx.callx x ds
    | none=>rN (ev cx n sc ρ) (evx cx n sc ρ) args)
   else none
  | .Call (.Subscript (.List es _) ix _) args [] _=>if true then none else none
  | .Call (.Name x _) [a] [k] _=>if aU cx sc x==some "max"&&(HJ k).isSome&&aA a then evx cx n sc ρ a else none
  | .IfExp c a b _=>(match (ev cx n sc ρ c).bind asB with
   | some true=>evx cx n sc ρ a
   | some false=>evx cx n sc ρ b
   | none=>none)
  | .Compare a [_] [b] _=>if aA b then evx cx n sc ρ a else none
  | .ListComp _ [⟨_,iter,_,a⟩] scope _=>if a==0&&fu sc scope&&aA iter then evx cx n sc ρ iter else none
  | _=>none
def cZ:Nat->Str->Expr->Bool
 | 0,_,_=>true
 | n+1,x,e=>match e with
  | .Name y _=>x==y
  | .Constant .. =>false
  | .BinOp a _ b _=>cZ n x a||cZ n x b
  | .UnaryOp _ a _=>cZ n x a
  | .BoolOp _ es _=>es.any (cZ n x)
  | .Compare a _ bs _=>cZ n x a||bs.any (cZ n x)
  | .IfExp c a b _=>cZ n x c||cZ n x a||cZ n x b
  | .Tuple es _ _=>es.any (cZ n x)
  | .List es _=>es.any (cZ n x)
  | .Subscript a b _=>cZ n x a||cZ n x b
  | .Slice lo hi st _=>(lo.map (cZ n x)).getD false||(hi.map (cZ n x)).getD false||(st.map (cZ n x)).getD false
  | .Call f args kws _=>cZ n x f||args.any (cZ n x) || !kws.isEmpty
  | .ListComp elt gens _ _=>cZ n x elt||gens.any fun g=>cZ n x g.iter||g.ifs.any (cZ n x)
  | _=>true
def frz(n:Nat)(e:Expr)(ρ:Rho):Rho:=ρ.map fun p=>match p.2 with
 | .ow ds=>if cZ n p.1 e then(p.1,.sh (.lst ds)) else p
 | .oo dss=>if cZ n p.1 e then(p.1,.sh (.lst (dss.map .lst))) else p
 | _=>p
noncomputable def isL:Expr->Bool
 | .List .. =>true
 | _=>false
def Kh:Operator->Bool
 | .Mult=>true
 | _=>false
def aR:Expr->Bool
 | .List .. =>true
 | .ListComp .. =>true
 | .BinOp a op _ _=>isL a&&Kh op
 | _=>false
def rD:Sl->Bool
 | .no=>true
 | .sh _=>true
 | _=>false
def Lq:Sl->Bool
 | .oo _=>true
 | _=>false
def tH(ρ:Rho)(x:Str):Bool:=ρ.all fun p=>p.1==x||rD p.2
def rR(ρ:Rho)(x:Str):Bool:=ρ.all fun p=>p.1==x || !Lq p.2
def Bk(cx:Cxt)(sc:Scope):Expr->Bool
 | .Name y _=>au y&&sc.names.lookup y==some .local
 | .Call (.Name f _) _ [] _=>lN cx sc f&&(cx.blt.lookup f).isNone
 | _=>false
def Bh(cx:Cxt)(sc:Scope):Expr->Bool
 | .Call (.Name l _) [y] [] _=>aU cx sc l==some "list"&&Bk cx sc y
 | .ListComp .. =>true
 | _=>false
def yF(cx:Cxt)(sc:Scope):Expr->Bool
 | .Call (.Name l _) [y] [] _=>aU cx sc l==some "list"&&Bk cx sc y
 | _=>false
def ooE(cx:Cxt)(sc:Scope):Expr->Bool
 | .ListComp elt [⟨.Name _ _,_,[],_⟩] scope _=>Bh cx (kW scope sc) elt
 | _=>false
def yE:List D->Option (List (List D))
 | []=>some []
 | .lst ds::r=>(yE r).map (ds::·)
 | _=>none
def zX:D->Option (List (List D))
 | .lst ds=>yE ds
 | _=>none
def Il(x:Str):Expr->Option (Expr×Expr)
 | .BinOp (.Subscript (.Name y _) i _) .Add e _=>if x==y then some (i,e) else none
 | _=>none
def jJ(e:Expr)(d:D):Sl:=match d with
 | .lst ds=>if aR e then .ow ds else .sh (.lst ds)
 | d=>.sh d
def nc0:Expr->Bool
 | .Call .. =>true
 | .Name x _=>x !="__debug__"
 | .IfExp .. =>true
 | .ListComp .. =>true
 | .Compare .. =>true
 | _=>false
def nc1:Expr->Bool
 | .Subscript v _ _=>nc0 v
 | e=>nc0 e
def nc:Expr->Bool
 | .Subscript v i _=>nc0 v||nc0 i
 | .BinOp l _ r _=>nc1 l||nc1 r
 | e=>nc0 e
def tY:Expr->Bool
 | .Constant .. =>true
 | _=>false
def swp(sc:Scope)(ts:List Expr)(value:Expr):Option Bool:=match value with
 | .Tuple vs _ _=>(match ts,vs with
  | [.Name x px,.Name y py],[a,b] =>
   if sc.names.lookup x==some .local&&sc.names.lookup y==some .local then
    (if px.line==py.line&&x !=y&&(nc a||nc b)&&aA a&&aA b then some true else if tY a&&tY b then some false else none)
   else some false
  | [.Name x _,.Name y _,.Name z _],[_,_,_]=>if sc.names.lookup x==some .cell&&sc.names.lookup y==some .cell&&sc.names.lookup z==some .cell then some false else none
  | _,_=>none)
 | _=>some false
def rdA:Expr->Bool
 | .Call (.Name _ _) [.Subscript _ _ _,.Subscript _ _ _] [] _=>true
 | _=>false
def gO(f:D->Rho->Option Fl):List D->Rho->Option Fl
 | [],ρ=>some (.nxt ρ)
 | x::r,ρ=>do
  match <- f x ρ with
  | .ret d=>some (.ret d)
  | .nxt ρ'=>gO f r ρ'
def fD(f:Rho->Stmt->Option Fl):List Stmt->Rho->Option Fl
 | [],ρ=>some (.nxt ρ)
 | s::r,ρ=>do
  match <- f ρ s with
  | .ret d=>some (.ret d)
  | .nxt ρ'=>fD f r ρ'
def ql:Expr->Option Expr
 | .UnaryOp .Not (.Call f as ks p) _=>some (.Call f as ks p)
 | _=>none
def lq(f:Rho->Stmt->Option Fl)(g:Rho->Stmt->Option (Str×Rho)):List Stmt->Rho->Option (Str×Rho)
 | [],_=>none
 | s::r,ρ=>match f ρ s with
  | some (.nxt ρ')=>lq f g r ρ'
  | some (.ret _)=>none
  | none=>g ρ s
mutual
def st(cx:Cxt)(F:Nat):Nat->Scope->Rho->Stmt->Option Fl
 | 0,_,_,_=>none
 | n+1,sc,ρ,s=>match s with
  | .Pass _=>some (.nxt ρ)
  | .Return v _=>(match v with
    | none=>some (.ret .non)
    | some e=>(ev cx F sc (frz F e ρ) e).map .ret)
  | .Assign tgs e _=>(match tgs with
    | [.Name x _]=>if ownIn sc x&&(ρ.map (·.1)).contains x then
      (if ooE cx sc e&&tH (frz F e ρ) x then(ev cx F sc (frz F e ρ) e).bind fun d=>(zX d).map fun dss=>.nxt (bV (frz F e ρ) x (.oo dss))
      else if yF cx sc e&&rR (frz F e ρ) x then(ev cx F sc (frz F e ρ) e).bind fun d=>(Kf d).map fun ds=>.nxt (bV (frz F e ρ) x (.ow ds))
      else if aR e && !rR (frz F e ρ) x then(if rR (frz F e (frz 0 e ρ)) x then(ev cx F sc (frz F e (frz 0 e ρ)) e).map fun d=>.nxt (bV (frz F e (frz 0 e ρ)) x (jJ e d)) else none)
      else if rdA e then(ev cx F sc (frz F e ρ) e).bind fun d=>if dZ d then some (.nxt (bV ρ x (.sh d))) else none
      else(ev cx F sc (frz F e ρ) e).map fun d=>.nxt (bV (frz F e ρ) x (jJ e d))) else none
    | [.Tuple es _ _]=>if(swp sc es e).isSome||false then do
      let d <- ev cx F sc (frz F e ρ) e
      let l <- items d
      (bindNames sc es l (frz F e ρ)).map .nxt
     else none
    | [.Subscript t ie _]=>(match t with
     | .Name x _=>(match Il x e with
      | some (i2,e2)=>if true then none else none
      | none=>(match (frz F ie (frz F e ρ)).lookup x with
       | some (.ow ds)=>if ownIn sc x&&au x && !aR e then do
         let d <- ev cx F sc (frz F ie (frz F e ρ)) e
         let j <- (ev cx F sc (frz F ie (frz F e ρ)) ie).bind asI
         let n <- ixD ds.length j
         some (.nxt (bV (frz F ie (frz F e ρ)) x (.ow (ds.set n d))))
        else none
       | some (.sh _)=>(match ρ.lookup x with
        | some (.ow ds)=>if ownIn sc x&&au x && !aR e then do
          let d <- ev cx F sc (frz F e ρ) e
          let j <- (ev cx F sc (frz F e ρ) ie).bind asI
          let n <- ixD ds.length j
          if dZ d then some (.nxt (bV ρ x (.ow (ds.set n d)))) else none
         else none
        | _=>none)
       | _=>none))
     | .Subscript (.Name x _) i1 _=>(match ρ.lookup x with
      | some (.oo dss)=>if ownIn sc x&&au x && !aR e then do
        let d <- ev cx F sc (frz F e ρ) e
        let j1 <- (ev cx F sc (frz F i1 ρ) i1).bind asI
        let n1 <- ixD dss.length j1
        let ds <- dss[n1]?
        let j2 <- (ev cx F sc (frz F ie ρ) ie).bind asI
        let n2 <- ixD ds.length j2
        if dZ d then some (.nxt (bV ρ x (.oo (dss.set n1 (ds.set n2 d))))) else none
       else none
      | _=>none)
     | _=>none)
    | _=>none)
  | .Expr v _=>(match v with
    | .Call (.Attribute (.Name x _) m ap) [e] [] cp=>(match (frz F e ρ).lookup x with
      | some (.ow ds)=>if ownIn sc x&&au x&&ap.endLine==cp.line then
        if m=="append"&&szl (ds.length+1) then(ev cx F sc (frz F e ρ) e).map fun d=>.nxt (bV (frz F e ρ) x (.ow (ds++[d])))
        else if m=="extend" then do
         let d <- ev cx F sc (frz F e ρ) e
         (match d with
         | .lst zs=>if szl (ds.length+zs.length) then some (.nxt (bV (frz F e ρ) x (.ow (ds++zs)))) else none
         | .tup zs=>if szl (ds.length+zs.length) then some (.nxt (bV (frz F e ρ) x (.ow (ds++zs)))) else none
         | _=>none)
        else none
       else none
      | some (.sh _)=>(match ρ.lookup x with
       | some (.ow ds)=>if ownIn sc x&&au x&&ap.endLine==cp.line&&(m=="append"&&szl (ds.length+1)) then do
         let d <- ev cx F sc (frz F e ρ) e
         if dZ d then some (.nxt (bV ρ x (.ow (ds++[d])))) else none
        else none
       | _=>none)
      | _=>none)
    | .ListComp .. =>none
    | .Constant .. =>none
    | e=>(ev cx F sc (frz F e ρ) e).map fun _=>.nxt (frz F e ρ))
  | .If c a b _=>do
    let k <- (ev cx F sc (frz F c ρ) c).bind asB
    if k then fD (fun ρ s=>st cx F n sc ρ s) a ρ else fD (fun ρ s=>st cx F n sc ρ s) b ρ
  | .For tg iter body orelse _=>(match orelse with
    | []=>do
     let l <- evI cx (dW tg) (ev cx F sc (frz F iter ρ)) sc iter
     gO (fun d ρ=>do let ρ1 <- fL sc tg d ρ;fD (fun ρ s=>st cx F n sc ρ s) body ρ1) l (frz F iter ρ)
    | _=>none)
  | .While c body orelse _=>(match orelse with
    | []=>if true then none else none
    | _=>none)
  | _=>none
def stx(cx:Cxt)(F:Nat):Nat->Scope->Rho->Stmt->Option (Str×Rho)
 | 0,_,_,_=>none
 | n+1,sc,ρ,s=>match s with
  | .Raise (some (.Call (.Name c _) [.Constant (.str _) _ _] [] _)) none _=>if cx.rs&&lN cx sc c&&cx.exs.contains c&&au c then some (c,ρ) else none
  | .Expr e _=>if aR e then none else(evx cx F sc (frz F e ρ) e).map fun c=>(c,frz F e ρ)
  | .Return (some e) _=>(evx cx F sc (frz F e ρ) e).map fun c=>(c,frz F e ρ)
  | .Assign [.Name _ _] e _=>if aR e then none else(evx cx F sc (frz F e ρ) e).map fun c=>(c,frz F e ρ)
  | .If c a b _=>(match (ev cx F sc (frz F c ρ) c).bind asB with
    | some k=>lq (fun ρ s=>st cx F n sc ρ s) (fun ρ s=>stx cx F n sc ρ s) (if k then a else b) (frz F c ρ)
    | none=>(match ql c with
     | some e=>(evx cx F sc (frz F c ρ) e).map fun x=>(x,frz F c ρ)
     | none=>none))
  | .For _ iter _ [] _=>if aA iter then(evx cx F sc (frz F iter ρ) iter).map fun c=>(c,frz F iter ρ) else none
  | _=>none
end
structure Fd where
 ps:List Str
 N:List Str
 sc:Scope
 body:List Stmt
def aZ(fd:Fd)(ds:List D):Rho:=(fd.ps.zip (ds.map Sl.sh))++(fd.N.drop fd.ps.length).map fun x=>(x,.no)
structure Pg where
 cst:List (Str×D)
 blt:List (Str×String)
 defs:List (Str×Fd)
 exs:List Str:=[]
 top:Str:="MinorError"
inductive Rs where
 | val (d:D) | exc (c:Str)
def Rs.val?:Option Rs->Option D
 | some (.val d)=>some d
 | _=>none
def Rs.exc?:Option Rs->Option Str
 | some (.exc c)=>some c
 | _=>none
def Pg.cx(P:Pg)(c:Str->List D->Option Rs):Cxt:=⟨P.cst,P.blt,P.defs.map (·.1),P.exs,P.top,true,fun f ds=>Rs.val? (c f ds),fun f ds=>Rs.exc? (c f ds)⟩
def oN(cx:Cxt)(F:Nat)(sc:Scope)(body:List Stmt)(ρ:Rho):Option Rs:=match fD (fun ρ s=>st cx F F sc ρ s) body ρ with
 | some (.ret d)=>some (.val d)
 | some (.nxt _)=>some (.val .non)
 | none=>(match lq (fun ρ s=>st cx F F sc ρ s) (fun ρ s=>stx cx F F sc ρ s) body ρ with
  | some (c,_)=>some (.exc c)
  | none=>none)
@[irreducible] def bG (P:Pg) (F:Nat):Nat->Str->List D->Option Rs
 | 0,_,_=>none
 | k+1,f,ds=>match P.defs.lookup f with
  | none=>none
  | some fd=>if ds.length==fd.ps.length then oN (P.cx (bG P F k)) F fd.sc fd.body (aZ fd ds) else none
theorem lU{P:Pg}{F:Nat}{f:Str}{ds:List D}:bG P F 0 f ds=none:=by with_unfolding_all rfl
theorem lR{P:Pg}{F k:Nat}{f:Str}{ds:List D}:bG P F (k+1) f ds=(match P.defs.lookup f with
  | none=>none
  | some fd=>if ds.length==fd.ps.length then oN (P.cx (bG P F k)) F fd.sc fd.body (aZ fd ds) else none):=by with_unfolding_all rfl
@[irreducible] def kh (P:Pg) (F k:Nat) (f:Str) (ds:List D):Option D:=Rs.val? (bG P F k f ds)
theorem jA{P:Pg}{F k:Nat}{f:Str}{ds:List D}:kh P F k f ds=Rs.val? (bG P F k f ds):=by with_unfolding_all rfl
@[irreducible] def yu (P:Pg) (F k:Nat) (f:Str) (ds:List D):Option Str:=Rs.exc? (bG P F k f ds)
theorem uz{P:Pg}{F k:Nat}{f:Str}{ds:List D}:yu P F k f ds=Rs.exc? (bG P F k f ds):=by with_unfolding_all rfl
end DE
namespace L2
open PySem PySem.Spec PyProof.Rows PySem.SeqAt
section
variable {prog:Program} {w:World} {A:Around} {I:Addr} {fp wr:List Addr} {n:Nat} {P:Nat->Value->Prop} {St:Nat->Heap->Prop}
end
end L2
namespace L2
open PySem PySem.Spec PyProof.Rows
section
variable (P:Program) (w:World)
end
section
variable {P:Program} {w:World} {H H':Hp} {h h':Heap} {a:Addr} {o:HO}
end
section
variable {P:Program} {w:World} {H:Hp} {h h':Heap} {x e:Addr} {o':HO}
end
section
variable {fs fs' ex ex':List Addr} {H H1 H2:Hp} {h h1 h2 h':Heap} {a x e:Addr} {o:HO}
end
section
variable {X:Cx} {z0:List (Addr×Obj)} {σ:List (Option V)} {H H':Hp} {s:Shared} {h':Heap}
end
section
variable {X:Cx}
variable {a b:Expr} {ta tb:TE} {pos:Pos}
variable {tA tB':TT} {rest:List Expr}
end
section
variable {X:Cx} {z0:List (Addr×Obj)} {σ:St} {H:Hp} {s:Shared} {a:Addr} {xs ys:List V}
end
section
variable {X:Cx} {z0:List (Addr×Obj)} {σ:St} {H:Hp} {s:Shared} {E:Value->Shared->Prop}
end
section
variable {X:Cx} {st:Stmt} {rest:List Stmt} {t u:TS} {e:Expr} {te:TE} {pos:Pos}
end
section
variable {X:Cx} {pos:Pos}
end
section
variable {X:Cx} {pos:Pos}
end
section
variable {X:Cx} {tg:Expr}
end
section
variable {X:Cx} {a b c:Expr} {ta tb tc:TE} {pos:Pos}
end
section
variable {X:Cx} {a b c:Expr} {ta tb tc:TE} {pos:Pos}
end
section
variable {prog:Program} {w:World} {A:Around} {E:Value->Shared->Prop} {s:Shared} {K:Zf} {x dx C f:Addr} {mA:Str->Option Value} {name:Str} {v:Value}
end
section
variable {P:Program} {w:World} {H H':Hp} {h h':Heap} {a C dx:Addr} {fs fs':List (Str×V)}
end
section
variable {X:Cx} {z0:List (Addr×Obj)} {σ:St} {H:Hp} {s:Shared} {a C dx:Addr} {fs:List (Str×V)} {f:Str} {v:V} {A:Around} {E:Value->Shared->Prop}
end
section
variable {X:Cx} {o e value:Expr} {f:Str} {pos pos' tpos:Pos} {ta tv:TE}
end
section
variable {X:Cx} {z0:List (Addr×Obj)} {σ:St} {H:Hp} {s:Shared} {A:Around} {E:Value->Shared->Prop} {Q:Value->Shared->Prop} {c:Value} {b:Bool}
end
section
variable {X:Cx} {e:Expr} {es:List Expr} {te:TE} {t:TA} {pos:Pos}
end
section
variable {X:Cx} {z0:List (Addr×Obj)} {σ:St} {H:Hp} {s s':Shared}
end
section
variable {X:Cx} {CX:CXT} {k:Nat} {f C:Addr} {fd:FuncData} {ps:List Str} {sp:Sp} {dvs:List V} {ds:List Value} {E:XK} {x m:Str} {p pos apos:Pos} {e o:Expr} {es:List Expr} {ta:TE} {t:TA}
end
section
variable {X:Cx} {CX:CXT} {k:Nat} {f C:Addr} {fd:FuncData} {ps ks:List Str} {sp:Sp} {E:XK} {x m:Str} {p pos apos kpos:Pos} {e o:Expr} {es:List Expr} {kws:List Keyword} {te ta:TE} {t tk:TA} {nm:Option Str}
variable {g:List Value->List Value->List Value} {gV:List V->List V->List V}
end
section
variable {X:Cx} {x:Str} {p pos:Pos} {e:Expr} {es:List Expr} {t:TA} {id T:String} {r:List V->Hp->VK->Prop}
end
section
variable {κ:Type} [DecidableEq κ]
def rQ(kvs:List (κ×V))(k:κ):Option V:=(kvs.find? fun kv=>decide (kv.1=k)).map (·.2)
theorem rZ{p:κ×V}{r:List (κ×V)}{k:κ}(e:p.1=k):rQ (p::r) k=some p.2:=by simp[rQ,List.find?_cons,e]
theorem su{p:κ×V}{r:List (κ×V)}{k:κ}(e:¬ p.1=k):rQ (p::r) k=rQ r k:=by simp[rQ,List.find?_cons,e]
theorem KV.val{kvs:List (κ×V)}{vs:List (κ×Value)}(r:KV kvs vs)(k:κ):yI (rQ kvs k) (valueAt vs k):=by
 unfold KV at r
 induction r with
 | nil=>exact True.intro
 | @cons p q ps qs h t ih =>
  obtain⟨h1,h2⟩:=h
  by_cases e:p.1=k
  ·have e':q.1=k:=h1.symm.trans e
   have b:valueAt (q::qs) k=some q.2:=by simp[valueAt,List.find?_cons,e']
   rw[rZ e,b];exact h2
  ·have e':¬ q.1=k:=fun z=>e (h1.trans z)
   have b:valueAt (q::qs) k=valueAt qs k:=by simp[valueAt,List.find?_cons,e']
   rw[su e,b];exact ih
end
theorem HN{P:Program}{w:World}{k:Key}{u:Value}(r:RelV (kV k) u):(cj P w).is k u=true:=by
 cases k with
 | inl i=>obtain⟨t,e⟩:=(show ∃ t,u=Value.int i t from r);subst e;exact lK P w i t
 | inr x=>obtain⟨t,e⟩:=(show ∃ t,u=Value.str x t from r);subst e;exact lJ P w x t
abbrev KT(H:Hp):List (List Key×V)->List (List Key×Addr×Value)->Prop:=Paired fun p q=>p.1=q.1/\H q.2.1=some (.tup (p.1.map kV))/\RelV p.2 q.2.2
section
variable {P:Program} {w:World} {H:Hp} {h:Heap} {a:Addr}
theorem Ca{u:HO}(ok:HOk P w H h)(e:Rd H a u):bY P w H h a u:=e.ok ok
theorem Ii{kvs:List (Key×V)}(ok:HOk P w H h)(e:Rd H a (.dK kvs)):kvs.length<=sizeLine/\(a==sysModules)=false/\∃ vs,KV kvs vs/\h.DictOf (cj P w) a vs :=
 show bY P w H h a (.dK kvs) from Ca ok e
end
section
variable {X:Cx} {z0:List (Addr×Obj)} {σ:St} {H:Hp} {s:Shared} {a:Addr} {y v:V} {u r:Value} {o:Option V} {A:Around} {E:Value->Shared->Prop}
end
section
variable {X:Cx} {z0:List (Addr×Obj)} {σ:St} {H:Hp} {s:Shared} {a:Addr} {kvs:List (Key×V)} {k:Key} {u:Value} {A:Around} {E:Value->Shared->Prop}
end
def Ku(i:Expr):Prop:=∀ ov iv,subscripted i false ov iv=operate [ov,iv] (getItem ov iv)
theorem vK{prog:Program}{w:World}{A:Around}{E:Value->Shared->Prop}{s:Shared}{env:Env}{value slice:Expr}{pos:Pos}{T id:String}{Q:Value->Shared->Prop}
  (hl:typeLookup (.type T) "__getitem__"=pure (some (.builtin id))) (hs:Ku slice)
  (h:wpAny (model prog w) A (eval value env) (fun o s₁=>wpAny (model prog w) A (eval slice env) (fun i s₂=>s₂.TypeIs o T/\wpAny (model prog w) A (getItem o i) Q E s₂) E s₁) E s) :
  wpAny (model prog w) A (eval (.Subscript value slice pos) env) Q E s:=by
 refine Subscript_ (S3z h (fun o s₁ h₁=>S3z h₁ (fun i s₂ h₂=>?_) fun _ _ x=>x) fun _ _ x=>x);obtain⟨hT,h₂⟩:=h₂;unfold subscriptTail;refine T3z ?_;rw[getitemInPython_of_ne hT.not_modules];refine T3z (wpAny_specialOf hT hl ?_)
 have fin:wpAny (model prog w) A (subscripted slice false o i) (fun r s₃=>wpAny (model prog w) A (letTemporaryGo value o r >>=fun _=>pure r) Q E s₃) E s₂:=by
  rw[hs o i];exact wpAny_operating (S3z h₂ (fun r s₃ h₃=>T3z (wpAny_letTemporaryGo (U3z h₃))) fun _ _ x=>x)
 first
  | exact U3z (T3z fin)
  | exact T3z (U3z (T3z fin))
  | exact T3z fin
section
variable {X:Cx} {o i e value:Expr} {pos pos' tpos:Pos} {td ty tv:TE}
end
section
variable {X:Cx} {pos:Pos}
end
section
variable {X:Cx} {z0:List (Addr×Obj)} {σ:St} {H:Hp} {s:Shared} {a:Addr} {y d:V} {u r:Value} {o:Option V} {A:Around} {E:Value->Shared->Prop}
end
section
variable {X:Cx} {o e f:Expr} {apos cpos:Pos} {td ty tx:TE}
end
section
variable {X:Cx} {z0:List (Addr×Obj)} {σ:St} {H:Hp} {s:Shared} {a:Addr} {kvs:List (Key×V)} {A:Around} {E:Value->Shared->Prop}
end
section
variable {X:Cx} {z0:List (Addr×Obj)} {σ:St} {H:Hp} {s:Shared} {a:Addr} {y:V} {u:Value} {A:Around} {E:Value->Shared->Prop}
end
end L2
namespace Att
open PySem PySem.W PySem.Calls PyProof.Rows
section
variable {prog:Program} {w:World} {A:Around} {E:Value->Shared->Prop} {s:Shared} {K:Frag}
end
end Att
namespace L2
open PySem PySem.Spec PyProof.Rows
section
variable {P:Program} {w:World} {K:Zf} {mg:Str->Option Value} {base:Heap}
end
section
variable {X:Cx}
end
section
variable {κ:Type} [DecidableEq κ]
end
def KDc(K:Zf)(a:Addr)(kvs:List (Key×V)):Prop:=∃ (o:Obj) (es:Array DictEntry) (n:Nat),K.lookup a=some o/\o.ExactDict/\o.data=.dict es n/\(a==sysModules)=false/\(kvs.map (·.1)).Nodup/\Paired (fun(p:Key×V) (e:DictEntry)=>(∃ x t,p.1=.inr x/\e.key=.str x t)/\RelV p.2 e.val) kvs es.toList
def hsO(o:Obj):List Int:=match o.data with | .dict es _=>es.toList.map (·.hash) | _=>[]
def hsX(w:World)(o:Obj):List Int:=match o.data with | .dict es _=>es.toList.map (fun e=>match e.key with | .str x _=>hashStr w x | _=>e.hash) | _=>[]
def KnW(K:Zf)(w:World):Prop:=K.map (fun p=>hsO p.2)=K.map (fun p=>hsX w p.2)
theorem lookup_mem{α:Type}:∀ {l:List (Addr×α)} {a:Addr} {o:α},l.lookup a=some o->(a,o)∈l
 | (b,u)::r,a,o,h=>by
  rw[D2z] at h
  cases hb:a==b with
  | true =>
   rw[hb] at h
   have e1:a=b:=by simpa using hb
   cases h;subst e1;exact F1z
  | false =>
   rw[hb] at h;exact S0z _ (lookup_mem h)
theorem KnW.at{K:Zf}{w:World}{a:Addr}{o:Obj}{es:Array DictEntry}{n:Nat}(kw:KnW K w)(h:K.lookup a=some o)(hd:o.data=.dict es n):∀ e∈es.toList,∀ x t,e.key=.str x t->e.hash=hashStr w x:=by
 have:=List.map_inj_left.mp kw (a,o) (lookup_mem h);simp only[hsO,hsX,hd] at this;intro e he x t hk;have q:=List.map_inj_left.mp this e he;rw[hk] at q;exact q
theorem qF{P:Program}{w:World}{kvs:List (Key×V)}{es:List DictEntry}(p:Paired (fun(p:Key×V) (e:DictEntry)=>(∃ x t,p.1=.inr x/\e.key=.str x t)/\RelV p.2 e.val) kvs es)(hh:∀ e∈es,∀ x t,e.key=.str x t->e.hash=hashStr w x) :
  ∃ vs:List (Key×Value),KV kvs vs/\Pairs (cj P w) es vs/\vs.map (·.1)=kvs.map (·.1)/\∀ e∈es,∃ k,(cj P w).is k e.key=true/\e.hash=(cj P w).hash k:=by
 induction p with
 | nil=>exact⟨[],.nil,.nil,rfl,fun e he=>nomatch he⟩
 | @cons q e kvs es h t ih =>
  obtain⟨vs,h1,h2,h3,h4⟩:=ih fun e he=>hh e (S0z _ he);obtain⟨⟨x,tk,g1,g2⟩,g3⟩:=h
  have gi:(cj P w).is q.1 e.key=true:=by
   rw[g1,g2];show Value.isStrOf x (.str x tk)=true;simp[Value.isStrOf]
  refine⟨(q.1,e.val)::vs,.cons ⟨rfl,g3⟩ h1,.cons gi rfl h2,by simp[h3],fun e' he=>?_⟩;rcases List.mem_cons.mp he with r | r
  ·subst r
   refine⟨q.1,gi,?_⟩;rw[hh _ F1z x tk g2,g1];rfl
  ·exact h4 e' r
def DAt(K:Zf)(H:Hp)(a:Addr)(kvs:List (Key×V)):Prop:=Rd H a (.dK kvs)\/KDc K a kvs
section
variable {X:Cx} {z0:List (Addr×Obj)} {σ:St} {H:Hp} {s:Shared} {a:Addr} {kvs:List (Key×V)} {k:Key} {v d:V} {u r:Value} {A:Around} {E:Value->Shared->Prop} {o i e f:Expr} {td ty tx:TE} {pos apos cpos:Pos}
theorem ur(I:Inv X z0 σ H s)(kw:KnW X.K X.w)(g:DAt X.K H a kvs):(a==sysModules)=false/\∃ vs,KV kvs vs/\s.heap.DictOf (cj X.prog X.w) a vs:=by
 rcases g with g | ⟨o,es,n,h1,h2,h3,h4,h5,h6⟩
 ·exact(Ii I.hok g).2
 ·obtain⟨vs,g1,g2,g3,g4⟩:=qF (P:=X.prog) h6 (kw.at h1 h3)
  exact⟨h4,vs,g1,o,es,n,I.kIn a o h1,h2,h3,fun e he=>g4 e (by simpa using he),g2,by rw[g3];exact h5⟩
theorem qG{Q:Value->Shared->Prop}(I:Inv X z0 σ H s)(kw:KnW X.K X.w)(g:DAt X.K H a kvs)(l:some v=rQ kvs k)(ry:RelV (kV k) u)(h:∀ w' s',Inv X z0 σ H s'->RelV v w'->Q w' s') :
  s.TypeIs (.ref a) "dict"/\wpAny (model X.prog X.w) A (getItem (.ref a) u) Q E s:=by
 obtain⟨hd,vs,rel,dd⟩:=ur I kw g;obtain⟨w',hw,rw'⟩:=yI.some_of (v:=v) (o:=valueAt vs k) (by rw[l];exact rel.val k);exact⟨dd.typeIs,wpAny_getItem_of (HN ry) dd.mapOf hw (h w' _ (I.tok _) rw')⟩
def Bx(K:Zf)(td ty:TE):TE:=fun σ H Q=>td σ H fun x H1=>ty σ H1 fun y H2=>∃ a v kvs k,x=.ref a/\DAt K H2 a kvs/\y=kV k/\some v=rQ kvs k/\Q v H2
theorem wz(kw:KnW X.K X.w)(ho:PE X o td)(hi:PE X i ty)(hs:Ku i):PE X (.Subscript o i pos) (Bx X.K td ty):=by
 intro z0 s σ H Q I h;refine vK PySem.F.slot_dict_getitem.lookup hs (thn (ho z0 s σ H _ I h) fun u s1 ⟨x,H1,I1,rx,q1⟩=>thn (hi z0 s1 σ H1 _ I1 q1) fun iv s2 ⟨y,H2,I2,ry,a,v,kvs,k,ex,g,ey,l,q2⟩=>?_);subst ex;subst ey;obtain rfl:u=Value.ref a:=rx;exact qG I2 kw g l ry fun w' s3 I3 rw'=>⟨v,H2,I3,rw',q2⟩
end
section
variable {P:Program} {w:World} {H H':Hp} {h h':Heap} {a:Addr} {o:HO}
theorem bY.there(x:bY P w H h a o):∃ ob,h.get? a=some ob:=by
 cases o with
 | lst xs=>obtain⟨_,_,_,_,e⟩:=x;exact⟨_,e⟩
 | tup xs=>obtain⟨_,_,_,ob,e,_⟩:=x;exact⟨_,e⟩
 | dK kvs=>obtain⟨_,_,_,_,o,_,_,e,_⟩:=x;exact⟨_,e⟩
 | dT kvs=>obtain⟨_,_,_,_,o,_,_,e,_⟩:=x;exact⟨_,e⟩
 | set S n=>obtain⟨o,_,_,_,e,_⟩:=x;exact⟨_,e⟩
 | ins C dx fs=>obtain⟨_,_,_,e,_⟩:=x;exact⟨_,e⟩
 | own y=>exact x
 | xd fs=>obtain⟨_,⟨_,_,_,e,_⟩,_⟩:=x;exact⟨_,e⟩
 | rng lo hi=>obtain⟨_,_,_,e⟩:=x;exact⟨_,e⟩
 | frz ob u=>obtain⟨e,_⟩:=x;exact⟨_,e⟩
 | tbl ps=>exact⟨_,(show h.get? a=some _ from x)⟩
 | met f y=>exact⟨_,(show h.get? a=some _ from x)⟩
 | ext φ=>exact x.2.1
theorem HOk.none_of(x:HOk P w H h)(e:h.get? a=none):H a=none:=by
 cases q:H a with
 | none=>rfl
 | some u =>
  obtain⟨ob,r⟩:=(x a u q).there;rw[e] at r;cases r
theorem HOk.part{B:Heap}(x:HOk P w H h)(k:∀ b u ob,H b=some u->h.get? b=some ob->B.get? b=some ob):HOk P w H B:=fun b u e=>by
 refine(x b u e).stay (fun c v hc q=>?_) (fun _ q=>q) fun _ _ q=>q;rcases hc with rfl | hc
 ·exact k _ _ _ e q
 ·exact k _ _ _ hc q
end
section
variable {fs fs' ex:List Addr} {H H':Hp} {h h1 h2 B:Heap}
theorem Un.fly(U:Un fs [] H H' h h1)(kB:∀ b o,h.get? b=some o->H b=none->b∉fs->B.get? b=some o)(tB:∀ b o,h.get? b=some o->b∉fs->∃ o',B.get? b=some o')(st:B.StaysIn h2)
  (nf:∀ b∈fs,∀ o,h1.get? b=some o->∀ vs,o.data≠.fields vs) (up:h1.UpToSlots h2):Un fs [] H H' h h2 where
 keep:=fun b o q n hb _=>st b o (kB b o q n hb)
 slot:=fun b o q n hb hx=>by
  obtain⟨sl,e⟩:=U.slot b o q n hb hx;obtain⟨sl',e'⟩:=up b _ e (nf b hb _ e);exact⟨sl',e'⟩
 free:=U.free
 there:=fun b o q hx=>by
  by_cases hb:b∈fs
  ·obtain⟨o',e⟩:=U.there b o q hx
   obtain⟨sl,e'⟩:=up b _ e (nf b hb _ e);exact⟨_,e'⟩
  ·obtain⟨o',e⟩:=tB b o q hb
   exact⟨o',st b o' e⟩
 tups:=U.tups
 frzs:=U.frzs
 tbls:=U.tbls
theorem Un.restrict(U:Un fs' ex H H' h h1)(hs:∀ b o,b∈fs'->h.get? b=some o->b∈fs):Un fs ex H H' h h1 where
 keep:=fun b o q n hb hx=>U.keep b o q n (fun z=>hb (hs b o z q)) hx
 slot:=fun b o q n _ hx=>U.any q n hx
 free:=U.free
 there:=U.there
 tups:=U.tups
 frzs:=U.frzs
 tbls:=U.tbls
end
structure Fly (P:Program) (w:World) (outer:List Env) (H:Hp) (s:Shared) (H':Hp) (ea:Addr) (cls:Value) (s':Shared):Prop where
 os:s'.os=s.os
 bare:AllBare s'.gens
 un:Un (frs outer) [] H H' s.heap s'.heap
 fly:∃ B a0,Heap.FlyingW B outer ea cls a0 s'.heap/\HOk P w H' B/\(∀ b o,s.heap.get? b=some o->H b=none->b∉frs outer->B.get? b=some o)/\(∀ b o,s.heap.get? b=some o->b∉frs outer->∃ o',B.get? b=some o')
 fresh:s.heap.get? ea=none
def CX1(P:Program)(w:World):CXT:=fun outer H s E e s'=>∃ ea cls H',e=.ref ea/\Fly P w outer H s H' ea cls s'/\H' ea=none/\E cls none H'
theorem wC{P:Program}{w:World}{X:Cx}:Passes (CX1 P w) X E0:=fun _ _ _ _ _ _ _ h=>by obtain⟨_,_,_,_,_,_,z⟩:=h;exact z.elim
theorem qm{B h:Heap}{l:List Env}(f:h.FunFrames B l):∀ b∈frs l,∀ o,h.get? b=some o->∀ vs,o.data≠.fields vs:=fun b hb o e=>by
 obtain⟨_,o',e',hd⟩:=f.mem hb;rw[e] at e';cases e';exact hd
section
variable {P:Program} {w:World} {K:Zf} {mg:Str->Option Value} {base:Heap} {N:List Str} {qual:Str} {scope:Scope} {f:Addr} {cd:Value} {A:Around} {outer:List Env} {s:Shared} {H:Hp} {E:XK}
theorem ji{env:Env}{L:Addr}(hf:env.frame=some L):frs (env::outer)=L::frs outer:=by
 unfold frs;rw[X0z,hf]
theorem qb:Passes (CX1 P w) (dg (CX1 P w) P w K mg base N qual scope f cd A outer s H E) E:=by
 intro z0 σ H1 s1 e s' I h;obtain⟨ea,cls,H',rfl,Fl,hn,hE⟩:=h;obtain⟨B,a0,fl,hokB,kB,tB⟩:=Fl.fly;have hfr:frs (dg (CX1 P w) P w K mg base N qual scope f cd A outer s H E).stack=s.heap.objs.size::frs outer:=ji rfl;have nL:∀ b o,s.heap.get? b=some o->b≠s.heap.objs.size:=fun b o q=>I3z (H3z q)
 have nin:∀ b o,s.heap.get? b=some o->b∉frs outer->b∉frs (dg (CX1 P w) P w K mg base N qual scope f cd A outer s H E).stack:=fun b o q hb z=>by
  rw[hfr] at z;rcases List.mem_cons.mp z with z | z
  ·exact nL b o q z
  ·exact hb z
 have noex:∀ b:Addr,b∉(dg (CX1 P w) P w K mg base N qual scope f cd A outer s H E).ex:=fun b z=>absurd (show b∈([]:List Addr) from z) (by simp);show wpAny _ _ (leaving _ (.ref ea)) _ _ _;refine wpAny_leaves_onW I.ok.frames rfl fl fun h2 fl2 up=>?_;refine⟨ea,cls,H',rfl,⟨Fl.os.trans I.os,Fl.bare,?_,⟨B,a0,fl2,hokB,fun b o q n hb=>?_,fun b o q hb=>?_⟩,?_⟩,hn,hE⟩
 ·have U1:=Un.fly Fl.un kB tB fl2.1 (qm fl.2.2.1) up
  have U0:Un (frs (dg (CX1 P w) P w K mg base N qual scope f cd A outer s H E).stack) [] H H1 s.heap s1.heap:=I.base.mono (fun b hb=>by rw[hfr];exact S0z _ hb) (fun b hb=>hb)
  exact(U0.trans U1).restrict fun b o hb q=>by
   rw[hfr] at hb;rcases List.mem_cons.mp hb with z | z
   ·exact absurd z (nL b o q)
   ·exact z
 ·exact kB b o (I.base.keep b o q n hb (noex b)) (I.base.free b o q n (noex b)) (nin b o q hb)
 ·obtain⟨o1,q1⟩:=I.base.there b o q (noex b)
  exact tB b o1 q1 (nin b o q hb)
 ·cases q:s.heap.get? ea with
  | none=>rfl
  | some o =>
   obtain⟨o1,q1⟩:=I.base.there ea o q (noex ea);rw[Fl.fresh] at q1;cases q1
theorem nZ{z0:List (Addr×Obj)}{σ:St}{H1:Hp}{s1:Shared}{C e:Addr}{h':Heap}{args:List Value}(I:Inv (dg (CX1 P w) P w K mg base N qual scope f cd A outer s H E) z0 σ H1 s1)(hx:Heap.MadeExcOf s1.heap h' e (.ref C) args)(hE:E (.ref C) none H1) :
  (dg (CX1 P w) P w K mg base N qual scope f cd A outer s H E).xe (.ref e) { s1 with heap:=h' }:=by
 have hfr:frs (dg (CX1 P w) P w K mg base N qual scope f cd A outer s H E).stack=s.heap.objs.size::frs outer:=ji rfl;have nL:∀ b o,s.heap.get? b=some o->b≠s.heap.objs.size:=fun b o q=>I3z (H3z q)
 have nin:∀ b o,s.heap.get? b=some o->b∉frs outer->b∉frs (dg (CX1 P w) P w K mg base N qual scope f cd A outer s H E).stack:=fun b o q hb z=>by
  rw[hfr] at z;rcases List.mem_cons.mp z with z | z
  ·exact nL b o q z
  ·exact hb z
 have noex:∀ b:Addr,b∉(dg (CX1 P w) P w K mg base N qual scope f cd A outer s H E).ex:=fun b z=>absurd (show b∈([]:List Addr) from z) (by simp);have hin:∀ env∈(dg (CX1 P w) P w K mg base N qual scope f cd A outer s H E).stack,∀ b,env.frame=some b->b∈frs (dg (CX1 P w) P w K mg base N qual scope f cd A outer s H E).stack:=fun env he b hb=>List.mem_filterMap.mpr ⟨env,he,hb⟩;show wpAny _ _ (leaving _ (.ref e)) _ _ _;have kB:∀ b o,s1.heap.get? b=some o->b∉frs (dg (CX1 P w) P w K mg base N qual scope f cd A outer s H E).stack->(PySem.W.hideAll s1.heap (frs (dg (CX1 P w) P w K mg base N qual scope f cd A outer s H E).stack)).get? b=some o:=fun b o q hb=>W0z _ q hb;refine wpAny_leaves_madeW I.ok.frames rfl (fun b o q=>E1z _ q) (PySem.W.funFrames_hide I.stack hin) hx fun h2 t x1 x2 x3 x4=>?_;have up:s1.heap.UpToSlots h2:=(Heap.UpToSlots.of_keeps hx.keeps).trans x4
 have hok:HOk P w H1 (PySem.W.hideAll s1.heap (frs (dg (CX1 P w) P w K mg base N qual scope f cd A outer s H E).stack)):=HOk.part I.hok fun b u ob hu q=>kB b ob q fun z=>by
  rw[I.stkFree b z] at hu;cases hu
 have hn:H1 e=none:=HOk.none_of I.hok hx.new;refine⟨e,.ref C,H1,rfl,⟨I.os,I.bare,?_,⟨_,_,x1,hok,fun b o q n hb=>?_,fun b o q hb=>?_⟩,?_⟩,hn,hE⟩
 ·have U1:Un (frs (dg (CX1 P w) P w K mg base N qual scope f cd A outer s H E).stack) [] H1 H1 s1.heap h2:=Un.fly Un.refl (fun b o q _ hb=>kB b o q hb) (fun b o q hb=>⟨o,kB b o q hb⟩) x1.1 (qm I.stack) up
  have U0:Un (frs (dg (CX1 P w) P w K mg base N qual scope f cd A outer s H E).stack) [] H H1 s.heap s1.heap:=I.base.mono (fun b hb=>by rw[hfr];exact S0z _ hb) (fun b hb=>hb)
  exact(U0.trans U1).restrict fun b o hb q=>by
   rw[hfr] at hb;rcases List.mem_cons.mp hb with z | z
   ·exact absurd z (nL b o q)
   ·exact z
 ·exact kB b o (I.base.keep b o q n hb (noex b)) (nin b o q hb)
 ·obtain⟨o1,q1⟩:=I.base.there b o q (noex b)
  exact⟨o1,kB b o1 q1 (nin b o q hb)⟩
 ·cases q:s.heap.get? e with
  | none=>rfl
  | some o =>
   obtain⟨o1,q1⟩:=I.base.there e o q (noex e);have:=hx.new;rw[this] at q1;cases q1
end
def nsOk(K:Zf)(N:Addr):Bool:=match K.lookup N with
 | some ⟨_,_,.dict es _,_⟩=>es.toList.all (fun e=>match e.key with | .str _ _=>true | _=>false)&&(PySem.W.nsIn K N "__init__"==some none)
 | _=>false
def xIn(K:Zf)(C M:Addr):Bool:=match K.lookup C,K.lookup M with
 | some ⟨.type "type",_,.cls cd,sl⟩,some ⟨_,_,.cls cdM,_⟩ =>
  (match sl.toList with | [_,_,_,_,some (.builtin n),_]=>n=="ValueError.__new__" | _=>false)&&cd.mro==[.ref C,.ref M,.type "ValueError",.type "Exception",.type "BaseException",.type "object"] && !cd.hasDel&&nsOk K cd.ns&&nsOk K cdM.ns
 | _,_=>false
theorem qj{K:Zf}{N:Addr}(e:nsOk K N=true):∃ mN:Str->Option Value,mN "__init__"=none/\∀ h:Heap,K.In h->h.Ns N mN:=by
 unfold nsOk at e;split at e
 ·rename_i c d es n sl ho
  rw[G2z] at e;refine⟨nsFind es,?_,fun h X=>⟨_,es,n,X _ _ ho,rfl,fun en hen=>?_,fun _=>rfl⟩⟩
  ·have e2:PySem.W.nsIn K N "__init__"=some none:=by simpa using e.2
   unfold PySem.W.nsIn at e2;rw[ho] at e2;simp only at e2;unfold nsFind findBy;rw[<- Array.find?_toList];split at e2
   ·cases e2
   ·rename_i q
    rw[q];rfl
  ·have:=List.all_eq_true.mp e.1 en (by simpa using hen)
   split at this
   ·rename_i x t hk;exact⟨x,t,hk⟩
   ·cases this
 ·cases e
theorem yK{K:Zf}{C M:Addr}(e:xIn K C M=true):∃ nm q N bs hdct sn sub ab col dd k0 k1 k2 k3 k5 mN,mN "__init__"=none/\∀ h:Heap,K.In h ->
  h.get? C=some (excClassObj nm q C N bs [.ref M,.type "ValueError",.type "Exception",.type "BaseException",.type "object"] hdct sn sub ab col dd k0 k1 k2 k3 k5 "ValueError.__new__")/\h.Ns N mN /\
   OwnTail h [.type "ValueError",.type "Exception",.type "BaseException",.type "object"] [.ref M,.type "ValueError",.type "Exception",.type "BaseException",.type "object"]:=by
 unfold xIn at e;split at e
 ·rename_i dd cd sl cM dM cdM slM hC hM
  simp only[G2z,X1z] at e;obtain⟨⟨⟨⟨e1,e2⟩,e3⟩,e4⟩,e5⟩:=e;split at e1
  ·rename_i k0 k1 k2 k3 n k5 hs
   have en:n="ValueError.__new__":=by simpa using e1
   subst en
   have hsl:sl = #[k0,k1,k2,k3,some (.builtin "ValueError.__new__"),k5]:=by
    obtain⟨l⟩:=sl;simp only at hs;rw[hs]
   have em:cd.mro=[.ref C,.ref M,.type "ValueError",.type "Exception",.type "BaseException",.type "object"]:=by simpa using e2
   obtain⟨nm,bs,mro,ns,qn,hd,sn,sub,ab,col,del⟩:=cd;simp only at em e3 e4;subst em e3 hsl;obtain⟨mN,n2,n1⟩:=qj e4;obtain⟨mM,m2,m1⟩:=qj e5;exact⟨_,_,_,_,_,_,_,_,_,_,_,_,_,_,_,mN,n2,fun h X=>⟨X _ _ hC,n1 h X,.own (X _ _ hM) (m1 h X) m2 .base⟩⟩
  ·cases e1
 ·cases e
section
variable {X:Cx}
theorem sS{x:Str}{C M:Addr}{np cpos pos:Pos}{txt:Str}{j:Nat}{p1:Pos}{Q:Flow->Shared->Prop}{z0:List (Addr×Obj)}{σ:St}{H:Hp}{s:Shared}(I:Inv X z0 σ H s)(hc:X.A.handled=none)(hg:Gl X x)(hm:X.mg x=some (.ref C))(hd:(x==("__debug__":Str))=false)(hx:xIn X.K C M=true)
  (k:∀ (s2:Shared) (h':Heap) (e:Addr) (args:List Value),Inv X z0 σ H s2->Heap.MadeExcOf s2.heap h' e (.ref C) args->X.xe (.ref e) { s2 with heap:=h' }) :
  wpAny (model X.prog X.w) X.A (exec (.Raise (some (.Call (.Name x np) [.Constant (.str txt) j p1] [] cpos)) none pos) X.env) Q X.xe s:=by
 obtain⟨nm,q,N,bs,hdct,sn,sub,ab,col,dd,k0,k1,k2,k3,k5,mN,hni,fx⟩:=yK hx
 refine wpAny_Raise_call_subU (C:=C) (nm:=nm) (q:=q) (N:=N) (bs:=bs) (bm:=[.ref M,.type "ValueError",.type "Exception",.type "BaseException",.type "object"]) (hdct:=hdct) (sn:=sn) (sub:=sub) (ab:=ab) (col:=col) (dd:=dd) (k0:=k0) (k1:=k1) (k2:=k2) (k3:=k3) (k5:=k5)
  F.excBase_ValueError (by decide) F.excBase_ValueError (mN:=mN) ((fx _ I.kIn).2.2.hasType F.excBase_ValueError.hasBase) hc rfl hni (dY I hg hm ⟨rfl,?_⟩ hd)
 have ha:PA X [.Constant (.str txt) j p1] (vI (tC (.str txt)) Bw):=aP uU bw;show wpAny _ _ (evalArgs (.ref C) true (backTo cpos ((false,eval (.Constant (.str txt) j p1) X.env)::starEach [] X.env)) []) _ _ _;refine Calls.evalArgs_plain (S3z (ha cpos z0 s σ H (fun vs H1=>vs.length<=1/\H1=H) I ⟨P3z _,rfl⟩) (fun us s2 hq=>?_) fun _ _ y=>y);obtain⟨vs,H1,I1,r,q1,rfl⟩:=hq;obtain⟨f1,f2,f3⟩:=fx _ I1.kIn
 have h1:(1:Nat)<=sizeLine:=by decide
 have h2:=r.length;exact⟨rfl,(show us.length<=sizeLine by omega),f1,f2,f3,fun h' e hm'=>k s2 h' e us I1 hm'⟩
end
abbrev Cx.inSuite(X:Cx)(e:Value)(xe:Value->Shared->Prop):Cx:={ X with A:=X.A.mark (some e),calm:=false,xe:=xe }
section
variable {X:Cx} {z0:List (Addr×Obj)} {σ:St} {H H':Hp} {s s':Shared} {e:Value} {xe:Value->Shared->Prop}
theorem Inv.inSuite(I:Inv X z0 σ H s)(e:Value)(xe:Value->Shared->Prop):Inv (X.inSuite e xe) z0 σ H s :=
 ⟨⟨I.ok.mod,I.ok.kind,I.ok.glob,I.ok.blt,I.ok.above,I.ok.inj,I.ok.has,I.ok.cab,fun z=>(nomatch z),I.ok.frames,I.ok.stk,I.ok.exf,I.ok.bs,I.ok.bsz,I.ok.noex,I.ok.exfs,I.ok.funs,I.ok.frf⟩,I.os,I.bare,I.base,I.loc,I.cell,I.free,I.freeC,I.pin,I.hok,I.len⟩
theorem Inv.outSuite(ok:X.Ok)(I:Inv (X.inSuite e xe) z0 σ H s):Inv X z0 σ H s:=⟨ok,I.os,I.bare,I.base,I.loc,I.cell,I.free,I.freeC,I.pin,I.hok,I.len⟩
theorem Inv.unbound{i:Nat}{x:Str}{v:Option Value}{m:Str->Option Value}{h':Heap}{t':Nat}(I:Inv X z0 σ H s)(hN:X.N.Nodup)(hi:X.N[i]?=some x)(hm:s.heap.Ns X.env.locals m)(hn:h'.Ns X.env.locals (fun y=>if y=x then v else m y))(hs:Heap.SameBut X.env.locals s.heap h') :
  Inv X z0 (σ.set i none) H { s with heap:=h',toks:=t' }:=by
 have cne:=I.cne
 have hiσ:i<σ.length:=by rw[I.len];exact(List.getElem?_eq_some_iff.mp hi).1
 obtain⟨m0,hn0,hl⟩:=id I.loc
 have hmm:∀ y,m0 y=m y:=fun y=>by
  obtain⟨o1,es1,ep1,g1,g2,_,g3⟩:=hn0;obtain⟨o2,es2,ep2,f1,f2,_,f3⟩:=hm;rw[g1] at f1;cases f1;rw[g2] at f2;cases f2;rw[<- g3,<- f3]
 obtain⟨oL,_,_,hoL,_⟩:=id hn0
 have tracked:HOk X.prog X.w H h':=fun b ob e=>by
  refine(I.hok b ob e).stay (fun c w' hc q=>(hs.2 c ?_).trans q) (fun _ q=>q) fun _ _ q=>q;rintro rfl;rcases hc with rfl | hc
  ·rw[I.free] at e;cases e
  ·rw[I.free] at hc;cases hc
 refine⟨I.ok,I.os,I.bare,⟨fun b o e n hb hx=>?_,fun b o e n hb hx=>?_,I.base.free,fun b o e hx=>?_,I.base.tups,I.base.frzs,I.base.tbls⟩,⟨_,hn,fun j y v' e1 e2 e3=>?_⟩,fun y c e=>?_,I.free,I.freeC,fun p hp=>?_,tracked,by simpa using I.len⟩
 ·exact(hs.2 b (I3z (D1z (H3z e) I.ok.above))).trans (I.base.keep b o e n hb hx)
 ·obtain⟨sl,e1⟩:=I.base.slot b o e n hb hx
  exact⟨sl,(hs.2 b (I3z (D1z (H3z e) I.ok.above))).trans e1⟩
 ·obtain⟨o',e1⟩:=I.base.there b o e hx
  exact⟨o',(hs.2 b (I3z (D1z (H3z e) I.ok.above))).trans e1⟩
 ·by_cases hj:j=i
  ·subst hj
   rw[List.getElem?_set_self hiσ] at e2;cases e2
  ·rw[List.getElem?_set_ne (C4z hj)] at e2
   obtain⟨u',r',q⟩:=hl j y v' e1 e2 e3;refine⟨u',r',?_⟩;rcases q with⟨k,e⟩ | ⟨k,c,e,z⟩
   ·refine .inl ⟨k,?_⟩
    have:y≠x:=fun e=>hj (jd hN e1 (e▸hi));simp only[this,B4z];rw[<- hmm];exact e
   ·exact .inr ⟨k,c,e,z.sameBut hs (cne y c e)⟩
 ·obtain⟨w',z⟩:=I.cell y c e
  exact⟨w',z.sameBut hs (cne y c e)⟩
 ·obtain⟨e,n,ne,nf,d⟩:=I.pin p hp
  exact⟨(hs.2 p.1 ne).trans e,n,ne,nf,d⟩
end
def isX(a:Addr)(cls:Value)(h:Heap):Prop:=∃ o,h.get? a=some o/\o.cls=cls/\∃ vs,o.data=.fields vs
theorem Af{P:Program}{w:World}{H:Hp}{h:Heap}{a:Addr}{cls:Value}(x:isX a cls h):bY P w H h a (.ext (isX a cls)) :=
 ⟨x,let ⟨o,e,_⟩:=x;⟨o,e⟩,fun _ _ ⟨o,e,r⟩ k=>⟨o,k o e,r⟩⟩
section
variable {X:Cx} {z0:List (Addr×Obj)} {σ:St} {H H':Hp} {s s':Shared} {ea:Addr} {cls:Value}
theorem Fly.lands{h2:Heap}{B:Heap}{t':Nat}(I:Inv X z0 σ H s)(Fl:Fly X.prog X.w X.stack H s H' ea cls s')(hokB:HOk X.prog X.w H' B)(U:Un (frs X.stack) [] H H' s.heap h2)(st:B.StaysIn h2):Inv X z0 σ H' { s' with heap:=h2,toks:=t' } :=
 I.call' (s':={ s' with heap:=h2,toks:=t' }) Fl.os U (hokB.kept st) Fl.bare (fun b z=>absurd z (by simp))
end
def iR(K:Zf)(C:Addr):Bool :=
 PySem.W.findIn K (.ref C) "__getattribute__"==some (some (.builtin "BaseException.__getattribute__"))&&PySem.W.findIn K (.ref C) "__getattr__"==some none&&PySem.W.findIn K (.ref C) "__class__"==some (some (.builtin "object.__class__")) &&
  PySem.W.mroIn K C (.type "object")==some true&&PySem.W.mroIn K C (.type "BaseException")==some true&&(PySem.W.clsIn K C).isSome
section
open PySem.Builtin PySem.Builtin.ObjectAttr PySem.Builtin.Getset_descriptor
variable {prog:Program} {w:World} {A:Around} {E:Value->Shared->Prop} {K:Zf} {h:Heap} {g:Array GenState} {d:Drawn} {t:Nat} {os:OsState} {a C:Addr} {o:Obj}
theorem xty{M:Model}(hx:h.get? a=some o)(hc:o.cls=.ref C):PySem.W.Looks M h (typeOf (.ref a)) (.ref C):=hc▸(PySem.W.Looks.ld hx).andThen .now
theorem nF{R:Result->Shared->Prop}(X:K.In h)(hx:h.get? a=some o)(hc:o.cls=.ref C)(hm:PySem.W.mroIn K C (.type "object")=some true)(hq:R (.ok (.ret (.ref C))) ⟨h,g,d,t,os⟩) :
  codeAny (model prog w) A (.call (.builtin "getset_descriptor.__get__") ⟨[.builtin "object.__class__",.ref a,.ref C],[]⟩) R ⟨h,g,d,t,os⟩:=by
 have hT5:(⟨h,g,d,t,os⟩:Shared).TypeIs (.builtin "object.__class__") "getset_descriptor":=R0z;have L0:=xty (M:=model prog w) hx hc;have L1:=PySem.W.looks_mroIn (M:=model prog w) X hm;refine codeAny_call_builtin PySem.W.KF.slot_gs.plain PySem.W.KF.entry_gs (PySem.W.KF.slot_gs.check _ _ _ _ _ _ _ _ PySem.W.KF.type_class (PySem.W.KF.args_gs _ _ _) ?_);unfold Builtin.«getset_descriptor.__get__» descrGet;rw[PySem.W.dga_obj];refine T3z (U3z ?_);unfold descrGetter descrCheckInstance descrNameAndClass isInstance;simp only[PySem.W.KF.owner_class]
 repeat lk
 refine⟨Code.quiet_builtin _ (by decide +kernel),codeAny_builtin PySem.W.KF.entry_class ?_⟩;unfold Builtin.«object.__class__» shownTypeOf
 repeat lk
 exact hq
theorem jE{tk:Tok}{Q:Fin->Shared->Prop}(X:K.In h)(hx:h.get? a=some o)(hc:o.cls=.ref C)(hm:PySem.W.mroIn K C (.type "object")=some true)(hf:PySem.W.findIn K (.ref C) "__class__"=some (some (.builtin "object.__class__")))(hq:Q (.done (.ret (.ref C))) ⟨h,g,d,t,os⟩) :
  wpAny (model prog w) A (Builtin.«object.__getattribute__» ⟨[.ref a,.str "__class__" tk],[]⟩) Q E ⟨h,g,d,t,os⟩:=by
 have hT5:(⟨h,g,d,t,os⟩:Shared).TypeIs (.builtin "object.__class__") "getset_descriptor":=R0z;have f5:=R0z;have f6:=F.slot_gs_get.lookup;have f7:=F.slot_gs_set.lookup;have LF:=V0z (M:=model prog w) X hf
 repeat (any_goals (first | assumption | (with_reducible refine wpAny_loadPart_at hx ?_;rw[hc]) | with_reducible refine LF.at ?_ | wp_step))
 refine nF X hx hc hm ?_
 repeat (any_goals (first | assumption | wp_step))
theorem jF{M:Model}{nameV:Value}{Q:Unit->Shared->Prop}(X:K.In h)(hx:h.get? a=some o)(hc:o.cls=.ref C)(hm:PySem.W.mroIn K C (.type "BaseException")=some true)(hq:Q () ⟨h,g,d,t,os⟩):wpAny M A (checkBuiltinCall "BaseException.__getattribute__" ⟨[.ref a,nameV],[]⟩) Q E ⟨h,g,d,t,os⟩:=by
 have hk:builtinKind "BaseException.__getattribute__"=some .slot:=by decide +kernel
 have hsplit:splitId "BaseException.__getattribute__"=some ("BaseException","__getattribute__"):=by decide +kernel
 have ha:=F.args_bexc_ga (.ref a) nameV;have LM:=PySem.W.looks_mroIn (M:=M) X hm;simp only[checkBuiltinCall,hk,hsplit];refine T3z ?_
 ·unfold isInstance
  repeat (first | (with_reducible refine wpAny_loadPart_at hx ?_;rw[hc]) | with_reducible refine LM.at ?_ | wp_step)
  exact hq
theorem oX{tk:Tok}{fill expr:Bool}{Q:Value->Shared->Prop}(X:K.In h)(hx:h.get? a=some o)(hc:o.cls=.ref C)(hA:iR K C=true)(hq:Q (.ref C) ⟨h,g,d,t,os⟩) :
  wpAny (model prog w) A (getAttrBy (.ref a) (.str "__class__" tk) fill expr) Q E ⟨h,g,d,t,os⟩:=by
 unfold iR at hA;simp only[G2z,beq_iff_eq] at hA;obtain⟨⟨⟨⟨⟨g1,g2⟩,g3⟩,g4⟩,g5⟩,g6⟩:=hA;have f3:=F.excAttr_ValueError.ga.bind (.ref a)
 have hx0:(expr&&onTheHeap (Value.builtin "BaseException.__getattribute__"))=false:=by cases expr<;>rfl
 have hx2:(Value.builtin "BaseException.__getattribute__"==Value.builtin "object.__getattribute__")=false:=by decide +kernel
 have hx1:(onTheHeap (Value.ref C)&&Value.builtin "BaseException.__getattribute__"==Value.builtin "object.__getattribute__")=false:=by rw[hx2];rfl
 have L1:=V0z (M:=model prog w) X g1;have L2':=V0z (M:=model prog w) X g2
 repeat (any_goals (first | assumption | (with_reducible refine wpAny_loadPart_at hx ?_;rw[hc]) | with_reducible refine L1.at ?_ | with_reducible refine L2'.at ?_ | wp_step))
 refine codeAny_call_builtin F.excAttr_ValueError.ga.plain F.entry_bexc_ga (jF X hx hc g5 (jE X hx hc g4 g3 ?_))
 repeat (any_goals (first | assumption | wp_step))
theorem yJ{Q:Option Value->Shared->Prop}(X:K.In h)(hx:h.get? a=some o)(hc:o.cls=.ref C)(hA:iR K C=true)(hq:Q (some (.ref C)) ⟨h,g,d,t+1,os⟩) :
  wpAny (model prog w) A (getAttr? (.ref a) "__class__") Q E ⟨h,g,d,t,os⟩:=by
 unfold getAttr? getAttrBy?
 repeat (any_goals (first | assumption | with_reducible apply oX X hx hc hA | wp_step))
end
theorem tX{K:Zf}{a C:Addr}(hA:iR K C=true):PySem.W.KitX K (.ref a) (.ref C) (isX a (.ref C)) where
 ty:=fun _ _ _ ⟨o,e,c,_⟩=>xty e c
 it:=fun _ _ X _=>by
  unfold iR at hA;rw[G2z] at hA;obtain⟨cdD,hcD⟩:=Option.isSome_iff_exists.mp hA.2;unfold PySem.W.clsIn at hcD;split at hcD
  ·rename_i c' d' cd' sl' ho
   intro A' Q' E' s' k q;unfold isType loadHead;exact T3z (wpAny_loadPart (k _ _ (X _ _ ho)) (U3z q))
  ·cases hcD
 ne:=fun h tp dd its n sl X htp=>by
  unfold iR at hA;rw[G2z] at hA;obtain⟨cdD,hcD⟩:=Option.isSome_iff_exists.mp hA.2;refine Bool.eq_false_iff.mpr fun q=>?_;have e:C=tp:=Value.ref.inj (beq_iff_eq.mp q);subst e;unfold PySem.W.clsIn at hcD;split at hcD
  ·rename_i c' d' cd' sl' ho
   have z:=(X _ _ ho).symm.trans htp;cases z
  ·cases hcD
 ca:=fun {prog w A E Q s} X p k=>by
  obtain⟨h,g,d,t,os⟩:=s;obtain⟨o,e,c,_⟩:=p;exact yJ X e c hA k
section
variable {X:Cx} {z0:List (Addr×Obj)} {σ:St} {H H':Hp} {s s':Shared} {ea C:Addr}
end
end L2
namespace L2
open PySem PySem.Spec PyProof.Rows DE PySem.SeqAt
theorem Same.tup{K:Zf}{H H':Hp}{a:Addr}{xs:List V}(e:Same H H')(h:SqT K H a xs):SqT K H' a xs:=by
 rcases h with(h | ⟨o,h⟩) | h
 ·exact .inl (.inl (e _ _ h))
 ·exact .inl (.inr ⟨o,e _ _ h⟩)
 ·exact .inr h
mutual
def Rep(K:Zf)(H:Hp):D->V->Prop
 | .non,v=>v=.non
 | .bl b,v=>v=.bl b
 | .int i,v=>v=.int i
 | .str x,v=>v=.str x
 | .tup ds,v=>∃ a vs,v=.ref a/\SqT K H a vs/\aJ K H ds vs
 | .lst ds,v=>∃ a vs,v=.ref a/\SqL K H a vs/\aJ K H ds vs
 | .exc c,v=>∃ a C,v=.ref a/\PySem.W.nsIn K mainGlobals c=some (some (.ref C))/\H a=some (.ext (isX a (.ref C)))
 | .dic ks ds,v=>∃ (a:Addr) (kvs:List (Key×V)),v=.ref a/\DAt K H a kvs/\kvs.map (·.1)=ks/\aJ K H ds (kvs.map (·.2))
def aJ(K:Zf)(H:Hp):List D->List V->Prop
 | [],vs=>vs=[]
 | d::ds,vs=>∃ v r,vs=v::r/\Rep K H d v/\aJ K H ds r
end
mutual
theorem Rep.same{K:Zf}{H H':Hp}(e:Same H H'):∀ (d:D) (v:V),Rep K H d v->Rep K H' d v
 | .non,v,h=>by simpa[Rep] using h
 | .bl b,v,h=>by simpa[Rep] using h
 | .int i,v,h=>by simpa[Rep] using h
 | .str x,v,h=>by simpa[Rep] using h
 | .tup ds,v,h=>by
  simp only[Rep] at h ⊢;obtain⟨a,vs,h1,h2,h3⟩:=h;exact⟨a,vs,h1,e.tup h2,aJ.same e ds vs h3⟩
 | .lst ds,v,h=>by
  simp only[Rep] at h ⊢;obtain⟨a,vs,h1,h2,h3⟩:=h;exact⟨a,vs,h1,e.seq h2,aJ.same e ds vs h3⟩
 | .exc c,v,h=>by
  simp only[Rep] at h ⊢;obtain⟨a,C,h1,h2,h3⟩:=h;exact⟨a,C,h1,h2,e _ _ h3⟩
 | .dic ks ds,v,h=>by
  simp only[Rep] at h ⊢;obtain⟨a,kvs,h1,h2,h3,h4⟩:=h;refine⟨a,kvs,h1,?_,h3,aJ.same e ds _ h4⟩;rcases h2 with(h2 | ⟨o,h2⟩) | h2
  ·exact .inl (.inl (e _ _ h2))
  ·exact .inl (.inr ⟨o,e _ _ h2⟩)
  ·exact .inr h2
theorem aJ.same{K:Zf}{H H':Hp}(e:Same H H'):∀ (ds:List D) (vs:List V),aJ K H ds vs->aJ K H' ds vs
 | [],vs,h=>by simpa[aJ] using h
 | d::ds,vs,h=>by
  simp only[aJ] at h ⊢;obtain⟨v,r,h1,h2,h3⟩:=h;exact⟨v,r,h1,Rep.same e d v h2,aJ.same e ds r h3⟩
end
theorem aJ.length{K:Zf}{H:Hp}:∀ {ds:List D} {vs:List V},aJ K H ds vs->ds.length=vs.length
 | [],vs,h=>by simp only[aJ] at h;subst h;rfl
 | d::ds,vs,h=>by
  simp only[aJ] at h;obtain⟨v,r,rfl,_,h3⟩:=h;simp[h3.length]
theorem aJ.nil{K:Zf}{H:Hp}:aJ K H [] []:=by simp[aJ]
theorem aJ.cons{K:Zf}{H:Hp}{d:D}{ds:List D}{v:V}{vs:List V}(h:Rep K H d v)(r:aJ K H ds vs):aJ K H (d::ds) (v::vs):=by
 simp only[aJ];exact⟨v,vs,rfl,h,r⟩
theorem aJ.append{K:Zf}{H:Hp}:∀ {ds es:List D} {vs us:List V},aJ K H ds vs->aJ K H es us->aJ K H (ds++es) (vs++us)
 | [],es,vs,us,h,h'=>by simp only[aJ] at h;subst h;exact h'
 | d::ds,es,vs,us,h,h'=>by
  simp only[aJ] at h;obtain⟨v,r,rfl,h2,h3⟩:=h;exact .cons h2 (h3.append h')
theorem aJ.get{K:Zf}{H:Hp}:∀ {ds:List D} {vs:List V} {i:Nat} {d:D},aJ K H ds vs->ds[i]?=some d->∃ v,vs[i]?=some v/\Rep K H d v
 | [],vs,i,d,_,e=>by simp at e
 | d'::ds,vs,0,d,h,e=>by
  simp only[aJ] at h;obtain⟨v,r,rfl,h2,h3⟩:=h;simp at e;subst e;exact⟨v,rfl,h2⟩
 | d'::ds,vs,i+1,d,h,e=>by
  simp only[aJ] at h;obtain⟨v,r,rfl,h2,h3⟩:=h;obtain⟨u,e1,e2⟩:=h3.get (i:=i) (d:=d) (by simpa using e);exact⟨u,by simpa using e1,e2⟩
theorem aJ.take{K:Zf}{H:Hp}:∀ (n:Nat) {ds:List D} {vs:List V},aJ K H ds vs->aJ K H (ds.take n) (vs.take n)
 | 0,_,_,_=>by simpa using aJ.nil
 | n+1,[],vs,h=>by simp only[aJ] at h;subst h;simpa using aJ.nil
 | n+1,d::ds,vs,h=>by
  simp only[aJ] at h;obtain⟨v,r,rfl,h2,h3⟩:=h;simpa using aJ.cons h2 (h3.take n)
theorem aJ.drop{K:Zf}{H:Hp}:∀ (n:Nat) {ds:List D} {vs:List V},aJ K H ds vs->aJ K H (ds.drop n) (vs.drop n)
 | 0,_,_,h=>by simpa using h
 | n+1,[],vs,h=>by simp only[aJ] at h;subst h;simpa using aJ.nil
 | n+1,d::ds,vs,h=>by
  simp only[aJ] at h;obtain⟨v,r,rfl,h2,h3⟩:=h;simpa using h3.drop n
theorem aJ.reverse{K:Zf}{H:Hp}:∀ {ds:List D} {vs:List V},aJ K H ds vs->aJ K H ds.reverse vs.reverse
 | [],vs,h=>by simp only[aJ] at h;subst h;simpa using aJ.nil
 | d::ds,vs,h=>by
  simp only[aJ] at h;obtain⟨v,r,rfl,h2,h3⟩:=h;simpa using h3.reverse.append (.cons h2 .nil)
structure Ext (Hs H Hs' H':Hp):Prop where
 vis:Same Hs Hs'
 all:Same H H'
 sub:Same Hs' H'
 hid:∀ b o,H b=some o->Hs b=none->Hs' b=none
theorem Ext.refl{Hs H:Hp}(h:Same Hs H):Ext Hs H Hs H:=⟨.refl _,.refl _,h,fun _ _ _ h=>h⟩
theorem Ext.trans{Hs H Hs1 H1 Hs2 H2:Hp}(a:Ext Hs H Hs1 H1)(b:Ext Hs1 H1 Hs2 H2):Ext Hs H Hs2 H2 :=
 ⟨a.vis.trans b.vis,a.all.trans b.all,b.sub,fun c o h1 h2=>b.hid c o (a.all c o h1) (a.hid c o h1 h2)⟩
theorem Ext.new{Hs H:Hp}(h:Same Hs H){p:Addr}(o:HO)(hp:H p=none):Ext Hs H (upd Hs p o) (upd H p o) where
 vis:=fun b u e=>by rw[aq (ao (h b u e) hp)];exact e
 all:=fun b u e=>by rw[aq (ao e hp)];exact e
 sub:=fun b u e=>by
  by_cases hb:b=p
  ·subst hb;rw[aK] at e ⊢;exact e
  ·rw[aq hb] at e ⊢;exact h b u e
 hid:=fun b u e n=>by rw[aq (ao e hp)];exact n
theorem isT{X:Cx}{z0:List (Addr×Obj)}{σ:St}{H:Hp}{s:Shared}{a:Addr}{vs:List V}(I:Inv X z0 σ H s)(h:SqT X.K H a vs):∃ its:List Value,Vals vs its/\s.heap.IsTuple a its.toArray:=by
 obtain⟨its,r,p,_⟩:=I.tuple h;exact⟨its,r,p⟩
theorem isL{X:Cx}{z0:List (Addr×Obj)}{σ:St}{H:Hp}{s:Shared}{a:Addr}{vs:List V}(I:Inv X z0 σ H s)(h:SqL X.K H a vs):∃ its:List Value,Vals vs its/\s.heap.IsList a its.toArray:=by
 obtain⟨its,r,p,_⟩:=I.list h;exact⟨its,r,p.isList⟩
mutual
theorem jr:∀ d:D,dep d<1000->deq d d=true
 | .non,_=>rfl
 | .bl b,_=>by simp[deq]
 | .int i,_=>by simp[deq]
 | .str x,_=>by simp[deq]
 | .tup xs,h=>by simp only[deq];exact gQ xs (by simp only[dep] at h;omega)
 | .lst xs,h=>by simp only[deq];exact gQ xs (by simp only[dep] at h;omega)
 | .exc c,h=>absurd h (by simp[dep])
 | .dic _ _,h=>absurd h (by simp[dep])
theorem gQ:∀ ds:List D,deps ds<1000->jY ds ds=true
 | [],_=>rfl
 | d::ds,h=>by
  simp only[deps] at h;simp only[jY,jr d (by omega),gQ ds (by omega),Bool.and_self]
end
theorem m9:∀ {xs ys:List D} {e:Nat->Bool},(∀ (j:Nat) (x y:D),xs[j]?=some x->ys[j]?=some y->e j=deq x y)->((List.range (min xs.length ys.length)).all e&&xs.length==ys.length)=jY xs ys
 | [],[],_,_=>rfl
 | [],y::ys,_,_=>by simp[jY]
 | x::xs,[],_,_=>by simp[jY]
 | x::xs,y::ys,e,h=>by
  have ih:=m9 (xs:=xs) (ys:=ys) (e:=fun j=>e (j+1)) fun j a b e1 e2=>h (j+1) a b (by simpa using e1) (by simpa using e2);have h0:=h 0 x y rfl rfl;simp only[jY,<- ih,<- h0,List.length_cons];rw[show min (xs.length+1) (ys.length+1)=min xs.length ys.length+1 by omega,List.range_succ_eq_map,List.all_cons,List.all_map];rw[Bool.and_assoc];congr 1;congr 1;simp
section
variable {X:Cx} {z0:List (Addr×Obj)} {σ:St} {H:Hp} {s:Shared}
mutual
theorem Rep.inj(I:Inv X z0 σ H s):∀ (d d':D) (v:V),dep d<1000->dep d'<1000->Rep X.K H d v->Rep X.K H d' v->d=d'
 | .non,d',v,z,z',h,h'=>by simp only[Rep] at h;subst h;cases d'<;>simp[Rep] at h' ⊢
 | .bl b,d',v,z,z',h,h'=>by simp only[Rep] at h;subst h;cases d'<;>simp[Rep] at h' ⊢;exact h'
 | .int b,d',v,z,z',h,h'=>by simp only[Rep] at h;subst h;cases d'<;>simp[Rep] at h' ⊢;exact h'
 | .str b,d',v,z,z',h,h'=>by simp only[Rep] at h;subst h;cases d'<;>simp[Rep] at h' ⊢;exact h'
 | .tup ds,d',v,z,z',h,h'=>by
  simp only[Rep] at h;obtain⟨a,vs,rfl,h2,h3⟩:=h
  cases d' with
  | tup es =>
   simp only[Rep] at h';obtain⟨a',vs',e,h2',h3'⟩:=h';cases e;have:=I.tuple_inj h2 h2';subst this;rw[aJ.inj I ds es vs (by simp only[dep] at z;omega) (by simp only[dep] at z';omega) h3 h3']
  | lst es =>
   simp only[Rep] at h';obtain⟨a',vs',e,h2',h3'⟩:=h';cases e;obtain⟨i1,_,p1⟩:=isT I h2;obtain⟨i2,_,p2⟩:=isL I h2';exact absurd rfl (ne_of_list_tuple p2 p1)
  | non=>simp[Rep] at h'
  | bl _=>simp[Rep] at h'
  | int _=>simp[Rep] at h'
  | str _=>simp[Rep] at h'
  | exc _=>exact absurd z' (by simp[dep])
  | dic _ _=>exact absurd z' (by simp[dep])
 | .lst ds,d',v,z,z',h,h'=>by
  simp only[Rep] at h;obtain⟨a,vs,rfl,h2,h3⟩:=h
  cases d' with
  | lst es =>
   simp only[Rep] at h';obtain⟨a',vs',e,h2',h3'⟩:=h';cases e;have:=I.list_inj h2 h2';subst this;rw[aJ.inj I ds es vs (by simp only[dep] at z;omega) (by simp only[dep] at z';omega) h3 h3']
  | tup es =>
   simp only[Rep] at h';obtain⟨a',vs',e,h2',h3'⟩:=h';cases e;obtain⟨i1,_,p1⟩:=isL I h2;obtain⟨i2,_,p2⟩:=isT I h2';exact absurd rfl (ne_of_list_tuple p1 p2)
  | non=>simp[Rep] at h'
  | bl _=>simp[Rep] at h'
  | int _=>simp[Rep] at h'
  | str _=>simp[Rep] at h'
  | exc _=>exact absurd z' (by simp[dep])
  | dic _ _=>exact absurd z' (by simp[dep])
 | .exc c,d',v,z,z',h,h'=>absurd z (by simp[dep])
 | .dic _ _,d',v,z,z',h,h'=>absurd z (by simp[dep])
theorem aJ.inj(I:Inv X z0 σ H s):∀ (ds es:List D) (vs:List V),deps ds<1000->deps es<1000->aJ X.K H ds vs->aJ X.K H es vs->ds=es
 | [],es,vs,z,z',h,h'=>by
  simp only[aJ] at h;subst h
  cases es with
  | nil=>rfl
  | cons e es=>simp[aJ] at h'
 | d::ds,es,vs,z,z',h,h'=>by
  simp only[aJ] at h;obtain⟨v,r,rfl,h2,h3⟩:=h
  cases es with
  | nil=>simp[aJ] at h'
  | cons e es =>
   simp only[aJ] at h';obtain⟨v',r',e',h2',h3'⟩:=h';cases e';simp only[deps] at z z';rw[Rep.inj I d e v (by omega) (by omega) h2 h2',aJ.inj I ds es r (by omega) (by omega) h3 h3']
end
def eJ(ds es:List D)(j:Nat):Bool:=match ds[j]?,es[j]? with
 | some x,some y=>deq x y
 | _,_=>true
theorem rA(ds es:List D):((List.range (min ds.length es.length)).all (eJ ds es)&&ds.length==es.length)=jY ds es :=
 m9 fun j x y e1 e2=>by unfold eJ;rw[e1,e2]
theorem rz(ds es:List D)(h:ds.length=es.length):(List.range ds.length).all (eJ ds es)=jY ds es:=by
 rw[<- rA ds es,<- h];simp
theorem jq:∀ {xs ys:List D},xs.length≠ys.length->jY xs ys=false
 | [],[],h=>absurd rfl h
 | [],_::_,_=>rfl
 | _::_,[],_=>rfl
 | x::xs,y::ys,h=>by
  simp only[jY,jq (xs:=xs) (ys:=ys) (by intro e;exact h (by simp[e])),A3z]
theorem d9{A:Around}:A.in1.units=A.units+1:=rfl
mutual
theorem qZ(I:Inv X z0 σ H s):∀ (d d':D) (v v':V) (u u':Value) (A:Around),Rep X.K H d v->Rep X.K H d' v'->RelV v u->RelV v' u'->A.units+dep d<cLine->dep d<1000->dep d'<1000->EqAt A s u u' (deq d d')
 | .non,d',v,v',u,u',A,h,h',r,r',hu,z,z'=>by
  simp only[Rep] at h;subst h;cases (show u=Value.none from r)
  have hu0:A.units<cLine:=O1z (E2z _ _) hu
  cases d' with
  | exc _=>exact absurd z' (by simp[dep])
  | dic _ _=>exact absurd z' (by simp[dep])
  | non=>simp only[Rep] at h';subst h';cases (show u'=Value.none from r');exact EqAt.same _
  | bl b=>simp only[Rep] at h';subst h';cases (show u'=Value.bool b from r');exact EqAt.none_bool b
  | int i=>simp only[Rep] at h';subst h';obtain⟨t,rfl⟩:=r';exact EqAt.none_int i t
  | str x=>simp only[Rep] at h';subst h';obtain⟨t,rfl⟩:=r';exact EqAt.none_str x t
  | tup es=>simp only[Rep] at h';obtain⟨a,vs,rfl,h2,h3⟩:=h';cases (show u'=Value.ref a from r');obtain⟨its,_,p⟩:=isT I h2;exact EqAt.none_tuple p hu0
  | lst es=>simp only[Rep] at h';obtain⟨a,vs,rfl,h2,h3⟩:=h';cases (show u'=Value.ref a from r');obtain⟨its,_,p⟩:=isL I h2;exact EqAt.none_list p hu0
 | .bl c,d',v,v',u,u',A,h,h',r,r',hu,z,z'=>by
  simp only[Rep] at h;subst h;cases (show u=Value.bool c from r)
  have hu0:A.units<cLine:=O1z (E2z _ _) hu
  cases d' with
  | exc _=>exact absurd z' (by simp[dep])
  | dic _ _=>exact absurd z' (by simp[dep])
  | non=>simp only[Rep] at h';subst h';cases (show u'=Value.none from r');exact EqAt.bool_none c
  | bl b=>simp only[Rep] at h';subst h';cases (show u'=Value.bool b from r');exact EqAt.bool_bool c b
  | int i=>simp only[Rep] at h';subst h';obtain⟨t,rfl⟩:=r';exact EqAt.bool_int c i t
  | str x=>simp only[Rep] at h';subst h';obtain⟨t,rfl⟩:=r';exact EqAt.bool_str c x t
  | tup es=>simp only[Rep] at h';obtain⟨a,vs,rfl,h2,h3⟩:=h';cases (show u'=Value.ref a from r');obtain⟨its,_,p⟩:=isT I h2;exact EqAt.bool_tuple c p hu0
  | lst es=>simp only[Rep] at h';obtain⟨a,vs,rfl,h2,h3⟩:=h';cases (show u'=Value.ref a from r');obtain⟨its,_,p⟩:=isL I h2;exact EqAt.bool_list c p hu0
 | .int c,d',v,v',u,u',A,h,h',r,r',hu,z,z'=>by
  simp only[Rep] at h;subst h;obtain⟨t0,rfl⟩:=r
  have hu0:A.units<cLine:=O1z (E2z _ _) hu
  cases d' with
  | exc _=>exact absurd z' (by simp[dep])
  | dic _ _=>exact absurd z' (by simp[dep])
  | non=>simp only[Rep] at h';subst h';cases (show u'=Value.none from r');exact EqAt.int_none c t0
  | bl b=>simp only[Rep] at h';subst h';cases (show u'=Value.bool b from r');exact EqAt.int_bool c t0 b
  | int i=>simp only[Rep] at h';subst h';obtain⟨t,rfl⟩:=r';exact EqAt.int_int c t0 i t
  | str x=>simp only[Rep] at h';subst h';obtain⟨t,rfl⟩:=r';exact EqAt.int_str c t0 x t
  | tup es=>simp only[Rep] at h';obtain⟨a,vs,rfl,h2,h3⟩:=h';cases (show u'=Value.ref a from r');obtain⟨its,_,p⟩:=isT I h2;exact EqAt.int_tuple c t0 p hu0
  | lst es=>simp only[Rep] at h';obtain⟨a,vs,rfl,h2,h3⟩:=h';cases (show u'=Value.ref a from r');obtain⟨its,_,p⟩:=isL I h2;exact EqAt.int_list c t0 p hu0
 | .str c,d',v,v',u,u',A,h,h',r,r',hu,z,z'=>by
  simp only[Rep] at h;subst h;obtain⟨t0,rfl⟩:=r
  have hu0:A.units<cLine:=O1z (E2z _ _) hu
  cases d' with
  | exc _=>exact absurd z' (by simp[dep])
  | dic _ _=>exact absurd z' (by simp[dep])
  | non=>simp only[Rep] at h';subst h';cases (show u'=Value.none from r');exact EqAt.str_none c t0
  | bl b=>simp only[Rep] at h';subst h';cases (show u'=Value.bool b from r');exact EqAt.str_bool c t0 b
  | int i=>simp only[Rep] at h';subst h';obtain⟨t,rfl⟩:=r';exact EqAt.str_int c t0 i t
  | str x=>simp only[Rep] at h';subst h';obtain⟨t,rfl⟩:=r';exact EqAt.str_str c t0 x t
  | tup es=>simp only[Rep] at h';obtain⟨a,vs,rfl,h2,h3⟩:=h';cases (show u'=Value.ref a from r');obtain⟨its,_,p⟩:=isT I h2;exact EqAt.str_tuple c t0 p hu0
  | lst es=>simp only[Rep] at h';obtain⟨a,vs,rfl,h2,h3⟩:=h';cases (show u'=Value.ref a from r');obtain⟨its,_,p⟩:=isL I h2;exact EqAt.str_list c t0 p hu0
 | .tup ds,d',v,v',u,u',A,h,h',r,r',hu,z,z'=>by
  have hh:=h;simp only[Rep] at h;obtain⟨a,vs,rfl,h2,h3⟩:=h;cases (show u=Value.ref a from r);obtain⟨its,rv,p⟩:=isT I h2;have hu0:A.units<cLine:=O1z (E2z _ _) hu
  have hu1:A.in1.units+deps ds<cLine:=by have:dep (.tup ds)=deps ds+1:=rfl;rw[d9];omega
  cases d' with
  | exc _=>exact absurd z' (by simp[dep])
  | dic _ _=>exact absurd z' (by simp[dep])
  | non=>simp only[Rep] at h';subst h';cases (show u'=Value.none from r');exact EqAt.tuple_none p hu0
  | bl b=>simp only[Rep] at h';subst h';cases (show u'=Value.bool b from r');exact EqAt.tuple_bool b p hu0
  | int i=>simp only[Rep] at h';subst h';obtain⟨t,rfl⟩:=r';exact EqAt.tuple_int i t p hu0
  | str x=>simp only[Rep] at h';subst h';obtain⟨t,rfl⟩:=r';exact EqAt.tuple_str x t p hu0
  | tup es =>
   have hh':=h';simp only[Rep] at h';obtain⟨b,us,rfl,h2',h3'⟩:=h';cases (show u'=Value.ref b from r');obtain⟨its',rv',p'⟩:=isT I h2'
   by_cases hab:a=b
   ·subst hab
    have:=Rep.inj I _ _ _ z z' hh hh';rw[<- this,jr _ z];exact EqAt.same _
   ·have q:=RcAt.tuples p p' hu0 (e:=eJ ds es) fun j g1 g2=>eZ I ds es vs us its its' A.in1 h3 h3' rv rv' hu1 (by simp only[dep] at z;omega) (by simp only[dep] at z';omega) j _ _ (by simp at g1 ⊢) (by simp at g2 ⊢)
    have l1:=h3.length;have l2:=rv.length;have l3:=h3'.length;have l4:=rv'.length
    rw[T1z,T1z,<- l2,<- l1,<- l4,<- l3,rA] at q;exact .of_refs hab q
  | lst es=>simp only[Rep] at h';obtain⟨a,vs,rfl,h2,h3⟩:=h';cases (show u'=Value.ref a from r');obtain⟨its,_,p'⟩:=isL I h2;exact EqAt.tuple_list p p' hu0
 | .lst ds,d',v,v',u,u',A,h,h',r,r',hu,z,z'=>by
  have hh:=h;simp only[Rep] at h;obtain⟨a,vs,rfl,h2,h3⟩:=h;cases (show u=Value.ref a from r);obtain⟨its,rv,p⟩:=isL I h2;have hu0:A.units<cLine:=O1z (E2z _ _) hu
  have hu1:A.in1.units+deps ds<cLine:=by have:dep (.lst ds)=deps ds+1:=rfl;rw[d9];omega
  cases d' with
  | exc _=>exact absurd z' (by simp[dep])
  | dic _ _=>exact absurd z' (by simp[dep])
  | non=>simp only[Rep] at h';subst h';cases (show u'=Value.none from r');exact EqAt.list_none p hu0
  | bl b=>simp only[Rep] at h';subst h';cases (show u'=Value.bool b from r');exact EqAt.list_bool b p hu0
  | int i=>simp only[Rep] at h';subst h';obtain⟨t,rfl⟩:=r';exact EqAt.list_int i t p hu0
  | str x=>simp only[Rep] at h';subst h';obtain⟨t,rfl⟩:=r';exact EqAt.list_str x t p hu0
  | lst es =>
   have hh':=h';simp only[Rep] at h';obtain⟨b,us,rfl,h2',h3'⟩:=h';cases (show u'=Value.ref b from r');obtain⟨its',rv',p'⟩:=isL I h2';have l1:=h3.length;have l2:=rv.length;have l3:=h3'.length;have l4:=rv'.length
   by_cases hab:a=b
   ·subst hab
    have:=Rep.inj I _ _ _ z z' hh hh';rw[<- this,jr _ z];exact EqAt.same _
   ·by_cases hl:ds.length=es.length
    ·have q:=RcAt.lists p p' (by simp;omega) hu0 (e:=eJ ds es) fun j g1 g2=>eZ I ds es vs us its its' A.in1 h3 h3' rv rv' hu1 (by simp only[dep] at z;omega) (by simp only[dep] at z';omega) j _ _ (by simp at g1 ⊢) (by simp at g2 ⊢)
     rw[T1z,<- l2,<- l1,rz _ _ hl] at q;exact .of_refs hab q
    ·have q:=RcAt.lists_lengths p p' (by simp;omega) hu0
     rw[show deq (.lst ds) (.lst es)=jY ds es from rfl,jq hl];exact .of_refs hab q
  | tup es=>simp only[Rep] at h';obtain⟨a,vs,rfl,h2,h3⟩:=h';cases (show u'=Value.ref a from r');obtain⟨its,_,p'⟩:=isT I h2;exact EqAt.list_tuple p p' hu0
 | .exc c,d',v,v',u,u',A,h,h',r,r',hu,z,z'=>absurd z (by simp[dep])
 | .dic _ _,d',v,v',u,u',A,h,h',r,r',hu,z,z'=>absurd z (by simp[dep])
theorem eZ(I:Inv X z0 σ H s):∀ (ds es:List D) (vs us:List V) (its its':List Value) (A:Around),aJ X.K H ds vs->aJ X.K H es us->Vals vs its->Vals us its'->A.units+deps ds<cLine->deps ds<1000->deps es<1000 ->
  ∀ (j:Nat) (u u':Value),its[j]?=some u->its'[j]?=some u'->EqAt A s u u' (eJ ds es j)
 | [],es,vs,us,its,its',A,h,h',r,r',hu,z,z',j,u,u',e1,e2=>by
  simp only[aJ] at h;subst h;cases r;simp at e1
 | d::ds,es,vs,us,its,its',A,h,h',r,r',hu,z,z',j,u,u',e1,e2=>by
  simp only[aJ] at h;obtain⟨v,vr,rfl,h2,h3⟩:=h
  cases r with
  | cons r rr =>
   cases es with
   | nil=>simp only[aJ] at h';subst h';cases r';simp at e2
   | cons e es =>
    simp only[aJ] at h';obtain⟨v',vr',rfl,h2',h3'⟩:=h'
    cases r' with
    | cons r' rr' =>
     have hd:dep d<=deps (d::ds):=Nat.le_max_left _ _;have hds:deps ds<=deps (d::ds):=Nat.le_max_right _ _
     cases j with
     | zero =>
      simp at e1 e2;subst e1 e2
      exact qZ I d e v v' _ _ A h2 h2' r r' (by omega) (by simp only[deps] at z;omega) (by simp only[deps] at z';omega)
     | succ j =>
      have q:=eZ I ds es vr vr' _ _ A h3 h3' rr rr' (by omega) (by simp only[deps] at z;omega) (by simp only[deps] at z';omega) j u u' (by simpa using e1) (by simpa using e2)
      simpa[eJ] using q
end
theorem jw(I:Inv X z0 σ H s){d d':D}{v v':V}{u u':Value}(A:Around)(h:Rep X.K H d v)(h':Rep X.K H d' v')(r:RelV v u)(r':RelV v' u')(hu:A.units+dep d<cLine)(z:dep d<1000)(z':dep d'<1000):RcAt A s u u' (deq d d')/\RcNeAt A s u u' (!deq d d'):=by
 have hu0:A.units<cLine:=O1z (E2z _ _) hu
 cases d with
 | exc _=>exact absurd z (by simp[dep])
 | dic _ _=>exact absurd z (by simp[dep])
 | non =>
  simp only[Rep] at h;subst h;cases (show u=Value.none from r)
  cases d' with
  | exc _=>exact absurd z' (by simp[dep])
  | dic _ _=>exact absurd z' (by simp[dep])
  | non=>simp only[Rep] at h';subst h';cases (show u'=Value.none from r');exact⟨RcAt.none_none,RcNeAt.none_none⟩
  | bl b=>simp only[Rep] at h';subst h';cases (show u'=Value.bool b from r');exact⟨RcAt.none_bool b,RcNeAt.none_bool b⟩
  | int i=>simp only[Rep] at h';subst h';obtain⟨t,rfl⟩:=r';exact⟨RcAt.none_int i t,RcNeAt.none_int i t⟩
  | str x=>simp only[Rep] at h';subst h';obtain⟨t,rfl⟩:=r';exact⟨RcAt.none_str x t,RcNeAt.none_str x t⟩
  | tup es=>simp only[Rep] at h';obtain⟨a,vs,rfl,h2,h3⟩:=h';cases (show u'=Value.ref a from r');obtain⟨its,_,p⟩:=isT I h2;exact⟨RcAt.none_tuple p hu0,RcNeAt.none_tuple p hu0⟩
  | lst es=>simp only[Rep] at h';obtain⟨a,vs,rfl,h2,h3⟩:=h';cases (show u'=Value.ref a from r');obtain⟨its,_,p⟩:=isL I h2;exact⟨RcAt.none_list p hu0,RcNeAt.none_list p hu0⟩
 | bl c =>
  simp only[Rep] at h;subst h;cases (show u=Value.bool c from r)
  cases d' with
  | exc _=>exact absurd z' (by simp[dep])
  | dic _ _=>exact absurd z' (by simp[dep])
  | non=>simp only[Rep] at h';subst h';cases (show u'=Value.none from r');exact⟨RcAt.bool_none c,RcNeAt.bool_none c⟩
  | bl b=>simp only[Rep] at h';subst h';cases (show u'=Value.bool b from r');exact⟨RcAt.bool_bool c b,RcNeAt.bool_bool c b⟩
  | int i=>simp only[Rep] at h';subst h';obtain⟨t,rfl⟩:=r';exact⟨RcAt.bool_int c i t,RcNeAt.bool_int c i t⟩
  | str x=>simp only[Rep] at h';subst h';obtain⟨t,rfl⟩:=r';exact⟨RcAt.bool_str c x t,RcNeAt.bool_str c x t⟩
  | tup es=>simp only[Rep] at h';obtain⟨a,vs,rfl,h2,h3⟩:=h';cases (show u'=Value.ref a from r');obtain⟨its,_,p⟩:=isT I h2;exact⟨RcAt.bool_tuple c p hu0,RcNeAt.bool_tuple c p hu0⟩
  | lst es=>simp only[Rep] at h';obtain⟨a,vs,rfl,h2,h3⟩:=h';cases (show u'=Value.ref a from r');obtain⟨its,_,p⟩:=isL I h2;exact⟨RcAt.bool_list c p hu0,RcNeAt.bool_list c p hu0⟩
 | int c =>
  simp only[Rep] at h;subst h;obtain⟨t0,rfl⟩:=r
  cases d' with
  | exc _=>exact absurd z' (by simp[dep])
  | dic _ _=>exact absurd z' (by simp[dep])
  | non=>simp only[Rep] at h';subst h';cases (show u'=Value.none from r');exact⟨RcAt.int_none c t0,RcNeAt.int_none c t0⟩
  | bl b=>simp only[Rep] at h';subst h';cases (show u'=Value.bool b from r');exact⟨RcAt.int_bool c t0 b,RcNeAt.int_bool c t0 b⟩
  | int i=>simp only[Rep] at h';subst h';obtain⟨t,rfl⟩:=r';exact⟨RcAt.int_int c t0 i t,RcNeAt.int_int c t0 i t⟩
  | str x=>simp only[Rep] at h';subst h';obtain⟨t,rfl⟩:=r';exact⟨RcAt.int_str c t0 x t,RcNeAt.int_str c t0 x t⟩
  | tup es=>simp only[Rep] at h';obtain⟨a,vs,rfl,h2,h3⟩:=h';cases (show u'=Value.ref a from r');obtain⟨its,_,p⟩:=isT I h2;exact⟨RcAt.int_tuple c t0 p hu0,RcNeAt.int_tuple c t0 p hu0⟩
  | lst es=>simp only[Rep] at h';obtain⟨a,vs,rfl,h2,h3⟩:=h';cases (show u'=Value.ref a from r');obtain⟨its,_,p⟩:=isL I h2;exact⟨RcAt.int_list c t0 p hu0,RcNeAt.int_list c t0 p hu0⟩
 | str c =>
  simp only[Rep] at h;subst h;obtain⟨t0,rfl⟩:=r
  cases d' with
  | exc _=>exact absurd z' (by simp[dep])
  | dic _ _=>exact absurd z' (by simp[dep])
  | non=>simp only[Rep] at h';subst h';cases (show u'=Value.none from r');exact⟨RcAt.str_none c t0,RcNeAt.str_none c t0⟩
  | bl b=>simp only[Rep] at h';subst h';cases (show u'=Value.bool b from r');exact⟨RcAt.str_bool c t0 b,RcNeAt.str_bool c t0 b⟩
  | int i=>simp only[Rep] at h';subst h';obtain⟨t,rfl⟩:=r';exact⟨RcAt.str_int c t0 i t,RcNeAt.str_int c t0 i t⟩
  | str x=>simp only[Rep] at h';subst h';obtain⟨t,rfl⟩:=r';exact⟨RcAt.str_str c t0 x t,RcNeAt.str_str c t0 x t⟩
  | tup es=>simp only[Rep] at h';obtain⟨a,vs,rfl,h2,h3⟩:=h';cases (show u'=Value.ref a from r');obtain⟨its,_,p⟩:=isT I h2;exact⟨RcAt.str_tuple c t0 p hu0,RcNeAt.str_tuple c t0 p hu0⟩
  | lst es=>simp only[Rep] at h';obtain⟨a,vs,rfl,h2,h3⟩:=h';cases (show u'=Value.ref a from r');obtain⟨its,_,p⟩:=isL I h2;exact⟨RcAt.str_list c t0 p hu0,RcNeAt.str_list c t0 p hu0⟩
 | tup ds =>
  simp only[Rep] at h;obtain⟨a,vs,rfl,h2,h3⟩:=h;cases (show u=Value.ref a from r);obtain⟨its,rv,p⟩:=isT I h2
  have hu1:A.in1.units+deps ds<cLine:=by have:dep (.tup ds)=deps ds+1:=rfl;rw[d9];omega
  cases d' with
  | exc _=>exact absurd z' (by simp[dep])
  | dic _ _=>exact absurd z' (by simp[dep])
  | non=>simp only[Rep] at h';subst h';cases (show u'=Value.none from r');exact⟨RcAt.tuple_none p hu0,RcNeAt.tuple_none p hu0⟩
  | bl b=>simp only[Rep] at h';subst h';cases (show u'=Value.bool b from r');exact⟨RcAt.tuple_bool b p hu0,RcNeAt.tuple_bool b p hu0⟩
  | int i=>simp only[Rep] at h';subst h';obtain⟨t,rfl⟩:=r';exact⟨RcAt.tuple_int i t p hu0,RcNeAt.tuple_int i t p hu0⟩
  | str x=>simp only[Rep] at h';subst h';obtain⟨t,rfl⟩:=r';exact⟨RcAt.tuple_str x t p hu0,RcNeAt.tuple_str x t p hu0⟩
  | tup es =>
   simp only[Rep] at h';obtain⟨b,us,rfl,h2',h3'⟩:=h';cases (show u'=Value.ref b from r');obtain⟨its',rv',p'⟩:=isT I h2'
   have l1:=h3.length;have l2:=rv.length;have l3:=h3'.length;have l4:=rv'.length
   have he:∀ j (g1:j<its.toArray.size) (g2:j<its'.toArray.size),EqAt A.in1 s its.toArray[j] its'.toArray[j] (eJ ds es j):=fun j g1 g2=>eZ I ds es vs us its its' A.in1 h3 h3' rv rv' hu1 (by simp only[dep] at z;omega) (by simp only[dep] at z';omega) j _ _ (by simp at g1 ⊢) (by simp at g2 ⊢)
   have q:=RcAt.tuples p p' hu0 he;have q':=RcNeAt.tuples p p' hu0 he;rw[T1z,T1z,<- l2,<- l1,<- l4,<- l3,rA] at q q';exact⟨q,q'⟩
  | lst es=>simp only[Rep] at h';obtain⟨a,vs,rfl,h2,h3⟩:=h';cases (show u'=Value.ref a from r');obtain⟨its,_,p'⟩:=isL I h2;exact⟨RcAt.tuple_list p p' hu0,RcNeAt.tuple_list p p' hu0⟩
 | lst ds =>
  simp only[Rep] at h;obtain⟨a,vs,rfl,h2,h3⟩:=h;cases (show u=Value.ref a from r);obtain⟨its,rv,p⟩:=isL I h2
  have hu1:A.in1.units+deps ds<cLine:=by have:dep (.lst ds)=deps ds+1:=rfl;rw[d9];omega
  cases d' with
  | exc _=>exact absurd z' (by simp[dep])
  | dic _ _=>exact absurd z' (by simp[dep])
  | non=>simp only[Rep] at h';subst h';cases (show u'=Value.none from r');exact⟨RcAt.list_none p hu0,RcNeAt.list_none p hu0⟩
  | bl b=>simp only[Rep] at h';subst h';cases (show u'=Value.bool b from r');exact⟨RcAt.list_bool b p hu0,RcNeAt.list_bool b p hu0⟩
  | int i=>simp only[Rep] at h';subst h';obtain⟨t,rfl⟩:=r';exact⟨RcAt.list_int i t p hu0,RcNeAt.list_int i t p hu0⟩
  | str x=>simp only[Rep] at h';subst h';obtain⟨t,rfl⟩:=r';exact⟨RcAt.list_str x t p hu0,RcNeAt.list_str x t p hu0⟩
  | lst es =>
   simp only[Rep] at h';obtain⟨b,us,rfl,h2',h3'⟩:=h';cases (show u'=Value.ref b from r');obtain⟨its',rv',p'⟩:=isL I h2'
   have l1:=h3.length;have l2:=rv.length;have l3:=h3'.length;have l4:=rv'.length
   by_cases hl:ds.length=es.length
   ·have he:∀ j (g1:j<its.toArray.size) (g2:j<its'.toArray.size),EqAt A.in1 s its.toArray[j] its'.toArray[j] (eJ ds es j):=fun j g1 g2=>eZ I ds es vs us its its' A.in1 h3 h3' rv rv' hu1 (by simp only[dep] at z;omega) (by simp only[dep] at z';omega) j _ _ (by simp at g1 ⊢) (by simp at g2 ⊢)
    have q:=RcAt.lists p p' (by simp;omega) hu0 he
    have q':=RcNeAt.lists p p' (by simp;omega) hu0 he
    rw[T1z,<- l2,<- l1,rz _ _ hl] at q q';exact⟨q,q'⟩
   ·rw[show deq (.lst ds) (.lst es)=jY ds es from rfl,jq hl]
    exact⟨RcAt.lists_lengths p p' (by simp;omega) hu0,RcNeAt.lists_lengths p p' (by simp;omega) hu0⟩
  | tup es=>simp only[Rep] at h';obtain⟨a,vs,rfl,h2,h3⟩:=h';cases (show u'=Value.ref a from r');obtain⟨its,_,p'⟩:=isT I h2;exact⟨RcAt.list_tuple p p' hu0,RcNeAt.list_tuple p p' hu0⟩
end
def iz(X:Cx)(e:Expr):TE:=fun σ H Q=>∀ z0 s,Inv X z0 σ H s->wpAny (model X.prog X.w) X.A (eval e X.env) (EP X z0 σ Q) X.xe s
def sG(X:Cx)(e:Expr):TT:=fun σ H Q=>∀ z0 s,Inv X z0 σ H s->wpAny (model X.prog X.w) X.A (isTrue e X.env (eval e X.env)) (TP X z0 σ Q) X.xe s
def pC(X:Cx)(es:List Expr):TA:=fun σ H Q=>∀ pos z0 s,Inv X z0 σ H s->wpAny (model X.prog X.w) X.A (spliced (backTo pos (starEach es X.env))) (AP X z0 σ Q) X.xe s
def kZ(X:Cx)(tg iter:Expr):TI:=fun σ H R=>∀ z0 s,Inv X z0 σ H s->wpAny (model X.prog X.w) X.A (eval iter X.env) (fun v s1=>wpAny (model X.prog X.w) X.A (pyIter v) (PIE X z0 σ tg R) X.xe s1) X.xe s
section
variable {X:Cx} {e:Expr}
theorem ak:PE X e (iz X e):=fun z0 s σ H Q I h=>h z0 s I
theorem cg:PT X e (sG X e):=fun z0 s σ H Q I h=>h z0 s I
theorem bQ{es:List Expr}:PA X es (pC X es):=fun pos z0 s σ H Q I h=>h pos z0 s I
theorem fM{tg iter:Expr}:PI X tg iter (kZ X tg iter):=fun z0 s σ H R I h=>h z0 s I
theorem PE.sem{t:TE}{σ:St}{H:Hp}{Q:VK}(h:PE X e t)(q:t σ H Q):iz X e σ H Q:=fun z0 s I=>h z0 s σ H Q I q
theorem PT.sem{t:TT}{σ:St}{H:Hp}{Q:Bool->Hp->Prop}(h:PT X e t)(q:t σ H Q):sG X e σ H Q:=fun z0 s I=>h z0 s σ H Q I q
theorem PA.sem{es:List Expr}{t:TA}{σ:St}{H:Hp}{Q:List V->Hp->Prop}(h:PA X es t)(q:t σ H Q):pC X es σ H Q:=fun pos z0 s I=>h pos z0 s σ H Q I q
theorem PI.sem{tg iter:Expr}{t:TI}{σ:St}{H:Hp}{R:It->Hp->Prop}(h:PI X tg iter t)(q:t σ H R):kZ X tg iter σ H R:=fun z0 s I=>h z0 s σ H R I q
end
def bC(K:Zf)(Hs:Hp)(ρ:Rho)(σ:St):Prop:=∀ (i:Nat) (x:Str) (d:D),ρ[i]?=some (x,.sh d)->∃ v,σ[i]?=some (some v)/\Rep K Hs d v
theorem bC.same{K:Zf}{Hs Hs':Hp}{ρ:Rho}{σ:St}(h:bC K Hs ρ σ)(e:Same Hs Hs'):bC K Hs' ρ σ:=fun i x d q=>by
 obtain⟨v,e1,e2⟩:=h i x d q;exact⟨v,e1,Rep.same e d v e2⟩
def Az(K:Zf)(J:It)(Hs0:Hp)(ds:List D):Prop:=∀ Hs H,Same Hs0 Hs->Same Hs H->J.stop ds.length H/\∀ (i:Nat) (d:D),ds[i]?=some d->J.go i H/\∀ x H',J.yld i H x H'->∃ Hs',Ext Hs H Hs' H'/\Rep K Hs' d x
def Ev(X:Cx)(ρ:Rho)(e:Expr)(d:D):Prop:=∀ σ H Hs Q,Same Hs H->bC X.K Hs ρ σ->(∀ v H' Hs',Ext Hs H Hs' H'->Rep X.K Hs' d v->Q v H')->iz X e σ H Q
def EvT(X:Cx)(ρ:Rho)(e:Expr)(b:Bool):Prop:=∀ σ H Hs Q,Same Hs H->bC X.K Hs ρ σ->(∀ H' Hs',Ext Hs H Hs' H'->Q b H')->sG X e σ H Q
def EvA(X:Cx)(ρ:Rho)(es:List Expr)(ds:List D):Prop:=∀ σ H Hs Q,Same Hs H->bC X.K Hs ρ σ->(∀ vs H' Hs',Ext Hs H Hs' H'->aJ X.K Hs' ds vs->Q vs H')->pC X es σ H Q
def EvI(X:Cx)(ρ:Rho)(tg iter:Expr)(ds:List D):Prop:=∀ σ H Hs R,Same Hs H->bC X.K Hs ρ σ->(∀ J H' Hs',Ext Hs H Hs' H'->Az X.K J Hs' ds->R J H')->kZ X tg iter σ H R
def spX(K:Zf)(call:Str->List D->Option D)(callx:Str->List D->Option Str)(f:Str)(ps:List Str):Sp:=fun vs H Q E=>vs.length=ps.length/\∃ Hs ds,Same Hs H/\aJ K Hs ds vs /\
 ((∃ d,call f ds=some d/\∀ v H' Hs',Ext Hs H Hs' H'->Rep K Hs' d v->Q v H')\/(∃ c,callx f ds=some c/\∀ C H' Hs',PySem.W.nsIn K mainGlobals c=some (some (.ref C))->Ext Hs H Hs' H'->E (.ref C) none H'))
def uG(K:Zf)(exs:List Str)(top:Str):Bool:=match PySem.W.nsIn K mainGlobals top with
  | some (some (.ref M))=>exs.all fun c=>match PySem.W.nsIn K mainGlobals c with
    | some (some (.ref C)) => xIn K C M && iR K C && PySem.W.exmOne K (.ref C) (.ref M) == some true && PySem.W.kitOne K (.ref C) (.ref M) == some true && PySem.W.kitOne K (.ref C) (.type "ValueError") == some true &&
      exs.all fun c'=>match PySem.W.nsIn K mainGlobals c' with
        | some (some (.ref C'))=>PySem.W.kitOne K (.ref C) (.ref C')==some (c==c')
        | _=>false
    | _=>false
  | _=>exs.isEmpty
structure XText (K:Zf) (mg:Str->Option Value) (exs:List Str) (top:Str):Prop where
 glob:∀ x v,PySem.W.nsIn K mainGlobals x=some (some v)->mg x=some v
 cls:∀ c,exs.contains c=true->∃ C M,PySem.W.nsIn K mainGlobals c=some (some (.ref C))/\PySem.W.nsIn K mainGlobals top=some (some (.ref M))/\xIn K C M=true/\iR K C=true/\PySem.W.exmOne K (.ref C) (.ref M)=some true/\PySem.W.kitOne K (.ref C) (.ref M)=some true/\PySem.W.kitOne K (.ref C) (.type "ValueError")=some true
 sub:∀ c c',exs.contains c=true->exs.contains c'=true->∃ C C',PySem.W.nsIn K mainGlobals c=some (some (.ref C))/\PySem.W.nsIn K mainGlobals c'=some (some (.ref C'))/\PySem.W.kitOne K (.ref C) (.ref C')=some (c==c')
theorem XText.of{K:Zf}{mg:Str->Option Value}{exs:List Str}{top:Str}(hg:∀ x v,PySem.W.nsIn K mainGlobals x=some (some v)->mg x=some v)(h:uG K exs top=true):XText K mg exs top:=by
 unfold uG at h;split at h
 ·rename_i M hM
  have all:=fun c (hc:exs.contains c=true)=>List.all_eq_true.mp h c (by simpa using hc);refine⟨hg,fun c hc=>?_,fun c c' hc hc'=>?_⟩
  ·have q:=all c hc
   split at q
   ·rename_i C hC
    simp only[G2z,beq_iff_eq] at q;exact⟨C,M,hC,hM,q.1.1.1.1.1,q.1.1.1.1.2,q.1.1.1.2,q.1.1.2,q.1.2⟩
   ·cases q
  ·have q:=all c hc
   split at q
   ·rename_i C hC
    simp only[G2z] at q;have q2:=List.all_eq_true.mp q.2 c' (by simpa using hc');split at q2
    ·rename_i C' hC'
     exact⟨C,C',hC,hC',by simpa using q2⟩
    ·cases q2
   ·cases q
 ·have e:exs=[]:=by simpa using h
  subst e;exact⟨hg,fun c hc=>absurd hc (by simp),fun c c' hc=>absurd hc (by simp)⟩
structure Good (cx:Cxt) (k:Nat) (X:Cx) (sc:Scope):Prop where
 calm:X.calm=true
 room:Room k X.A
 sce:X.env.scope=sc
 kind:sc.kind=.function
 nd:X.N.Nodup
 cst:∀ x d,cx.cst.lookup x=some d->∃ v u,(∀ H,Rep X.K H d v)/\X.mg x=some u/\RelV v u
 blt:∀ x b,cx.blt.lookup x=some b->X.mg x=none/\x=Str.ofString b
 exs:XText X.K X.mg cx.exs cx.top
 fns:∀ f,cx.fns.contains f=true->(f==("__debug__":Str))=false/\∃ a fd ps,(∀ ds d,cx.call f ds=some d->ds.length=ps.length)/\(∀ ds c,cx.callx f ds=some c->ds.length=ps.length)/\X.mg f=some (.ref a)/\PySem.W.keepIn X.K (.ref a)=true/\Binds X.K fd ps []/\FnOk X.prog X.w X.K X.mg X.base (CX1 X.prog X.w) k a fd ps (spX X.K cx.call cx.callx f ps)
 kw:KnW X.K X.w
section
variable {X:Cx} {ρ:Rho} {cx:Cxt} {k:Nat} {sc:Scope}
theorem aY:∀ {ρ:Rho} {x:Str} {s:Sl},ρ.lookup x=some s->∃ i:Nat,ρ[i]?=some (x,s)/\(ρ.map (·.1)).idxOf? x=some i
 | (y,t)::r,x,s,h=>by
  rw[D2z] at h
  cases hb:x==y with
  | true =>
   rw[hb] at h;cases h
   have:x=y:=by simpa using hb
   subst this;exact⟨0,rfl,by simp[List.idxOf?,List.findIdx?_cons]⟩
  | false =>
   rw[hb] at h;obtain⟨i,h1,h2⟩:=aY h;refine⟨i+1,by simpa using h1,?_⟩
   have hy:(y==x)=false:=by
    rw[B1z] at hb ⊢;exact fun e=>hb e.symm
   simp only[E3z,List.idxOf?,List.findIdx?_cons,hy,M1z,B4z];simp only[List.idxOf?] at h2;rw[h2];rfl
theorem qR{x:Str}{d:D}{pos:Pos}(hN:X.N=ρ.map (·.1))(hv:Vis X.env.scope x)(hp:au x=true)(h:ρ.lookup x=some (.sh d)):Ev X ρ (.Name x pos) d:=by
 intro σ H Hs Q hs hr hq;obtain⟨i,h1,_⟩:=aY h;obtain⟨v,e1,e2⟩:=hr i x d h1;unfold au at hp;rw[G2z,W3z,W3z] at hp;refine PE.sem (dj (i:=i) (by rw[hN,List.getElem?_map,h1];rfl) hv (by simpa using hp.1) (by simpa using hp.2)) ⟨v,e1,hq v H Hs (.refl hs) e2⟩
theorem Ao{x:Str}{d:D}{v:V}{u:Value}{pos:Pos}(hg:Gl X x)(hd:∀ H,Rep X.K H d v)(hm:X.mg x=some u)(r:RelV v u)(hp:au x=true):Ev X ρ (.Name x pos) d:=by
 intro σ H Hs Q hs hr hq;unfold au at hp;rw[G2z,W3z,W3z] at hp;exact PE.sem (gD hg hm r (by simpa using hp.1)) (hq _ H Hs (.refl hs) (hd Hs))
theorem m7{c:Const}{d:D}{j:Nat}{pos:Pos}(h:(match c with | .none=>some D.non | .bool b=>some (.bl b) | .int i=>some (.int i) | .str x=>some (.str x) | _=>none)=some d):Ev X ρ (.Constant c j pos) d:=by
 intro σ H Hs Q hs hr hq
 cases c<;>simp at h<;>subst h
 ·exact PE.sem zL (hq _ H Hs (.refl hs) (by simp[Rep]))
 ·exact PE.sem Cv (hq _ H Hs (.refl hs) (by simp[Rep]))
 ·exact PE.sem zM (hq _ H Hs (.refl hs) (by simp[Rep]))
 ·exact PE.sem uU (hq _ H Hs (.refl hs) (by simp[Rep]))
theorem cu{a b:Expr}{x y d:D}{r:R2}{e:Expr}(ha:Ev X ρ a x)(hb:Ev X ρ b y)(hp:PE X e (tOp r (iz X a) (iz X b)))
  (hr:∀ u v H Hs Q,Same Hs H->Rep X.K Hs x u->Rep X.K Hs y v->(∀ w H' Hs',Ext Hs H Hs' H'->Rep X.K Hs' d w->Q w H')->r u v H Q):Ev X ρ e d:=by
 intro σ H Hs Q hs hst hq;refine hp.sem (ha σ H Hs _ hs hst fun u H1 Hs1 E1 r1=>hb σ H1 Hs1 _ E1.sub (hst.same E1.vis) fun v H2 Hs2 E2 r2=>?_);exact hr u v H2 Hs2 Q E2.sub (Rep.same E2.vis x u r1) r2 fun w H' Hs' E3 r3=>hq w H' Hs' (E1.trans (E2.trans E3)) r3
theorem mC{i:Int}(h:small i=true):-(2^64)<i/\i<2^64:=by
 unfold small at h;rw[G2z,Y1z,Y1z] at h;exact h
theorem dR{n:Nat}(h:szl n=true):n<=sizeLine:=by
 unfold szl at h;rw[Y1z] at h;exact J3z h (by rw[sizeLine_eq];decide)
theorem jG{n:Nat}(h:szl n=true):n<sizeLine:=by
 unfold szl at h;rw[Y1z] at h;exact O1z h (by rw[sizeLine_eq];decide)
theorem aD{K:Zf}{H:Hp}{i:Int}{v:V}(h:Rep K H (.int i) v):v=.int i:=by simpa[Rep] using h
theorem bI{K:Zf}{H:Hp}{i:Bool}{v:V}(h:Rep K H (.bl i) v):v=.bl i:=by simpa[Rep] using h
theorem bf{K:Zf}{H:Hp}{ds:List D}{v:V}(h:Rep K H (.tup ds) v):∃ a vs,v=.ref a/\SqT K H a vs/\aJ K H ds vs:=by simpa[Rep] using h
theorem bF{K:Zf}{H:Hp}{ds:List D}{v:V}(h:Rep K H (.lst ds) v):∃ a vs,v=.ref a/\SqL K H a vs/\aJ K H ds vs:=by simpa[Rep] using h
theorem je{Hs H:Hp}{ds:List D}{vs:List V}{p:Addr}{Q:VK}(hs:Same Hs H)(hr:aJ X.K Hs ds vs)(hp:H p=none)(hq:∀ w H' Hs',Ext Hs H Hs' H'->Rep X.K Hs' (.tup ds) w->Q w H'):Q (.ref p) (upd H p (.tup vs)) :=
 hq _ _ _ (Ext.new hs (.tup vs) hp) (by simp only[Rep];exact⟨p,vs,rfl,.of aK,aJ.same (Ext.new hs (.tup vs) hp).vis ds vs hr⟩)
theorem fH{Hs H:Hp}{ds:List D}{vs:List V}{p:Addr}{Q:VK}(hs:Same Hs H)(hr:aJ X.K Hs ds vs)(hp:H p=none)(hq:∀ w H' Hs',Ext Hs H Hs' H'->Rep X.K Hs' (.lst ds) w->Q w H'):Q (.ref p) (upd H p (.lst vs)) :=
 hq _ _ _ (Ext.new hs (.lst vs) hp) (by simp only[Rep];exact⟨p,vs,rfl,.of aK,aJ.same (Ext.new hs (.lst vs) hp).vis ds vs hr⟩)
def Cr(K:Zf):R2:=fun x y H Q=>∃ a b xs ys,x=.ref a/\y=.ref b/\SqT K H a xs/\SqT K H b ys/\xs.length+ys.length<=sizeLine /\
 (xs=[]->Q (.ref b) H)/\(xs≠[]->ys=[]->Q (.ref a) H)/\(xs≠[]->ys≠[]->∀ p,H p=none->Q (.ref p) (upd H p (.tup (xs++ys))))
theorem wO:OpR X (binaryOp .Add) (Cr X.K):=by
 intro z0 s σ H x y v u Q I rx ry h;obtain⟨a,b,xs,ys,rfl,rfl,ha,hb,hz,q0,q1,q2⟩:=h
 by_cases hx:xs=[]
 ·subst hx
  cases (show v=Value.ref a from rx);cases (show u=Value.ref b from ry);obtain⟨its,r1,p1,_⟩:=I.tuple ha;obtain⟨its2,r2,p2,_⟩:=I.tuple hb;have e0:its=[]:=r1.nil_iff.mpr rfl;subst e0;obtain⟨⟨c,dd,data,sl⟩,ho,hc,n,hd⟩:=id p1;obtain⟨⟨c2,dd2,data2,sl2⟩,ho2,hc2,n2,hd2⟩:=id p2;simp only at hc hd hc2 hd2;subst hc hd hc2 hd2;exact concat_meets ⟨_,ho,rfl⟩ ⟨_,ho2,rfl⟩ noFill_tuple_add seq_tuple_add N0z J0z (D0z _ _) (tuple_addW0 a b _ its2.toArray n n2 dd dd2 sl sl2 rfl) ⟨ho,ho2,.ref b,H,I,rfl,q0 rfl⟩
 ·exact wM z0 s σ H (.ref a) (.ref b) v u Q I rx ry ⟨a,b,xs,ys,rfl,rfl,ha,hb,hx,hz,q1 hx,q2 hx⟩
def Ce(K:Zf):R2:=fun x y H Q=>∃ a v k,x=.ref a/\y=.int k/\SqT K H a [v]/\0<=k/\k<=5/\(k=1->Q (.ref a) H)/\(k≠1->∀ p,H p=none->Q (.ref p) (upd H p (.tup (List.replicate k.toNat v))))
theorem wG:OpR X (binaryOp .Mult) (Ce X.K):=by
 intro z0 s σ H x y v u Q I rx ry h;obtain⟨a,w,k,rfl,rfl,ha,k1,k4,q1,q2⟩:=h;cases (show v=Value.ref a from rx);obtain⟨t,e⟩:=(show ∃ t,u=Value.int k t from ry);subst e;obtain⟨its,r1,p1,_⟩:=I.tuple ha;obtain⟨u0,rfl,ru⟩:=vals1 r1;obtain⟨⟨c,dd,data,sl⟩,ho,hc,n,hd⟩:=id p1;simp only at hc hd;subst hc hd
 have new:∀ (vs:List V) (us:List Value),Vals vs us->vs.length<=5->(∀ p,H p=none->Q (.ref p) (upd H p (.tup vs)))->EP X z0 σ Q (Value.ref s.heap.objs.size) { s with heap:=s.heap.push { cls:=Value.type "tuple",data:=Data.seq us.toArray },toks:=s.toks }:=fun vs us r hl q =>
  ⟨.ref s.heap.objs.size,_,I.laid (t':=s.toks) (o:=.tup vs) (fun b ob q=>Heap.get?_push_of_some _ q) (P3z _) ⟨J3z hl (by decide),us,r,IsTup.new _ _⟩,rfl,q _ (I.hok.fresh (P3z _))⟩
 refine wpAny_binaryOp_repeat_ref (T:="tuple") (U:="int") (by decide) ⟨_,ho,rfl⟩ (fun s'=>typeIs_int s' k t) fV PySem.F.fills_int_mul PySem.F.slot_int_rmul jK PySem.F.slot_int_index.lookup
  (V3z PySem.F.slot_int_rmul (typeIs_int s k t) PySem.F.entry_int_rmul (PySem.F.args_int_rmul_2 _ _) (iB k t a _ n dd sl) ⟨ho,rfl,⟨_,ho,rfl⟩,?_⟩)
 have hk:k=0\/k=1\/k=2\/k=3\/k=4\/k=5:=by omega
 rcases hk with rfl | rfl | rfl | rfl | rfl | rfl
 ·exact V3z O0z ⟨_,ho,rfl⟩ K0z (G0z _ _) (nT a u0 n dd sl t) ⟨ho,new [] [] .nil (by simp) (q2 (by decide))⟩
 ·exact V3z O0z ⟨_,ho,rfl⟩ K0z (G0z _ _) (nR a _ n dd sl t) ⟨ho,.ref a,H,I,rfl,q1 rfl⟩
 ·exact V3z O0z ⟨_,ho,rfl⟩ K0z (G0z _ _) (nQ a u0 n dd sl t) ⟨ho,new [w,w] [u0,u0] (.cons ru (.cons ru .nil)) (by simp) (q2 (by decide))⟩
 ·exact V3z O0z ⟨_,ho,rfl⟩ K0z (G0z _ _) (nO a u0 n dd sl t) ⟨ho,new [w,w,w] [u0,u0,u0] (.cons ru (.cons ru (.cons ru .nil))) (by simp) (q2 (by decide))⟩
 ·exact V3z O0z ⟨_,ho,rfl⟩ K0z (G0z _ _) (nM a u0 n dd sl t) ⟨ho,new [w,w,w,w] [u0,u0,u0,u0] (.cons ru (.cons ru (.cons ru (.cons ru .nil)))) (by simp) (q2 (by decide))⟩
 ·exact V3z O0z ⟨_,ho,rfl⟩ K0z (G0z _ _) (nJ a u0 n dd sl t) ⟨ho,new [w,w,w,w,w] [u0,u0,u0,u0,u0] (.cons ru (.cons ru (.cons ru (.cons ru (.cons ru .nil))))) (by simp) (q2 (by decide))⟩
theorem mF{K:Zf}{H:Hp}{d:D}{v:V}(h:Rep K H d v):∀ n:Nat,aJ K H (List.replicate n d) (List.replicate n v)
 | 0=>.nil
 | n+1=>.cons h (mF h n)
theorem aJ.rep{K:Zf}{H:Hp}{ds:List D}{vs:List V}(h:aJ K H ds vs):∀ n:Nat,aJ K H (List.replicate n ds).flatten (List.replicate n vs).flatten
 | 0=>by simp[aJ]
 | n+1=>by
  simp only[A1z,U1z];exact h.append (h.rep n)
theorem xQ{a b:Expr}{xs:List D}{j:Int}{d:D}{pos:Pos}(ha:Ev X ρ a (.tup xs))(hb:Ev X ρ b (.int j))(h:yZ xs j=some d):Ev X ρ (.BinOp a .Mult b pos) d:=by
 match xs,ha,h with
 | [],_,h=>exact absurd h (by simp[yZ])
 | _::_::_,_,h=>exact absurd h (by simp[yZ])
 | [x],ha,h =>
  simp only[yZ] at h;split at h
  ·rename_i hz
   rw[G2z,Y1z,Y1z] at hz;cases h;refine cu ha hb (fU wG ak ak) fun u v H Hs Q hs r1 r2 hq=>?_;obtain⟨p,us,rfl,h1,h2⟩:=bf r1;simp only[aJ] at h2;obtain⟨w,r,rfl,hw,hr⟩:=h2;subst hr;refine⟨p,w,j,rfl,aD r2,hs.tup h1,hz.1,hz.2,fun e=>?_,fun _ l hl=>je hs (mF hw _) hl hq⟩;subst e;exact hq _ H Hs (.refl hs) r1
  ·cases h
def Ba(i j:Int):Prop:=Io i j\/(i.natAbs.log2<10000/\j.natAbs.log2<10000)
theorem uZ{i:Int}(h:mid i=true):i.natAbs.log2<10000:=by unfold mid at h;simpa using h
theorem nq{i:Int}(h:i.natAbs.log2<10000):Builtin.Int.intBits i<=2^20:=by
 unfold Builtin.Int.intBits
 split<;>omega
theorem wJ:OpR X (binaryOp .Mult) (rI Ba fun i j=>.int (i*j)):=opI fun _ _ _ _ _ _ _ hc q=>mul_int q (hc.elim (fun z=>z.ok) fun z=>.of_bits (nq z.1) (nq z.2))
def Ip(i j:Int):Prop:=j≠0/\j.natAbs.log2<9000
theorem tE:OpR X (binaryOp .FloorDiv) (rI Ip fun i j=>.int (i.fdiv j)):=opI fun _ _ _ _ _ _ _ hc q=>floordiv_int hc.1 q (.inl (PyProof.noPylong_of_log2 hc.2))
theorem m8{a b:Expr}{op:Operator}{x y d:D}{pos:Pos}(ha:Ev X ρ a x)(hb:Ev X ρ b y)(h:binop op x y=some d):Ev X ρ (.BinOp a op b pos) d:=by
 unfold binop at h;split at h
 ·cases h
  exact cu ha hb (fU zR ak ak) fun u v H Hs Q hs r1 r2 hq=>⟨_,_,aD r1,aD r2,hq _ H Hs (.refl hs) (by simp[Rep])⟩
 ·split at h
  ·rename_i hz
   cases h;refine cu ha hb (fU wO ak ak) fun u v H Hs Q hs r1 r2 hq=>?_;obtain⟨p,us,rfl,h1,h2⟩:=bf r1;obtain⟨q,ws,rfl,h3,h4⟩:=bf r2;have l1:=h2.length;have l2:=h4.length
   have nil:∀ (l:List D),l.length=0->l=[]:=fun l hl=>by cases l<;>simp at hl ⊢
   refine⟨p,q,us,ws,rfl,rfl,hs.tup h1,hs.tup h3,by have:=dR hz;omega,fun e=>?_,fun _ e=>?_,fun _ _ l hl=>je hs (h2.append h4) hl hq⟩
   ·subst e
    have e2:=nil _ l1;subst e2;exact hq _ H Hs (.refl hs) r2
   ·subst e
    have e2:=nil _ l2;subst e2;refine hq _ H Hs (.refl hs) ?_;rw[N2z];exact r1
  ·cases h
 ·split at h
  ·rename_i hz
   cases h;refine cu ha hb (fU wN ak ak) fun u v H Hs Q hs r1 r2 hq=>?_;obtain⟨p,us,rfl,h1,h2⟩:=bF r1;obtain⟨q,ws,rfl,h3,h4⟩:=bF r2;have l1:=h2.length;have l2:=h4.length;exact⟨p,q,us,ws,rfl,rfl,hs.seq h1,hs.seq h3,by have:=dR hz;omega,fun l hl=>fH hs (h2.append h4) hl hq⟩
  ·cases h
 ·cases h
  exact cu ha hb (fU zN ak ak) fun u v H Hs Q hs r1 r2 hq=>⟨_,_,aD r1,aD r2,hq _ H Hs (.refl hs) (by simp[Rep])⟩
 ·split at h
  ·rename_i hz
   cases h;rw[V2z,V2z,G2z] at hz;have hz':Ba _ _:=hz.elim (fun z=>z.elim (fun z=>.inl (.inl (mC z))) (fun z=>.inl (.inr (mC z)))) (fun z=>.inr ⟨uZ z.1,uZ z.2⟩);exact cu ha hb (fU wJ ak ak) fun u v H Hs Q hs r1 r2 hq=>⟨_,_,aD r1,aD r2,hz',hq _ H Hs (.refl hs) (by simp[Rep])⟩
  ·cases h
 ·split at h
  ·rename_i hz
   cases h;rw[G2z,G2z,Y1z,Y1z] at hz;refine cu ha hb (fU qd ak ak) fun u v H Hs Q hs r1 r2 hq=>?_;obtain⟨p,us,rfl,h1,h2⟩:=bF r1;have l1:=h2.length;exact⟨p,_,us,rfl,aD r2,hs.seq h1,by omega,by omega,by have:=dR hz.2;rw[<- l1];exact this,fun l hl=>fH hs (h2.rep _) hl hq⟩
  ·cases h
 ·exact xQ ha hb h
 ·split at h
  ·rename_i hz
   cases h;rw[G2z,Y1z,Y1z] at hz;exact cu ha hb (fU wL ak ak) fun u v H Hs Q hs r1 r2 hq=>⟨_,_,aD r1,aD r2,hz,hq _ H Hs (.refl hs) (by simp[Rep])⟩
  ·split at h
   ·rename_i hz
    cases h;rw[G2z,Y1z,Y1z] at hz;exact cu ha hb (fU tE ak ak) fun u v H Hs Q hs r1 r2 hq=>⟨_,_,aD r1,aD r2,hz,hq _ H Hs (.refl hs) (by simp[Rep])⟩
   ·cases h
 ·split at h
  ·rename_i hz
   cases h;rw[Y1z] at hz;exact cu ha hb (fU zO ak ak) fun u v H Hs Q hs r1 r2 hq=>⟨_,_,aD r1,aD r2,hz,hq _ H Hs (.refl hs) (by simp[Rep])⟩
  ·split at h
   ·rename_i hz
    cases h;rw[Y1z] at hz;exact cu ha hb (fU wK ak ak) fun u v H Hs Q hs r1 r2 hq=>⟨_,_,aD r1,aD r2,hz,hq _ H Hs (.refl hs) (by simp[Rep])⟩
   ·cases h
 ·cases h
end
section
variable {X:Cx} {ρ:Rho} {cx:Cxt} {k:Nat} {sc:Scope}
theorem aj{e:Expr}{es:List Expr}{env:Env}(h:aA e=true):starEach (e::es) env=(false,eval e env)::starEach es env:=by
 cases e<;>first | rfl | (simp[aA] at h)
theorem fX{e:Expr}(h:aA e=true):rP e:=by
 intro o i
 cases e<;>first | rfl | (simp[aA] at h)
theorem bO{e:Expr}{env:Env}(h:aA e=true)(x:Value):foldedSetIterable e env x=pure x:=by
 cases e<;>first | rfl | (simp[aA] at h)
theorem bZ{e:Expr}{op:CmpOp}(h:aA e=true):behindInMarks op e=false:=by
 cases e<;>first | rfl | (simp[aA] at h)
theorem dh{env:Env}{pos:Pos}:∀ {es:List Expr},(∀ e∈es,aA e=true)->(backTo pos (starEach es env)).any (·.1)=false
 | [],_=>rfl
 | e::es,h=>by
  rw[aj (h e F1z)];have ih:=dh (env:=env) (pos:=pos) fun e' he=>h e' (S0z _ he);show((false:Bool)||(backTo pos (starEach es env)).any (·.1))=false;rw[ih];rfl
theorem aO:∀ {n:Nat} {ρ:Rho} {e:Expr} {d:D},ev cx n sc ρ e=some d->aA e=true
 | 0,_,_,_,h=>by simp[ev] at h
 | n+1,ρ,e,d,h=>by
  cases e<;>first | rfl | (exact nomatch (show(Option.none:Option D)=some d from h))
def vH(X:Cx)(e:Expr):TT:=fun σ H Q=>∀ whole z0 s,Inv X z0 σ H s->wpAny (model X.prog X.w) X.A (isTrue e X.env whole) (TP X z0 σ Q) X.xe s
def EvW(X:Cx)(ρ:Rho)(e:Expr)(b:Bool):Prop:=∀ σ H Hs Q,Same Hs H->bC X.K Hs ρ σ->(∀ H' Hs',Ext Hs H Hs' H'->Q b H')->vH X e σ H Q
theorem mH{e:Expr}:PW X e (vH X e):=fun whole z0 s σ H Q I h=>h whole z0 s I
theorem PW.sem{e:Expr}{t:TT}{σ:St}{H:Hp}{Q:Bool->Hp->Prop}(h:PW X e t)(q:t σ H Q):vH X e σ H Q:=fun whole z0 s I=>h whole z0 s σ H Q I q
theorem EvW.t{e:Expr}{b:Bool}(h:EvW X ρ e b):EvT X ρ e b:=fun σ H Hs Q hs hr hq z0 s I=>h σ H Hs Q hs hr hq _ z0 s I
theorem qW{e:Expr}{b:Bool}(h:Ev X ρ e (.bl b))(he:∀ whole,isTrue e X.env whole=(do let v <- whole;standAt e.pos;holding [v] (truthy v))):EvT X ρ e b:=fun σ H Hs Q hs hr hq =>
 (uQ ak he).sem (h σ H Hs _ hs hr fun v H' Hs' E1 r1=>⟨b,bI r1,hq H' Hs' E1⟩)
theorem vd{a:Expr}{b:Bool}{pos:Pos}(h:Ev X ρ a (.bl b)):Ev X ρ (.UnaryOp .Not a pos) (.bl (!b)):=fun σ H Hs Q hs hr hq =>
 (zK ak).sem (h σ H Hs _ hs hr fun v H' Hs' E1 r1=>⟨b,bI r1,hq _ H' Hs' E1 (by simp[Rep])⟩)
theorem qX{a:Expr}{b:Bool}{pos:Pos}(h:EvT X ρ a b):EvT X ρ (.UnaryOp .Not a pos) (!b):=fun σ H Hs Q hs hr hq =>
 (uR cg).sem (h σ H Hs _ hs hr fun H' Hs' E1=>hq H' Hs' E1)
theorem Ak{a:Expr}{i:Int}{pos:Pos}(h:Ev X ρ a (.int i)):Ev X ρ (.UnaryOp .USub a pos) (.int (-i)):=fun σ H Hs Q hs hr hq =>
 (Cu yN ak).sem (h σ H Hs _ hs hr fun v H' Hs' E1 r1=>⟨i,aD r1,hq _ H' Hs' E1 (by simp[Rep])⟩)
theorem gP{op:BoolOp}{f:Expr->Option D}{pos:Pos}:∀ {es:List Expr} {d:D},(∀ e∈es,∀ d,f e=some d->Ev X ρ e d/\∀ b,d=.bl b->EvT X ρ e b)->fC op f es=some d ->
  Ev X ρ (.BoolOp op es pos) d/\∀ b,d=.bl b->EvW X ρ (.BoolOp op es pos) b
 | [],d,_,h=>by simp[fC] at h
 | [e],d,hf,h=>by
  obtain⟨h1,h2⟩:=hf e (by simp) d (by simpa[fC] using h);refine⟨fun σ H Hs Q hs hr hq=>(zJ ak).sem (h1 σ H Hs Q hs hr hq),fun b hb σ H Hs Q hs hr hq=>?_⟩
  cases op with
  | And=>exact(vZ cg).sem (h2 b hb σ H Hs Q hs hr hq)
  | Or=>exact(zu cg).sem (h2 b hb σ H Hs Q hs hr hq)
 | e::e'::r,d,hf,h=>by
  simp only[fC] at h
  cases he:f e with
  | none=>rw[he] at h;simp at h
  | some x =>
   rw[he] at h
   cases x with
   | bl c =>
    obtain⟨h1,h2⟩:=hf e (by simp) _ he;have h2':=h2 c rfl;simp only[asB,H2z,Option.bind_eq_bind,bind,Option.bind] at h;have ih:=fun d' (q:fC op f (e'::r)=some d')=>gP (pos:=pos) (es:=e'::r) (fun a ha=>hf a (S0z _ ha)) q
    cases op with
    | And =>
     cases c with
     | true =>
      simp only[D4z] at h;obtain⟨i1,i2⟩:=ih d h;refine⟨fun σ H Hs Q hs hr hq=>(uV ak ak).sem (h1 σ H Hs _ hs hr fun v H' Hs' E1 r1=>⟨true,bI r1,mV (i1 σ H' Hs' Q E1.sub (hr.same E1.vis) fun w H2 Hs2 E2 r2=>hq w H2 Hs2 (E1.trans E2) r2)⟩),fun b hb σ H Hs Q hs hr hq=>?_⟩;exact(uP cg mH).sem (h2' σ H Hs _ hs hr fun H' Hs' E1=>mV (i2 b hb σ H' Hs' Q E1.sub (hr.same E1.vis) fun H2 Hs2 E2=>hq H2 Hs2 (E1.trans E2)))
     | false =>
      simp only[M1z,B4z,Z1z] at h;subst h;refine⟨fun σ H Hs Q hs hr hq=>(uV ak ak).sem (h1 σ H Hs _ hs hr fun v H' Hs' E1 r1=>⟨false,bI r1,oh (hq _ H' Hs' E1 (by simp[Rep]))⟩),fun b hb σ H Hs Q hs hr hq=>?_⟩;cases hb;exact(uP cg mH).sem (h2' σ H Hs _ hs hr fun H' Hs' E1=>oh (hq H' Hs' E1))
    | Or =>
     cases c with
     | true =>
      simp only[D4z,Z1z] at h;subst h;refine⟨fun σ H Hs Q hs hr hq=>(zH ak ak).sem (h1 σ H Hs _ hs hr fun v H' Hs' E1 r1=>⟨true,bI r1,mV (hq _ H' Hs' E1 (by simp[Rep]))⟩),fun b hb σ H Hs Q hs hr hq=>?_⟩;cases hb;exact(zx cg mH).sem (h2' σ H Hs _ hs hr fun H' Hs' E1=>mV (hq H' Hs' E1))
     | false =>
      simp only[M1z,B4z] at h;obtain⟨i1,i2⟩:=ih d h;refine⟨fun σ H Hs Q hs hr hq=>(zH ak ak).sem (h1 σ H Hs _ hs hr fun v H' Hs' E1 r1=>⟨false,bI r1,oh (i1 σ H' Hs' Q E1.sub (hr.same E1.vis) fun w H2 Hs2 E2 r2=>hq w H2 Hs2 (E1.trans E2) r2)⟩),fun b hb σ H Hs Q hs hr hq=>?_⟩;exact(zx cg mH).sem (h2' σ H Hs _ hs hr fun H' Hs' E1=>oh (i2 b hb σ H' Hs' Q E1.sub (hr.same E1.vis) fun H2 Hs2 E2=>hq H2 Hs2 (E1.trans E2)))
   | _=>simp[asB] at h
def Cm(X:Cx)(op:CmpOp):R2:=fun u v H Q=>∃ Hs x y d,Same Hs H/\Rep X.K Hs x u/\Rep X.K Hs y v/\cmpop op x y=some d/\∃ b,d=.bl b/\Q (.bl b) H
theorem iV{K:Zf}{H:Hp}{v:V}(h:Rep K H .non v):v=.non:=by simpa[Rep] using h
theorem mW{K:Zf}{H:Hp}{x:D}{v:V}(h:Rep K H x v):w6 x=decide (v=V.non):=by
  cases x with
  | non=>rw[iV h];rfl
  | bl b=>rw[bI h];rfl
  | int b=>rw[aD h];rfl
  | str b => have e : v = .str b := by simpa [Rep] using h
             rw[e];rfl
  | tup b=>obtain⟨a,vs,e,_⟩:=bf h;rw[e];rfl
  | lst b=>obtain⟨a,vs,e,_⟩:=bF h;rw[e];rfl
  | exc c=>simp only[Rep] at h;obtain⟨a,C,e,_⟩:=h;rw[e];rfl
  | dic k x=>simp only[Rep] at h;obtain⟨a,C,e,_⟩:=h;rw[e];rfl
theorem jD{K:Zf}{H:Hp}:∀ {ds:List D} {ns:List Int} {vs:List V},lY ds=some ns->aJ K H ds vs->vs=ns.map V.int
 | [],ns,vs,h,r=>by
  simp only[lY,Z1z] at h;subst h
  simpa[aJ] using r
 | .int i::ds,ns,vs,h,r=>by
  simp only[lY,P0z] at h;obtain⟨ms,h1,rfl⟩:=h;simp only[aJ] at r;obtain⟨v,r',rfl,h2,h3⟩:=r;rw[aD h2,jD h1 h3];rfl
 | .non::ds,ns,vs,h,r=>by simp[lY] at h
 | .bl _::ds,ns,vs,h,r=>by simp[lY] at h
 | .str _::ds,ns,vs,h,r=>by simp[lY] at h
 | .tup _::ds,ns,vs,h,r=>by simp[lY] at h
 | .lst _::ds,ns,vs,h,r=>by simp[lY] at h
 | .exc _::ds,ns,vs,h,r=>by simp[lY] at h
 | .dic _ _::ds,ns,vs,h,r=>by simp[lY] at h
theorem any_ints(i:Int):∀ {ns:List Int} {us:List Value},Vals (ns.map V.int) us->us.any (fun y=>match y with | .int j _=>j==i | _=>false)=ns.any (· ==i)
 | [],us,r=>by rw[N3z] at r;cases r;rfl
 | n::ns,us,r=>by
  rw[E3z] at r
  cases r with
  | cons r1 r2 =>
   obtain⟨t,e⟩:=(show ∃ t,_=Value.int n t from r1);subst e;simp only[F3z,any_ints i r2]
theorem mO:∀ {ns:List Int} {us:List Value},Vals (ns.map V.int) us->∀ y∈us,∃ j t,y=Value.int j t
 | [],us,r,y,hy=>by rw[N3z] at r;cases r;simp at hy
 | n::ns,us,r,y,hy=>by
  rw[E3z] at r
  cases r with
  | cons r1 r2 =>
   obtain⟨t,e⟩:=(show ∃ t,_=Value.int n t from r1);subst e;rcases List.mem_cons.mp hy with rfl | hy
   ·exact⟨n,t,rfl⟩
   ·exact mO r2 y hy
theorem xq{z0:List (Addr×Obj)}{σ:St}{H:Hp}{s:Shared}{i:Int}{ys:List D}{ns:List Int}{u v:V}{w z:Value}(I:Inv X z0 σ H s)(A:Around)(hu:u=.int i)(hv:Rep X.K H (.tup ys) v)(hn:lY ys=some ns)(ru:RelV u w)(rv:RelV v z) :
  (∀ (Q:Value->Shared->Prop) (E:Value->Shared->Prop),Q (.bool (ns.any (· ==i))) s->wpAny (model X.prog X.w) A (compareOp .In w z) Q E s)/\(∀ (Q:Value->Shared->Prop) (E:Value->Shared->Prop),Q (.bool (!ns.any (· ==i))) s->wpAny (model X.prog X.w) A (compareOp .NotIn w z) Q E s):=by
 subst hu;obtain⟨t,e⟩:=(show ∃ t,w=Value.int i t from ru);subst e;obtain⟨a,vs,rfl,h1,h2⟩:=bf hv;cases (show z=Value.ref a from rv);have e:=jD hn h2;subst e;obtain⟨its,r,p⟩:=isT I h1
 have he:∀ y,y∈its.toArray->EqAt A.in1 s y (.int i t) (match y with | .int j _=>j==i | _=>false):=fun y hy=>by
  obtain⟨j,t',rfl⟩:=mO r y (by simpa using hy);exact fun P w Q E q=>wpAny_eqBool_int q
 have ea:its.toArray.any (fun y=>match y with | .int j _=>j==i | _=>false)=ns.any (· ==i):=by
  rw[List.any_toArray];exact any_ints i r
 refine⟨fun Q E q=>in_tupleAt _ p he (by rw[ea];exact q),fun Q E q=>notIn_tupleAt _ p he (by rw[ea];exact q)⟩
theorem nu{K:Zf}{H:Hp}:∀ {ds:List D} {ns:List Str} {vs:List V},lX ds=some ns->aJ K H ds vs->vs=ns.map V.str
 | [],ns,vs,h,r=>by
  simp only[lX,Z1z] at h;subst h
  simpa[aJ] using r
 | .str i::ds,ns,vs,h,r=>by
  simp only[lX] at h;obtain⟨ms,h1,rfl⟩:=P0z.mp h;simp only[aJ] at r;obtain⟨v,rr,rfl,h2,h3⟩:=r
  have e:v=.str i:=by simpa[Rep] using h2
  rw[nu h1 h3,e];rfl
 | .non::ds,ns,vs,h,r=>by simp[lX] at h
 | .bl _::ds,ns,vs,h,r=>by simp[lX] at h
 | .int _::ds,ns,vs,h,r=>by simp[lX] at h
 | .tup _::ds,ns,vs,h,r=>by simp[lX] at h
 | .lst _::ds,ns,vs,h,r=>by simp[lX] at h
 | .exc _::ds,ns,vs,h,r=>by simp[lX] at h
 | .dic _ _::ds,ns,vs,h,r=>by simp[lX] at h
def eS(x:D):Value->Bool
 | .str t _=>deq (.str t) x
 | _=>false
theorem nA(x:D):∀ {ns:List Str} {us:List Value},Vals (ns.map V.str) us->us.any (eS x)=ns.any fun t=>deq (.str t) x
 | [],us,r=>by rw[N3z] at r;cases r;rfl
 | n::ns,us,r=>by
  rw[E3z] at r
  cases r with
  | cons r1 r2 =>
   obtain⟨t,e⟩:=(show ∃ t,_=Value.str n t from r1);subst e;simp only[F3z,nA x r2,eS]
theorem mL:∀ {ns:List Str} {us:List Value},Vals (ns.map V.str) us->∀ y∈us,∃ j t,y=Value.str j t
 | [],us,r,y,hy=>by rw[N3z] at r;cases r;simp at hy
 | n::ns,us,r,y,hy=>by
  rw[E3z] at r
  cases r with
  | cons r1 r2 =>
   obtain⟨t,e⟩:=(show ∃ t,_=Value.str n t from r1);subst e;rcases List.mem_cons.mp hy with rfl | hy
   ·exact⟨n,t,rfl⟩
   ·exact mL r2 y hy
theorem xg{z0:List (Addr×Obj)}{σ:St}{H:Hp}{s:Shared}{x:D}{ys:List D}{ns:List Str}{u v:V}{w z:Value}(I:Inv X z0 σ H s)(A:Around)(hA:A.units+2<cLine)(hx:Rep X.K H x u)(hd:dep x<=50)(hv:Rep X.K H (.tup ys) v)(hn:lX ys=some ns)(ru:RelV u w)(rv:RelV v z) :
  (∀ (Q:Value->Shared->Prop) (E:Value->Shared->Prop),Q (.bool (ns.any fun t=>deq (.str t) x)) s->wpAny (model X.prog X.w) A (compareOp .In w z) Q E s)/\(∀ (Q:Value->Shared->Prop) (E:Value->Shared->Prop),Q (.bool (!ns.any fun t=>deq (.str t) x)) s->wpAny (model X.prog X.w) A (compareOp .NotIn w z) Q E s):=by
 obtain⟨a,vs,rfl,h1,h2⟩:=bf hv;cases (show z=Value.ref a from rv);have e:=nu hn h2;subst e;obtain⟨its,r,p⟩:=isT I h1
 have he:∀ y,y∈its.toArray->EqAt A.in1 s y w (eS x y):=fun y hy=>by
  obtain⟨j,t',rfl⟩:=mL r y (by simpa using hy);exact qZ I (.str j) x (.str j) u (.str j t') w A.in1 (by simp[Rep]) hx ⟨t',rfl⟩ ru (by rw[d9];simp only[dep];omega) (by simp[dep]) (by omega)
 have ea:its.toArray.any (eS x)=ns.any fun t=>deq (.str t) x:=by
  rw[List.any_toArray];exact nA x r
 refine⟨fun Q E q=>in_tupleAt _ p he (by rw[ea];exact q),fun Q E q=>notIn_tupleAt _ p he (by rw[ea];exact q)⟩
theorem Ag{x:D}{ys:List D}{b:Bool}(h:inT x ys=some b):(∃ i ns,x=.int i/\lY ys=some ns/\b=ns.any (· ==i))\/∃ ss,lX ys=some ss/\dep x<=50/\b=ss.any fun t=>deq (.str t) x:=by
 have hS:∀ {b},inS x ys=some b->∃ ss,lX ys=some ss/\dep x<=50/\b=ss.any fun t=>deq (.str t) x:=fun {b} h=>by
  unfold inS at h;obtain⟨ss,h1,h2⟩:=Option.bind_eq_some_iff.mp h;split at h2
  ·rename_i hd
   cases h2;exact⟨ss,h1,by simpa using hd,rfl⟩
  ·cases h2
 unfold inT at h;split at h
 ·rename_i i ns e1 e2
  cases x<;>simp[asI] at e1
  cases h;subst e1;exact .inl ⟨_,ns,rfl,e2,rfl⟩
 ·exact .inr (hS h)
theorem u6{z0:List (Addr×Obj)}{σ:St}{H:Hp}{s:Shared}{x:D}{ys:List D}{b:Bool}{u v:V}{w z:Value}(I:Inv X z0 σ H s)(A:Around)(hA:A.units+2<cLine)(hx:Rep X.K H x u)(hv:Rep X.K H (.tup ys) v)(h:inT x ys=some b)(ru:RelV u w)(rv:RelV v z) :
  (∀ (Q:Value->Shared->Prop) (E:Value->Shared->Prop),Q (.bool b) s->wpAny (model X.prog X.w) A (compareOp .In w z) Q E s)/\(∀ (Q:Value->Shared->Prop) (E:Value->Shared->Prop),Q (.bool (!b)) s->wpAny (model X.prog X.w) A (compareOp .NotIn w z) Q E s):=by
 rcases Ag h with⟨i,ns,rfl,e1,rfl⟩ | ⟨ss,e1,e2,rfl⟩
 ·exact xq I A (aD hx) hv e1 ru rv
 ·exact xg I A hA hx e2 hv e1 ru rv
theorem zQ:OpR X (compareOp .Is) (fun x y H Q=>∃ a b,x=.bl a/\y=.bl b/\Q (.bl (a==b)) H):=by
 intro z0 s σ H x y v u Q I rx ry h;obtain⟨a,b,rfl,rfl,q⟩:=h;cases (show v=Value.bool a from rx);cases (show u=Value.bool b from ry)
 cases a<;>cases b<;>exact U3z ⟨.bl _,H,I,rfl,q⟩
theorem wI:OpR X (compareOp .IsNot) (fun x y H Q=>∃ a b,x=.bl a/\y=.bl b/\Q (.bl (!(a==b))) H):=by
 intro z0 s σ H x y v u Q I rx ry h;obtain⟨a,b,rfl,rfl,q⟩:=h;cases (show v=Value.bool a from rx);cases (show u=Value.bool b from ry)
 cases a<;>cases b<;>exact U3z ⟨.bl _,H,I,rfl,q⟩
theorem gG(hr:Room k X.A)(op:CmpOp):OpR X (compareOp op) (Cm X op):=by
 intro z0 s σ H u v w z Q I ru rv h;obtain⟨Hs,x,y,d,hs,rx,ry,hc,b,rfl,q⟩:=h;have rx':=Rep.same hs x u rx;have ry':=Rep.same hs y v ry;unfold cmpop at hc;split at hc
 ·split at hc
  ·rename_i hd
   rw[G2z,Y1z,Y1z] at hd;cases hc;exact(jw I X.A rx' ry' ru rv (by have:=hr.un;omega) (by omega) (by omega)).1 _ _ _ _ ⟨.bl _,H,I,rfl,q⟩
  ·cases hc
 ·split at hc
  ·rename_i hd
   rw[G2z,Y1z,Y1z] at hd;cases hc;exact(jw I X.A rx' ry' ru rv (by have:=hr.un;omega) (by omega) (by omega)).2 _ _ _ _ ⟨.bl _,H,I,rfl,q⟩
  ·cases hc
 ·cases hc;exact Cw z0 s σ H u v w z Q I ru rv ⟨_,_,aD rx,aD ry,q⟩
 ·cases hc;exact Cy z0 s σ H u v w z Q I ru rv ⟨_,_,aD rx,aD ry,q⟩
 ·cases hc;exact Cz z0 s σ H u v w z Q I ru rv ⟨_,_,aD rx,aD ry,q⟩
 ·cases hc;exact CG z0 s σ H u v w z Q I ru rv ⟨_,_,aD rx,aD ry,q⟩
 ·cases hc;rw[mW rx] at q;exact zP z0 s σ H u v w z Q I ru rv ⟨iV ry,q⟩
 ·cases hc;rw[mW rx] at q;exact wH z0 s σ H u v w z Q I ru rv ⟨iV ry,q⟩
 ·cases hc;exact zQ z0 s σ H u v w z Q I ru rv ⟨_,_,bI rx,bI ry,q⟩
 ·cases hc;exact wI z0 s σ H u v w z Q I ru rv ⟨_,_,bI rx,bI ry,q⟩
 ·obtain⟨ns,hn,he⟩:=P0z.mp hc
  cases he;exact(u6 I X.A (by have:=hr.un;omega) rx' ry' hn ru rv).1 _ _ ⟨.bl _,H,I,rfl,q⟩
 ·obtain⟨ns,hn,he⟩:=P0z.mp hc
  cases he;exact(u6 I X.A (by have:=hr.un;omega) rx' ry' hn ru rv).2 _ _ ⟨.bl _,H,I,rfl,q⟩
 ·cases hc
theorem vo{op:CmpOp}{x y d:D}(h:cmpop op x y=some d):∃ b,d=.bl b:=by
 unfold cmpop at h
 split at h<;>first | (cases h;exact⟨_,rfl⟩) | (obtain⟨_,_,rfl⟩:=P0z.mp h;exact⟨_,rfl⟩) | (split at h<;>first | (cases h;exact⟨_,rfl⟩) | cases h) | cases h
theorem xY{a b:Expr}{op:CmpOp}{x y d:D}{pos:Pos}(hr:Room k X.A)(ha:Ev X ρ a x)(hb:Ev X ρ b y)(hm:aA b=true)(h:cmpop op x y=some d):Ev X ρ (.Compare a [op] [b] pos) d/\∀ c,d=.bl c->EvT X ρ (.Compare a [op] [b] pos) c:=by
 obtain⟨c,rfl⟩:=vo h;refine⟨cu ha hb (lD (gG hr op) ak ak (bZ hm)) fun u v H Hs Q hs r1 r2 hq=>⟨Hs,x,y,_,hs,r1,r2,h,c,rfl,hq _ H Hs (.refl hs) (by simp[Rep])⟩,fun c' hc' σ H Hs Q hs hst hq=>?_⟩;cases hc';refine(pN (gG hr op) ak ak (bZ hm)).sem (ha σ H Hs _ hs hst fun u H1 Hs1 E1 r1=>hb σ H1 Hs1 _ E1.sub (hst.same E1.vis) fun v H2 Hs2 E2 r2=>?_);exact⟨Hs2,x,y,_,E2.sub,Rep.same E2.vis x u r1,r2,h,c,rfl,c,rfl,hq H2 Hs2 (E1.trans E2)⟩
theorem qx{op op':CmpOp}{b c:Expr}(h:aA c=true):lastMarks [op,op'] [b,c]=false:=bZ h
theorem qU{a b e:Expr}{op op':CmpOp}{x y d:D}{c:Bool}{pos:Pos}(hr:Room k X.A)(ha:Ev X ρ a x)(hb:Ev X ρ b y)(hm:aA e=true)(h:cmpop op x y=some (.bl c))(hd:(c=true->∃ z,Ev X ρ e z/\cmpop op' y z=some d)/\(c=false->d=.bl false)) :
  Ev X ρ (.Compare a [op,op'] [b,e] pos) d/\∀ c,d=.bl c->EvT X ρ (.Compare a [op,op'] [b,e] pos) c:=by
 have core:∀ σ H Hs Q,Same Hs H->bC X.K Hs ρ σ->(∀ v H' Hs',Ext Hs H Hs' H'->Rep X.K Hs' d v->Q v H')->pD (Cm X op) (Cm X op') (iz X a) (iz X b) (iz X e) σ H Q:=by
  intro σ H Hs Q hs hst hq;refine ha σ H Hs _ hs hst fun u H1 Hs1 E1 r1=>hb σ H1 Hs1 _ E1.sub (hst.same E1.vis) fun v H2 Hs2 E2 r2=>?_;refine⟨Hs2,x,y,_,E2.sub,Rep.same E2.vis x u r1,r2,h,c,rfl,c,rfl,?_⟩
  cases c with
  | false=>rw[hd.2 rfl] at hq;exact oh (hq _ H2 Hs2 (E1.trans E2) (by simp[Rep]))
  | true =>
   obtain⟨z,hz,hc⟩:=hd.1 rfl;obtain⟨c',rfl⟩:=vo hc;refine mV (hz σ H2 Hs2 _ E2.sub ((hst.same E1.vis).same E2.vis) fun w H3 Hs3 E3 r3=>?_);exact⟨Hs3,y,z,_,E3.sub,Rep.same E3.vis y v r2,r3,hc,c',rfl,hq _ H3 Hs3 (E1.trans (E2.trans E3)) (by simp[Rep])⟩
 refine⟨fun σ H Hs Q hs hst hq=>(sY (gG hr op) (gG hr op') ak ak ak (qx hm)).sem (core σ H Hs Q hs hst hq),fun c' hc' σ H Hs Q hs hst hq=>?_⟩;subst hc';exact(sU (gG hr op) (gG hr op') ak ak ak (qx hm)).sem (core σ H Hs _ hs hst fun v H' Hs' E1 r1=>⟨c',bI r1,hq H' Hs' E1⟩)
theorem Am{c a b:Expr}{t:Bool}{d:D}{pos:Pos}(hc:EvT X ρ c t)(ha:t=true->Ev X ρ a d)(hb:t=false->Ev X ρ b d):Ev X ρ (.IfExp c a b pos) d:=fun σ H Hs Q hs hst hq =>
 (iZ cg ak ak).sem (hc σ H Hs _ hs hst fun H1 Hs1 E1=>by
  cases t with
  | true=>exact mV (ha rfl σ H1 Hs1 Q E1.sub (hst.same E1.vis) fun v H' Hs' E2 r=>hq v H' Hs' (E1.trans E2) r)
  | false=>exact oh (hb rfl σ H1 Hs1 Q E1.sub (hst.same E1.vis) fun v H' Hs' E2 r=>hq v H' Hs' (E1.trans E2) r))
theorem vg{c a b:Expr}{t r:Bool}{pos:Pos}(hc:EvT X ρ c t)(ha:t=true->EvT X ρ a r)(hb:t=false->EvT X ρ b r):EvT X ρ (.IfExp c a b pos) r:=by
 intro σ H Hs Q hs hst hq z0 s I;refine isTrue_IfExp (thn (hc σ H Hs (fun b' H'=>b'=t/\∃ Hs',Ext Hs H Hs' H') hs hst (fun H1 Hs1 E1=>⟨rfl,Hs1,E1⟩) z0 s I) fun b' s2 ⟨H2,I2,e2,Hs2,E2⟩=>?_);subst e2
 cases b' with
 | true=>exact mV (ha rfl σ H2 Hs2 Q E2.sub (hst.same E2.vis) (fun H' Hs' E3=>hq H' Hs' (E2.trans E3)) z0 s2 I2)
 | false=>exact oh (hb rfl σ H2 Hs2 Q E2.sub (hst.same E2.vis) (fun H' Hs' E3=>hq H' Hs' (E2.trans E3)) z0 s2 I2)
theorem cX{f:Expr->Option D}:∀ {es:List Expr} {ds:List D},(∀ e∈es,∀ d,f e=some d->Ev X ρ e d/\aA e=true)->iD f es=some ds->EvA X ρ es ds/\(∀ e∈es,aA e=true)
 | [],ds,_,h=>by
  simp only[iD,Z1z] at h;subst h;exact⟨fun σ H Hs Q hs hst hq=>bw.sem (hq [] H Hs (.refl hs) .nil),fun e he=>absurd he (by simp)⟩
 | e::es,ds,hf,h=>by
  simp only[iD,bind,Option.bind] at h
  cases he:f e with
  | none=>rw[he] at h;cases h
  | some d =>
   rw[he] at h;simp only at h
   cases hr:iD f es with
   | none=>rw[hr] at h;cases h
   | some dr =>
    rw[hr] at h;simp only[Z1z] at h;subst h;obtain⟨h1,hp⟩:=hf e (by simp) d he;obtain⟨h2,hps⟩:=cX (fun a ha=>hf a (S0z _ ha)) hr;refine⟨fun σ H Hs Q hs hst hq=>(aP ak bQ (aj hp)).sem (h1 σ H Hs _ hs hst fun v H1 Hs1 E1 r1=>h2 σ H1 Hs1 _ E1.sub (hst.same E1.vis) fun vs H2 Hs2 E2 r2=>?_),fun a ha=>?_⟩
    ·exact hq _ H2 Hs2 (E1.trans E2) (.cons (Rep.same E2.vis d v r1) r2)
    ·rcases List.mem_cons.mp ha with rfl | ha
     ·exact hp
     ·exact hps a ha
theorem uf{es:List Expr}{ds:List D}{j:Nat}{pos:Pos}(h:EvA X ρ es ds)(hz:szl ds.length=true):Ev X ρ (.Tuple es j pos) (.tup ds):=fun σ H Hs Q hs hst hq =>
 (zG bQ).sem (h σ H Hs _ hs hst fun vs H1 Hs1 E1 r1=>⟨by rw[<- r1.length];exact dR hz,fun p hp=>je E1.sub r1 hp fun w H' Hs' E2 r2=>hq w H' Hs' (E1.trans E2) r2⟩)
theorem qT{es:List Expr}{ds:List D}{pos:Pos}(h:EvA X ρ es ds)(hz:szl ds.length=true):Ev X ρ (.List es pos) (.lst ds):=fun σ H Hs Q hs hst hq =>
 (pZ bQ).sem (h σ H Hs _ hs hst fun vs H1 Hs1 E1 r1=>⟨by rw[<- r1.length];exact dR hz,fun p hp=>fH E1.sub r1 hp fun w H' Hs' E2 r2=>hq w H' Hs' (E1.trans E2) r2⟩)
theorem jQ(n:Nat)(i:Int):ixD n i=ixN n i:=rfl
theorem rM{K:Zf}{H:Hp}{ds:List D}{vs:List V}{i:Int}{d:D}(h:aJ K H ds vs)(e:atD ds i=some d):∃ v,atI vs i=some v/\Rep K H d v:=by
 unfold atD at e;rw[jQ,h.length] at e
 cases q:ixN vs.length i with
 | none=>rw[q] at e;cases e
 | some j =>
  rw[q] at e;obtain⟨v,h1,h2⟩:=h.get (i:=j) (d:=d) e;exact⟨v,by unfold atI;rw[q];exact h1,h2⟩
theorem vW{K:Zf}{H:Hp}{ks:List (Sum Int Str)}{ds:List D}{v:V}(h:Rep K H (.dic ks ds) v):∃ (a:Addr) (kvs:List (Key×V)),v=.ref a/\DAt K H a kvs/\kvs.map (·.1)=ks/\aJ K H ds (kvs.map (·.2)):=by simpa[Rep] using h
theorem oZ{K:Zf}{H:Hp}{k:Key}{d:D}:∀ {kvs:List (Key×V)} {ds:List D},aJ K H ds (kvs.map (·.2))->yC (kvs.map (·.1)) ds k=some d->∃ v,rQ kvs k=some v/\Rep K H d v
 | [],ds,r,h=>by simp[yC] at h
 | (k',v')::kvs,ds,r,h=>by
  cases ds with
  | nil=>simp[yC] at h
  | cons d' ds =>
   simp only[E3z,aJ] at r;obtain⟨v,rr,e,h2,h3⟩:=r;cases e;unfold yC at h;simp only[E3z,List.zip_cons_cons,List.find?_cons] at h;unfold rQ;rw[List.find?_cons]
   by_cases q:k'=k
   ·simp only[q,decide_true] at h ⊢
    simp only[T2z,Z1z] at h ⊢;subst h;exact⟨v',rfl,h2⟩
   ·simp only[q,decide_false] at h ⊢
    exact oZ h3 h
theorem wZ{K:Zf}{H:Hp}{d:D}{v:V}{k:Key}(h:Bl d=some k)(r:Rep K H d v):v=kV k:=by
 cases d<;>simp[Bl] at h
 ·subst h;exact aD r
 ·subst h
  rename_i x
  have e:v=.str x:=by simpa[Rep] using r
  exact e
theorem xW{a b:Expr}{ks:List (Sum Int Str)}{ds:List D}{y d:D}{k':Key}{pos:Pos}(kw:KnW X.K X.w)(ha:Ev X ρ a (.dic ks ds))(hb:Ev X ρ b y)(hp:aA b=true)(hk:Bl y=some k')(hd:yC ks ds k'=some d):Ev X ρ (.Subscript a b pos) d:=by
 intro σ H Hs Q hs hst hq;refine PE.sem (wz kw ak ak fun ov iv=>fX hp ov iv) (ha σ H Hs _ hs hst fun v H1 Hs1 E1 r1=>hb σ H1 Hs1 _ E1.sub (hst.same E1.vis) fun u H2 Hs2 E2 r2=>?_);have rdE:∀ {H1 H2:Hp} {a:Addr} {u:List (Key×V)},Same H1 H2->DAt X.K H1 a u->DAt X.K H2 a u:=fun e r=>r.elim (fun r=>.inl (r.elim (fun q=>.inl (e _ _ q)) fun⟨o,q⟩=>.inr ⟨o,e _ _ q⟩)) .inr;obtain⟨p,kvs,rfl,h1,rfl,h3⟩:=vW (Rep.same E2.vis _ v r1);obtain⟨w,h4,h5⟩:=oZ h3 hd;exact⟨p,w,kvs,k',rfl,rdE E2.sub h1,wZ hk r2,h4.symm,hq w H2 Hs2 (E1.trans E2) h5⟩
theorem jm{a b:Expr}{x d:D}{i:Int}{xs:List D}{pos:Pos}(ha:Ev X ρ a x)(hb:Ev X ρ b (.int i))(hp:aA b=true)(hx:items x=some xs)(hd:atD xs i=some d):Ev X ρ (.Subscript a b pos) d:=by
 cases x with
 | tup ys =>
  simp only[items,Z1z] at hx;subst hx;refine cu ha hb (wA Ae ak ak (fX hp)) fun u v H Hs Q hs r1 r2 hq=>?_;obtain⟨p,vs,rfl,h1,h2⟩:=bf r1;obtain⟨w,h3,h4⟩:=rM h2 hd;exact⟨p,vs,i,w,rfl,aD r2,hs.tup h1,h3,hq w H Hs (.refl hs) h4⟩
 | lst ys =>
  simp only[items,Z1z] at hx;subst hx;refine cu ha hb (wA qH ak ak (fX hp)) fun u v H Hs Q hs r1 r2 hq=>?_;obtain⟨p,vs,rfl,h1,h2⟩:=bF r1;obtain⟨w,h3,h4⟩:=rM h2 hd;exact⟨p,vs,i,w,rfl,aD r2,hs.seq h1,h3,hq w H Hs (.refl hs) h4⟩
 | _=>simp[items] at hx
theorem xZ{f:Str}{es:List Expr}{ds:List D}{d:D}{p pos:Pos}(G:Good cx k X sc)(hg:Gl X f)(hf:cx.fns.contains f=true)(hne:es≠[])(h:EvA X ρ es ds)(hp:∀ e∈es,aA e=true)(hc:cx.call f ds=some d) :
  Ev X ρ (.Call (.Name f p) es [] pos) d:=by
 obtain⟨hdb,a,fd,ps,har,_,hm,hk,hb,F⟩:=G.fns f hf
 cases es with
 | nil=>exact absurd rfl hne
 | cons e es =>
  intro σ H Hs Q hs hst hq;refine(wB F G.room hg hm hk hb .nil wC bQ hdb (aj (hp e (by simp))) (dh fun e' he=>hp e' (S0z _ he))).sem (h σ H Hs _ hs hst fun vs H1 Hs1 E1 r1=>?_);refine⟨?_,Hs1,ds,E1.sub,?_,.inl ⟨d,hc,fun v H' Hs' E2 r2=>hq v H' Hs' (E1.trans E2) r2⟩⟩
  ·rw[N2z,<- r1.length,har ds d hc]
  ·rw[N2z];exact r1
def Bg(X:Cx)(f:Value):List V->Hp->VK->Prop:=fun vs H Q=>∀ z0 s σ us,Inv X z0 σ H s->Vals vs us->wpAny (model X.prog X.w) X.A (call f us) (EP X z0 σ Q) X.xe s
theorem bN{f:Value}:cU X f (Bg X f):=fun z0 s σ H xs us Q I r h=>h z0 s σ us I r
theorem cU.sem{f:Value}{r:List V->Hp->VK->Prop}{vs:List V}{H:Hp}{Q:VK}(h:cU X f r)(q:r vs H Q):Bg X f vs H Q:=fun z0 s σ us I rv=>h z0 s σ H vs us Q I rv q
def EvC(X:Cx)(f:Value)(ds:List D)(d:D):Prop:=∀ vs H Hs Q,Same Hs H->aJ X.K Hs ds vs->(∀ v H' Hs',Ext Hs H Hs' H'->Rep X.K Hs' d v->Q v H')->Bg X f vs H Q
theorem lC{K:Zf}{H:Hp}{d:D}{vs:List V}(h:aJ K H [d] vs):∃ v,vs=[v]/\Rep K H d v:=by
 simp only[aJ] at h;obtain⟨v,r,rfl,h1,h2⟩:=h;subst h2;exact⟨v,rfl,h1⟩
theorem BZ{K:Zf}{H:Hp}{d e:D}{vs:List V}(h:aJ K H [d,e] vs):∃ v w,vs=[v,w]/\Rep K H d v/\Rep K H e w:=by
 simp only[aJ] at h;obtain⟨v,r,rfl,h1,w,r2,rfl,h2,h3⟩:=h;subst h3;exact⟨v,w,rfl,h1,h2⟩
theorem gw{K:Zf}{H:Hp}{d:D}{l:List D}{v:V}(h:Rep K H d v)(e:items d=some l):∃ a vs,v=.ref a/\(SqL K H a vs\/SqT K H a vs)/\aJ K H l vs:=by
 cases d with
 | tup xs=>simp only[items,Z1z] at e;subst e;obtain⟨a,vs,e1,e2,e3⟩:=bf h;exact⟨a,vs,e1,.inr e2,e3⟩
 | lst xs=>simp only[items,Z1z] at e;subst e;obtain⟨a,vs,e1,e2,e3⟩:=bF h;exact⟨a,vs,e1,.inl e2,e3⟩
 | _=>simp[items] at e
theorem f9{K:Zf}{H:Hp}:∀ {ds:List D} {bs:List Bool} {vs:List V},oR ds=some bs->aJ K H ds vs->vs=bs.map V.bl
 | [],ns,vs,h,r=>by
  simp only[oR,Z1z] at h;subst h
  simpa[aJ] using r
 | .bl i::ds,ns,vs,h,r=>by
  simp only[oR,P0z] at h;obtain⟨ms,h1,rfl⟩:=h;simp only[aJ] at r;obtain⟨v,r',rfl,h2,h3⟩:=r;rw[bI h2,f9 h1 h3];rfl
 | .non::ds,ns,vs,h,r=>by simp[oR] at h
 | .int _::ds,ns,vs,h,r=>by simp[oR] at h
 | .str _::ds,ns,vs,h,r=>by simp[oR] at h
 | .tup _::ds,ns,vs,h,r=>by simp[oR] at h
 | .lst _::ds,ns,vs,h,r=>by simp[oR] at h
 | .exc _::ds,ns,vs,h,r=>by simp[oR] at h
 | .dic _ _::ds,ns,vs,h,r=>by simp[oR] at h
theorem gZ:∀ {bs:List Bool} {us:List Value},Vals (bs.map V.bl) us->LSm.BoolsAre us bs
 | [],us,r=>by rw[N3z] at r;cases r;exact .nil
 | b::bs,us,r=>by
  rw[E3z] at r
  cases r with
  | cons r1 r2 =>
   cases (show _=Value.bool b from r1);exact .cons b (gZ r2)
theorem rF(hc:X.calm=true):cU X (.builtin "all") (fun xs H Q=>∃ (p:Addr) (bs:List Bool),xs=[.ref p]/\SqL X.K H p (bs.map V.bl)/\Q (.bl (bs.all id)) H):=by
 intro z0 s σ H xs us Q I r h;obtain⟨p,bs,rfl,hq,q⟩:=h;obtain⟨u,rfl,rx⟩:=vals1 r;cases (show u=Value.ref p from rx);obtain⟨its,r',pl,hz⟩:=I.list hq;have hb:=gZ r';have hl:=pl.isList
 have hlt:p<s.heap.objs.size:=by obtain⟨_,e,_⟩:=hl;exact H3z e
 refine call_all_walk (wpAny_pyIter_list hl ⟨s.heap.objs.size,[s.heap.objs.size,p],[s.heap.objs.size],its.toArray.size,_,_,fun i=>(bs[i]?).getD true,rfl,Walks.list (A:=X.A.in1) (I.ok.hd hc) _ p (I3z hlt) its.toArray,⟨⟨_,Heap.get?_push_size _ rfl,rfl,rfl⟩,hl.push _⟩,fun i v s' Q' E' hP hQ=>?_,fun h' tk hk=>?_⟩)
 ·obtain⟨b,e,rfl⟩:=hb.get i v (by simpa using hP)
  simp only[e,Option.getD_some] at hQ;exact Q1z hQ
 ·have e:((List.range its.toArray.size).all fun i=>(bs[i]?).getD true)=bs.all id:=by rw[T1z,hb.length];exact LSm.range_all bs
  rw[e];exact⟨.bl _,H,I.kept (LSm.kept_iter hk),rfl,q⟩
theorem xO{d0:D}{l:List D}(hl:items d0=some l):EvC X (.type "tuple") [d0] (.tup l):=by
 intro vs H Hs Q hs hr hq;obtain⟨v,rfl,r1⟩:=lC hr;refine cU.sem jz ?_
 cases d0 with
 | tup xs =>
  simp only[items,Z1z] at hl;subst hl
  obtain⟨a,us,rfl,h1,h2⟩:=bf r1;exact⟨a,us,rfl,.inr ⟨hs.tup h1,hq _ H Hs (.refl hs) r1⟩⟩
 | lst xs =>
  simp only[items,Z1z] at hl;subst hl
  obtain⟨a,us,rfl,h1,h2⟩:=bF r1;exact⟨a,us,rfl,.inl ⟨hs.seq h1,fun p hp=>je hs h2 hp hq⟩⟩
 | _=>simp[items] at hl
def Kr:String->Value
 | "tuple"=>.type "tuple"
 | "list"=>.type "list"
 | "int"=>.type "int"
 | b=>.builtin b
theorem Aq{b:String}{ds:List D}{d:D}(hc:X.calm=true)(h:DE.blt b ds=some d):EvC X (Kr b) ds d:=by
 intro vs H Hs Q hs hr hq;unfold DE.blt at h;split at h
 ·simp only[bind,Option.bind] at h
  split at h
  ·cases h
  ·rename_i l hl
   cases h;obtain⟨v,rfl,r1⟩:=lC hr;obtain⟨a,us,rfl,h1,h2⟩:=gw r1 hl;refine cU.sem j7 ⟨a,us,rfl,h1.imp hs.seq hs.tup,?_⟩;rw[<- h2.length];exact hq _ H Hs (.refl hs) (by simp[Rep])
 ·simp only[bind,Option.bind] at h
  split at h
  ·cases h
  ·rename_i l hl
   cases h;obtain⟨v,rfl,r1⟩:=lC hr;obtain⟨a,us,rfl,h1,h2⟩:=bF r1;have e:=f9 hl h2;subst e;exact cU.sem (rF hc) ⟨a,_,rfl,hs.seq h1,hq _ H Hs (.refl hs) (by simp[Rep])⟩
 ·simp only[bind,Option.bind] at h
  split at h
  ·cases h
  ·rename_i l hl
   cases h;exact xO hl vs H Hs Q hs hr hq
 ·simp only[bind,Option.bind] at h
  split at h
  ·cases h
  ·rename_i l hl
   cases h;obtain⟨v,rfl,r1⟩:=lC hr;obtain⟨a,us,rfl,h1,h2⟩:=gw r1 hl;exact cU.sem fP ⟨a,us,rfl,h1.imp hs.seq hs.tup,fun p hp=>fH hs h2 hp hq⟩
 ·cases h
  obtain⟨v,rfl,r1⟩:=lC hr;exact cU.sem uy ⟨_,by rw[aD r1],hq _ H Hs (.refl hs) (by simp[Rep])⟩
 ·cases h
  obtain⟨v,rfl,r1⟩:=lC hr;exact cU.sem j9 (.inr ⟨_,by rw[bI r1],hq _ H Hs (.refl hs) (by simp[Rep,DE.b2i])⟩)
 ·cases h
  obtain⟨v,rfl,r1⟩:=lC hr;exact cU.sem j9 (.inl ⟨_,by rw[aD r1],hq _ H Hs (.refl hs) (by simp[Rep])⟩)
 ·cases h
end
section
variable {X:Cx} {ρ:Rho} {cx:Cxt} {k:Nat} {sc:Scope}
theorem aX{x:Str}{b:String}(G:Good cx k X sc)(h:aU cx sc x=some b):Gl X x/\X.mg x=none/\x=Str.ofString b:=by
 unfold aU lN at h;split at h
 ·rename_i hg
  have e:sc.names.lookup x=some .globalImplicit:=by simpa using hg
  refine⟨?_,G.blt x b h⟩;show X.env.scope.names.lookup x=_;rw[G.sce,e]
 ·cases h
theorem rG{b:String}{ds:List D}{d:D}(h:DE.blt b ds=some d):b="len"\/b="all"\/b="sum"\/b="tuple"\/b="list"\/b="min"\/b="max"\/b="abs"\/b="int"\/b="any":=by
 unfold DE.blt at h
 split at h<;>first | (simp;done) | cases h
theorem um{x:Str}{b:String}{e:Expr}{es:List Expr}{ds:List D}{d:D}{p pos:Pos}(G:Good cx k X sc)(hx:aU cx sc x=some b)(h:EvA X ρ (e::es) ds)(hp:∀ a∈e::es,aA a=true)(hd:DE.blt b ds=some d) :
  Ev X ρ (.Call (.Name x p) (e::es) [] pos) d:=by
 obtain⟨hg,hm,rfl⟩:=aX G hx;have c:=Aq (X:=X) G.calm hd;have s1:=aj (env:=X.env) (es:=es) (hp e (by simp));have s2:=dh (env:=X.env) (pos:=pos) fun a ha=>hp a (S0z _ ha)
 have fin:∀ f:Value,Kr b=f->PE X (.Call (.Name (Str.ofString b) p) (e::es) [] pos) (tCB (Bg X f) (pC X (e::es)))->Ev X ρ (.Call (.Name (Str.ofString b) p) (e::es) [] pos) d:=by
  intro f hf hpe σ H Hs Q hs hst hq;rw[hf] at c;refine hpe.sem (h σ H Hs _ hs hst fun vs H1 Hs1 E1 r1=>?_);exact c vs H1 Hs1 Q E1.sub r1 fun v H' Hs' E2 r2=>hq v H' Hs' (E1.trans E2) r2
 rcases rG hd with rfl | rfl | rfl | rfl | rfl | rfl | rfl | rfl | rfl | rfl
 ·exact fin (.builtin "len") rfl (bM bN hg hm (by decide +kernel) bQ (by decide) (by decide) s1 s2)
 ·exact fin (.builtin "all") rfl (bM bN hg hm (by decide +kernel) bQ (by decide) (by decide) s1 s2)
 ·exact fin (.builtin "sum") rfl (bM bN hg hm (by decide +kernel) bQ (by decide) (by decide) s1 s2)
 ·exact fin (.type "tuple") rfl (eO bN hg hm (by decide +kernel) bQ (by decide) (by decide) s1 s2)
 ·exact fin (.type "list") rfl (eO bN hg hm (by decide +kernel) bQ (by decide) (by decide) s1 s2)
 ·exact fin (.builtin "min") rfl (bM bN hg hm (by decide +kernel) bQ (by decide) (by decide) s1 s2)
 ·exact fin (.builtin "max") rfl (bM bN hg hm (by decide +kernel) bQ (by decide) (by decide) s1 s2)
 ·exact fin (.builtin "abs") rfl (bM bN hg hm (by decide +kernel) bQ (by decide) (by decide) s1 s2)
 ·exact fin (.type "int") rfl (eO bN hg hm (by decide +kernel) bQ (by decide) (by decide) s1 s2)
 ·exact fin (.builtin "any") rfl (bM bN hg hm (by decide +kernel) bQ (by decide) (by decide) s1 s2)
def K9(K:Zf)(T:String):List V->Hp->VK->Prop:=fun xs H Q=>∃ x d,xs=[x,.ty T]/\Rep K H d x/\isExc d=false/\Q (.bl (Bm T d)) H
theorem lZ{T:String}(h:gk T=true):T="int"\/T="bool"\/T="tuple"\/T="list"\/T="str":=by
 unfold gk at h
 split at h<;>first | (simp;done) | cases h
theorem iy{x:V}{vs:List V}{us:List Value}(r:Vals (x::vs) us):∃ u w,us=u::w/\RelV x u/\Vals vs w:=by
 cases r with
 | cons r rr=>exact⟨_,_,rfl,r,rr⟩
theorem ux{T:String}(hk:gk T=true):cU X (.builtin "isinstance") (K9 X.K T):=by
 intro z0 s σ H xs us Q I r h;obtain⟨x,d,rfl,rd,hne,q⟩:=h;obtain⟨u,w1,rfl,rx,rr⟩:=iy r;obtain⟨c,w2,rfl,rc,rr2⟩:=iy rr;cases rr2;cases (show c=Value.type T from rc);have fin:∀ b,b=Bm T d->∀ tk,EP X z0 σ Q (.bool b) { s with toks:=tk }:=fun b hb tk=>⟨.bl _,H,I.tok _,by rw[hb];rfl,q⟩;have ks:=lZ hk
 cases d with
 | exc c=>exact absurd hne (by simp[isExc])
 | dic _ _=>exact absurd hne (by simp[isExc])
 | non =>
  cases iV rd;cases (show u=Value.none from rx)
  rcases ks with rfl | rfl | rfl | rfl | rfl<;>exact W2z (b:=false) PySem.W.kitx_none I.kIn True.intro rfl (fun z=>nomatch z) (fin _ rfl)
 | bl y =>
  cases bI rd;cases (show u=Value.bool y from rx)
  rcases ks with rfl | rfl | rfl | rfl | rfl
  ·exact W2z (b:=true) A2z I.kIn True.intro rfl (fun z=>nomatch z) (fin _ rfl)
  ·exact W2z (b:=true) A2z I.kIn True.intro rfl (fun z=>nomatch z) (fin _ rfl)
  ·exact W2z (b:=false) A2z I.kIn True.intro rfl (fun z=>nomatch z) (fin _ rfl)
  ·exact W2z (b:=false) A2z I.kIn True.intro rfl (fun z=>nomatch z) (fin _ rfl)
  ·exact W2z (b:=false) A2z I.kIn True.intro rfl (fun z=>nomatch z) (fin _ rfl)
 | int y =>
  cases aD rd;obtain⟨t,e⟩:=(show ∃ t,u=Value.int y t from rx);cases e;rcases ks with rfl | rfl | rfl | rfl | rfl
  ·exact W2z (b:=true) I2z I.kIn True.intro rfl (fun z=>nomatch z) (fin _ rfl)
  ·exact W2z (b:=false) I2z I.kIn True.intro rfl (fun z=>nomatch z) (fin _ rfl)
  ·exact W2z (b:=false) I2z I.kIn True.intro rfl (fun z=>nomatch z) (fin _ rfl)
  ·exact W2z (b:=false) I2z I.kIn True.intro rfl (fun z=>nomatch z) (fin _ rfl)
  ·exact W2z (b:=false) I2z I.kIn True.intro rfl (fun z=>nomatch z) (fin _ rfl)
 | str y =>
  have ev:x=.str y:=by simpa[Rep] using rd
  subst ev;obtain⟨t,e⟩:=(show ∃ t,u=Value.str y t from rx);cases e;rcases ks with rfl | rfl | rfl | rfl | rfl
  ·exact W2z (b:=false) J2z I.kIn True.intro rfl (fun z=>nomatch z) (fin _ rfl)
  ·exact W2z (b:=false) J2z I.kIn True.intro rfl (fun z=>nomatch z) (fin _ rfl)
  ·exact W2z (b:=false) J2z I.kIn True.intro rfl (fun z=>nomatch z) (fin _ rfl)
  ·exact W2z (b:=false) J2z I.kIn True.intro rfl (fun z=>nomatch z) (fin _ rfl)
  ·exact W2z (b:=true) J2z I.kIn True.intro rfl (fun z=>nomatch z) (fin _ rfl)
 | tup ds =>
  obtain⟨a,vs,rfl,h1,h2⟩:=bf rd;cases (show u=Value.ref a from rx);obtain⟨its,_,o,g1,g2,_⟩:=isT I h1;rcases ks with rfl | rfl | rfl | rfl | rfl
  ·exact W2z (b:=false) P1z I.kIn ⟨o,g1,g2⟩ rfl (fun z=>nomatch z) (fin _ rfl)
  ·exact W2z (b:=false) P1z I.kIn ⟨o,g1,g2⟩ rfl (fun z=>nomatch z) (fin _ rfl)
  ·exact W2z (b:=true) P1z I.kIn ⟨o,g1,g2⟩ rfl (fun z=>nomatch z) (fin _ rfl)
  ·exact W2z (b:=false) P1z I.kIn ⟨o,g1,g2⟩ rfl (fun z=>nomatch z) (fin _ rfl)
  ·exact W2z (b:=false) P1z I.kIn ⟨o,g1,g2⟩ rfl (fun z=>nomatch z) (fin _ rfl)
 | lst ds =>
  obtain⟨a,vs,rfl,h1,h2⟩:=bF rd;cases (show u=Value.ref a from rx);obtain⟨its,_,o,g1,g2,_⟩:=isL I h1;rcases ks with rfl | rfl | rfl | rfl | rfl
  ·exact W2z (b:=false) B2z I.kIn ⟨o,g1,g2⟩ rfl (fun z=>nomatch z) (fin _ rfl)
  ·exact W2z (b:=false) B2z I.kIn ⟨o,g1,g2⟩ rfl (fun z=>nomatch z) (fin _ rfl)
  ·exact W2z (b:=false) B2z I.kIn ⟨o,g1,g2⟩ rfl (fun z=>nomatch z) (fin _ rfl)
  ·exact W2z (b:=true) B2z I.kIn ⟨o,g1,g2⟩ rfl (fun z=>nomatch z) (fin _ rfl)
  ·exact W2z (b:=false) B2z I.kIn ⟨o,g1,g2⟩ rfl (fun z=>nomatch z) (fin _ rfl)
theorem Al{x t:Str}{T:String}{a:Expr}{d:D}{p pt pos:Pos}(G:Good cx k X sc)(hx:aU cx sc x=some "isinstance")(ht:aU cx sc t=some T)(hk:gk T=true)(ha:Ev X ρ a d)(hp:aA a=true)(hne:isExc d=false) :
  Ev X ρ (.Call (.Name x p) [a,.Name t pt] [] pos) (.bl (Bm T d)):=by
 obtain⟨hg,hm,rfl⟩:=aX G hx;obtain⟨hg2,hm2,rfl⟩:=aX G ht
 have htv:PE X (.Name (Str.ofString T) pt) (tC (.ty T)):=by
  rcases lZ hk with rfl | rfl | rfl | rfl | rfl<;>exact lE hg2 hm2 (by decide +kernel) rfl
 intro σ H Hs Q hs hst hq;refine(bM (ux (X:=X) hk) hg hm (by decide +kernel) (aP ak (aP htv bw (aj rfl)) (aj hp)) (by decide) (by decide) (aj hp) rfl).sem ?_;exact ha σ H Hs _ hs hst fun v H1 Hs1 E1 r1=>⟨v,d,rfl,Rep.same E1.sub d v r1,hne,hq _ H1 Hs1 E1 (by simp[Rep])⟩
def Ci(K:Zf)(cv:V)(C:Addr)(b:Bool):List V->Hp->VK->Prop:=fun xs H Q=>∃ a,xs=[.ref a,cv]/\H a=some (.ext (isX a (.ref C)))/\Q (.bl b) H
theorem j8{cv:V}{c:Value}{C:Addr}{b:Bool}(hA:iR X.K C=true)(hc:∀ u,RelV cv u->u=c)(e:PySem.W.kitOne X.K (.ref C) c=some b):cU X (.builtin "isinstance") (Ci X.K cv C b):=by
 intro z0 s σ H xs us Q I r h;obtain⟨a,rfl,ha,q⟩:=h;obtain⟨u,w1,rfl,rx,rr⟩:=iy r;obtain⟨u2,w2,rfl,rc,rr2⟩:=iy rr;cases rr2;cases (show u=Value.ref a from rx);cases hc u2 rc;exact W2z (tX hA) I.kIn (I.hok _ _ ha).1 e (fun z=>nomatch z) fun tk=>⟨.bl _,H,I.tok _,rfl,q⟩
theorem lQ{x c:Str}{t a:Expr}{tv:TE}{cv:V}{cw:Value}{b:Bool}{p pos:Pos}(G:Good cx k X sc)(hx:aU cx sc x=some "isinstance")(hc:cx.exs.contains c=true)(ht:PE X t (tC cv))(hpt:aA t=true)(hcv:∀ u,RelV cv u->u=cw)
  (hk:∀ C,PySem.W.nsIn X.K mainGlobals c=some (some (.ref C))->PySem.W.kitOne X.K (.ref C) cw=some b) (ha:Ev X ρ a (.exc c)) (hp:aA a=true):Ev X ρ (.Call (.Name x p) [a,t] [] pos) (.bl b):=by
 obtain⟨hg,hm,rfl⟩:=aX G hx;obtain⟨C,M,e1,_,_,e2,_⟩:=G.exs.cls c hc;intro σ H Hs Q hs hst hq;refine(bM (j8 (X:=X) (cv:=cv) e2 hcv (hk C e1)) hg hm (by decide +kernel) (aP ak (aP ht bw (aj hpt)) (aj hp)) (by decide) (by decide) (aj hp) (by rw[aj hpt];rfl)).sem ?_;refine ha σ H Hs _ hs hst fun v H1 Hs1 E1 r1=>?_;have r2:=Rep.same E1.sub _ v r1;simp only[Rep] at r2;obtain⟨a0,C0,rfl,f1,f2⟩:=r2;rw[e1] at f1;cases f1;exact⟨a0,rfl,f2,hq _ H1 Hs1 E1 (by simp[Rep])⟩
theorem xV{x t c:Str}{a:Expr}{p pt pos:Pos}(G:Good cx k X sc)(hx:aU cx sc x=some "isinstance")(ht:aU cx sc t=some "ValueError")(hc:cx.exs.contains c=true)(ha:Ev X ρ a (.exc c))(hp:aA a=true):Ev X ρ (.Call (.Name x p) [a,.Name t pt] [] pos) (.bl true):=by
 obtain⟨hg2,hm2,rfl⟩:=aX G ht;refine lQ (tv:=tC (.ty "ValueError")) (cv:=.ty "ValueError") (cw:=.type "ValueError") G hx hc (lE hg2 hm2 (by decide +kernel) rfl) rfl (fun u r=>r) (fun C e=>?_) ha hp;obtain⟨C',M,e1,_,_,_,_,_,e2⟩:=G.exs.cls c hc;rw[e] at e1;cases e1;exact e2
theorem uH{t:Expr}{c':Str}(h:xOf cx sc t=some c'):∃ pt,t=.Name c' pt/\lN cx sc c'=true/\(cx.exs.contains c'=true\/c'=cx.top)/\(c'==("__debug__":Str))=false:=by
 unfold xOf at h;split at h
 ·rename_i y pt
  split at h
  ·rename_i q
   cases h;rw[G2z,G2z,V2z] at q;have q2:=q.2;unfold au at q2;rw[G2z,W3z] at q2;exact⟨pt,rfl,q.1.1,q.1.2.imp id (fun z=>by simpa using z),by simpa using q2.1⟩
  ·cases h
 ·cases h
theorem xU{x c c':Str}{t a:Expr}{p pos:Pos}(G:Good cx k X sc)(hx:aU cx sc x=some "isinstance")(ht:xOf cx sc t=some c')(hc:cx.exs.contains c=true)(ha:Ev X ρ a (.exc c))(hp:aA a=true):Ev X ρ (.Call (.Name x p) [a,t] [] pos) (.bl (oW cx.top c c')):=by
 obtain⟨pt,rfl,hgl,hin,hd⟩:=uH ht
 have hg:Gl X c':=by
  have e:sc.names.lookup c'=some .globalImplicit:=by unfold lN at hgl;simpa using hgl
  show X.env.scope.names.lookup c'=_;rw[G.sce,e]
 by_cases htop:c'=cx.top
 ·subst htop
  obtain⟨C,M,e1,e2,_,_,_,e3,_⟩:=G.exs.cls c hc
  have:oW cx.top c cx.top=true:=by unfold oW;simp
  rw[this];refine lQ (tv:=tC (.ref M)) (cv:=.ref M) (cw:=.ref M) G hx hc (gD hg (G.exs.glob _ _ e2) rfl hd) rfl (fun u r=>r) (fun C' e=>?_) ha hp;rw[e] at e1;cases e1;exact e3
 ·have hin':cx.exs.contains c'=true:=hin.resolve_right htop
  obtain⟨C,C',e1,e2,e3⟩:=G.exs.sub c c' hc hin'
  have:oW cx.top c c'=(c==c'):=by
   unfold oW
   have:(c'==cx.top)=false:=by simpa using htop
   rw[this,Bool.or_false]
  rw[this];refine lQ (tv:=tC (.ref C')) (cv:=.ref C') (cw:=.ref C') G hx hc (gD hg (G.exs.glob _ _ e2) rfl hd) rfl (fun u r=>r) (fun C'' e=>?_) ha hp;rw[e] at e1;cases e1;exact e3
end
section
variable {X:Cx} {ρ:Rho} {cx:Cxt} {k:Nat} {sc:Scope}
theorem oY:∀ {vs:List V} {us:List Value},vs.length=us.length->(∀ (i:Nat) (v:V) (u:Value),vs[i]?=some v->us[i]?=some u->RelV v u)->Vals vs us
 | [],[],_,_=>.nil
 | [],u::us,h,_=>by simp at h
 | v::vs,[],h,_=>by simp at h
 | v::vs,u::us,h,hr=>.cons (hr 0 v u rfl rfl) (oY (by simpa using h) fun i a b e1 e2=>hr (i+1) a b (by simpa using e1) (by simpa using e2))
def gA(lo hi:Int):List V:=(List.range (hi-lo).toNat).map fun(k:Nat)=>V.int (lo+(k:Int))
theorem fW{α:Type}{K:Zf}{H:Hp}{f:α->D}{g:α->V}(h:∀ x,Rep K H (f x) (g x)):∀ l:List α,aJ K H (l.map f) (l.map g)
 | []=>.nil
 | x::r=>.cons (h x) (fW h r)
theorem jM{K:Zf}{H:Hp}{lo hi:Int}:aJ K H (bK lo hi) (gA lo hi):=fW (fun x=>by simp[Rep]) _
theorem eF{i:Int}(h:cL i=true):-(2^62)<=i/\i<2^62:=by
 unfold cL at h;rw[G2z,Y1z,Y1z] at h;exact h
theorem eX{z0:List (Addr×Obj)}{σ:St}{H:Hp}{s:Shared}{Q:VK}{E:Value->Shared->Prop}{lo hi:Int}{t u v:Tok}{tk:Nat}(hc:X.calm=true)(I:Inv X z0 σ H s)(h1:-(2^62)<=lo/\lo<2^62)(h3:-(2^62)<=hi/\hi<2^62)
  (hz:szl (hi-lo).toNat=true) (q:∀ p,H p=none->Q (.ref p) (upd H p (.lst (gA lo hi)))) :
  wpAny (model X.prog X.w) X.A (call (.type "list") [.ref s.heap.objs.size]) (EP X z0 σ Q) E { s with heap:=s.heap.push { cls:=.type "range",data:=.fields #[.int lo t,.int hi u,.int 1 v] },toks:=tk }:=by
 have hz':(hi-lo).toNat<=100000:=by unfold szl at hz;simpa using hz
 refine call_list_range (n:=(hi-lo).toNat) (I.ok.hd hc) (IsRange.new ..) (small_one h1.1 h1.2 h3.1 h3.2) (by rw[rangeSize_one];split<;>omega) (by omega) fun h' tk' acc' c' kp e its=>?_
 have I1:Inv X z0 σ H { s with heap:=s.heap.push { cls:=.type "range",data:=.fields #[.int lo t,.int hi u,.int 1 v] },toks:=tk }:=I.kept fun b o e=>Heap.get?_push_of_some _ e
 have hl:(gA lo hi).length=(hi-lo).toNat:=by simp[gA]
 have hv:Vals (gA lo hi) acc'.toList:=by
  refine oY (by rw[hl,Y0z,its.1]) fun i v u e1 e2=>?_;obtain⟨t,rfl⟩:=its.2 i u (by simpa using e2);unfold gA at e1;rw[List.getElem?_map] at e1;obtain⟨j,e3,rfl⟩:=P0z.mp e1;rw[List.getElem?_eq_some_iff] at e3;obtain⟨_,e3⟩:=e3;rw[List.getElem_range] at e3;subst e3;exact⟨t,by rw[Int.mul_one]⟩
 refine⟨.ref _,_,I1.laid (t':=tk') kp (P3z _) (show bY X.prog X.w _ h' _ (.lst (gA lo hi)) from⟨by rw[hl];exact dR hz,acc'.toList,c',hv,e⟩),rfl,q _ (I1.hok.fresh (P3z _))⟩
theorem oG{x y:Str}{a:Expr}{j:Int}{p q q' pos:Pos}(G:Good cx k X sc)(hx:aU cx sc x=some "list")(hy:aU cx sc y=some "range")(ha:Ev X ρ a (.int j))(hp:aA a=true)(hj:cL j=true)(hz:szl j.toNat=true) :
  Ev X ρ (.Call (.Name x p) [.Call (.Name y q) [a] [] q'] [] pos) (.lst (bK 0 j)):=by
 obtain⟨hg,hm,rfl⟩:=aX G hx;obtain⟨hg2,hm2,rfl⟩:=aX G hy;intro σ H Hs Q hs hst hq z0 s I;refine Call_ (cY I hg hm (show bootBuiltins "list"=some (.type "list") by decide +kernel) (A0z ?_ rfl rfl));show wpAny _ _ (spliced [(false,eval (.Call (.Name _ q) [a] [] q') X.env)]) _ _ _;refine H1z ?_;refine Call_ (cY I hg2 hm2 boot_range (A0z ?_ (aj hp) rfl));refine thn ((aP ak bw (aj hp)) q' z0 s σ H (fun vs H1=>∃ Hs1,vs=[.int j]/\Ext Hs H Hs1 H1) I (ha σ H Hs _ hs hst fun v H1 Hs1 E1 r1=>⟨Hs1,by rw[aD r1],E1⟩)) fun us s1 ⟨vs,H1,I1,r1,Hs1,e1,E1⟩=>?_;subst e1;obtain⟨u,w1,rfl,rx,rr⟩:=iy r1;cases rr;obtain⟨t,rfl⟩:=(show ∃ t,u=Value.int j t from rx);refine call_range_1 (S1z ?_);exact eX G.calm I1 (by decide) (eF hj) (by simpa using hz) fun p hp=>fH E1.sub jM hp fun w H' Hs' E2 r2=>hq w H' Hs' (E1.trans E2) r2
theorem oF{x y:Str}{a b:Expr}{i j:Int}{p q q' pos:Pos}(G:Good cx k X sc)(hx:aU cx sc x=some "list")(hy:aU cx sc y=some "range")(ha:Ev X ρ a (.int i))(hp:aA a=true)(hb:Ev X ρ b (.int j))(hpb:aA b=true)(hi:cL i=true)(hj:cL j=true)(hz:szl (j-i).toNat=true) :
  Ev X ρ (.Call (.Name x p) [.Call (.Name y q) [a,b] [] q'] [] pos) (.lst (bK i j)):=by
 obtain⟨hg,hm,rfl⟩:=aX G hx;obtain⟨hg2,hm2,rfl⟩:=aX G hy;intro σ H Hs Q hs hst hq z0 s I;refine Call_ (cY I hg hm (show bootBuiltins "list"=some (.type "list") by decide +kernel) (A0z ?_ rfl rfl));show wpAny _ _ (spliced [(false,eval (.Call (.Name _ q) [a,b] [] q') X.env)]) _ _ _;refine H1z ?_;refine Call_ (cY I hg2 hm2 boot_range (A0z ?_ (aj hp) (dh fun e he=>by rw[List.mem_singleton.mp he];exact hpb)));refine thn ((aP ak (aP ak bw (aj hpb)) (aj hp)) q' z0 s σ H (fun vs H1=>∃ Hs1,vs=[.int i,.int j]/\Ext Hs H Hs1 H1) I (ha σ H Hs _ hs hst fun v H1 Hs1 E1 r1=>hb σ H1 Hs1 _ E1.sub (hst.same E1.vis) fun v' H2 Hs2 E2 r2=>⟨Hs2,by rw[aD r1,aD r2],E1.trans E2⟩)) fun us s1 ⟨vs,H1,I1,r1,Hs1,e1,E1⟩=>?_;subst e1;obtain⟨u,w1,rfl,rx,rr⟩:=iy r1;obtain⟨u2,w2,rfl,rx2,rr2⟩:=iy rr;cases rr2;obtain⟨t,rfl⟩:=(show ∃ t,u=Value.int i t from rx);obtain⟨t2,rfl⟩:=(show ∃ t,u2=Value.int j t from rx2);refine call_range_2 (S1z ?_);exact eX G.calm I1 (eF hi) (eF hj) hz fun p hp=>fH E1.sub jM hp fun w H' Hs' E2 r2=>hq w H' Hs' (E1.trans E2) r2
variable {tg iter a b:Expr}
theorem yd{d:D}{l:List D}(h:Ev X ρ iter d)(hl:items d=some l):EvI X ρ tg iter l:=by
 intro σ H Hs R hs hst hq
 cases d with
 | lst xs =>
  simp only[items,Z1z] at hl;subst hl
  refine(wg (tg:=tg) ak).sem (h σ H Hs _ hs hst fun v H1 Hs1 E1 r1=>?_);obtain⟨p,vs,rfl,h1,h2⟩:=bF r1;refine⟨p,rfl,⟨vs,E1.sub.seq h1⟩,hq _ H1 Hs1 E1 fun Hs' H' e1 e2=>⟨⟨vs,e2.seq (e1.seq h1),by rw[h2.length];exact P3z _⟩,fun i d hd=>?_⟩⟩;obtain⟨v,g1,g2⟩:=h2.get hd;refine⟨⟨vs,v,e2.seq (e1.seq h1),g1⟩,fun x H2 y=>?_⟩;obtain⟨rfl,y⟩:=y;have:=y vs (e2.seq (e1.seq h1));rw[g1] at this;cases this;exact⟨Hs',.refl e2,Rep.same e1 d v g2⟩
 | tup xs =>
  simp only[items,Z1z] at hl;subst hl
  refine(zE (tg:=tg) ak).sem (h σ H Hs _ hs hst fun v H1 Hs1 E1 r1=>?_);obtain⟨p,vs,rfl,h1,h2⟩:=bf r1;refine⟨p,rfl,⟨vs,E1.sub.tup h1⟩,hq _ H1 Hs1 E1 fun Hs' H' e1 e2=>⟨⟨vs,e2.tup (e1.tup h1),by rw[h2.length];exact P3z _⟩,fun i d hd=>?_⟩⟩;obtain⟨v,g1,g2⟩:=h2.get hd;refine⟨⟨vs,v,e2.tup (e1.tup h1),g1⟩,fun x H2 y=>?_⟩;obtain⟨rfl,y⟩:=y;have:=y vs (e2.tup (e1.tup h1));rw[g1] at this;cases this;exact⟨Hs',.refl e2,Rep.same e1 d v g2⟩
 | _=>simp[items] at hl
theorem gJ{K:Zf}{Hs0:Hp}{lo hi:Int}{n:Nat}(hn:n=(hi-lo).toNat):Az K (Itr lo n) Hs0 (bK lo hi):=by
 have hl:(bK lo hi).length=n:=by rw[hn];simp[bK]
 intro Hs H e1 e2;refine⟨by show n<=_;rw[hl];exact P3z _,fun i d hd=>?_⟩
 have hi:i<n:=by have:=(List.getElem?_eq_some_iff.mp hd).1;rw[hl] at this;exact this
 refine⟨hi,fun x H' y=>?_⟩;obtain⟨rfl,rfl⟩:=y;refine⟨Hs,.refl e2,?_⟩;unfold bK at hd;rw[List.getElem?_map] at hd;obtain⟨j,e3,rfl⟩:=P0z.mp hd;rw[List.getElem?_eq_some_iff] at e3;obtain⟨_,e3⟩:=e3;rw[List.getElem_range] at e3;subst e3;simp[Rep]
theorem oJ{x:Str}{j:Int}{p pos:Pos}(G:Good cx k X sc)(hx:aU cx sc x=some "range")(ha:Ev X ρ a (.int j))(hp:aA a=true)(hj:cL j=true):EvI X ρ tg (.Call (.Name x p) [a] [] pos) (bK 0 j):=by
 obtain⟨hg,hm,rfl⟩:=aX G hx;intro σ H Hs R hs hst hq;have q:=pX (tg:=tg) (p:=p) (pos:=pos) hg hm (aP (ak (X:=X) (e:=a)) bw (aj hp)) (aj hp);refine PI.sem q (ha σ H Hs _ hs hst fun v H1 Hs1 E1 r1=>?_);exact⟨j,by rw[aD r1],(eF hj).1,(eF hj).2,hq _ H1 Hs1 E1 (gJ (by simp))⟩
theorem oH{x:Str}{i j:Int}{p pos:Pos}(G:Good cx k X sc)(hx:aU cx sc x=some "range")(ha:Ev X ρ a (.int i))(hp:aA a=true)(hb:Ev X ρ b (.int j))(hpb:aA b=true)(hi:cL i=true)(hj:cL j=true):EvI X ρ tg (.Call (.Name x p) [a,b] [] pos) (bK i j):=by
 obtain⟨hg,hm,rfl⟩:=aX G hx;intro σ H Hs R hs hst hq;have q:=pW (tg:=tg) (p:=p) (pos:=pos) hg hm (aP (ak (X:=X) (e:=a)) (aP (ak (X:=X) (e:=b)) bw (aj hpb)) (aj hp)) (by rw[aj hp,aj hpb];rfl) (aj hpb);refine PI.sem q (ha σ H Hs _ hs hst fun v H1 Hs1 E1 r1=>hb σ H1 Hs1 _ E1.sub (hst.same E1.vis) fun v' H2 Hs2 E2 r2=>?_);exact⟨i,j,by rw[aD r1,aD r2],⟨(eF hi).1,(eF hi).2,(eF hj).1,(eF hj).2⟩,hq _ H2 Hs2 (E1.trans E2) (gJ rfl)⟩
theorem yc{x:Str}{xs ys:List D}{p pos pt:Pos}{es:List Expr}{kt:Nat}(G:Good cx k X sc)(hx:aU cx sc x=some "zip")(ha:Ev X ρ a (.tup xs))(hp:aA a=true)(hb:Ev X ρ b (.tup ys))(hpb:aA b=true) :
  EvI X ρ (.Tuple es kt pt) (.Call (.Name x p) [a,b] [] pos) ((xs.zip ys).map fun q=>.tup [q.1,q.2]):=by
 obtain⟨hg,hm,rfl⟩:=aX G hx;intro σ H Hs R hs hst hq;have q:=zB (es:=es) (kt:=kt) (pt:=pt) (p:=p) (pos:=pos) hg hm (aP (ak (X:=X) (e:=a)) (aP (ak (X:=X) (e:=b)) bw (aj hpb)) (aj hp)) (by rw[aj hp,aj hpb];rfl) (aj hpb);refine PI.sem q (ha σ H Hs _ hs hst fun v H1 Hs1 E1 r1=>hb σ H1 Hs1 _ E1.sub (hst.same E1.vis) fun v' H2 Hs2 E2 r2=>?_);obtain⟨c,vs,rfl,h1,h2⟩:=bf (Rep.same E2.vis _ _ r1);obtain⟨d,us,rfl,h3,h4⟩:=bf r2;have l1:=h2.length;have l2:=h4.length;refine⟨c,d,rfl,⟨vs,E2.sub.tup h1⟩,⟨us,E2.sub.tup h3⟩,hq _ H2 Hs2 (E1.trans E2) fun Hs' H' e1 e2=>⟨⟨vs,us,e2.tup (e1.tup h1),e2.tup (e1.tup h3),?_⟩,fun i z hz=>?_⟩⟩
 ·rw[P2z,List.length_zip]
  omega
 ·rw[List.getElem?_map] at hz
  obtain⟨⟨x1,y1⟩,e3,rfl⟩:=P0z.mp hz;rw[List.getElem?_zip_eq_some] at e3;obtain⟨v1,g1,g2⟩:=h2.get e3.1;obtain⟨v2,g3,g4⟩:=h4.get e3.2;refine⟨⟨vs,us,v1,v2,e2.tup (e1.tup h1),e2.tup (e1.tup h3),g1,g3⟩,fun w H3 y=>?_⟩;obtain⟨p,hp',rfl,y⟩:=y;rw[y vs us v1 v2 (e2.tup (e1.tup h1)) (e2.tup (e1.tup h3)) g1 g3];refine⟨_,Ext.new e2 (.tup [v1,v2]) hp',?_⟩;have sm:=(Ext.new e2 (.tup [v1,v2]) hp').vis;simp only[Rep];exact⟨p,[v1,v2],rfl,.of aK,.cons (Rep.same sm _ _ (Rep.same e1 _ _ g2)) (.cons (Rep.same sm _ _ (Rep.same e1 _ _ g4)) .nil)⟩
theorem yg{xs:List D}:(enD xs).length=xs.length:=by simp[enD]
theorem yh{xs:List D}{i:Nat}{d:D}(h:(enD xs)[i]?=some d):∃ x,xs[i]?=some x/\d=.tup [.int i,x]:=by
 unfold enD at h;rw[List.getElem?_map] at h;obtain⟨⟨x,j⟩,e1,e2⟩:=P0z.mp h;rw[List.getElem?_zipIdx] at e1;obtain⟨y,e3,e4⟩:=P0z.mp e1;simp at e4;obtain⟨rfl,rfl⟩:=e4;exact⟨y,e3,e2.symm⟩
theorem uo{x:Str}{xs:List D}{p pos pt:Pos}{es:List Expr}{kt:Nat}(G:Good cx k X sc)(hx:aU cx sc x=some "enumerate")(ha:Ev X ρ a (.tup xs))(hp:aA a=true) :
  EvI X ρ (.Tuple es kt pt) (.Call (.Name x p) [a] [] pos) (enD xs):=by
 obtain⟨hg,hm,rfl⟩:=aX G hx;intro σ H Hs R hs hst hq;have q:=wj (es:=es) (kt:=kt) (pt:=pt) (p:=p) (pos:=pos) hg hm (aP (ak (X:=X) (e:=a)) bw (aj hp)) (aj hp);refine PI.sem q (ha σ H Hs _ hs hst fun v H1 Hs1 E1 r1=>?_);obtain⟨c,vs,rfl,h1,h2⟩:=bf r1;refine⟨c,rfl,⟨vs,E1.sub.tup h1⟩,hq _ H1 Hs1 E1 fun Hs' H' e1 e2=>⟨⟨vs,e2.tup (e1.tup h1),by rw[yg,h2.length]⟩,fun i d hd=>?_⟩⟩;obtain⟨y,e3,rfl⟩:=yh hd;obtain⟨w,g1,g2⟩:=h2.get e3;refine⟨⟨vs,w,e2.tup (e1.tup h1),g1⟩,fun u H2 yl=>?_⟩;obtain⟨p,hp',rfl,yl⟩:=yl;rw[yl vs w (e2.tup (e1.tup h1)) g1];refine⟨_,Ext.new e2 (.tup [.int i,w]) hp',?_⟩;have sm:=(Ext.new e2 (.tup [.int i,w]) hp').vis;simp only[Rep];exact⟨p,[.int i,w],rfl,.of aK,.cons (by simp[Rep]) (.cons (Rep.same sm _ _ (Rep.same e1 _ _ g2)) .nil)⟩
end
theorem aH{α β:Type}{x:Option α}{f:α->Option β}{y:β}(h:(x >>=f)=some y):∃ a,x=some a/\f a=some y:=by
 cases x with
 | none=>cases h
 | some a=>exact⟨a,rfl,h⟩
def tZ(X:Cx)(tg:Expr):TG:=fun v σ H Q=>∀ z0 s u,Inv X z0 σ H s->RelV v u->wpAny (model X.prog X.w) X.A (assign tg X.env u) (fun _ s'=>∃ σ' H',Inv X z0 σ' H' s'/\Q σ' H') X.xe s
def xr(X:Cx)(es:List Expr):TGs:=fun vs σ H Q=>∀ z0 s us,Inv X z0 σ H s->Vals vs us->wpAny (model X.prog X.w) X.A (assignInOrder ((assignEach es X.env).map (·.2)) us) (fun _ s'=>∃ σ' H',Inv X z0 σ' H' s'/\Q σ' H') X.xe s
section
variable {X:Cx} {tg:Expr} {es:List Expr}
theorem dU:PG X tg (tZ X tg):=fun z0 s σ H v u Q I r h=>h z0 s u I r
theorem PG.sem{t:TG}{v:V}{σ:St}{H:Hp}{Q:St->Hp->Prop}(h:PG X tg t)(q:t v σ H Q):tZ X tg v σ H Q:=fun z0 s u I r=>h z0 s σ H v u Q I r q
theorem iY:PGs X es (xr X es):=fun z0 s σ H v u Q I r h=>h z0 s u I r
theorem PGs.sem{t:TGs}{v:List V}{σ:St}{H:Hp}{Q:St->Hp->Prop}(h:PGs X es t)(q:t v σ H Q):xr X es v σ H Q:=fun z0 s u I r=>h z0 s σ H v u Q I r q
end
theorem aF:∀ (ρ:Rho) (x:Str) (v:Sl),(bV ρ x v).map (·.1)=ρ.map (·.1)
 | [],_,_=>rfl
 | (y,s)::r,x,v=>by
  unfold bV;split
  ·rfl
  ·simp[aF r x v]
theorem aL:∀ {ρ:Rho} {x:Str} {v:Sl} {i:Nat},(ρ.map (·.1)).Nodup->(ρ.map (·.1))[i]?=some x->∀ j:Nat,(bV ρ x v)[j]?=if j=i then some (x,v) else ρ[j]?
 | [],x,v,i,_,h,_=>by simp at h
 | (y,s)::r,x,v,0,hn,h,j=>by
  simp at h;subst h
  cases j with
  | zero=>simp[bV]
  | succ j=>simp[bV]
 | (y,s)::r,x,v,i+1,hn,h,j=>by
  rw[E3z,S2z] at hn
  have h':(r.map (·.1))[i]?=some x:=by simpa using h
  have hne:(x==y)=false:=by
   rw[B1z];intro e;subst e;exact hn.1 (List.mem_of_getElem? h')
  simp only[bV,hne,M1z,B4z]
  cases j with
  | zero=>simp
  | succ j =>
   have:=aL (v:=v) hn.2 h' j;simp only[List.getElem?_cons_succ,this,Nat.add_right_cancel_iff]
theorem bx{l:List Str}{x:Str}(h:l.contains x=true):∃ i:Nat,l[i]?=some x:=by
 have:=List.mem_of_elem_eq_true h;exact List.mem_iff_getElem?.mp this
structure Owns (X:Cx) (scope:Scope):Prop where
 own:∀ x,ownIn scope x=true->Loc X.env.scope x/\(X.fn x=true\/X.env.scope.names.lookup x=some .local)
def iM(K:Zf)(Hs:Hp)(scope:Scope)(P:Rho->St->Prop):Prop:=∀ ρ σ (i:Nat) x d v,(ρ.map (·.1)).Nodup->(ρ.map (·.1))[i]?=some x->ownIn scope x=true->P ρ σ->Rep K Hs d v->P (bV ρ x (.sh d)) (σ.set i (some v))
section
variable {X:Cx} {scope:Scope} {Hs H:Hp} {P:Rho->St->Prop} {Q:St->Hp->Prop}
theorem kj{x:Str}{pos:Pos}{ρ ρ':Rho}{σ:St}{d:D}{v:V}(hO:Owns X scope)(hnd:X.N.Nodup)(hN:X.N=ρ.map (·.1))(KE:iM X.K Hs scope P)(hb:(if ownIn scope x&&(ρ.map (·.1)).contains x then some (bV ρ x (.sh d)) else none)=some ρ')(hp:P ρ σ)(rd:Rep X.K Hs d v)
  (hq:∀ σ',X.N=ρ'.map (·.1)->P ρ' σ'->Q σ' H):tZ X (.Name x pos) v σ H Q:=by
 split at hb
 ·rename_i hc
  cases hb;rw[G2z] at hc;obtain⟨i,hi⟩:=bx hc.2;obtain⟨h1,h2⟩:=hO.own x hc.1;exact PG.sem (wu (i:=i) hnd (by rw[hN];exact hi) h1 h2) (hq _ (by rw[aF];exact hN) (KE ρ σ i x d v (by rw[<- hN];exact hnd) hi hc.1 hp rd))
 ·cases hb
theorem dF{env:Env}:∀ {es:List Expr} {ds:List D} {ρ ρ':Rho},bindNames scope es ds ρ=some ρ'->(assignEach es env).length=es.length/\(assignEach es env).findIdx? (·.1)=none/\es.length=ds.length
 | [],[],_,_,_=>⟨rfl,rfl,rfl⟩
 | [],d::ds,ρ,ρ',h=>by simp[bindNames] at h
 | e::es,[],ρ,ρ',h=>by cases e<;>simp[bindNames] at h
 | e::es,d::ds,ρ,ρ',h=>by
  cases e<;>try (simp[bindNames] at h;done)
  rename_i x pos;simp only[bindNames] at h;split at h
  ·obtain⟨h1,h2,h3⟩:=dF (env:=env) h
   refine⟨by show(assignEach es env).length+1=_;rw[h1];rfl,?_,by simp[h3]⟩
   show((false,assign (.Name x pos) env)::assignEach es env).findIdx? (·.1)=none;rw[List.findIdx?_cons];simp only[M1z,B4z,h2];rfl
  ·cases h
theorem dI(hO:Owns X scope)(hnd:X.N.Nodup)(KE:iM X.K Hs scope P):∀ {es:List Expr} {ds:List D} {vs:List V} {ρ ρ':Rho} {σ:St},X.N=ρ.map (·.1)->bindNames scope es ds ρ=some ρ'->P ρ σ->aJ X.K Hs ds vs->(∀ σ',X.N=ρ'.map (·.1)->P ρ' σ'->Q σ' H)->xr X es vs σ H Q
 | [],[],vs,ρ,ρ',σ,hN,h,hp,rd,hq=>by
  simp only[bindNames,Z1z] at h;subst h;simp only[aJ] at rd;exact PGs.sem wk ⟨rd,hq _ hN hp⟩
 | [],d::ds,vs,ρ,ρ',σ,hN,h,hp,rd,hq=>by simp[bindNames] at h
 | e::es,[],vs,ρ,ρ',σ,hN,h,hp,rd,hq=>by cases e<;>simp[bindNames] at h
 | e::es,d::ds,vs,ρ,ρ',σ,hN,h,hp,rd,hq=>by
  cases e<;>try (simp[bindNames] at h;done)
  rename_i x pos;simp only[bindNames] at h;split at h
  ·rename_i hc
   simp only[aJ] at rd;obtain⟨v,r,rfl,r1,r2⟩:=rd;refine PGs.sem (sX dU iY) ⟨v,r,rfl,?_⟩;exact kj hO hnd hN KE (ρ':=bV ρ x (.sh d)) (by rw[E4z hc]) hp r1 fun σ' hN' hp'=>dI hO hnd KE hN' h hp' r2 hq
  ·cases h
theorem lV{tg:Expr}{ρ ρ':Rho}{σ:St}{d:D}{v:V}(hc:X.calm=true)(hO:Owns X scope)(hnd:X.N.Nodup)(hs:Same Hs H)(hN:X.N=ρ.map (·.1))(KE:iM X.K Hs scope P)(hb:fL scope tg d ρ=some ρ')(hp:P ρ σ)(rd:Rep X.K Hs d v)
  (hq:∀ σ',X.N=ρ'.map (·.1)->P ρ' σ'->Q σ' H):tZ X tg v σ H Q:=by
 unfold fL at hb;split at hb
 ·exact kj hO hnd hN KE hb hp rd hq
 ·rename_i es k pos ds
  obtain⟨a,vs,rfl,h1,h2⟩:=bf rd;obtain⟨e1,e2,e3⟩:=dF (env:=X.env) hb;exact PG.sem (uT hc iY e1 e2) ⟨a,vs,rfl,hs.tup h1,by rw[<- h2.length,e3],dI hO hnd KE hN hb hp h2 hq⟩
 ·cases hb
end
section
variable {X Xc:Cx} {scope sc:Scope} {cx:Cxt} {k:Nat} {ρ:Rho}
theorem dw:∀ {l:List Str},gH l=true->l.Nodup
 | [],_=>.nil
 | x::r,h=>by
  unfold gH at h;rw[G2z] at h;refine S2z.mpr ⟨fun hm=>?_,dw h.2⟩
  have:r.contains x=true:=by simpa using hm
  rw[this] at h;exact absurd h.1 (by decide)
theorem bJ(G:Good cx k X sc)(h:fu sc scope=true):scope.kind=.function/\(scope.names.map (·.1)).Nodup/\∀ x,(x,NameKind.free)∈scope.names->X.env.kindOf x=some .cell\/X.env.kindOf x=some .free:=by
 unfold fu at h;rw[G2z,G2z] at h;refine⟨by simpa using h.1.1,dw h.1.2,fun x hx=>?_⟩;have:=List.all_eq_true.mp h.2 _ hx;show X.env.scope.names.lookup x=_\/X.env.scope.names.lookup x=_;rw[G.sce];simpa using this
theorem zc(G:Good cx k X sc):relabel scope X.env=kW scope sc:=by
 unfold relabel kW Env.kindOf;rw[G.sce]
theorem Good.comp(G:Good cx k X sc)(C:CompOf X scope Xc)(h:fu sc scope=true):Good cx k Xc (kW scope sc) where
 calm:=C.calm
 room:=by rw[C.A];exact G.room
 sce:=by rw[C.sc,zc G]
 kind:=(bJ G h).1
 nd:=by rw[C.N];exact(bJ G h).2.1
 cst:=by rw[C.mg,C.K];exact G.cst
 blt:=by rw[C.mg];exact G.blt
 exs:=by rw[C.mg,C.K];exact G.exs
 fns:=by rw[C.mg,C.prog,C.w,C.K,C.base];exact G.fns
 kw:=by rw[C.K,C.w];exact G.kw
theorem Owns.comp(G:Good cx k X sc)(C:CompOf X scope Xc):Owns Xc scope where
 own:=fun x hx=>by
  unfold ownIn at hx;rw[V2z] at hx
  have look:∀ kd,scope.names.lookup x=some kd->kd≠.free->Xc.env.scope.names.lookup x=some kd:=fun kd e hne=>by
   rw[C.sc];show(scope.names.map _).lookup x=_;rw[cN,e];simp[hne]
  rcases hx with hx | hx
  ·have e:scope.names.lookup x=some .local:=by simpa using hx
   have e2:=look _ e (by decide);exact⟨.inl e2,.inr e2⟩
  ·have e:scope.names.lookup x=some .cell:=by simpa using hx
   have e2:=look _ e (by decide);refine⟨.inr e2,.inl ?_⟩;rw[C.fn];show(scope.names.lookup x==some .cell)=true;rw[e];rfl
theorem bW:(bB scope ρ).map (·.1)=scope.names.map (·.1):=by
 unfold bB;rw[O3z];rfl
theorem gW{K:Zf}{Hs:Hp}{σ:St}{N:List Str}(hN:N=ρ.map (·.1))(h:bC K Hs ρ σ):bC K Hs (bB scope ρ) (lH N scope.names σ):=by
 intro i x d e;unfold bB at e;rw[List.getElem?_map] at e;obtain⟨p,e1,e2⟩:=P0z.mp e
 cases hk:p.2==NameKind.free with
 | false=>rw[hk] at e2;simp at e2
 | true =>
  rw[hk] at e2;simp only[D4z,Prod.mk.injEq] at e2;obtain⟨rfl,e2⟩:=e2
  have e3:ρ.lookup p.1=some (.sh d):=by
   cases q:ρ.lookup p.1 with
   | none=>rw[q] at e2;simp[yD] at e2
   | some sl =>
    rw[q] at e2
    cases sl<;>simp[yD] at e2
    rw[e2]
  obtain⟨j,g1,g2⟩:=aY e3;obtain⟨v,g3,g4⟩:=h j _ d g1;refine⟨v,?_,g4⟩;unfold lH;rw[List.getElem?_map,e1];simp only[T2z,hk,D4z];unfold mD;rw[hN,g2];simp[g3]
def CSt(K:Zf)(Hs:Hp)(n:Nat)(ρ0:Rho):Rho->St->Prop:=fun ρ σ=>σ.length=n/\bC K Hs ρ σ/\bC K Hs ρ0 σ
theorem jL{K:Zf}{Hs:Hp}{ρ:Rho}{σ:St}{i:Nat}{x:Str}{d:D}{v:V}(hn:(ρ.map (·.1)).Nodup)(hi:(ρ.map (·.1))[i]?=some x)(hl:i<σ.length)(h:bC K Hs ρ σ)(r:Rep K Hs d v):bC K Hs (bV ρ x (.sh d)) (σ.set i (some v)):=by
 intro j y d' e;rw[aL hn hi j] at e;split at e
 ·rename_i hj
  subst hj;cases e;exact⟨v,by rw[List.getElem?_set_self hl],r⟩
 ·rename_i hj
  obtain⟨w,h1,h2⟩:=h j y d' e;exact⟨w,by rw[List.getElem?_set_ne (fun z=>hj z.symm)];exact h1,h2⟩
theorem iI{K:Zf}{Hs:Hp}{n:Nat}(hnd:(scope.names.map (·.1)).Nodup)(hn:n=scope.names.length):iM K Hs scope (fun ρ1 σ=>ρ1.map (·.1)=scope.names.map (·.1)/\CSt K Hs n (bB scope ρ) ρ1 σ):=by
 intro ρ1 σ i x d v h1 h2 h3 ⟨h4,h5,h6,h7⟩ r;refine⟨by rw[aF];exact h4,by rw[R2z];exact h5,?_,?_⟩
 ·have hi:i<σ.length:=by
   rw[h5,hn];have:=(List.getElem?_eq_some_iff.mp h2).1;rw[h4] at this;simpa using this
  exact jL h1 h2 hi h6 r
 ·intro j y d' e
  obtain⟨w,g1,g2⟩:=h7 j y d' e;refine⟨w,?_,g2⟩
  have hj:i≠j:=by
   intro z;subst z;rw[h4] at h2;unfold bB at e;rw[List.getElem?_map] at e;rw[List.getElem?_map] at h2;obtain⟨p,e1,e2⟩:=P0z.mp e;rw[e1] at h2
   have ex:p.1=x:=by simpa using h2
   cases hk:p.2==NameKind.free with
   | false=>rw[hk] at e2;simp at e2
   | true =>
    have ek:p.2=.free:=by simpa using hk
    have hm:=List.mem_of_getElem? e1;have:=aV (c:=p.2) hnd (by rw[show p=(x,p.2) from by rw[<- ex]] at hm;exact hm);unfold ownIn at h3;rw[this,ek] at h3;exact absurd h3 (by decide)
  rw[List.getElem?_set_ne hj];exact g1
def lO(X:Cx)(ifs:List Expr):TT:=fun σ H Q=>∀ z0 s,Inv X z0 σ H s->wpAny (model X.prog X.w) X.A (forIn ifs true fun c r=>if r=true then do let ok <- isTrue c X.env (eval c X.env);pure (ForInStep.yield ok) else pure (ForInStep.yield r)) (TP X z0 σ Q) X.xe s
theorem cV{ifs:List Expr}:rT X ifs (lO X ifs):=fun z0 s σ H Q I h=>h z0 s I
theorem rT.sem{ifs:List Expr}{t:TT}{σ:St}{H:Hp}{Q:Bool->Hp->Prop}(h:rT X ifs t)(q:t σ H Q):lO X ifs σ H Q:=fun z0 s I=>h z0 s σ H Q I q
theorem vf{f:Expr->Option D}{ifs:List Expr}{b:Bool}(hf:∀ e d,f e=some d->Ev X ρ e d/\∀ b,d=.bl b->EvT X ρ e b)(h:oA f ifs=some b){σ:St}{H Hs:Hp}{Q:Bool->Hp->Prop}(hs:Same Hs H)(hst:bC X.K Hs ρ σ)(hq:∀ H' Hs',Ext Hs H Hs' H'->Q b H'):lO X ifs σ H Q:=by
 unfold oA at h;split at h
 ·cases h
  exact rT.sem sW (hq H Hs (.refl hs))
 ·rename_i c
  cases hc:f c with
  | none=>rw[hc] at h;cases h
  | some d =>
   rw[hc] at h
   cases d<;>simp[asB] at h
   subst h;exact rT.sem (sV cg) ((hf c _ hc).2 _ rfl σ H Hs Q hs hst hq)
 ·cases h
theorem Ext.acc{Hs H Hs' H':Hp}{acc:Addr}{o:HO}(E:Ext Hs H Hs' H')(h:H acc=none)(h':Hs' acc=none):Ext Hs H Hs' (upd H' acc o) where
 vis:=E.vis
 all:=fun b u e=>by rw[aq (ao e h)];exact E.all b u e
 sub:=fun b u e=>by rw[aq (ao e h')];exact E.sub b u e
 hid:=E.hid
theorem gY{f:D->Option (Option D)}{d:D}{r out:List D}(h:cB f (d::r)=some out):(∃ v o',f d=some (some v)/\cB f r=some o'/\out=v::o')\/(f d=some none/\cB f r=some out):=by
 simp only[cB,bind,Option.bind] at h
 cases hf:f d with
 | none=>rw[hf] at h;cases h
 | some o =>
  rw[hf] at h
  cases o with
  | none=>exact .inr ⟨rfl,h⟩
  | some v =>
   simp only[P0z] at h;obtain⟨o',h1,rfl⟩:=h;exact .inl ⟨v,o',rfl,h1,rfl⟩
def j5(cx:Cxt)(n:Nat)(sc scope:Scope)(ρ:Rho)(tg elt:Expr)(ifs:List Expr):D->Option (Option D):=fun d=>do
 let ρ1 <- fL scope tg d (bB scope ρ)
 let b <- oA (ev cx n (kW scope sc) ρ1) ifs
 if b then(ev cx n (kW scope sc) ρ1 elt).map some else some none
theorem gR{tg iter elt:Expr}{ifs:List Expr}{l out:List D}{n:Nat}(G:Good cx k X sc)(hN:X.N=ρ.map (·.1))(hok:fu sc scope=true)(hI:EvI X ρ tg iter l)(hz:szl l.length=true)(hgo:cB (j5 cx n sc scope ρ tg elt ifs) l=some out)
  (hE:∀ Xc,CompOf X scope Xc->∀ ρ1:Rho,Xc.N=ρ1.map (·.1)->∀ e d,ev cx n (kW scope sc) ρ1 e=some d->Ev Xc ρ1 e d/\∀ b,d=.bl b->EvT Xc ρ1 e b)
  {σ:St} {H Hs:Hp} {Q:VK} (hs:Same Hs H) (hst:bC X.K Hs ρ σ) (hq:∀ acc vs Hs' H',Ext Hs H Hs' H'->H acc=none->Hs' acc=none->H' acc=some (.lst vs)->aJ X.K Hs' out vs->Q (.ref acc) H') :
  lg X scope (kZ X tg iter) (lH X.N scope.names) (fun Xc=>tZ Xc tg) (fun Xc=>lO Xc ifs) (fun Xc=>iz Xc elt) σ H Q:=by
 obtain⟨ok1,ok2,ok3⟩:=bJ G hok;refine hI σ H Hs _ hs hst fun J H1 Hs1 E1 hJ acc hacc Xc C=>?_;have GC:=G.comp C hok;have OC:=Owns.comp (scope:=scope) G C
 have hNc:∀ ρ1:Rho,ρ1.map (·.1)=scope.names.map (·.1)->Xc.N=ρ1.map (·.1):=fun ρ1 h=>by rw[C.N,h]
 have a1:Hs1 acc=none:=E1.sub.free hacc;have a0:H acc=none:=E1.all.free hacc
 let W:Nat->Nat->St->Hp->Prop:=fun i m σc H=>m=l.length-i/\i<=l.length/\∃ Hs3 ys pre rest,Ext Hs1 H1 Hs3 H/\Hs3 acc=none/\H acc=some (.lst ys)/\aJ X.K Hs3 pre ys/\cB (j5 cx n sc scope ρ tg elt ifs) (l.drop i)=some rest/\pre++rest=out/\pre.length<=i/\σc.length=scope.names.length/\bC X.K Hs3 (bB scope ρ) σc
 refine⟨W,⟨l.length,rfl,Q3z _,Hs1,[],[],out,Ext.acc (.refl E1.sub) hacc a1,a1,aK,.nil,by simpa using hgo,rfl,P3z _,by simp[lH],gW hN (hst.same E1.vis)⟩,?_⟩;rintro i m σc H3 ⟨rfl,hi,Hs3,ys,pre,rest,E3,b3,c3,r3,g3,p3,q3,l3,s3⟩;obtain⟨st3,go3⟩:=hJ Hs3 H3 E3.vis E3.sub
 by_cases hlt:i<l.length
 ·have hd:l[i]?=some l[i]:=List.getElem?_eq_getElem hlt
  obtain⟨gi,yi⟩:=go3 i l[i] hd;refine .inr ⟨gi,fun σ' H'=>W (i+1) (l.length-(i+1)) σ' H',fun σ' H' w=>⟨_,by omega,w⟩,fun x H4 y4=>?_⟩;obtain⟨Hs4,E4,rx⟩:=yi x H4 y4;have b4:Hs4 acc=none:=E4.hid acc _ c3 b3;have c4:H4 acc=some (.lst ys):=E4.all _ _ c3;rw[C0z hlt] at g3
  have key:∃ ρ1,fL scope tg l[i] (bB scope ρ)=some ρ1/\∃ b,oA (ev cx n (kW scope sc) ρ1) ifs=some b/\((b=true/\∃ v o',ev cx n (kW scope sc) ρ1 elt=some v/\cB (j5 cx n sc scope ρ tg elt ifs) (l.drop (i+1))=some o'/\rest=v::o')\/(b=false/\cB (j5 cx n sc scope ρ tg elt ifs) (l.drop (i+1))=some rest)):=by
   have inv:∀ o,j5 cx n sc scope ρ tg elt ifs l[i]=some o->∃ ρ1,fL scope tg l[i] (bB scope ρ)=some ρ1/\∃ b,oA (ev cx n (kW scope sc) ρ1) ifs=some b/\(if b then(ev cx n (kW scope sc) ρ1 elt).map some else some none)=some o:=by
    intro o h;obtain⟨ρ1,h1,h⟩:=aH h;obtain⟨b,h2,h⟩:=aH h;exact⟨ρ1,h1,b,h2,h⟩
   rcases gY g3 with⟨v,o',f1,f2,f3⟩ | ⟨f1,f2⟩
   ·obtain⟨ρ1,h1,b,h2,h3⟩:=inv _ f1
    refine⟨ρ1,h1,b,h2,?_⟩
    cases b with
    | false=>simp at h3
    | true =>
     simp only[D4z,P0z] at h3;obtain⟨w,h3,h4⟩:=h3;have h5:w=v:=L2z h4;subst h5;exact .inl ⟨rfl,w,o',h3,f2,f3⟩
   ·obtain⟨ρ1,h1,b,h2,h3⟩:=inv _ f1
    refine⟨ρ1,h1,b,h2,?_⟩
    cases b with
    | true=>simp at h3
    | false=>exact .inr ⟨rfl,f2⟩
  obtain⟨ρ1,k1,b,k2,k3⟩:=key;have s4:bC X.K Hs4 (bB scope ρ) σc:=s3.same E4.vis;have KE:=iI (K:=Xc.K) (Hs:=Hs4) (ρ:=ρ) (n:=scope.names.length) ok2 rfl;refine lV (X:=Xc) (scope:=scope) (Hs:=Hs4) GC.calm OC GC.nd E4.sub (hNc _ bW) KE k1 ⟨bW,l3,by rw[C.K];exact s4,by rw[C.K];exact s4⟩ (by rw[C.K];exact rx) fun σ5 hN5 p5=>?_;obtain⟨_,l5,s5,s5'⟩:=p5;have hev:=hE Xc C ρ1 hN5;refine vf hev k2 E4.sub s5 fun H6 Hs6 E6=>?_;have b6:Hs6 acc=none:=E6.hid acc _ c4 b4;have c6:H6 acc=some (.lst ys):=E6.all _ _ c4
  have s6:bC X.K Hs6 (bB scope ρ) σ5:=by rw[<- C.K];exact s5'.same E6.vis
  rcases k3 with⟨rfl,v,o',k3,k4,k5⟩ | ⟨rfl,k3⟩
  ·refine mV ((hev elt v k3).1 σ5 H6 Hs6 _ E6.sub (s5.same E6.vis) fun w H7 Hs7 E7 r7=>?_)
   have b7:Hs7 acc=none:=E7.hid acc _ c6 b6;have c7:H7 acc=some (.lst ys):=E7.all _ _ c6;refine⟨ys,c7,?_,rfl,hlt,Hs7,ys++[w],pre++[v],o',Ext.acc (E3.trans (E4.trans (E6.trans E7))) hacc b7,b7,aK,?_,k4,?_,by simp;omega,l5,s6.same E7.vis⟩
   ·have:=r3.length
    have:=jG hz;omega
   ·rw[<- C.K]
    refine aJ.append ?_ (.cons r7 .nil);rw[C.K];exact aJ.same (E4.trans (E6.trans E7)).vis pre ys r3
   ·rw[<- p3,k5];simp
  ·refine oh ?_
   exact⟨rfl,hlt,Hs6,ys,pre,rest,E3.trans (E4.trans E6),b6,c6,aJ.same (E4.trans E6).vis pre ys r3,k3,p3,by omega,l5,s6⟩
 ·have hi':i=l.length:=by omega
  subst hi';refine .inl ⟨st3,?_⟩;rw[List.drop_length] at g3;simp only[cB,Z1z] at g3;subst g3;rw[N2z] at p3;subst p3;exact hq acc ys Hs3 H3 (E1.trans E3) a0 b3 c3 r3
end
def bIs(b:Bool):Value->Bool
 | .bool y=>y==b
 | _=>false
theorem kY:∀ {bs:List Bool} {its:List Value},Vals (bs.map V.bl) its->its=bs.map Value.bool
 | [],its,r=>by cases r;rfl
 | b::bs,its,r=>by
  obtain⟨u,w,rfl,r1,r2⟩:=iy r;cases (show u=Value.bool b from r1);rw[kY r2];rfl
theorem vm(b:Bool):∀ bs:List Bool,(bs.map Value.bool).countP (bIs b)=cntB b bs
 | []=>rfl
 | c::bs=>by
  rw[E3z,List.countP_cons,vm b bs];unfold cntB;rw[List.filter_cons];show _+(if(c==b)=true then 1 else 0)=_
  cases c==b<;>simp
theorem Ke{b:Bool}:∀ (bs:List Bool) (m:Nat) (h:m<bs.length),m<bs.idxOf b->(bs[m]==b)=false
 | [],m,h,_=>absurd h (by simp)
 | c::bs,m,h,hl=>by
  rw[List.idxOf_cons] at hl
  cases hc:c==b with
  | true=>rw[hc] at hl;simp at hl
  | false =>
   cases m with
   | zero=>simpa using hc
   | succ m =>
    rw[hc] at hl;simp only[cond_false] at hl;simpa using Ke bs m (by simpa using h) (by omega)
section
variable {X:Cx} {ρ:Rho} {cx:Cxt} {k:Nat} {sc scope:Scope}
def zq(K:Zf):V->List V->Hp->VK->Prop:=fun x vs H Q=>∃ (l:Addr) (bs:List Bool) (b:Bool),x=.ref l/\vs=[.bl b]/\SqL K H l (bs.map V.bl)/\Q (.int (cntB b bs:Nat)) H
theorem tM:MtM X "list.count" (zq X.K):=by
 intro z0 s σ H x vs v us Q I rx rv h;obtain⟨l,bs,b,rfl,rfl,hB,q⟩:=h;cases (show v=Value.ref l from rx);obtain⟨u,rfl,ru⟩:=rv.one;cases (show u=Value.bool b from ru);obtain⟨its2,r2,pl,hz2⟩:=I.list hB;have ei:=kY r2;subst ei;obtain⟨⟨c2,dd2,data2,sl2⟩,n2,e2,hc2,hd2,hs2⟩:=pl;simp only at hc2 hs2;obtain⟨h3,h4⟩:=(show dd2=none/\data2=.seq (bs.map Value.bool).toArray n2 from⟨hd2,hs2⟩);subst hc2 h4;refine V3z F.slot_list_count ⟨_,e2,rfl⟩ F.entry_list_count (F.args_list_count_2 _ _) (list_countAt l (bs.map Value.bool).toArray n2 dd2 sl2 (.bool b) (bIs b)) ⟨e2,fun y hy=>?_,?_⟩
 ·have hy':y∈bs.map Value.bool:=by simpa using hy
  obtain⟨c,_,rfl⟩:=List.mem_map.mp hy';exact EqAt.bool_bool c b
 ·rw[show(bs.map Value.bool).toArray.toList=bs.map Value.bool from rfl,vm]
  exact⟨.int _,H,I.tok _,⟨_,rfl⟩,q⟩
def zj(K:Zf):V->List V->Hp->VK->Prop:=fun x vs H Q=>∃ (l:Addr) (bs:List Bool) (b:Bool),x=.ref l/\vs=[.bl b]/\SqL K H l (bs.map V.bl)/\bs.contains b=true/\Q (.int (bs.idxOf b:Nat)) H
theorem tL:MtM X "list.index" (zj X.K):=by
 intro z0 s σ H x vs v us Q I rx rv h;obtain⟨l,bs,b,rfl,rfl,hB,hin,q⟩:=h;cases (show v=Value.ref l from rx);obtain⟨u,rfl,ru⟩:=rv.one;cases (show u=Value.bool b from ru);obtain⟨its2,r2,pl,hz2⟩:=I.list hB;have ei:=kY r2;subst ei;obtain⟨⟨c2,dd2,data2,sl2⟩,n2,e2,hc2,hd2,hs2⟩:=pl;simp only at hc2 hs2;obtain⟨h3,h4⟩:=(show dd2=none/\data2=.seq (bs.map Value.bool).toArray n2 from⟨hd2,hs2⟩);subst hc2 h4;have hj:bs.idxOf b<bs.length:=List.idxOf_lt_length_iff.mpr (by simpa using hin);have hn:=jP
 have hz3:bs.length<=sizeLine:=by simpa using hz2
 refine V3z F.slot_list_index ⟨_,e2,rfl⟩ F.entry_list_index (F.args_list_index_2 _ _) (list_indexAt l (bs.map Value.bool).toArray n2 dd2 sl2 (.bool b) (bIs b) (bs.idxOf b) (by simpa using hj) (by omega) ?_ ?_) ⟨e2,fun y hy=>?_,?_⟩
 ·simp only[List.getElem_toArray,List.getElem_map,bIs]
  simpa using List.getElem_idxOf hj
 ·intro m hm hlt
  simp only[List.getElem_toArray,List.getElem_map,bIs];exact Ke bs m (by simpa using hm) hlt
 ·have hy':y∈bs.map Value.bool:=by simpa using hy
  obtain⟨c,_,rfl⟩:=List.mem_map.mp hy';exact EqAt.bool_bool c b
 ·exact⟨.int _,H,I.tok _,⟨_,rfl⟩,q⟩
def iIs(i:Int):Value->Bool
 | .int j _=>j==i
 | _=>false
theorem rC(i:Int):∀ {ns:List Int} {its:List Value},Vals (ns.map V.int) its->its.countP (iIs i)=(ns.filter (· ==i)).length
 | [],its,r=>by rw[N3z] at r;cases r;rfl
 | n::ns,its,r=>by
  rw[E3z] at r;obtain⟨u,w,rfl,r1,r2⟩:=iy r;obtain⟨t,e⟩:=(show ∃ t,u=Value.int n t from r1);subst e;rw[List.countP_cons,rC i r2,List.filter_cons];show _+(if(n==i)=true then 1 else 0)=_
  cases n==i<;>simp
theorem qK:∀ {ns:List Int} {its:List Value},Vals (ns.map V.int) its->∀ y∈its,∃ n t,y=Value.int n t
 | [],its,r,y,hy=>by rw[N3z] at r;cases r;simp at hy
 | n::ns,its,r,y,hy=>by
  rw[E3z] at r;obtain⟨u,w,rfl,r1,r2⟩:=iy r;obtain⟨t,e⟩:=(show ∃ t,u=Value.int n t from r1);subst e;rcases List.mem_cons.mp hy with rfl | hy
  ·exact⟨n,t,rfl⟩
  ·exact qK r2 y hy
def vX(K:Zf):V->List V->Hp->VK->Prop:=fun x vs H Q=>∃ (l:Addr) (ns:List Int) (i:Int),x=.ref l/\vs=[.int i]/\SqL K H l (ns.map V.int)/\Q (.int ((ns.filter (· ==i)).length:Nat)) H
theorem qt:MtM X "list.count" (vX X.K):=by
 intro z0 s σ H x vs v us Q I rx rv h;obtain⟨l,ns,i,rfl,rfl,hB,q⟩:=h;cases (show v=Value.ref l from rx);obtain⟨u,rfl,ru⟩:=rv.one;obtain⟨tu,eu⟩:=(show ∃ t,u=Value.int i t from ru);subst eu;obtain⟨its2,r2,pl,hz2⟩:=I.list hB;obtain⟨⟨c2,dd2,data2,sl2⟩,n2,e2,hc2,hd2,hs2⟩:=pl;simp only at hc2 hs2;obtain⟨h3,h4⟩:=(show dd2=none/\data2=.seq its2.toArray n2 from⟨hd2,hs2⟩);subst hc2 h4;refine V3z F.slot_list_count ⟨_,e2,rfl⟩ F.entry_list_count (F.args_list_count_2 _ _) (list_countAt l its2.toArray n2 dd2 sl2 (.int i tu) (iIs i)) ⟨e2,fun y hy=>?_,?_⟩
 ·obtain⟨n,t,rfl⟩:=qK r2 y (by simpa using hy)
  exact fun P w Q E q=>wpAny_eqBool_int q
 ·rw[show its2.toArray.toList=its2 from rfl,rC i r2]
  exact⟨.int _,H,I.tok _,⟨_,rfl⟩,q⟩
theorem m6{y:Str}{m:Str}{e:Expr}{x z d:D}{py ap cp:Pos}(ha:Ev X ρ (.Name y py) x)(he:Ev X ρ e z)(hp:aA e=true)(hline:(ap.endLine==cp.line)=true)(h:jf m x z=some d):Ev X ρ (.Call (.Attribute (.Name y py) m ap) [e] [] cp) d:=by
 unfold jf at h;split at h
 ·rename_i xs b
  obtain⟨bs,hb,h2⟩:=aH h;clear h;intro σ H Hs Q hs hst hq;split at h2
  ·rename_i hm
   have em:m="count":=by simpa using hm
   subst em;cases h2;refine(jO L0z PySem.F.slot_list_count PySem.F.type_list_count tM ak (aP ak bw (aj hp)) rfl (by rw[aj hp];rfl) hline (aj hp) rfl).sem ?_;refine ha σ H Hs _ hs hst fun v H1 Hs1 E1 r1=>?_;obtain⟨l,vs,rfl,g1,g2⟩:=bF r1;have ev:=f9 hb g2;subst ev;refine⟨.inl ⟨rfl,_,E1.sub.seq g1⟩,?_⟩;refine he σ H1 Hs1 _ E1.sub (hst.same E1.vis) fun v2 H2 Hs2 E2 r2=>?_;rw[bI r2];exact⟨l,bs,b,rfl,rfl,E2.sub.seq (E2.vis.seq g1),hq _ H2 Hs2 (E1.trans E2) (by simp[Rep])⟩
  ·split at h2
   ·rename_i hm
    rw[G2z] at hm
    have em:m="index":=by simpa using hm.1
    subst em;cases h2;refine(jO L0z PySem.F.slot_list_index PySem.F.type_list_index tL ak (aP ak bw (aj hp)) rfl (by rw[aj hp];rfl) hline (aj hp) rfl).sem ?_;refine ha σ H Hs _ hs hst fun v H1 Hs1 E1 r1=>?_;obtain⟨l,vs,rfl,g1,g2⟩:=bF r1;have ev:=f9 hb g2;subst ev;refine⟨.inl ⟨rfl,_,E1.sub.seq g1⟩,?_⟩;refine he σ H1 Hs1 _ E1.sub (hst.same E1.vis) fun v2 H2 Hs2 E2 r2=>?_;rw[bI r2];exact⟨l,bs,b,rfl,rfl,E2.sub.seq (E2.vis.seq g1),hm.2,hq _ H2 Hs2 (E1.trans E2) (by simp[Rep])⟩
   ·cases h2
 ·rename_i xs i
  obtain⟨ns,hb,h2⟩:=aH h;clear h;intro σ H Hs Q hs hst hq;split at h2
  ·rename_i hm
   have em:m="count":=by simpa using hm
   subst em;cases h2;refine(jO L0z PySem.F.slot_list_count PySem.F.type_list_count qt ak (aP ak bw (aj hp)) rfl (by rw[aj hp];rfl) hline (aj hp) rfl).sem ?_;refine ha σ H Hs _ hs hst fun v H1 Hs1 E1 r1=>?_;obtain⟨l,vs,rfl,g1,g2⟩:=bF r1;have ev:=jD hb g2;subst ev;refine⟨.inl ⟨rfl,_,E1.sub.seq g1⟩,?_⟩;refine he σ H1 Hs1 _ E1.sub (hst.same E1.vis) fun v2 H2 Hs2 E2 r2=>?_;rw[aD r2];exact⟨l,ns,i,rfl,rfl,E2.sub.seq (E2.vis.seq g1),hq _ H2 Hs2 (E1.trans E2) (by simp[Rep])⟩
  ·cases h2
 ·cases h
end
theorem Ext.shown{Hs H Hs' H':Hp}{acc:Addr}{o:HO}(E:Ext Hs H Hs' H')(h:H acc=none)(h1:Hs' acc=none)(h2:H' acc=some o):Ext Hs H (upd Hs' acc o) H' where
 vis:=fun b u e=>by rw[aq (ao (E.vis b u e) h1)];exact E.vis b u e
 all:=E.all
 sub:=fun b u e=>by
  by_cases hb:b=acc
  ·subst hb;rw[aK] at e;rw[h2];exact e
  ·rw[aq hb] at e;exact E.sub b u e
 hid:=fun b u e n=>by rw[aq (ao e h)];exact E.hid b u e n
section
variable {X:Cx} {ρ:Rho} {cx:Cxt} {k:Nat} {sc scope:Scope}
theorem xX{tg iter elt:Expr}{ifs:List Expr}{l out:List D}{n:Nat}{pos:Pos}(G:Good cx k X sc)(hN:X.N=ρ.map (·.1))(hok:fu sc scope=true)(hI:EvI X ρ tg iter l)(hp:aA iter=true)(hz:szl l.length=true)(hgo:cB (j5 cx n sc scope ρ tg elt ifs) l=some out)
  (hE:∀ Xc,CompOf X scope Xc->∀ ρ1:Rho,Xc.N=ρ1.map (·.1)->∀ e d,ev cx n (kW scope sc) ρ1 e=some d->Ev Xc ρ1 e d/\∀ b,d=.bl b->EvT Xc ρ1 e b) :
  Ev X ρ (.ListComp elt [⟨tg,iter,ifs,0⟩] scope pos) (.lst out):=by
 obtain⟨ok1,ok2,ok3⟩:=bJ G hok;intro σ H Hs Q hs hst hq;refine PE.sem (gF G.calm ok1 ok2 ok3 fM (fun Xc C=>⟨dU,cV,ak⟩) (bO hp)) (gR G hN hok hI hz hgo hE hs hst fun acc vs Hs' H' E1 h1 h2 h3 r=>?_);have E2:=E1.shown h1 h2 h3;refine hq _ H' _ E2 ?_;simp only[Rep];refine⟨acc,vs,rfl,.of aK,aJ.same (fun b u e=>?_) out vs r⟩;rw[aq (ao e h2)];exact e
def WkP (cx : Cxt) (sc : Scope) (e : Expr) : Wk -> Prop
    | .r1 a=>∃ x p pos,e=.Call (.Name x p) [a] [] pos/\aU cx sc x=some "range"
    | .r2 a b=>∃ x p pos,e=.Call (.Name x p) [a,b] [] pos/\aU cx sc x=some "range"
    | .r3 a b c=>∃ x p pos,e=.Call (.Name x p) [a,b,c] [] pos/\aU cx sc x=some "range"
    | .zp a b=>∃ x p pos,e=.Call (.Name x p) [a,b] [] pos/\aU cx sc x=some "zip"
    | .rv a=>∃ x p pos,e=.Call (.Name x p) [a] [] pos/\aU cx sc x=some "reversed"
    | .en a=>∃ x p pos,e=.Call (.Name x p) [a] [] pos/\aU cx sc x=some "enumerate"
    | .sq=>True
theorem yM{e:Expr}:WkP cx sc e (vB cx sc e):=by
 unfold vB;split
 ·rename_i x p args pos
  split
  ·rename_i h
   split
   ·exact⟨x,p,pos,rfl,h⟩
   ·exact⟨x,p,pos,rfl,h⟩
   ·exact⟨x,p,pos,rfl,h⟩
   ·trivial
  ·rename_i h
   split
   ·exact⟨x,p,pos,rfl,h⟩
   ·trivial
  ·rename_i h
   split
   ·exact⟨x,p,pos,rfl,h⟩
   ·trivial
  ·rename_i h
   split
   ·exact⟨x,p,pos,rfl,h⟩
   ·trivial
  ·trivial
 ·trivial
theorem bD{x:Option D}{i:Int}(h:x.bind asI=some i):x=some (.int i):=by
 obtain⟨d,h1,h2⟩:=aH (show(x >>=asI)=some i from h)
 cases d<;>simp[asI] at h2
 subst h2;exact h1
theorem cJ{x:Option D}{i:Bool}(h:x.bind asB=some i):x=some (.bl i):=by
 obtain⟨d,h1,h2⟩:=aH (show(x >>=asB)=some i from h)
 cases d<;>simp[asB] at h2
 subst h2;exact h1
theorem qY{f:Expr->Option D}{tg e:Expr}{l:List D}(G:Good cx k X sc)(hf:∀ e d,f e=some d->Ev X ρ e d/\aA e=true)(h:evI cx (dW tg) f sc e=some l):EvI X ρ tg e l/\aA e=true:=by
 unfold evI at h;have w:=yM (cx:=cx) (sc:=sc) (e:=e);split at h
 ·rename_i a hw
  rw[hw] at w;obtain⟨x,p,pos,rfl,hx⟩:=w;obtain⟨j,h1,h⟩:=aH h;split at h
  ·rename_i hj
   cases h;obtain⟨ha,hp⟩:=hf _ _ (bD h1);exact⟨oJ G hx ha hp hj,rfl⟩
  ·cases h
 ·rename_i a b hw
  rw[hw] at w;obtain⟨x,p,pos,rfl,hx⟩:=w;obtain⟨i,h1,h⟩:=aH h;obtain⟨j,h2,h⟩:=aH h;split at h
  ·rename_i hj
   cases h;rw[G2z] at hj;obtain⟨ha,hp⟩:=hf _ _ (bD h1);obtain⟨hb,hpb⟩:=hf _ _ (bD h2);exact⟨oH G hx ha hp hb hpb hj.1 hj.2,rfl⟩
  ·cases h
 ·rename_i a b c hw
  rw[hw] at w;obtain⟨x,p,pos,rfl,hx⟩:=w;simp at h
 ·rename_i a b hw
  rw[hw] at w;obtain⟨x,p,pos,rfl,hx⟩:=w;obtain⟨d1,h1,h⟩:=aH h;obtain⟨d2,h2,h⟩:=aH (show(f b >>=fun y=>if dW tg=true then Bb d1 y else none)=some l from h);have h':(if dW tg=true then Bb d1 d2 else none)=some l:=h;clear h;split at h'
  ·rename_i ht
   obtain⟨ha,hp⟩:=hf _ _ h1;obtain⟨hb,hpb⟩:=hf _ _ h2
   cases tg<;>simp[dW] at ht
   unfold Bb at h';split at h'
   ·cases h';exact⟨yc G hx ha hp hb hpb,rfl⟩
   ·simp at h'
   ·simp at h'
   ·simp at h'
   ·cases h'
  ·cases h'
 ·rename_i a hw
  rw[hw] at w;obtain⟨x,p,pos,rfl,hx⟩:=w;simp at h
 ·rename_i a hw
  rw[hw] at w;obtain⟨x,p,pos,rfl,hx⟩:=w;obtain⟨d1,h1,h⟩:=aH h;split at h
  ·rename_i ht
   obtain⟨us,hu,rfl⟩:=P0z.mp h;obtain⟨ha,hp⟩:=hf _ _ h1
   cases tg<;>simp[dW] at ht
   cases d1<;>simp[tupI] at hu
   subst hu;exact⟨uo G hx ha hp,rfl⟩
  ·cases h
 ·obtain⟨d,h1,h2⟩:=aH (show(f e >>=items)=some l from h)
  obtain⟨ha,hp⟩:=hf _ _ h1;exact⟨yd ha h2,hp⟩
theorem o8{t:Expr}{T:String}(h:tyOf cx sc t=some T):∃ x p,t=.Name x p/\aU cx sc x=some T:=by
 unfold tyOf at h;split at h
 ·exact⟨_,_,rfl,h⟩
 ·cases h
def WcP (cx : Cxt) (sc : Scope) (b : String) (args : List Expr) : Wc -> Prop
    | .lr1 a=>∃ x p pos,args=[.Call (.Name x p) [a] [] pos]/\aU cx sc x=some "range"/\b="list"
    | .lr2 a a'=>∃ x p pos,args=[.Call (.Name x p) [a,a'] [] pos]/\aU cx sc x=some "range"/\b="list"
    | .tv a=>∃ x p pos,args=[.Call (.Name x p) [a] [] pos]/\aU cx sc x=some "reversed"/\b="tuple"
    | .tr1 a=>∃ x p pos,args=[.Call (.Name x p) [a] [] pos]/\aU cx sc x=some "range"/\b="tuple"
    | .ls a=>∃ x p pos,args=[.Call (.Name x p) [a] [] pos]/\aU cx sc x=some "set"/\b="len"
    | .al=>True
theorem Br{b:String}{args:List Expr}:WcP cx sc b args (uI cx sc b args):=by
 unfold uI;split
 ·rename_i e
  have w:=yM (cx:=cx) (sc:=sc) (e:=e);split
  ·rename_i hw
   rw[hw] at w;obtain⟨x,p,pos,rfl,hx⟩:=w;exact⟨x,p,pos,rfl,hx,rfl⟩
  ·rename_i hw
   rw[hw] at w;obtain⟨x,p,pos,rfl,hx⟩:=w;exact⟨x,p,pos,rfl,hx,rfl⟩
  ·rename_i hw
   rw[hw] at w;obtain⟨x,p,pos,rfl,hx⟩:=w;exact⟨x,p,pos,rfl,hx,rfl⟩
  ·rename_i hw
   rw[hw] at w;obtain⟨x,p,pos,rfl,hx⟩:=w;exact⟨x,p,pos,rfl,hx,rfl⟩
  ·split
   ·rename_i a ha
    unfold Iw at ha;split at ha
    ·rename_i y q a' q' _
     split at ha
     ·rename_i hb
      cases ha;exact⟨y,q,q',rfl,by simpa using hb,rfl⟩
     ·cases ha
    ·cases ha
   ·trivial
  ·trivial
 ·trivial
end
theorem bR(cx:Cxt):∀ (n:Nat) {k:Nat} {X:Cx} {sc:Scope} {ρ:Rho} {e:Expr} {d:D},Good cx k X sc->X.N=ρ.map (·.1)->ev cx n sc ρ e=some d->Ev X ρ e d/\∀ b,d=.bl b->EvT X ρ e b
 | 0,k,X,sc,ρ,e,d,_,_,h=>by exact nomatch (show(Option.none:Option D)=some d from h)
 | n+1,k,X,sc,ρ,e,d,G,hN,h=>by
  have ih:∀ e d,ev cx n sc ρ e=some d->Ev X ρ e d/\∀ b,d=.bl b->EvT X ρ e b:=fun e d h=>bR cx n G hN h;have ihp:∀ e d,ev cx n sc ρ e=some d->Ev X ρ e d/\aA e=true:=fun e d h=>⟨(ih e d h).1,aO h⟩;have val:∀ {e d},(∀ whole,isTrue e X.env whole=(do let v <- whole;standAt e.pos;holding [v] (truthy v)))->Ev X ρ e d->Ev X ρ e d/\∀ b,d=.bl b->EvT X ρ e b:=fun he h1=>⟨h1,fun b hb=>by subst hb;exact qW h1 he⟩
  cases e with
  | Name x pos =>
   simp only[ev] at h;split at h
   ·rename_i hp
    refine val (fun _=>rfl) ?_
    have fin:∀ kd,sc.names.lookup x=some kd->(kd=.local\/kd=.cell\/kd=.free)->(match ρ.lookup x with | some (.sh d)=>some d | _=>none)=some d->Ev X ρ (.Name x pos) d:=by
     intro kd hk hkd hm;split at hm
     ·rename_i d' hl
      cases hm;refine qR hN ?_ hp hl;unfold Vis;rw[G.sce,hk];rcases hkd with rfl | rfl | rfl
      ·exact .inl rfl
      ·exact .inr (.inl rfl)
      ·exact .inr (.inr rfl)
     ·cases hm
    split at h
    ·rename_i hk;exact fin _ hk (.inl rfl) h
    ·rename_i hk;exact fin _ hk (.inr (.inl rfl)) h
    ·rename_i hk;exact fin _ hk (.inr (.inr rfl)) h
    ·rename_i hk
     obtain⟨v,u,h0,h1,h2⟩:=G.cst x d h;exact Ao (show X.env.scope.names.lookup x=_ by rw[G.sce];exact hk) h0 h1 h2 hp
    ·cases h
   ·cases h
  | Constant c j pos =>
   simp only[ev] at h;exact val (fun _=>rfl) (m7 h)
  | BinOp a op b pos =>
   simp only[ev] at h;obtain⟨x,h1,h⟩:=aH h;obtain⟨y,h2,h⟩:=aH h;exact val (fun _=>rfl) (m8 (ih _ _ h1).1 (ih _ _ h2).1 h)
  | UnaryOp op a pos =>
   simp only[ev] at h;obtain⟨x,h1,h⟩:=aH h
   cases op<;>simp only[P0z] at h<;>try (cases h;done)
   ·obtain⟨b,h2,rfl⟩:=h
    cases x<;>simp[asB] at h2
    subst h2;refine⟨vd (ih _ _ h1).1,fun c hc=>?_⟩;cases hc;exact qX ((ih _ _ h1).2 _ rfl)
   ·obtain⟨i,h2,rfl⟩:=h
    cases x<;>simp[asI] at h2
    subst h2;exact val (fun _=>rfl) (Ak (ih _ _ h1).1)
  | BoolOp op es pos =>
   simp only[ev] at h;obtain⟨h1,h2⟩:=gP (pos:=pos) (fun e _ d hd=>ih e d hd) h;exact⟨h1,fun b hb=>(h2 b hb).t⟩
  | Compare a ops bs pos =>
   simp only[ev] at h;split at h
   ·obtain⟨x,h1,h⟩:=aH h
    obtain⟨y,h2,h⟩:=aH h;exact xY G.room (ih _ _ h1).1 (ih _ _ h2).1 (aO h2) h
   ·split at h
    ·cases h
    rename_i e3 hpl
    have hpl':aA e3=true:=by simpa using hpl
    obtain⟨x,h1,h⟩:=aH h;obtain⟨y,h2,h⟩:=aH h;obtain⟨c,h3,h⟩:=aH h;have h3':=cJ h3
    cases c with
    | false =>
     simp only[M1z,B4z,Z1z] at h;subst h;exact qU G.room (ih _ _ h1).1 (ih _ _ h2).1 hpl' h3' ⟨fun q=>(nomatch q),fun _=>rfl⟩
    | true =>
     simp only[D4z] at h;obtain⟨z,h4,h⟩:=aH h;exact qU G.room (ih _ _ h1).1 (ih _ _ h2).1 (aO h4) h3' ⟨fun _=>⟨z,(ih _ _ h4).1,h⟩,fun q=>nomatch q⟩
   ·cases h
  | IfExp c a b pos =>
   simp only[ev] at h;obtain⟨t,h1,h⟩:=aH h;have h1':=(ih _ _ (cJ h1)).2 _ rfl
   cases t with
   | true =>
    simp only[D4z] at h;refine⟨Am h1' (fun _=>(ih _ _ h).1) (fun q=>nomatch q),fun r hr=>vg h1' (fun _=>(ih _ _ h).2 r hr) (fun q=>nomatch q)⟩
   | false =>
    simp only[M1z,B4z] at h;refine⟨Am h1' (fun q=>nomatch q) (fun _=>(ih _ _ h).1),fun r hr=>vg h1' (fun q=>nomatch q) (fun _=>(ih _ _ h).2 r hr)⟩
  | Tuple es j pos =>
   simp only[ev] at h;obtain⟨ds,h1,h⟩:=aH h;split at h
   ·rename_i hz
    cases h;exact val (fun _=>rfl) (uf (cX (fun e _ d hd=>ihp e d hd) h1).1 hz)
   ·cases h
  | List es pos =>
   simp only[ev] at h;obtain⟨ds,h1,h⟩:=aH h;split at h
   ·rename_i hz
    cases h;exact val (fun _=>rfl) (qT (cX (fun e _ d hd=>ihp e d hd) h1).1 hz)
   ·cases h
  | Subscript a b pos =>
   simp only[ev] at h;obtain⟨x,h1,h⟩:=aH h;split at h
   ·simp at h
   ·obtain⟨y,h2,h⟩:=aH h
    have hp2:=aO h2;have hr:=G.room;unfold Bf at h;split at h
    ·exact val (fun _=>rfl) (jm (ih _ _ h1).1 (ih _ _ h2).1 hp2 rfl h)
    ·exact val (fun _=>rfl) (jm (ih _ _ h1).1 (ih _ _ h2).1 hp2 rfl h)
    ·obtain⟨k',h3,h4⟩:=Option.bind_eq_some_iff.mp h
     exact val (fun _=>rfl) (xW G.kw (ih _ _ h1).1 (ih _ _ h2).1 hp2 h3 h4)
    ·cases h
  | Call f args kws pos =>
   refine val (fun _=>rfl) ?_;simp only[ev] at h;split at h
   ·rename_i x p
    split at h
    ·rename_i hg
     have hb:∀ {b},cx.blt.lookup x=some b->aU cx sc x=some b:=fun q=>by unfold aU;rw[E4z hg];exact q
     split at h
     ·rename_i hx
      split at h
      ·obtain⟨d',h1,h⟩:=aH h
       split at h
       ·rename_i c' hxo
        split at h
        ·rename_i c
         split at h
         ·rename_i hin
          cases h;exact xU G (hb hx) hxo hin (ih _ _ h1).1 (aO h1)
         ·cases h
        ·cases h
       ·obtain⟨T,h2,h5⟩:=aH h
        clear h;obtain⟨t,pt,rfl,ht⟩:=o8 h2;split at h5
        ·rename_i c
         split at h5
         ·rename_i hc
          rw[G2z] at hc
          have eT:T="ValueError":=by simpa using hc.2
          subst eT;cases h5;exact xV G (hb hx) ht hc.1 (ih _ _ h1).1 (aO h1)
         ·cases h5
        ·cases h5
        ·rename_i hne hne2
         split at h5
         ·rename_i hk
          cases h5;refine Al G (hb hx) ht hk (ih _ _ h1).1 (aO h1) ?_
          cases d'<;>first | rfl | exact absurd rfl (hne _) | exact absurd rfl (hne2 _ _)
         ·cases h5
      ·cases h
     ·rename_i b _ hx
      have wc:=Br (cx:=cx) (sc:=sc) (b:=b) (args:=args);split at h
      ·rename_i a hw
       rw[hw] at wc;obtain⟨y,q,q',rfl,hy,rfl⟩:=wc;obtain⟨j,h1,h⟩:=aH h;split at h
       ·rename_i hz
        rw[G2z] at hz;cases h;have h1':=bD h1;exact oG G (hb hx) hy (ih _ _ h1').1 (aO h1') hz.1 hz.2
       ·cases h
      ·rename_i a a' hw
       rw[hw] at wc;obtain⟨y,q,q',rfl,hy,rfl⟩:=wc;obtain⟨i,h1,h⟩:=aH h;obtain⟨j,h2,h⟩:=aH h;split at h
       ·rename_i hz
        rw[G2z,G2z] at hz;cases h;have h1':=bD h1;have h2':=bD h2;exact oF G (hb hx) hy (ih _ _ h1').1 (aO h1') (ih _ _ h2').1 (aO h2') hz.1.1 hz.1.2 hz.2
       ·cases h
      ·rename_i a hw
       rw[hw] at wc;obtain⟨y,q,q',rfl,hy,rfl⟩:=wc;simp at h
      ·rename_i a hw
       rw[hw] at wc;obtain⟨y,q,q',rfl,hy,rfl⟩:=wc;simp at h
      ·rename_i a hw
       rw[hw] at wc;obtain⟨y,q,q',rfl,hy,rfl⟩:=wc;simp at h
      ·split at h
       ·cases h
       ·rename_i hne
        obtain⟨ds,h1,h2⟩:=aH h;obtain⟨ha,hp⟩:=cX (fun e _ d hd=>ihp e d hd) h1
        cases args with
        | nil=>exact absurd rfl hne
        | cons e es=>exact um G (hb hx) ha hp h2
     ·split at h
      ·rename_i hf
       rw[G2z] at hf;obtain⟨ds,h1,h⟩:=aH h;obtain⟨ha,hp⟩:=cX (fun e _ d hd=>ihp e d hd) h1
       have hgl:Gl X x:=by
        have e:sc.names.lookup x=some .globalImplicit:=by unfold lN at hg;simpa using hg
        show X.env.scope.names.lookup x=_;rw[G.sce,e]
       refine xZ G hgl hf.1 (fun q=>?_) ha hp h;rw[q] at hf;exact absurd hf.2 (by decide)
      ·cases h
    ·cases h
   ·split at h
    ·split at h
     ·cases h
     ·cases h
    ·cases h
   ·split at h
    ·split at h
     ·rename_i hl
      obtain⟨x,h1,h⟩:=aH h;obtain⟨z,h2,h⟩:=aH h;exact m6 (ih _ _ h1).1 (ih _ _ h2).1 (aO h2) hl h
     ·cases h
    ·cases h
   ·simp at h
   ·simp at h
   ·cases h
  | ListComp elt gens scope pos =>
   refine val (fun _=>rfl) ?_;simp only[ev] at h;split at h
   ·rename_i tg iter ifs a
    split at h
    ·rename_i hok
     rw[G2z] at hok
     have ea:a=0:=by simpa using hok.1
     subst ea;obtain⟨l,h1,h⟩:=aH h;split at h
     ·rename_i hz
      obtain⟨out,h2,h⟩:=aH h;cases h;obtain⟨hI,hp⟩:=qY (tg:=tg) G ihp h1;exact xX G hN hok.2 hI hp hz h2 fun Xc C ρ1 hN1 e d he=>bR cx n (G.comp C hok.2) hN1 he
     ·cases h
    ·cases h
   ·cases h
  | _=>exact nomatch (show(Option.none:Option D)=some d from h)
end L2
namespace L2
open PySem PySem.Spec PyProof.Rows
def ju(CX:CXT)(P:Program)(w:World)(K:Zf)(mg:Str->Option Value)(base:Heap)(N:List Str)(qual:Str)(scope:Scope)(f:Addr)(cd:Value)(cl:List (Str×Addr))(A:Around)(outer:List Env)(s:Shared)(H:Hp)(E:XK):Cx where
 prog:=P
 w:=w
 K:=K
 mg:=mg
 base:=base
 A:=A.deeper (PySem.W.envX qual scope s.heap.objs.size f cd cl)
 N:=N
 s₀:=s
 H₀:=H
 env:=PySem.W.envX qual scope s.heap.objs.size f cd cl
 outer:=outer
 stack:=PySem.W.envX qual scope s.heap.objs.size f cd cl::outer
 ex:=[]
 calm:=true
 fn:=fun _=>false
 pn:=[]
 xe:=fun e s'=>wpAny (model P w) (A.deeper (PySem.W.envX qual scope s.heap.objs.size f cd cl)) (leaving (PySem.W.envX qual scope s.heap.objs.size f cd cl) e) (fun _ s''=>CX outer H s E e s'') (fun e' s''=>CX outer H s E e' s'') s'
structure LamNames (base:Heap) (scope:Scope) (N:List Str) (ws:List V) (cl:List (Str×Addr)):Prop where
 kind:scope.kind=.function
 co:scope.isCoroutine=false
 gen:scope.isGenerator=false
 own:∀ x∈scope.names,x.2≠.cell
 len:ws.length=N.length
 val:∀ (i:Nat) x v,N[i]?=some x->ws[i]?=some v->scope.names.lookup x=some .free/\∃ c u,cl.lookup x=some c/\RelV v u/\base.IsCell c (some u)
 inj:∀ x y c,cl.lookup x=some c->cl.lookup y=some c->x=y
 has:∀ x,scope.names.lookup x=some .free->∃ c,cl.lookup x=some c
 cell:∀ x c,cl.lookup x=some c->∃ v,base.IsCell c v
theorem cW{h h':Heap}{c:Addr}{v:Option Value}(x:h.IsCell c v)(k:∀ b o,h.get? b=some o->h'.get? b=some o):h'.IsCell c v:=by
 obtain⟨o,h1,h2⟩:=x;exact⟨o,k _ _ h1,h2⟩
theorem z7{CX:CXT}{P:Program}{w:World}{K:Zf}{mg:Str->Option Value}{base:Heap}{k:Nat}{f c':Addr}{name qual:Str}{params:Arguments}{body:Expr}{scope:Scope}{pm ctv:Value}{cl:List (Str×Addr)}
  {N:List Str} {ws:List V} {sp:Sp} (lk:base.get? f=some (PySem.W.kla_obj name qual params body scope cl pm c' ctv)) (hcd:base.CodeRec (.ref c') qual) (L:LamNames base scope N ws cl)
  (len:∀ vs H Q E,sp vs H Q E->vs.length=0)
  (hbody : ∀ (A : Around) (outer : List Env) (s : Shared) (H : Hp) (Q : VK) (E : XK), Room k (A.deeper (PySem.W.envX qual scope s.heap.objs.size f (.ref c') cl)) -> sp [] H Q E ->
   ∃ t,PE (ju CX P w K mg base N qual scope f (.ref c') cl A outer s H E) body t/\t (ws.map some) H Q) :
  FnOk P w K mg base CX (k+1) f (PySem.W.kla_fn name qual params body scope cl pm (.ref c') ctv) [] sp:=by
 refine⟨len,fun A outer s H args us vs Q E hr e0 hb r hsp=>?_⟩;have hl:=len _ _ _ _ hsp;obtain rfl:vs=[]:=List.length_eq_zero_iff.mp hl;have keep:∀ b o,base.get? b=some o->s.heap.get? b=some o:=fun b o e=>(e0.bs b o e).1;have lim:s.heap.NoLimit:=e0.mod.nolimit.keeps keep;refine PySem.W.kla_callFunE hr.depth (keep _ _ lk) rfl L.co L.gen rfl (hcd.keeps keep) (hb _ _ _ _ ?_);refine wpAny_newFunctionEnv L.own (fun x hx=>by simp at hx) (fun h1 hns hsb=>?_) L.kind;have hk1:∀ b o,s.heap.get? b=some o->h1.get? b=some o:=fun b o e=>hsb.extBut b o (I3z (H3z e)) (Heap.get?_push_of_some _ e);refine⟨lim.keeps hk1,?_⟩;show codeAny _ _ (.expr body (PySem.W.envX qual scope s.heap.objs.size f (.ref c') cl)) _ _;obtain⟨t,ht,hq⟩:=hbody A outer s H Q E (hr.deeper _) hsp;have noA:∀ b:Addr,b∉(ju CX P w K mg base N qual scope f (.ref c') cl A outer s H E).ex:=fun b z=>absurd (show b∈([]:List Addr) from z) (by simp);have hlook:∀ x,(PySem.W.envX qual scope s.heap.objs.size f (.ref c') cl).kindOf x=scope.names.lookup x:=fun _=>rfl;have nocell:∀ x,scope.names.lookup x≠some .cell:=fun x e=>L.own _ (Z0z e) rfl
 have I:Inv (ju CX P w K mg base N qual scope f (.ref c') cl A outer s H E) [] (ws.map some) H { s with heap:=h1,toks:=s.toks+0 }:=by
  refine⟨⟨e0.mod,L.kind,rfl,rfl,P3z _,fun y z c h1 h2=>L.inj y z c h1 h2,fun y hy=>?_,fun y c z _=>(nomatch z),fun _=>hr.hd,U0z e0.frames,.inr ⟨rfl,rfl⟩,fun b z=>absurd z (noA b),e0.bs,e0.bsz,fun b _ _=>noA b,fun b z=>absurd z (noA b),e0.funs,e0.frf⟩,
   rfl,e0.bare,Un.kept hk1,⟨_,hns,fun i y v a1 a2 a3=>?_⟩,fun y c a=>?_,e0.hok.fresh (P3z _),fun y c a=>?_,fun p hp=>absurd (show p∈([]:List (Addr×Obj)) from hp) (by simp),e0.hok.kept hk1,?_⟩
  ·have hy:scope.names.lookup y=some .cell\/scope.names.lookup y=some .free:=hy
   rcases hy with hy | hy
   ·exact absurd hy (nocell y)
   ·exact L.has y hy
  ·have a2':ws[i]?=some v:=by
    rw[List.getElem?_map] at a2
    cases e:ws[i]? with
    | none=>rw[e] at a2;cases a2
    | some b=>rw[e] at a2;cases a2;rfl
   obtain⟨b1,c,u,b2,b3,b4⟩:=L.val i y v a1 a2';exact⟨u,b3,.inr ⟨.inr b1,c,b2,cW (cW b4 keep) hk1⟩⟩
  ·obtain⟨v,b1⟩:=L.cell y c a
   exact⟨v,cW (cW b1 keep) hk1⟩
  ·obtain⟨v,o,b1,_⟩:=L.cell y c a
   exact(e0.bs _ _ b1).2
  ·rw[P2z]
   exact L.len
 refine PySem.W.kla_codeExpr (S3z (ht [] _ (ws.map some) H _ I hq) (fun u s' hs=>?_) fun e s' hs=>hs);obtain⟨v,H',J,rv,q⟩:=hs;exact⟨v,H',J.os,J.bare,J.base,J.hok,rv,q⟩
def fQ(P:Addr)(ps:Array Value):HO:=.ext fun h=>h.get? P=some (PySem.W.tabObj ps)
theorem uJ{p:Program}{w:World}{H:Hp}{h:Heap}{P:Addr}{ps:Array Value}(e:h.get? P=some (PySem.W.tabObj ps)):bY p w H h P (fQ P ps) :=
 ⟨e,⟨_,e⟩,fun h1 h2 a b=>b _ a⟩
def rJ(h:Heap)(H:Hp)(fs:List Addr):Heap:=PySem.W.hideAll (jR h H) fs
theorem jC{h:Heap}{H:Hp}{fs:List Addr}{b:Addr}{o:Obj}(e:h.get? b=some o)(n:H b=none)(f:b∉fs):(rJ h H fs).get? b=some o:=W0z _ (jh e n) f
theorem zT{h:Heap}{H:Hp}{fs:List Addr}{b:Addr}{o:Obj}(e:(rJ h H fs).get? b=some o):h.get? b=some o/\H b=none:=lF (E1z _ e)
theorem jU{h base base':Heap}:∀ {l:List Env},h.FunFrames base l->(∀ b∈frs l,base'.get? b=none)->h.FunFrames base' l
 | [],_,_=>trivial
 | env::r,hl,hb=>by
  obtain⟨hk,⟨L,o,hf,hn,ho,hd⟩,hr⟩:=hl;refine⟨hk,⟨L,o,hf,hb L ?_,ho,hd⟩,jU hr fun b z=>hb b ?_⟩
  ·unfold frs;rw[X0z,hf];exact F1z
  ·unfold frs at z ⊢;rw[X0z,hf];exact S0z _ z
section
variable {X:Cx} {z0:List (Addr×Obj)} {σ:St} {H:Hp} {s:Shared}
theorem Inv.inBig(I:Inv X z0 σ H s):∀ b o,X.base.get? b=some o->(rJ s.heap H (frs X.stack)).get? b=some o:=fun b o e=>by
 obtain⟨h1,h2⟩:=I.bs b o e;refine jC h1 h2 fun z=>?_;obtain⟨n,_⟩:=I.stack.mem z;rw[n] at e;cases e
theorem Inv.modBig(I:Inv X z0 σ H s):Mod X.K X.mg (rJ s.heap H (frs X.stack)):=by
 have k:=I.inBig;obtain⟨mb,b1,b2⟩:=I.mod.blt;exact⟨I.mod.kin.keeps k,I.mod.glob.keeps k,⟨mb,b1.keeps k,b2⟩,I.mod.nolimit.keeps k⟩
theorem Inv.env0Big(I:Inv X z0 σ H s):Env0 X.prog X.w X.K X.mg (rJ s.heap H (frs X.stack)) X.A X.stack s H :=
 ⟨I.ok.frames,I.modBig,fun b o e=>zT e,by unfold rJ;rw[PySem.W.hideAll_size,gM];exact P3z _,jU I.stack fun b hb=>PySem.W.hideAll_none _ hb,I.stkFree,I.hok,I.bare⟩
theorem tR{params:Arguments}{body:Expr}{scope:Scope}{pos:Pos}{c P:Addr}{ps:Array Value}{clos:List (Str×Addr)}{R:Value->Shared->Prop}(I:Inv X z0 σ H s)
  (hdef:defaultsOf params X.env=([],[])) (hcode:X.env.code=.ref c) (C:PySem.W.CodeHd X.base c P) (hcl:closureFor scope X.env=pure clos) (hb:X.base.BuiltinsAt X.mg P) (hge:X.env.globals=mainGlobals)
  (hP:H P=some (fQ P ps)) (ht:TriplesOk ps.toList) (hn:codeAmong pos ps.toList=none)
  (h : ∀ (f c' : Addr) (ctv pm : Value) (s' : Shared), Inv X z0 σ (upd H P (fQ P (ps ++ #[rawInt pos.line, rawInt pos.col, .ref c']))) s' ->
   s'.heap.get? f=some (PySem.W.kla_obj "<lambda>" (X.env.qual++"<lambda>") params body scope clos pm c' ctv)->s'.heap.CodeRec (.ref c') (X.env.qual++"<lambda>")->(∃ o,s'.heap.get? c'=some o)->s.heap.objs.size<=f->s.heap.objs.size<=c' ->
   (∀ b o,b≠P->s.heap.get? b=some o->s'.heap.get? b=some o)->R (.ref f) s') :
  wpAny (model X.prog X.w) X.A (eval (.Lambda params body scope pos) X.env) R X.xe s:=by
 have hg:s.heap.Ns mainGlobals X.mg:=I.mod.glob.keeps I.bk;have hPt:s.heap.get? P=some (PySem.W.tabObj ps):=(I.hok P _ hP).1
 have hgP:mainGlobals≠P:=fun q=>by
  obtain⟨o,es,ep,e,hd,_⟩:=I.mod.glob;rw[q] at e;have:=(I.bs _ _ e).2;rw[hP] at this;cases this
 obtain⟨bm,ob,b1,b2,b3,b4,b5,b6,b7,b8⟩:=hb;refine PySem.W.kla_eval hdef (PySem.W.kla_makeFunction (mg:=X.mg) hcl hge hg hcode (C.keeps I.bk) hPt ht hn hgP ⟨bm,ob,b1,b2,b3,b4,I.bk _ _ b5,b6,b7,b8⟩ fun c' ctv h' tk hx hge hlt hrec htb=>?_);have keep:∀ b o,b≠P->s.heap.get? b=some o->(h'.push (PySem.W.kla_obj "<lambda>" (X.env.qual++"<lambda>") params body scope clos ((X.mg "__name__").getD .none) c' ctv)).get? b=some o:=fun b o hbP e=>Heap.get?_push_of_some _ (hx b o hbP e);have hnew:=Heap.get?_push_of_some (PySem.W.kla_obj "<lambda>" (X.env.qual++"<lambda>") params body scope clos ((X.mg "__name__").getD .none) c' ctv) htb;refine h h'.objs.size c' ctv _ _ (I.write (x:=P) (e:=P) (by rw[hP];exact trivial) (.inl rfl) (fun b u hb e=>keep b u hb e) ⟨_,hnew⟩ (uJ hnew)) (Heap.get?_push_size _ rfl) ?_ ?_ (J3z hge (K3z hlt)) hge keep
 ·obtain⟨c2,oc,vs,t,e1,e2,e3,e4⟩:=hrec
  exact⟨c2,oc,vs,t,e1,Heap.get?_push_of_some _ e2,e3,e4⟩
 ·obtain⟨c2,oc,vs,t,e1,e2,e3,e4⟩:=hrec
  cases e1;exact⟨oc,Heap.get?_push_of_some _ e2⟩
end
section
variable {X:Cx} {z0:List (Addr×Obj)} {σ:St} {H:Hp} {s:Shared}
theorem Inv.track{c:Addr}{o:HO}(I:Inv X z0 σ H s)(f:nD X z0 H c)(ok:bY X.prog X.w (upd H c o) s.heap c o):Inv X z0 σ (upd H c o) s:=by
 have hn:H c=none:=f.1
 refine I.call' (s':=s) (ch:=[c]) rfl ?_ ?_ I.bare fun b hb=>by
  have e:b=c:=by simpa using hb
  subst e;exact⟨f.2.2.2.1,f.2.1,f.2.2.2.2.1,f.2.2.2.2.2⟩
 ·refine⟨fun b u e _ _ hc=>e,fun b u e _ _ hc=>⟨u.slots,e⟩,fun b u e n hc=>?_,fun b u e hc=>⟨u,e⟩,fun b xs e=>?_,fun b u xs e=>?_,fun b ps e=>⟨#[],?_⟩⟩
  ·rw[aq (fun z=>hc (by simp[z]))];exact n
  ·rw[aq (ao e hn)];exact e
  ·rw[aq (ao e hn)];exact e
  ·rw[aq (ao e hn),e];simp
 ·intro b u e
  by_cases hb:b=c
  ·subst hb;rw[aK] at e;cases e;exact ok
  ·rw[aq hb] at e
   exact(I.hok b u e).stay (fun _ v _ q=>q) (fun d q=>by rw[aq (ao q hn)];exact q) fun d xs q=>by rw[aq (ao q hn)];exact q
def uF(c':Addr)(qual:Str):HO:=.ext fun h=>h.CodeRec (.ref c') qual
theorem Av{p:Program}{w:World}{H:Hp}{h:Heap}{c':Addr}{qual:Str}(e:h.CodeRec (.ref c') qual):bY p w H h c' (uF c' qual):=by
 obtain⟨c2,oc,vs,t,a1,a2,a3,a4⟩:=e;cases a1;refine⟨⟨c',oc,vs,t,rfl,a2,a3,a4⟩,⟨oc,a2⟩,fun h1 h2 q k=>?_⟩;obtain⟨c3,od,vs',t',b1,b2,b3,b4⟩:=q;cases b1;exact⟨c',od,vs',t',rfl,k _ b2,b3,b4⟩
theorem uF.rec{p:Program}{w:World}{H:Hp}{h:Heap}{c':Addr}{qual:Str}(ok:HOk p w H h)(e:H c'=some (uF c' qual)):h.CodeRec (.ref c') qual:=(ok c' _ e).1
theorem qz{params:Arguments}{body:Expr}{scope:Scope}{pos:Pos}{c P c':Addr}{ps:Array Value}{clos:List (Str×Addr)}{R:Value->Shared->Prop}(I:Inv X z0 σ H s)
  (hdef:defaultsOf params X.env=([],[])) (hcode:X.env.code=.ref c) (C:PySem.W.CodeHd X.base c P) (hcl:closureFor scope X.env=pure clos) (hb:X.base.BuiltinsAt X.mg P) (hge:X.env.globals=mainGlobals)
  (hP:H P=some (fQ P ps)) (ht:TriplesOk ps.toList) (hn:codeAmong pos ps.toList=some (.ref c'))
  (h : ∀ (f : Addr) (ctv pm : Value) (s' : Shared), Inv X z0 σ H s' -> s'.heap.get? f = some (PySem.W.kla_obj "<lambda>" (X.env.qual ++ "<lambda>") params body scope clos pm c' ctv) -> s.heap.objs.size <= f ->
   (∀ b o,s.heap.get? b=some o->s'.heap.get? b=some o)->R (.ref f) s') :
  wpAny (model X.prog X.w) X.A (eval (.Lambda params body scope pos) X.env) R X.xe s:=by
 have hg:s.heap.Ns mainGlobals X.mg:=I.mod.glob.keeps I.bk;have hPt:s.heap.get? P=some (PySem.W.tabObj ps):=(I.hok P _ hP).1;obtain⟨bm,ob,b1,b2,b3,b4,b5,b6,b7,b8⟩:=hb;refine PySem.W.kla_eval hdef (PySem.W.kla_makeFunctionHit (mg:=X.mg) hcl hge hg hcode (C.keeps I.bk) hPt ht hn ⟨bm,ob,b1,b2,b3,b4,I.bk _ _ b5,b6,b7,b8⟩ fun ctv h' tk hx hsz=>?_);have keep:∀ b o,s.heap.get? b=some o->(h'.push (PySem.W.kla_obj "<lambda>" (X.env.qual++"<lambda>") params body scope clos ((X.mg "__name__").getD .none) c' ctv)).get? b=some o:=fun b o e=>Heap.get?_push_of_some _ (hx b o e);exact h h'.objs.size ctv _ _ (I.kept keep) (Heap.get?_push_size _ rfl) hsz keep
theorem qy{params:Arguments}{body:Expr}{scope:Scope}{pos:Pos}{c P:Addr}{ps:Array Value}{clos:List (Str×Addr)}{R:Value->Shared->Prop}(I:Inv X z0 σ H s)
  (hdef:defaultsOf params X.env=([],[])) (hcode:X.env.code=.ref c) (C:PySem.W.CodeHd X.base c P) (hcl:closureFor scope X.env=pure clos) (hb:X.base.BuiltinsAt X.mg P) (hge:X.env.globals=mainGlobals)
  (hP:H P=some (fQ P ps)) (ht:TriplesOk ps.toList) (hn:codeAmong pos ps.toList=none)
  (h : ∀ (f c' : Addr) (ctv pm : Value) (s' : Shared), H c' = none -> c' ≠ P -> Inv X z0 σ (upd (upd H P (fQ P (ps ++ #[rawInt pos.line, rawInt pos.col, .ref c']))) c' (uF c' (X.env.qual ++ "<lambda>"))) s' ->
   s'.heap.get? f=some (PySem.W.kla_obj "<lambda>" (X.env.qual++"<lambda>") params body scope clos pm c' ctv)->s.heap.objs.size<=f->f≠c' ->
   (∀ b o,b≠P->s.heap.get? b=some o->s'.heap.get? b=some o)->R (.ref f) s') :
  wpAny (model X.prog X.w) X.A (eval (.Lambda params body scope pos) X.env) R X.xe s:=by
 refine tR I hdef hcode C hcl hb hge hP ht hn fun f c' ctv pm s' J e1 e2 e3 e4 e5 keep=>?_;have hPlt:P<s.heap.objs.size:=I.hok.lt hP
 have hcP:c'≠P:=fun z=>by rw[z] at e5;exact absurd (D1z hPlt e5) (B3z _)
 have fp:=I.fpOk e5 (I.hok.fresh e5);have hcn:H c'=none:=I.hok.fresh e5;refine h f c' ctv pm s' hcn hcP (J.track ⟨by rw[aq hcP];exact hcn,fp.2⟩ (Av e2)) e1 e4 (fun z=>?_) keep;obtain⟨c2,oc,vs,t,a1,a2,a3,a4⟩:=e2;cases a1;rw[z,a2] at e1;have:=congrArg (fun o:Option Obj=>o.map Obj.data) e1;simp only[T2z,PySem.W.kla_obj] at this;rw[L2z this] at a3;cases a3
end
structure LamT (H:Hp) (P:Addr) (qual:Str) (l:List (Pos×Addr)):Prop where
 tab:H P=some (fQ P (triples l).toArray)
 cod:∀ q∈l,H q.2=some (uF q.2 qual)
theorem dD:∀ l:List (Pos×Addr),TriplesOk (triples l)
 | []=>trivial
 | (p,c)::r=>dD r
theorem iw(pos:Pos):∀ l:List (Pos×Addr),codeAmong pos (triples l)=none\/∃ q∈l,codeAmong pos (triples l)=some (.ref q.2)
 | []=>.inl rfl
 | (p,c)::r=>by
  have e:codeAmong pos (triples ((p,c)::r))=if(((p.line:Nat):Int)==((pos.line:Nat):Int)&&((p.col:Nat):Int)==((pos.col:Nat):Int))=true then some (.ref c) else codeAmong pos (triples r):=rfl;rw[e];split
  ·exact .inr ⟨(p,c),F1z,rfl⟩
  ·rcases iw pos r with h | ⟨q,hq,h⟩
   ·exact .inl h
   ·exact .inr ⟨q,S0z _ hq,h⟩
theorem LamT.same{H H':Hp}{P:Addr}{qual:Str}{l:List (Pos×Addr)}(h:LamT H P qual l)(e:∀ b o,H b=some o->H' b=some o):LamT H' P qual l:=⟨e _ _ h.tab,fun q hq=>e _ _ (h.cod q hq)⟩
theorem LamT.upd{H:Hp}{P a:Addr}{qual:Str}{l:List (Pos×Addr)}{us vs:List V}(h:LamT H P qual l)(e:H a=some (.lst us)):LamT (upd H a (.lst vs)) P qual l:=by
 refine⟨?_,fun q hq=>?_⟩
 ·rw[aq fun z=>by rw[<- z,h.tab] at e;cases e];exact h.tab
 ·rw[aq fun z=>by rw[<- z,h.cod q hq] at e;cases e];exact h.cod q hq
theorem LamT.ne{p':Program}{w:World}{h:Heap}{H:Hp}{P:Addr}{qual:Str}{l:List (Pos×Addr)}(T:LamT H P qual l)(ok:HOk p' w H h){p:Pos×Addr}(hp:p∈l):p.2≠P:=fun z=>by
 have e:=T.cod p hp;rw[z,T.tab] at e;have:=L2z e;unfold fQ uF at this;have q:=HO.ext.inj this;have hc:=uF.rec ok (T.cod p hp);rw[z] at hc;have ht:=(ok P _ T.tab).1;obtain⟨c2,oc,vs,t,a1,a2,a3,a4⟩:=hc;cases a1;rw[ht] at a2;cases a2;have a3':Data.fields (triples l).toArray=Data.fields vs:=a3;injection a3' with a3';subst a3';have k:=dD l
 cases l with
 | nil=>cases hp
 | cons x r =>
  obtain⟨p0,c0⟩:=x;simp[triples,rawInt] at a4
section
variable {X:Cx} {z0:List (Addr×Obj)} {σ:St} {H:Hp} {s:Shared}
theorem wX{params:Arguments}{body:Expr}{scope:Scope}{pos:Pos}{c P:Addr}{l:List (Pos×Addr)}{clos:List (Str×Addr)}{R:Value->Shared->Prop}(I:Inv X z0 σ H s)
  (hdef:defaultsOf params X.env=([],[])) (hcode:X.env.code=.ref c) (C:PySem.W.CodeHd X.base c P) (hcl:closureFor scope X.env=pure clos) (hb:X.base.BuiltinsAt X.mg P) (hge:X.env.globals=mainGlobals)
  (T:LamT H P (X.env.qual++"<lambda>") l)
  (h : ∀ (f c' : Addr) (ctv pm : Value) (s' : Shared) (H' : Hp) (l' : List (Pos × Addr)), Inv X z0 σ H' s' -> LamT H' P (X.env.qual ++ "<lambda>") l' -> H' c' = some (uF c' (X.env.qual ++ "<lambda>")) -> c' ≠ P -> (H c' = none \/ ∃ q ∈ l, q.2 = c') -> (∀ q ∈ l', q ∈ l \/ q.2 = c') -> (∀ b o, b ≠ P -> H b = some o -> H' b = some o) ->
   s'.heap.get? f=some (PySem.W.kla_obj "<lambda>" (X.env.qual++"<lambda>") params body scope clos pm c' ctv)->s.heap.objs.size<=f->H' f=none->(∀ b o,b≠P->s.heap.get? b=some o->s'.heap.get? b=some o)->R (.ref f) s') :
  wpAny (model X.prog X.w) X.A (eval (.Lambda params body scope pos) X.env) R X.xe s:=by
 have hPlt:P<s.heap.objs.size:=I.hok.lt T.tab;rcases iw pos l with hn | ⟨q,hq,hn⟩
 ·refine qy I hdef hcode C hcl hb hge T.tab (by rw[C1z];exact dD l) (by rw[C1z];exact hn) fun f c' ctv pm s' hcn hcP J e1 e4 hfc keep=>?_
  have hfP:f≠P:=fun z=>by rw[z] at e4;exact absurd (D1z hPlt e4) (B3z _)
  refine h f c' ctv pm s' _ (l++[(pos,c')]) J ⟨?_,fun p hp=>?_⟩ aK hcP (.inl hcn) (fun q hq=>(List.mem_append.mp hq).imp id fun z=>by rw[List.mem_singleton.mp z]) (fun b o hbP e=>?_) e1 e4 ?_ keep
  ·rw[aq hcP.symm,aK,triples_append]
   simp
  ·rcases List.mem_append.mp hp with hp | hp
   ·have e:=T.cod p hp
    have n1:p.2≠c':=ao e hcn;have n2:p.2≠P:=T.ne I.hok hp;rw[aq n1,aq n2];exact e
   ·have e:p=(pos,c'):=by simpa using hp
    subst e;exact aK
  ·rw[aq (ao e hcn),aq hbP];exact e
  ·rw[aq hfc,aq hfP];exact I.hok.fresh e4
 ·refine qz I hdef hcode C hcl hb hge T.tab (by rw[C1z];exact dD l) (by rw[C1z];exact hn) fun f ctv pm s' J e1 e4 keep=>?_
  exact h f q.2 ctv pm s' H l J T (T.cod q hq) (T.ne I.hok hq) (.inr ⟨q,hq,rfl⟩) (fun _ z=>.inl z) (fun _ _ _ e=>e) e1 e4 (I.hok.fresh e4) fun b o _ e=>keep b o e
end
end L2
namespace L2
open PySem PySem.Spec PyProof.Rows DE PySem.SeqAt
section
variable {prog:Program} {w:World} {A:Around} {E:Value->Shared->Prop}
theorem iJ{it t:Addr}{xs:List Value}(apart:t≠it):∀ (more i:Nat) (s:Shared) (Q:List Value->Shared->Prop),s.heap.IsListIter it t i->s.heap.IsList t xs.toArray->i+more<=xs.length ->
  (∀ h',h'.IsListIter it t (i+more)->Heap.SameBut it s.heap h'->Q ((xs.drop i).take more) { s with heap:=h' })->wpAny (model prog w) A (draw (.ref it) more) Q E s
 | 0,i,s,Q,it0,_,_,q=>by
  show wpAny _ _ (pure []) _ _ _;exact U3z (by simpa using q s.heap it0 (Heap.SameBut.refl ..))
 | more+1,i,s,Q,it0,hl,hle,q=>by
  have lt:i<xs.length:=by omega
  show wpAny _ _ (pyNext (.ref it) >>=_) _ _ _;refine T3z (wpAny_pyNext_list_item it0 hl (x:=xs[i]) (by simp[lt]) fun h1 st1 sb1=>?_)
  have hl1:h1.IsList t xs.toArray:=by
   obtain⟨o,e,r⟩:=hl;exact⟨o,(sb1.2 t apart).trans e,r⟩
  refine T3z (C3z (iJ apart more (i+1) _ _ st1 hl1 (by omega) fun h2 st2 sb2=>U3z ?_));have z:=q h2 (by rw[show i+(more+1)=i+1+more by omega];exact st2) (sb1.trans sb2);rw[C0z lt,List.take_succ_cons] at z;exact z
theorem iT{s:Shared}{t:Addr}{xs:List Value}{Q:List Value->Shared->Prop}(hh:A.handled=none)(hl:s.heap.IsList t xs.toArray)(q:∀ h',(∀ b o,s.heap.get? b=some o->h'.get? b=some o)->Q xs { s with heap:=h' }) :
  wpAny (model prog w) A (unpackItems (.ref t) xs.length none) Q E s:=by
 have apart:t≠s.heap.objs.size:=by obtain⟨o,e,_⟩:=hl;exact I3z (H3z e)
 have keep:∀ {h':Heap},(∀ b o,b≠s.heap.objs.size->s.heap.get? b=some o->h'.get? b=some o)->∀ b o,s.heap.get? b=some o->h'.get? b=some o:=fun k b o e=>k b o (I3z (H3z e)) e
 have pushed:∀ (n:Obj),(s.heap.push n).IsList t xs.toArray:=fun n=>by
  obtain⟨o,e,r⟩:=hl;exact⟨o,Heap.get?_push_of_some _ e,r⟩
 simp only[unpackItems,notIterableAtAll];refine T3z (T3z (wpAny_specialOf hl.typeIs PySem.slot_list_iter.lookup (U3z ?_)));simp only[M1z,B4z,Option.isNone_some,Bool.not_true,Bool.false_and];refine T3z (C3z (wpAny_pyIter_list hl ?_));refine T3z (C3z (iJ apart xs.length 0 _ _ ⟨_,Heap.get?_push_size _ rfl,rfl,rfl⟩ (pushed _) (by omega) fun h1 st1 sb1=>?_))
 have all:List.take xs.length (List.drop 0 xs)=xs:=by simp
 rw[all,F4z (by simp)]
 have hl1:h1.IsList t xs.toArray:=by
  obtain⟨o,e,r⟩:=pushed { cls:=.type "list_iterator",data:=.fields #[.ref t,.int 0 0] };exact⟨o,(sb1.2 t apart).trans e,r⟩
 refine T3z (C3z (wpAny_pyNext_list_end hh st1 hl1 (by simp) fun h2 eb=>?_));simp only[Option.isSome_none,M1z,B4z];exact U3z (q h2 (keep fun b o hb e=>eb b o hb ((sb1.2 b hb).trans (Heap.get?_push_of_some _ e))))
end
section
variable {X:Cx} {es:List Expr} {k:Nat} {t:TGs} {n:Nat} {pos:Pos}
def LK(K:Zf)(n:Nat)(t:TGs):TG:=fun v σ H Q=>∃ a xs,v=.ref a/\SqL K H a xs/\xs.length=n/\t xs σ H Q
theorem zF(hc:X.calm=true)(h:PGs X es t)(hn:(assignEach es X.env).length=n)(hst:(assignEach es X.env).findIdx? (·.1)=none):PG X (.Tuple es k pos) (LK X.K n t):=by
 intro z0 s σ H v u Q I r hw;obtain⟨a,xs,rfl,hq,hl,hw⟩:=hw;cases (show u=Value.ref a from r);obtain⟨its,rv,pl,hz⟩:=I.list hq
 have e:(assignEach es X.env).length=its.length:=by rw[hn,<- hl,rv.length]
 rw[assign_Tuple];refine T3z (D3z ?_);unfold unpack;rw[hst,e];refine T3z (C3z (iT (I.ok.hd hc) pl.isList fun h' kp=>?_));exact h z0 _ σ H xs _ Q (I.kept (t':=s.toks) kp) rv hw
end
def OO(K:Zf)(H0 Hs H:Hp)(a:Addr)(bs:List Addr)(dss:List (List D)):Prop :=
  H a = some (.lst (bs.map V.ref)) /\ Hs a = none /\ H0 a = none /\ bs.Nodup /\ a ∉ bs /\ bs.length = dss.length /\
    ∀ (j:Nat) b,bs[j]?=some b->Hs b=none/\H0 b=none/\∃ ds us,dss[j]?=some ds/\H b=some (.lst us)/\aJ K Hs ds us
structure Hd (K:Zf) (lm:Option (Addr×Str)) (Hs0 H0 Hs H:Hp) (ρ:Rho) (σ:St):Prop where
 ext:Ext Hs0 H0 Hs H
 len:σ.length=ρ.length
 sh:bC K Hs ρ σ
 ow:∀ (i:Nat) (x:Str) (ds:List D),ρ[i]?=some (x,.ow ds)->∃ a vs,σ[i]?=some (some (.ref a))/\H a=some (.lst vs)/\aJ K Hs ds vs/\Hs a=none/\H0 a=none
 dis:∀ (i j:Nat) (x y:Str) (ds es:List D) (a:Addr),i≠j->ρ[i]?=some (x,.ow ds)->ρ[j]?=some (y,.ow es)->σ[i]?=some (some (.ref a))->σ[j]?=some (some (.ref a))->False
 oo:∀ (i:Nat) (x:Str) (dss:List (List D)),ρ[i]?=some (x,.oo dss)->(∃ a bs,σ[i]?=some (some (.ref a))/\OO K H0 Hs H a bs dss)/\∀ (j:Nat) y s,j≠i->ρ[j]?=some (y,s)->rD s=true
 lam:∀ p,lm=some p->H0 p.1=none/\∃ l,LamT H p.1 p.2 l/\Hs p.1=none/\∀ q∈l,Hs q.2=none
section
variable {K:Zf} {lm:Option (Addr×Str)} {Hs0 H0 Hs H Hs' H':Hp} {ρ:Rho} {σ:St}
theorem OO.step{a:Addr}{bs:List Addr}{dss:List (List D)}(h:OO K H0 Hs H a bs dss)(E:Ext Hs H Hs' H'):OO K H0 Hs' H' a bs dss:=by
 obtain⟨h1,h2,h3,h4,h5,h6,h7⟩:=h;refine⟨E.all _ _ h1,E.hid a _ h1 h2,h3,h4,h5,h6,fun j b e=>?_⟩;obtain⟨k1,k2,ds,us,k3,k4,k5⟩:=h7 j b e;exact⟨E.hid b _ k4 k1,k2,ds,us,k3,E.all _ _ k4,aJ.same E.vis ds us k5⟩
theorem Hd.step(h:Hd K lm Hs0 H0 Hs H ρ σ)(E:Ext Hs H Hs' H'):Hd K lm Hs0 H0 Hs' H' ρ σ where
 ext:=h.ext.trans E
 len:=h.len
 sh:=h.sh.same E.vis
 ow:=fun i x ds e=>by
  obtain⟨a,vs,h1,h2,h3,h4,h5⟩:=h.ow i x ds e;exact⟨a,vs,h1,E.all _ _ h2,aJ.same E.vis ds vs h3,E.hid a _ h2 h4,h5⟩
 dis:=h.dis
 oo:=fun i x dss e=>by
  obtain⟨⟨a,bs,h1,h2⟩,h3⟩:=h.oo i x dss e;exact⟨⟨a,bs,h1,h2.step E⟩,h3⟩
 lam:=fun p hp=>by
  obtain⟨h0,l,T,n1,n2⟩:=h.lam p hp;exact⟨h0,l,T.same E.all,E.hid _ _ T.tab n1,fun q hq=>E.hid _ _ (T.cod q hq) (n2 q hq)⟩
structure ExtL (p:Addr×Str) (Hs H Hs' H':Hp):Prop where
 vis:Same Hs Hs'
 all:∀ b o,b≠p.1->H b=some o->H' b=some o
 sub:Same Hs' H'
 hid:∀ b o,H b=some o->Hs b=none->Hs' b=none
 lam:∃ l,LamT H' p.1 p.2 l/\Hs' p.1=none/\∀ q∈l,Hs' q.2=none
theorem Hd.stepL{p:Addr×Str}(h:Hd K lm Hs0 H0 Hs H ρ σ)(hp:lm=some p)(E:ExtL p Hs H Hs' H'):Hd K lm Hs0 H0 Hs' H' ρ σ:=by
 obtain⟨h0,l,T,n1,n2⟩:=h.lam p hp;have lst:∀ a vs,H a=some (.lst vs)->H' a=some (.lst vs):=fun a vs e=>E.all a _ (fun z=>by rw[z,T.tab] at e;cases e) e;refine⟨⟨h.ext.vis.trans E.vis,fun b o e=>E.all b o (fun z=>by rw[z,h0] at e;cases e) (h.ext.all b o e),E.sub,fun b o e n=>E.hid b o (h.ext.all b o e) (h.ext.hid b o e n)⟩,h.len,h.sh.same E.vis,fun i x ds e=>?_,h.dis,fun i x dss e=>?_,fun p' hp'=>?_⟩
 ·obtain⟨a,vs,h1,h2,h3,h4,h5⟩:=h.ow i x ds e
  exact⟨a,vs,h1,lst _ _ h2,aJ.same E.vis ds vs h3,E.hid a _ h2 h4,h5⟩
 ·obtain⟨⟨a,bs,h1,k1,k2,k3,k4,k5,k6,k7⟩,h3⟩:=h.oo i x dss e
  refine⟨⟨a,bs,h1,lst _ _ k1,E.hid a _ k1 k2,k3,k4,k5,k6,fun j b e=>?_⟩,h3⟩;obtain⟨m1,m2,ds,us,m3,m4,m5⟩:=k7 j b e;exact⟨E.hid b _ m4 m1,m2,ds,us,m3,lst _ _ m4,aJ.same E.vis ds us m5⟩
 ·rw[hp] at hp';cases hp'
  exact⟨h0,E.lam⟩
def LmT(lm:Option (Addr×Str))(H:Hp):Prop:=∀ p,lm=some p->∃ l,LamT H p.1 p.2 l
theorem Hd.lmt(h:Hd K lm Hs0 H0 Hs H ρ σ):LmT lm H:=fun p hp=>by
 obtain⟨_,l,T,_⟩:=h.lam p hp;exact⟨l,T⟩
theorem fJ{n:Nat}{e:Expr}{i:Nat}{x:Str}{s:Sl}(h:(frz n e ρ)[i]?=some (x,s)):(ρ[i]?=some (x,s)/\(rD s=false->cZ n x e=false))\/(∃ ds,s=.sh (.lst ds)/\ρ[i]?=some (x,.ow ds)/\cZ n x e=true)\/∃ dss,s=.sh (.lst (dss.map .lst))/\ρ[i]?=some (x,.oo dss)/\cZ n x e=true:=by
 unfold frz at h;rw[List.getElem?_map] at h;obtain⟨⟨y,t⟩,h1,h2⟩:=P0z.mp h
 cases t with
 | no=>simp at h2;obtain⟨rfl,rfl⟩:=h2;exact .inl ⟨h1,fun z=>nomatch z⟩
 | sh d=>simp at h2;obtain⟨rfl,rfl⟩:=h2;exact .inl ⟨h1,fun z=>nomatch z⟩
 | ow ds =>
  simp only at h2
  cases hm:cZ n y e with
  | true =>
   rw[hm,E4z rfl] at h2;cases h2;exact .inr (.inl ⟨ds,rfl,h1,hm⟩)
  | false =>
   rw[hm] at h2;simp at h2;obtain⟨rfl,rfl⟩:=h2;exact .inl ⟨h1,fun _=>hm⟩
 | oo dss =>
  simp only at h2
  cases hm:cZ n y e with
  | true =>
   rw[hm,E4z rfl] at h2;cases h2;exact .inr (.inr ⟨dss,rfl,h1,hm⟩)
  | false =>
   rw[hm] at h2;simp at h2;obtain⟨rfl,rfl⟩:=h2;exact .inl ⟨h1,fun _=>hm⟩
theorem aG(n:Nat)(e:Expr):(frz n e ρ).map (·.1)=ρ.map (·.1):=by
 unfold frz;rw[O3z];apply List.map_congr_left;intro p _;obtain⟨x,s⟩:=p
 cases s<;>simp<;>(split<;>rfl)
theorem aJ.get_of{K:Zf}{H:Hp}:∀ {ds:List D} {vs:List V},ds.length=vs.length->(∀ (j:Nat) d v,ds[j]?=some d->vs[j]?=some v->Rep K H d v)->aJ K H ds vs
 | [],[],_,_=>.nil
 | [],_::_,h,_=>by simp at h
 | _::_,[],h,_=>by simp at h
 | d::ds,v::vs,h,q=>.cons (q 0 d v rfl rfl) (aJ.get_of (by simpa using h) fun j d' v' e1 e2=>q (j+1) d' v' (by simpa using e1) (by simpa using e2))
theorem OO.mem{a b:Addr}{bs:List Addr}{dss:List (List D)}(h:OO K H0 Hs H a bs dss)(hb:b∈bs):Hs b=none/\H0 b=none:=by
 obtain⟨j,e⟩:=List.mem_iff_getElem?.mp hb;obtain⟨k1,k2,_⟩:=h.2.2.2.2.2.2 j b e;exact⟨k1,k2⟩
open Classical in
theorem Hd.frozen2(n:Nat)(e:Expr)(h:Hd K lm Hs0 H0 Hs H ρ σ):∃ Hs1,Same Hs Hs1/\(∀ b o,Hs1 b=some o->Hs b=some o\/∃ vs,o=.lst vs)/\Hd K lm Hs0 H0 Hs1 H (frz n e ρ) σ:=by
 let Fo:Addr->Prop:=fun b=>∃ (i:Nat) (x:Str) (ds:List D),ρ[i]?=some (x,Sl.ow ds)/\cZ n x e=true/\σ[i]?=some (some (V.ref b))
 let Fb:Addr->Prop:=fun b=>∃ (i:Nat) (x:Str) (dss:List (List D)) (a:Addr) (bs:List Addr),ρ[i]?=some (x,Sl.oo dss)/\cZ n x e=true/\σ[i]?=some (some (V.ref a))/\OO K H0 Hs H a bs dss/\(b=a\/b∈bs)
 let Hs1:Hp:=fun b=>if Fo b\/Fb b then H b else Hs b
 have vis:Same Hs Hs1:=fun b o q=>by
  show(if Fo b\/Fb b then H b else Hs b)=some o;split
  ·exact h.ext.sub b o q
  ·exact q
 have sub:Same Hs1 H:=fun b o q=>by
  have q':(if Fo b\/Fb b then H b else Hs b)=some o:=q;split at q'
  ·exact q'
  ·exact h.ext.sub b o q'
 have fz0:∀ b,Fo b\/Fb b->H0 b=none/\Hs b=none:=fun b hb=>by
  rcases hb with⟨i,x,ds,g1,_,g3⟩ | ⟨i,x,dss,a,bs,g1,_,g3,g4,g5⟩
  ·obtain⟨a,vs,k1,k2,k3,k4,k5⟩:=h.ow i x ds g1
   rw[k1] at g3;cases g3;exact⟨k5,k4⟩
  ·rcases g5 with rfl | g5
   ·exact⟨g4.2.2.1,g4.2.1⟩
   ·exact⟨(g4.mem g5).2,(g4.mem g5).1⟩
 have shp:∀ b o,Hs1 b=some o->Hs b=some o\/∃ vs,o=.lst vs:=fun b o q=>by
  have q':(if Fo b\/Fb b then H b else Hs b)=some o:=q;split at q'
  ·rename_i f
   rcases f with⟨i,x,ds,g1,_,g3⟩ | ⟨i,x,dss,a,bs,g1,_,g3,g4,g5⟩
   ·obtain⟨a,vs,k1,k2,k3,k4,k5⟩:=h.ow i x ds g1
    rw[k1] at g3;cases g3;rw[k2] at q';cases q';exact .inr ⟨vs,rfl⟩
   ·rcases g5 with rfl | g5
    ·rw[g4.1] at q'
     cases q';exact .inr ⟨_,rfl⟩
    ·obtain⟨j,ej⟩:=List.mem_iff_getElem?.mp g5
     obtain⟨_,_,_,us,_,m4,_⟩:=g4.2.2.2.2.2.2 j b ej;rw[m4] at q';cases q';exact .inr ⟨us,rfl⟩
  ·exact .inl q'
 have hz:∀ (b:Addr) (u:Heap->Prop),H b=some (.ext u)->Hs b=none->Hs1 b=none:=fun b u q n=>by
  show(if Fo b\/Fb b then H b else Hs b)=none;rw[F4z fun f=>?_]
  ·exact n
  ·rcases f with⟨i,x,ds,g1,_,g3⟩ | ⟨i,x,dss,a,bs,g1,_,g3,g4,g5⟩
   ·obtain⟨a,vs,k1,k2,_⟩:=h.ow i x ds g1
    rw[k1] at g3;cases g3;rw[k2] at q;cases q
   ·rcases g5 with rfl | g5
    ·rw[g4.1] at q;cases q
    ·obtain⟨j,ej⟩:=List.mem_iff_getElem?.mp g5
     obtain⟨_,_,_,us,_,m4,_⟩:=g4.2.2.2.2.2.2 j b ej;rw[m4] at q;cases q
 refine⟨Hs1,vis,shp,⟨h.ext.vis.trans vis,h.ext.all,sub,fun b o q z=>?_⟩,by rw[h.len];simp[frz],fun i x d q=>?_,fun i x ds q=>?_,fun i j x y ds es a hij q1 q2=>?_,fun i x dss q=>?_,fun p hp=>by obtain⟨h0,l,T,n1,n2⟩:=h.lam p hp;exact⟨h0,l,T,hz _ _ T.tab n1,fun q hq=>hz _ _ (T.cod q hq) (n2 q hq)⟩⟩
 ·show(if Fo b\/Fb b then H b else Hs b)=none
  rw[F4z fun f=>by rw[(fz0 b f).1] at q;cases q]
  exact h.ext.hid b o q z
 ·rcases fJ q with⟨q,_⟩ | ⟨ds,e1,q2,hm⟩ | ⟨dss,e1,q2,hm⟩
  ·obtain⟨v,k1,k2⟩:=h.sh i x d q
   exact⟨v,k1,Rep.same vis d v k2⟩
  ·cases e1
   obtain⟨a,vs,k1,k2,k3,k4,k5⟩:=h.ow i x ds q2;refine⟨_,k1,?_⟩;simp only[Rep];refine⟨a,vs,rfl,.of ?_,aJ.same vis ds vs k3⟩;show(if Fo a\/Fb a then H a else Hs a)=_;rw[E4z (.inl ⟨i,x,ds,q2,hm,k1⟩)];exact k2
  ·cases e1
   obtain⟨⟨a,bs,k1,k2⟩,_⟩:=h.oo i x dss q2;refine⟨_,k1,?_⟩;simp only[Rep];refine⟨a,bs.map V.ref,rfl,.of ?_,?_⟩
   ·show(if Fo a\/Fb a then H a else Hs a)=_
    rw[E4z (.inr ⟨i,x,dss,a,bs,q2,hm,k1,k2,.inl rfl⟩)];exact k2.1
   ·refine aJ.get_of (by rw[P2z,P2z,k2.2.2.2.2.2.1]) fun j d v g1 g2=>?_
    rw[List.getElem?_map] at g1 g2;obtain⟨es,g3,rfl⟩:=P0z.mp g1;obtain⟨b,g4,rfl⟩:=P0z.mp g2;obtain⟨_,_,ds,us,m3,m4,m5⟩:=k2.2.2.2.2.2.2 j b g4;rw[g3] at m3;cases m3;simp only[Rep];refine⟨b,us,rfl,.of ?_,aJ.same vis es us m5⟩;show(if Fo b\/Fb b then H b else Hs b)=_;rw[E4z (.inr ⟨i,x,dss,a,bs,q2,hm,k1,k2,.inr (List.mem_of_getElem? g4)⟩)];exact m4
 ·rcases fJ q with⟨q,hm⟩ | ⟨ds',e1,q,hm⟩ | ⟨ds',e1,q,hm⟩
  ·obtain⟨a,vs,k1,k2,k3,k4,k5⟩:=h.ow i x ds q
   refine⟨a,vs,k1,k2,aJ.same vis ds vs k3,?_,k5⟩;show(if Fo a\/Fb a then H a else Hs a)=none;rw[F4z]
   ·exact k4
   ·rintro(⟨j,y,es,g1,g2,g3⟩ | ⟨j,y,dss,_,_,g1,_⟩)
    ·by_cases hij:i=j
     ·subst hij
      rw[q] at g1;cases g1;rw[hm rfl] at g2;cases g2
     ·exact h.dis i j x y ds es a hij q g1 k1 g3
    ·by_cases hij:i=j
     ·subst hij
      rw[q] at g1;cases g1
     ·exact nomatch (h.oo j y dss g1).2 i x _ hij q
  ·cases e1
  ·cases e1
 ·rcases fJ q1 with⟨q1,_⟩ | ⟨ds',e1,_⟩ | ⟨ds',e1,_⟩
  ·rcases fJ q2 with⟨q2,_⟩ | ⟨ds',e1,_⟩ | ⟨ds',e1,_⟩
   ·exact h.dis i j x y ds es a hij q1 q2
   ·cases e1
   ·cases e1
  ·cases e1
  ·cases e1
 ·rcases fJ q with⟨q,hm⟩ | ⟨ds',e1,_⟩ | ⟨ds',e1,_⟩
  ·obtain⟨⟨a,bs,k1,k2⟩,k3⟩:=h.oo i x dss q
   have nf:∀ b,¬ (Fo b\/Fb b):=by
    rintro b (⟨j,y,es,g1,_⟩ | ⟨j,y,dss',_,_,g1,g2,_⟩)
    ·by_cases hij:j=i
     ·subst hij
      rw[q] at g1;cases g1
     ·exact nomatch k3 j y _ hij g1
    ·by_cases hij:j=i
     ·subst hij
      rw[q] at g1;cases g1;rw[hm rfl] at g2;cases g2
     ·exact nomatch k3 j y _ hij g1
   have sm:∀ b,Hs1 b=Hs b:=fun b=>by
    show(if Fo b\/Fb b then H b else Hs b)=_;rw[F4z (nf b)]
   refine⟨⟨a,bs,k1,k2.1,by rw[sm];exact k2.2.1,k2.2.2.1,k2.2.2.2.1,k2.2.2.2.2.1,k2.2.2.2.2.2.1,fun j b g=>?_⟩,fun j y s hj g=>?_⟩
   ·obtain⟨m1,m2,ds,us,m3,m4,m5⟩:=k2.2.2.2.2.2.2 j b g
    exact⟨by rw[sm];exact m1,m2,ds,us,m3,m4,aJ.same vis ds us m5⟩
   ·rcases fJ g with⟨g,_⟩ | ⟨_,e1,_⟩ | ⟨_,e1,_⟩
    ·exact k3 j y s hj g
    ·rw[e1];rfl
    ·rw[e1];rfl
  ·cases e1
  ·cases e1
theorem Hd.frozen(n:Nat)(e:Expr)(h:Hd K lm Hs0 H0 Hs H ρ σ):∃ Hs1,Same Hs Hs1/\Hd K lm Hs0 H0 Hs1 H (frz n e ρ) σ :=
 let ⟨Hs1,a,_,b⟩:=h.frozen2 n e
 ⟨Hs1,a,b⟩
def flH(Hs H Hs':Hp):Hp:=fun b=>match Hs b with
 | some o=>some o
 | none=>match H b with
  | some _=>none
  | none=>match Hs' b with
   | some (.tup vs)=>some (.tup vs)
   | some (.frz o (.tup vs))=>some (.frz o (.tup vs))
   | _=>none
mutual
theorem mX{Hs H Hs1 Hs' H':Hp}(vis:Same Hs Hs1)(shp:∀ b o,Hs1 b=some o->Hs b=some o\/∃ vs,o=.lst vs)(E:Ext Hs1 H Hs' H'):∀ (d:D) (v:V),dZ d=true->Rep K Hs' d v->Rep K (flH Hs H Hs') d v
 | .non,v,_,r=>by simpa[Rep] using r
 | .bl b,v,_,r=>by simpa[Rep] using r
 | .int i,v,_,r=>by simpa[Rep] using r
 | .str x,v,_,r=>by simpa[Rep] using r
 | .lst _,v,h,_=>by simp[dZ] at h
 | .exc _,v,h,_=>by simp[dZ] at h
 | .dic _ _,v,h,_=>by simp[dZ] at h
 | .tup ds,v,h,r=>by
  simp only[dZ] at h;simp only[Rep] at r ⊢;obtain⟨p,ws,rfl,h1,h2⟩:=r;refine⟨p,ws,rfl,?_,jW vis shp E ds ws h h2⟩
  have fin:∀ u:HO,Hs' p=some u->(∀ vs,u≠.lst vs)->Hs p=some u\/(Hs p=none/\H p=none):=fun u hu hnl=>by
   cases hp:Hs p with
   | some u' =>
    have:=E.vis _ _ (vis _ _ hp);rw[hu] at this;exact .inl this.symm
   | none =>
    have h1n:Hs1 p=none:=by
     cases q:Hs1 p with
     | none=>rfl
     | some o =>
      rcases shp p o q with z | ⟨vs,rfl⟩
      ·rw[hp] at z;cases z
      ·have:=E.vis _ _ q
       rw[hu] at this;cases this;exact absurd rfl (hnl vs)
    refine .inr ⟨rfl,?_⟩
    cases q:H p with
    | none=>rfl
    | some o=>have:=E.hid p o q h1n;rw[hu] at this;cases this
  rcases h1 with(h1 | ⟨o,h1⟩) | h1
  ·refine .inl (.inl ?_)
   rcases fin _ h1 (fun vs z=>nomatch z) with z | ⟨z1,z2⟩
   ·simp only[flH,z]
   ·simp only[flH,z1,z2,h1]
  ·refine .inl (.inr ⟨o,?_⟩)
   rcases fin _ h1 (fun vs z=>nomatch z) with z | ⟨z1,z2⟩
   ·simp only[flH,z]
   ·simp only[flH,z1,z2,h1]
  ·exact .inr h1
theorem jW{Hs H Hs1 Hs' H':Hp}(vis:Same Hs Hs1)(shp:∀ b o,Hs1 b=some o->Hs b=some o\/∃ vs,o=.lst vs)(E:Ext Hs1 H Hs' H'):∀ (ds:List D) (vs:List V),mY ds=true->aJ K Hs' ds vs->aJ K (flH Hs H Hs') ds vs
 | [],vs,_,r=>by simpa[aJ] using r
 | d::ds,vs,h,r=>by
  simp only[mY,G2z] at h;simp only[aJ] at r ⊢;obtain⟨w,r',rfl,h1,h2⟩:=r;exact⟨w,r',rfl,mX vis shp E d w h.1 h1,jW vis shp E ds r' h.2 h2⟩
end
theorem dz{Hs1 Hs' H':Hp}{d:D}{v:V}(hs:Same Hs H)(vis:Same Hs Hs1)(shp:∀ b o,Hs1 b=some o->Hs b=some o\/∃ vs,o=.lst vs)(E:Ext Hs1 H Hs' H')(hd:dZ d=true)(r:Rep K Hs' d v):∃ Hs3,Ext Hs H Hs3 H'/\Rep K Hs3 d v:=by
 refine⟨flH Hs H Hs',⟨fun b o q=>by simp only[flH,q],E.all,fun b o q=>?_,fun b o q z=>by simp only[flH,z,q]⟩,mX vis shp E d v hd r⟩;unfold flH at q;split at q
 ·rename_i o' e;cases q;exact E.all _ _ (hs _ _ e)
 ·split at q
  ·cases q
  ·split at q
   ·rename_i e;cases q;exact E.sub _ _ e
   ·rename_i e;cases q;exact E.sub _ _ e
   ·cases q
theorem Hd.set{x:Str}{i:Nat}{d:D}{v:V}(h:Hd K lm Hs0 H0 Hs H ρ σ)(hn:(ρ.map (·.1)).Nodup)(hi:(ρ.map (·.1))[i]?=some x)(r:Rep K Hs d v):Hd K lm Hs0 H0 Hs H (bV ρ x (.sh d)) (σ.set i (some v)):=by
 have hl:i<σ.length:=by have:=(List.getElem?_eq_some_iff.mp hi).1;rw[h.len];simpa using this
 refine⟨h.ext,by rw[R2z,h.len];have:=congrArg List.length (aF ρ x (.sh d));simpa using this.symm,jL hn hi hl h.sh r,fun j y ds e=>?_,fun j j' y y' ds es a hjj e1 e2 e3 e4=>?_,fun j y dss e=>?_,h.lam⟩
 ·rw[aL hn hi j] at e
  split at e
  ·cases e
  ·rename_i hj
   obtain⟨a,vs,k1,k⟩:=h.ow j y ds e;exact⟨a,vs,by rw[List.getElem?_set_ne (fun z=>hj z.symm)];exact k1,k⟩
 ·rw[aL hn hi] at e1 e2
  split at e1
  ·cases e1
  ·rename_i hj
   split at e2
   ·cases e2
   ·rename_i hj'
    rw[List.getElem?_set_ne (fun z=>hj z.symm)] at e3;rw[List.getElem?_set_ne (fun z=>hj' z.symm)] at e4;exact h.dis j j' y y' ds es a hjj e1 e2 e3 e4
 ·rw[aL hn hi j] at e
  split at e
  ·cases e
  ·rename_i hj
   obtain⟨⟨a,bs,k1,k2⟩,k3⟩:=h.oo j y dss e;refine⟨⟨a,bs,by rw[List.getElem?_set_ne (fun z=>hj z.symm)];exact k1,k2⟩,fun l z s hl' g=>?_⟩;rw[aL hn hi l] at g;split at g
   ·cases g;rfl
   ·exact k3 l z s hl' g
theorem Hd.own{x:Str}{i:Nat}{ds:List D}{vs:List V}{acc:Addr}(h:Hd K lm Hs0 H0 Hs H ρ σ)(hn:(ρ.map (·.1)).Nodup)(hi:(ρ.map (·.1))[i]?=some x)(h1:H acc=some (.lst vs))(r:aJ K Hs ds vs)(h2:Hs acc=none)(h3:H0 acc=none)
  (no:∀ (j:Nat) y dss,j≠i->ρ[j]?=some (y,.oo dss)->False) (ap:∀ (j:Nat) y es,j≠i->ρ[j]?=some (y,.ow es)->σ[j]?=some (some (.ref acc))->False):Hd K lm Hs0 H0 Hs H (bV ρ x (.ow ds)) (σ.set i (some (.ref acc))):=by
 have hl:i<σ.length:=by have:=(List.getElem?_eq_some_iff.mp hi).1;rw[h.len];simpa using this
 refine⟨h.ext,by rw[R2z,h.len];have:=congrArg List.length (aF ρ x (.ow ds));simpa using this.symm,fun j y d e=>?_,fun j y es e=>?_,fun j j' y y' ds' es a hjj e1 e2 e3 e4=>?_,fun j y dss e=>?_,h.lam⟩
 ·rw[aL hn hi j] at e
  split at e
  ·cases e
  ·rename_i hj
   obtain⟨v,k1,k2⟩:=h.sh j y d e;exact⟨v,by rw[List.getElem?_set_ne (fun z=>hj z.symm)];exact k1,k2⟩
 ·rw[aL hn hi j] at e
  split at e
  ·rename_i hj
   subst hj;cases e;exact⟨acc,vs,by rw[List.getElem?_set_self hl],h1,r,h2,h3⟩
  ·rename_i hj
   obtain⟨a,vs',k1,k⟩:=h.ow j y es e;exact⟨a,vs',by rw[List.getElem?_set_ne (fun z=>hj z.symm)];exact k1,k⟩
 ·rw[aL hn hi] at e1 e2
  split at e1
  ·rename_i hj
   split at e2
   ·rename_i hj'
    exact hjj (hj.trans hj'.symm)
   ·rename_i hj'
    subst hj;rw[List.getElem?_set_self hl] at e3;cases e3;rw[List.getElem?_set_ne (fun z=>hj' z.symm)] at e4;exact ap j' y' es hj' e2 e4
  ·rename_i hj
   split at e2
   ·rename_i hj'
    subst hj';rw[List.getElem?_set_self hl] at e4;cases e4;rw[List.getElem?_set_ne (fun z=>hj z.symm)] at e3;exact ap j y ds' hj e1 e3
   ·rename_i hj'
    rw[List.getElem?_set_ne (fun z=>hj z.symm)] at e3;rw[List.getElem?_set_ne (fun z=>hj' z.symm)] at e4;exact h.dis j j' y y' ds' es a hjj e1 e2 e3 e4
 ·rw[aL hn hi j] at e
  split at e
  ·cases e
  ·rename_i hj
   exact(no j y dss hj e).elim
theorem Hd.app{x:Str}{i:Nat}{ds es:List D}{vs:List V}{a:Addr}(h:Hd K lm Hs0 H0 Hs H ρ σ)(hn:(ρ.map (·.1)).Nodup)(hi:ρ[i]?=some (x,.ow ds))(hσ:σ[i]?=some (some (.ref a)))(r:aJ K Hs es vs):Hd K lm Hs0 H0 Hs (upd H a (.lst vs)) (bV ρ x (.ow es)) σ:=by
 obtain⟨a',vs',k1,k2,k3,k4,k5⟩:=h.ow i x ds hi;rw[hσ] at k1;cases k1
 have hi':(ρ.map (·.1))[i]?=some x:=by rw[List.getElem?_map,hi];rfl
 refine⟨Ext.acc h.ext k5 k4,by rw[h.len];have:=congrArg List.length (aF ρ x (.ow es));simpa using this.symm,fun j y d e=>?_,fun j y es' e=>?_,fun j j' y y' ds' es' b hjj e1 e2 e3 e4=>?_,fun j y dss e=>?_,fun p hp=>by obtain⟨h0,l,T,n⟩:=h.lam p hp;exact⟨h0,l,T.upd k2,n⟩⟩
 ·rw[aL hn hi' j] at e
  split at e
  ·cases e
  ·exact h.sh j y d e
 ·rw[aL hn hi' j] at e
  split at e
  ·rename_i hj
   subst hj;cases e;exact⟨a,vs,hσ,aK,r,k4,k5⟩
  ·rename_i hj
   obtain⟨b,us,g1,g2,g⟩:=h.ow j y es' e;refine⟨b,us,g1,?_,g⟩;rw[aq]
   ·exact g2
   ·rintro rfl
    exact h.dis j i y x es' ds b hj e hi g1 hσ
 ·rw[aL hn hi'] at e1 e2
  split at e1
  ·rename_i hj
   split at e2
   ·rename_i hj'
    exact hjj (hj.trans hj'.symm)
   ·subst hj
    exact h.dis j j' x y' ds es' b hjj hi e2 e3 e4
  ·split at e2
   ·rename_i hj'
    subst hj';exact h.dis j j' y x ds' ds b hjj e1 hi e3 e4
   ·exact h.dis j j' y y' ds' es' b hjj e1 e2 e3 e4
 ·rw[aL hn hi' j] at e
  split at e
  ·cases e
  ·rename_i hj
   exact nomatch (h.oo j y dss e).2 i x _ (fun w=>hj w.symm) hi
theorem tG{x:Str}{i:Nat}(hn:(ρ.map (·.1)).Nodup)(hi:(ρ.map (·.1))[i]?=some x)(h:tH ρ x=true):∀ (j:Nat) y s,j≠i->ρ[j]?=some (y,s)->rD s=true:=fun j y s hj e=>by
 have:=List.all_eq_true.mp h _ (List.mem_of_getElem? e);rw[V2z] at this;rcases this with q | q
 ·exfalso
  have ey:y=x:=by simpa using q
  have e':(ρ.map (·.1))[j]?=some x:=by rw[List.getElem?_map,e,<- ey];rfl
  exact hj ((List.getElem?_inj (List.getElem?_eq_some_iff.mp e').1 hn).mp (e'.trans hi.symm))
 ·exact q
theorem qp{x:Str}{i:Nat}(hn:(ρ.map (·.1)).Nodup)(hi:(ρ.map (·.1))[i]?=some x)(h:rR ρ x=true):∀ (j:Nat) y dss,j≠i->ρ[j]?=some (y,.oo dss)->False:=fun j y dss hj e=>by
 have:=List.all_eq_true.mp h _ (List.mem_of_getElem? e);rw[V2z] at this;rcases this with q | q
 ·have ey:y=x:=by simpa using q
  have e':(ρ.map (·.1))[j]?=some x:=by rw[List.getElem?_map,e,<- ey];rfl
  exact hj ((List.getElem?_inj (List.getElem?_eq_some_iff.mp e').1 hn).mp (e'.trans hi.symm))
 ·exact nomatch q
theorem Hd.own2{x:Str}{i:Nat}{dss:List (List D)}{a:Addr}{bs:List Addr}(h:Hd K lm Hs0 H0 Hs H ρ σ)(hn:(ρ.map (·.1)).Nodup)(hi:(ρ.map (·.1))[i]?=some x)(o:OO K H0 Hs H a bs dss)(no:∀ (j:Nat) y s,j≠i->ρ[j]?=some (y,s)->rD s=true):Hd K lm Hs0 H0 Hs H (bV ρ x (.oo dss)) (σ.set i (some (.ref a))):=by
 have hl:i<σ.length:=by have:=(List.getElem?_eq_some_iff.mp hi).1;rw[h.len];simpa using this
 refine⟨h.ext,by rw[R2z,h.len];have:=congrArg List.length (aF ρ x (.oo dss));simpa using this.symm,fun j y d e=>?_,fun j y es e=>?_,fun j j' y y' ds' es a hjj e1 e2 e3 e4=>?_,fun j y dss' e=>?_,h.lam⟩
 ·rw[aL hn hi j] at e
  split at e
  ·cases e
  ·rename_i hj
   obtain⟨v,k1,k2⟩:=h.sh j y d e;exact⟨v,by rw[List.getElem?_set_ne (fun z=>hj z.symm)];exact k1,k2⟩
 ·rw[aL hn hi j] at e
  split at e
  ·cases e
  ·rename_i hj
   exact nomatch no j y _ hj e
 ·rw[aL hn hi] at e1
  split at e1
  ·cases e1
  ·rename_i hj
   exact nomatch no j y _ hj e1
 ·rw[aL hn hi j] at e
  split at e
  ·rename_i hj
   subst hj;cases e;refine⟨⟨a,bs,by rw[List.getElem?_set_self hl],o⟩,fun l z s hl' g=>?_⟩;rw[aL hn hi l,F4z hl'] at g;exact no l z s hl' g
  ·rename_i hj
   exact nomatch no j y _ hj e
theorem Hd.app2{x:Str}{i:Nat}{dss dss':List (List D)}{a c:Addr}{bs':List Addr}{vs:List V}(h:Hd K lm Hs0 H0 Hs H ρ σ)(hn:(ρ.map (·.1)).Nodup)(hi:ρ[i]?=some (x,.oo dss))(hσ:σ[i]?=some (some (.ref a)))(c1:Hs c=none)(c2:H0 c=none)(hcl:∃ us,H c=some (.lst us))(o:OO K H0 Hs (upd H c (.lst vs)) a bs' dss'):Hd K lm Hs0 H0 Hs (upd H c (.lst vs)) (bV ρ x (.oo dss')) σ:=by
 have hi':(ρ.map (·.1))[i]?=some x:=by rw[List.getElem?_map,hi];rfl
 obtain⟨_,no⟩:=h.oo i x dss hi;refine⟨Ext.acc h.ext c2 c1,by rw[h.len];have:=congrArg List.length (aF ρ x (.oo dss'));simpa using this.symm,fun j y d e=>?_,fun j y es e=>?_,fun j j' y y' ds' es a hjj e1 e2 e3 e4=>?_,fun j y dss'' e=>?_,fun p hp=>by obtain⟨h0,l,T,n⟩:=h.lam p hp;obtain⟨us,hu⟩:=hcl;exact⟨h0,l,T.upd hu,n⟩⟩
 ·rw[aL hn hi' j] at e
  split at e
  ·cases e
  ·exact h.sh j y d e
 ·rw[aL hn hi' j] at e
  split at e
  ·cases e
  ·rename_i hj
   exact nomatch no j y _ hj e
 ·rw[aL hn hi'] at e1
  split at e1
  ·cases e1
  ·rename_i hj
   exact nomatch no j y _ hj e1
 ·rw[aL hn hi' j] at e
  split at e
  ·rename_i hj
   subst hj;cases e;refine⟨⟨a,bs',hσ,o⟩,fun l z s hl' g=>?_⟩;rw[aL hn hi' l,F4z hl'] at g;exact no l z s hl' g
  ·rename_i hj
   exact nomatch no j y _ hj e
theorem mU{scope:Scope}:iM K Hs scope (fun ρ σ=>Hd K lm Hs0 H0 Hs H ρ σ):=fun ρ σ i x d v hn hi _ h r=>h.set hn hi r
end
end L2
namespace L2
open PySem PySem.Spec PyProof.Rows PySem.SeqAt
open DE hiding st
def fG(X:Cx)(s:Stmt):TS:=fun D σ H=>∀ z0 s0,Inv X z0 σ H s0->wpAny (model X.prog X.w) X.A (exec s X.env) (SP X z0 D) X.xe s0
def dJ(X:Cx)(s:List Stmt):TS:=fun D σ H=>∀ z0 s0,Inv X z0 σ H s0->wpAny (model X.prog X.w) X.A (execs s X.env) (SP X z0 D) X.xe s0
section
variable {X:Cx} {s:Stmt} {ss:List Stmt} {t:TS} {D:Ends} {σ:St} {H:Hp}
theorem pQ:PS X s (fG X s):=fun z0 s σ H D I h=>h z0 s I
theorem PS.sem(h:PS X s t)(q:t D σ H):fG X s D σ H:=fun z0 s I=>h z0 s σ H D I q
theorem bh:PSs X ss (dJ X ss):=fun z0 s σ H D I h=>h z0 s I
theorem PSs.sem(h:PSs X ss t)(q:t D σ H):dJ X ss D σ H:=fun z0 s I=>h z0 s σ H D I q
end
def Runs(X:Cx)(Hs0 H0:Hp)(ρ:Rho)(fl:Fl)(t:TS):Prop:=∀ σ H Hs D,Hd X.K X.lm Hs0 H0 Hs H ρ σ->X.N=ρ.map (·.1)->(∀ ρ' σ' Hs' H',fl=.nxt ρ'->Same Hs Hs'->X.N=ρ'.map (·.1)->Hd X.K X.lm Hs0 H0 Hs' H' ρ' σ'->D.nx σ' H') ->
 (∀ d v Hs' H',fl=.ret d->Ext Hs0 H0 Hs' H'->Rep X.K Hs' d v->LmT X.lm H'->D.rt v H')->t D σ H
structure GoodS (cx:Cxt) (k:Nat) (X:Cx) (sc:Scope):Prop where
 good:Good cx k X sc
 own:Owns X sc
 pass:PassesOwn (model X.prog X.w) X.A X.env X.xe
 stk:X.stack=X.env::X.outer/\X.env.frame=some X.env.locals
section
variable {X:Cx} {ρ:Rho} {cx:Cxt} {k F:Nat} {sc scope:Scope} {Hs0 H0:Hp} {e:Expr} {d:D}
theorem ug(G:GoodS cx k X sc)(hN:X.N=ρ.map (·.1))(he:ev cx F sc (frz F e ρ) e=some d){σ:St}{H Hs:Hp}{Q:VK}(h:Hd X.K X.lm Hs0 H0 Hs H ρ σ)(q:∀ v Hs' H',Same Hs Hs'->Hd X.K X.lm Hs0 H0 Hs' H' (frz F e ρ) σ->Rep X.K Hs' d v->Q v H'):iz X e σ H Q:=by
 obtain⟨Hs1,sm1,h1⟩:=h.frozen F e;exact(bR cx F G.good (by rw[aG];exact hN) he).1 σ H Hs1 Q h1.ext.sub h1.sh fun v H' Hs' E r=>q v Hs' H' (sm1.trans E.vis) (h1.step E) r
theorem qQ(G:GoodS cx k X sc)(hN:X.N=ρ.map (·.1)){b:Bool}(he:ev cx F sc (frz F e ρ) e=some (.bl b)){σ:St}{H Hs:Hp}{Q:Bool->Hp->Prop}(h:Hd X.K X.lm Hs0 H0 Hs H ρ σ)(q:∀ Hs' H',Same Hs Hs'->Hd X.K X.lm Hs0 H0 Hs' H' ρ σ->Q b H'):sG X e σ H Q:=by
 obtain⟨Hs1,sm1,shp,h1⟩:=h.frozen2 F e;refine(bR cx F G.good (by rw[aG];exact hN) he).2 b rfl σ H Hs1 Q h1.ext.sub h1.sh fun H' Hs' E=>?_;obtain⟨Hs3,E3,_⟩:=dz (K:=X.K) (d:=.bl b) (v:=.bl b) h.ext.sub sm1 shp E rfl (by simp[Rep]);exact q Hs3 H' E3.vis (h.step E3)
theorem cR{t:Option Expr}{l:Nat}{env:Env}(he:ev cx F sc ρ e=some d)(hc:∀ a b c p,e≠.ListComp a b c p):swapsWith e t l env=pure false:=by
 cases F with
 | zero=>simp[ev] at he
 | succ F =>
  cases e<;>first | rfl | (exact nomatch (show(Option.none:Option D)=some d from he)) | (exact absurd rfl (hc _ _ _ _))
theorem sJ(h:aR e=false):jJ e d=.sh d:=by
 unfold jJ;split
 ·rw[h];rfl
 ·rfl
def Bp(X:Cx)(ρ:Rho)(e:Expr)(ds:List D):Prop:=∀ σ H Hs Q,Same Hs H->bC X.K Hs ρ σ->(∀ acc vs Hs' H',Ext Hs H Hs' H'->H acc=none->Hs' acc=none->H' acc=some (.lst vs)->aJ X.K Hs' ds vs->Q (.ref acc) H')->iz X e σ H Q
theorem tD{es:List Expr}{ds:List D}{pos:Pos}(h:EvA X ρ es ds)(hz:szl ds.length=true):Bp X ρ (.List es pos) ds:=fun σ H Hs Q hs hst hq =>
 (pZ bQ).sem (h σ H Hs _ hs hst fun vs H1 Hs1 E1 r1=>⟨by rw[<- r1.length];exact dR hz,fun p hp =>
  hq p vs Hs1 _ (Ext.acc E1 (E1.all.free hp) (E1.sub.free hp)) (E1.all.free hp) (E1.sub.free hp) aK r1⟩)
theorem gU{elt:Expr}{gens:List Comprehension}{pos:Pos}{n:Nat}(G:Good cx k X sc)(hN:X.N=ρ.map (·.1))(he:ev cx (n+1) sc ρ (.ListComp elt gens scope pos)=some d) :
    ∃ tg iter ifs l out, gens = [⟨tg, iter, ifs, 0⟩] /\ fu sc scope = true /\ EvI X ρ tg iter l /\ aA iter = true /\ szl l.length = true /\ cB (j5 cx n sc scope ρ tg elt ifs) l = some out /\ d = .lst out /\
      (∀ Xc,CompOf X scope Xc->∀ ρ1:Rho,Xc.N=ρ1.map (·.1)->∀ e d,ev cx n (kW scope sc) ρ1 e=some d->Ev Xc ρ1 e d/\∀ b,d=.bl b->EvT Xc ρ1 e b):=by
  simp only[ev] at he
  split at he
  · rename_i tg iter ifs a
    split at he
    · rename_i hok
      rw[G2z] at hok
      have ea:a=0:=by simpa using hok.1
      subst ea
      obtain⟨l,h1,he⟩:=aH he
      split at he
      · rename_i hz
        obtain⟨out,h2,he⟩:=aH he
        cases he
        obtain⟨hI,hp⟩:=qY (tg:=tg) G (fun e d h=>⟨(bR cx n G hN h).1,aO h⟩) h1
        exact⟨tg,iter,ifs,l,out,rfl,hok.2,hI,hp,hz,h2,rfl,fun Xc C ρ1 hN1 e d he=>bR cx n (G.comp C hok.2) hN1 he⟩
      · cases he
    · cases he
  · cases he
theorem wD{a b:Expr}{ds:List D}{j:Int}{pos:Pos}(ha:Ev X ρ a (.lst ds))(hb:Ev X ρ b (.int j))(h1:j<=1000)(h2:-1000<=j)(hz:szl (ds.length*j.toNat)=true):Bp X ρ (.BinOp a .Mult b pos) (List.replicate j.toNat ds).flatten:=fun σ H Hs Q hs hst hq=>by
 refine(fU qd ak ak).sem (ha σ H Hs _ hs hst fun u H1 Hs1 E1 r1=>hb σ H1 Hs1 _ E1.sub (hst.same E1.vis) fun v H2 Hs2 E2 r2=>?_);obtain⟨p,us,rfl,g1,g2⟩:=bF (Rep.same E2.vis _ _ r1);have l1:=g2.length;have E:=E1.trans E2;exact⟨p,_,us,rfl,aD r2,E2.sub.seq g1,by omega,by omega,by have:=dR hz;rw[<- l1];exact this,fun q hq'=>hq q _ Hs2 _ (Ext.acc E (E.all.free hq') (E.sub.free hq')) (E.all.free hq') (E.sub.free hq') aK (g2.rep _)⟩
theorem mj{x:Str}{ds:List D}{px pos:Pos}(G:GoodS cx k X sc)(hN:X.N=ρ.map (·.1))(hx:ownIn sc x=true)(hc:(ρ.map (·.1)).contains x=true)(hno:rR (frz F e ρ) x=true)
  (hrun:∀ (i:Nat),X.N[i]?=some x->∀ σ H Hs D,Same Hs H->bC X.K Hs (frz F e ρ) σ->(∀ acc vs Hs' H',Ext Hs H Hs' H'->H acc=none->Hs' acc=none->H' acc=some (.lst vs)->aJ X.K Hs' ds vs->D.nx (σ.set i (some (.ref acc))) H')->fG X (.Assign [.Name x px] e pos) D σ H) :
  Runs X Hs0 H0 ρ (.nxt (bV (frz F e ρ) x (.ow ds))) (fG X (.Assign [.Name x px] e pos)):=by
 intro σ H Hs D h _ hn hr;obtain⟨i,hi⟩:=bx hc;obtain⟨Hs1,sm1,h1⟩:=h.frozen F e
 have hnd:((frz F e ρ).map (·.1)).Nodup:=by rw[aG,<- hN];exact G.good.nd
 refine hrun i (by rw[hN];exact hi) σ H Hs1 D h1.ext.sub h1.sh fun acc vs Hs' H' E a1 a2 a3 r=>?_
 refine hn _ _ Hs' H' rfl (sm1.trans E.vis) (by rw[aF,aG];exact hN) ((h1.step E).own hnd (by rw[aG];exact hi) a3 r a2 (h1.ext.all.free a1) (qp hnd (by rw[aG];exact hi) hno) fun j y es hj q1 q2=>?_)
 obtain⟨b,us,k1,k2,_⟩:=h1.ow j y es q1;rw[k1] at q2;cases q2;rw[a1] at k2;cases k2
theorem pF{x:Str}{px pos:Pos}(G:GoodS cx k X sc)(hN:X.N=ρ.map (·.1))(hx:ownIn sc x=true)(hc:(ρ.map (·.1)).contains x=true)(hno:aR e=true->rR (frz F e ρ) x=true)(he:ev cx F sc (frz F e ρ) e=some d) :
  Runs X Hs0 H0 ρ (.nxt (bV (frz F e ρ) x (jJ e d))) (fG X (.Assign [.Name x px] e pos)):=by
 obtain⟨ox,of⟩:=G.own.own x hx
 have hN':X.N=(frz F e ρ).map (·.1):=by rw[aG];exact hN
 by_cases hfr:aR e=true
 ·cases F with
  | zero=>simp[ev] at he
  | succ F =>
   cases e with
   | List es p2 =>
    simp only[ev] at he;obtain⟨ds,h1,he⟩:=aH he;split at he
    ·rename_i hz
     cases he;have hA:=(cX (fun e _ d hd=>⟨(bR cx F G.good hN' hd).1,aO hd⟩) h1).1;refine mj G hN hx hc (hno rfl) fun i hi σ H Hs D hs hst hq=>?_;refine PS.sem (eH G.good.nd hi ox ak rfl of) (tD hA hz σ H Hs _ hs hst fun acc vs Hs' H' E a1 a2 a3 r=>hq acc vs Hs' H' E a1 a2 a3 r)
    ·cases he
   | ListComp elt gens scope p2 =>
    obtain⟨tg,iter,ifs,l,out,rfl,hok,hI,hp,hz,hgo,rfl,hE⟩:=gU G.good hN' he;obtain⟨ok1,ok2,ok3⟩:=bJ G.good hok;refine mj G hN hx hc (hno rfl) fun i hi σ H Hs D hs hst hq=>?_
    have rd:lg X scope (kZ X tg iter) (lH X.N scope.names) (fun Xc=>tZ Xc tg) (fun Xc=>lO Xc ifs) (fun Xc=>iz Xc elt) σ H (fun v H1=>D.nx (σ.set i (some v)) H1) :=
     gR G.good hN' hok hI hz hgo hE hs hst fun acc vs Hs' H' E a1 a2 a3 r=>hq acc vs Hs' H' E a1 a2 a3 r
    cases hsw:(X.env.blockKind==.function&&X.env.kindOf x==some .local&&px.line==p2.line && !(scope.names.any fun(n,k)=>n==x&&(k==.local||k==.cell))) with
    | true =>
     have e1:swapsWith (.ListComp elt [⟨tg,iter,ifs,0⟩] scope p2) (some (.Name x px)) pos.line X.env=pure true:=by rw[<- hsw];rfl
     rw[G2z,G2z,G2z] at hsw
     have hl:X.env.scope.names.lookup x=some .local:=by simpa[Env.kindOf] using hsw.1.1.2
     exact PS.sem (pP G.good.nd hi hl G.good.calm ok1 ok2 ok3 fM (fun Xc C=>⟨dU,cV,ak⟩) (bO hp) e1) rd
    | false =>
     have e1:swapsWith (.ListComp elt [⟨tg,iter,ifs,0⟩] scope p2) (some (.Name x px)) pos.line X.env=pure false:=by rw[<- hsw];rfl
     exact PS.sem (eH G.good.nd hi ox (gF G.good.calm ok1 ok2 ok3 fM (fun Xc C=>⟨dU,cV,ak⟩) (bO hp)) e1 of) rd
   | BinOp a op b p2 =>
    have hno':=hno hfr;simp only[aR,G2z] at hfr;obtain⟨q1,q2⟩:=hfr
    cases op<;>simp[Kh] at q2
    cases a with
    | List es p3 =>
     simp only[ev] at he;obtain⟨dx,h1,he⟩:=aH he;obtain⟨dy,h2,he⟩:=aH he
     have hl:∃ ds0,dx=.lst ds0:=by
      cases F with
      | zero=>simp[ev] at h1
      | succ F =>
       simp only[ev] at h1;obtain⟨ds0,_,h1⟩:=aH h1;split at h1
       ·cases h1;exact⟨_,rfl⟩
       ·cases h1
     obtain⟨ds0,rfl⟩:=hl
     cases dy with
     | int j =>
      simp only[binop] at he;split at he
      ·rename_i hz
       cases he;rw[G2z,G2z,Y1z,Y1z] at hz;have e1:=(bR cx F G.good hN' h1).1;have e2:=(bR cx F G.good hN' h2).1;refine mj G hN hx hc hno' fun i hi σ H Hs D hs hst hq=>?_;refine PS.sem (eH G.good.nd hi ox ak rfl of) (wD e1 e2 hz.1.1 hz.1.2 hz.2 σ H Hs _ hs hst fun acc vs Hs' H' E a1 a2 a3 r=>hq acc vs Hs' H' E a1 a2 a3 r)
      ·cases he
     | _=>simp[binop] at he
    | _=>exact absurd (show false=true from q1) L1z
   | _=>simp[aR] at hfr
 ·have hfr':aR e=false:=by simpa using hfr
  rw[sJ hfr'];intro σ H Hs D h _ hn hr;obtain⟨i,hi⟩:=bx hc
  have hsw:=cR (t:=some (.Name x px)) (l:=pos.line) (env:=X.env) he fun a b c p q=>by rw[q] at hfr';cases hfr'
  refine PS.sem (eH (i:=i) G.good.nd (by rw[hN];exact hi) ox ak hsw of) (ug G hN he h fun v Hs' H' sm h' r=>?_)
  exact hn _ _ Hs' H' rfl sm (by rw[aF];exact hN') (h'.set (by rw[<- hN'];exact G.good.nd) (by rw[aG];exact hi) r)
theorem oO{es:List Expr}{l:List D}{ρ':Rho}{σ:St}{v:V}{Hs H:Hp}{P:Rho->St->Prop}{Q:St->Hp->Prop}{kt:Nat}{pos:Pos}(G:GoodS cx k X sc)(hs:Same Hs H)(hN:X.N=ρ.map (·.1))(KE:iM X.K Hs sc P)(hl:items d=some l)(hb:bindNames sc es l ρ=some ρ')(hp:P ρ σ)(rd:Rep X.K Hs d v)
  (hq:∀ σ',X.N=ρ'.map (·.1)->P ρ' σ'->Q σ' H):tZ X (.Tuple es kt pos) v σ H Q:=by
 obtain⟨e1,e2,e3⟩:=dF (env:=X.env) hb
 cases d with
 | tup xs =>
  simp only[items,Z1z] at hl;subst hl
  obtain⟨a,vs,rfl,h1,h2⟩:=bf rd;exact PG.sem (uT G.good.calm iY e1 e2) ⟨a,vs,rfl,hs.tup h1,by rw[<- h2.length,e3],dI G.own G.good.nd KE hN hb hp h2 hq⟩
 | lst xs =>
  simp only[items,Z1z] at hl;subst hl
  obtain⟨a,vs,rfl,h1,h2⟩:=bF rd;exact PG.sem (zF G.good.calm iY e1 e2) ⟨a,vs,rfl,hs.seq h1,by rw[<- h2.length,e3],dI G.own G.good.nd KE hN hb hp h2 hq⟩
 | _=>simp[items] at hl
theorem mK{n:Nat}(h:nc0 e=true):foldedForSure n e=false/\constantsAlone n e=false:=by
 cases e<;>simp[nc0] at h<;>(constructor<;>simp[foldedForSure,constantsAlone,h])
theorem zW{n:Nat}(h:nc1 e=true):constantsAlone (n+1) e=false:=by
 unfold nc1 at h;split at h
 ·simp[constantsAlone,(mK (n:=n) h).2]
 ·exact(mK h).2
theorem tK(h:nc e=true):foldedForSure 8 e=false/\constantsAlone 8 e=false:=by
 unfold nc at h;split at h
 ·rw[V2z] at h
  refine⟨by simp[foldedForSure],?_⟩
  rcases h with h | h<;>simp[constantsAlone,(mK (n:=7) h).2]
 ·rw[V2z] at h
  refine⟨by simp[foldedForSure],?_⟩
  rcases h with h | h<;>simp[constantsAlone,(zW (n:=6) h)]
 ·exact mK h
theorem jB(G:Good cx k X sc):X.env.blockKind=.function:=by
 unfold Env.blockKind;rw[G.sce,G.kind];rfl
theorem yU{es:List Expr}{kt:Nat}{pt:Pos}(G:Good cx k X sc)(h:swp sc es e=some false):swappedStores [.Tuple es kt pt] e X.env=pure none:=by
 cases e with
 | Tuple vs k2 p2 =>
  simp only[swp] at h;split at h
  ·rename_i x px y py a b
   split at h
   ·split at h
    ·cases h
    ·split at h
     ·rename_i hcs
      rw[G2z] at hcs
      have f1:foldedForSure 8 a=true:=by cases a<;>first | rfl | (simp[tY] at hcs)
      have f2:foldedForSure 8 b=true:=by cases b<;>first | rfl | (simp[tY] at hcs)
      have al1:[a,b].all (foldedForSure 8)=true:=by simp[f1,f2]
      unfold swappedStores;simp only[al1,D4z]
      repeat' split
      all_goals rfl
     ·cases h
   ·rename_i hl
    have hl':¬ ((X.env.kindOf x==some .local)=true/\(X.env.kindOf y==some .local)=true):=by
     intro q;apply hl;rw[G2z];unfold Env.kindOf at q;rw[G.sce] at q;exact q
    unfold swappedStores
    cases h1:X.env.kindOf x==some .local<;>cases h2:X.env.kindOf y==some .local
    all_goals simp only[h1,h2] at hl'
    all_goals simp[h1,h2,jB G]
    ·intro _ _ hlen
     exfalso
     have n1:¬ X.env.kindOf x=some .local:=by simpa using h1
     have n2:¬ X.env.kindOf y=some .local:=by simpa using h2
     simp[X0z,n1,n2] at hlen
    ·intro _ _ hlen
     exfalso
     have n1:¬ X.env.kindOf x=some .local:=by simpa using h1
     simp only[X0z,List.filterMap_nil,n1,false_and,B4z] at hlen
     split at hlen<;>simp at hlen
    ·intro _ _ hlen
     exfalso
     have n1:¬ X.env.kindOf y=some .local:=by simpa using h2
     simp only[X0z,List.filterMap_nil,n1,false_and,B4z] at hlen
     split at hlen<;>simp at hlen
    ·exact absurd ⟨trivial,trivial⟩ hl'
  ·rename_i x px y py z pz a b c
   split at h
   ·rename_i hl
    simp only[G2z] at hl;obtain⟨⟨l1,l2⟩,l3⟩:=hl
    have kd:∀ {v:Str},(sc.names.lookup v==some NameKind.cell)=true->¬ X.env.kindOf v=some .local:=fun {v} hv q=>by
     unfold Env.kindOf at q;rw[G.sce,eq_of_beq hv] at q;cases q
    have n1:=kd l1;have n2:=kd l2;have n3:=kd l3;unfold swappedStores
    have b1:(X.env.kindOf x==some NameKind.local)=false:=by simpa using n1
    have b2:(X.env.kindOf y==some NameKind.local)=false:=by simpa using n2
    have b3:(X.env.kindOf z==some NameKind.local)=false:=by simpa using n3
    simp[jB G,X0z,b1,b2,b3,n1,n2,n3]
   ·cases h
  ·cases h
 | _=>rfl
theorem vJ{es:List Expr}{kt:Nat}{pt:Pos}(G:Good cx k X sc)(h:swp sc es e=some true):∃ x px y py a b k2 p2,es=[.Name x px,.Name y py]/\e=.Tuple [a,b] k2 p2/\X.env.scope.names.lookup x=some .local/\X.env.scope.names.lookup y=some .local/\x≠y/\aA a=true/\aA b=true /\
    swappedStores [.Tuple es kt pt] e X.env=pure (some [x,y]):=by
  cases e with
  | Tuple vs k2 p2 =>
    simp only[swp] at h
    split at h
    · rename_i x px y py a b
      split at h
      · rename_i hl
        split at h
        · rename_i hq
          rw[G2z] at hl
          rw[G2z,G2z,G2z,G2z,V2z] at hq
          obtain⟨⟨⟨⟨q1,q2⟩,q3⟩,q4⟩,q5⟩:=hq
          have l1:X.env.kindOf x=some .local:=by unfold Env.kindOf;rw[G.sce];simpa using hl.1
          have l2:X.env.kindOf y=some .local:=by unfold Env.kindOf;rw[G.sce];simpa using hl.2
          have hxy:x≠y:=by simpa using q2
          have hpl : py.line = px.line := by have : px.line = py.line := by simpa using q1
                                             exact this.symm
          have f1:(foldedForSure 8 a&&foldedForSure 8 b)=false:=by
            rcases q3 with q | q
            · rw[(tK q).1];rfl
            · rw[(tK q).1,A3z]
          have f2:(constantsAlone 8 a&&constantsAlone 8 b)=false:=by
            rcases q3 with q | q
            · rw[(tK q).2];rfl
            · rw[(tK q).2,A3z]
          refine⟨x,px,y,py,a,b,k2,p2,rfl,rfl,l1,l2,hxy,q4,q5,?_⟩
          unfold swappedStores
          have ed:([x,y]:List Str).eraseDups.length=2:=by
            have:(y==x)=false:=by simpa using hxy.symm
            simp[List.eraseDups_cons,this]
          have al1:[a,b].all (foldedForSure 8)=false:=by simpa using f1
          have al2:[a,b].all (constantsAlone 8)=false:=by simpa using f2
          simp only[al1,al2,jB G]
          generalize hst:[a,b].any _=sb
          have hsb:sb=false:=by
            rw[<- hst,F3z,F3z,List.any_nil,Bool.or_false,Bool.or_eq_false_iff]
            clear hst f1 f2 al1 al2 q3
            refine⟨?_,?_⟩
            · cases a<;>first | rfl | (simp[aA] at q4)
            · cases b<;>first | rfl | (simp[aA] at q5)
          generalize hf:List.filterMap _ [Expr.Name x px,Expr.Name y py]=nm
          have hnm:nm=[x,y]:=by
            rw[<- hf]
            simp[X0z,l1,l2,hpl,Expr.pos]
          rw[hsb,hnm]
          simp only[ed]
          rfl
        · split at h<;>cases h
      · cases h
    · split at h<;>cases h
    · cases h
  | _=>simp[swp] at h
end
def XOk(X:Cx)(σ:St)(E:XK):Prop:=∀ z0 H s e s',Inv X z0 σ H s->CX1 X.prog X.w X.stack H s E e s'->X.xe e s'
def rO(X:Cx)(σ:St)(E:XK):Prop:=∀ z0 H s (C e:Addr) h' args,Inv X z0 σ H s->Heap.MadeExcOf s.heap h' e (.ref C) args->E (.ref C) none H->X.xe (.ref e) { s with heap:=h' }
def EX(X:Cx)(c:Str)(Hs H:Hp)(E:XK):Prop:=∀ C H' Hs',PySem.W.nsIn X.K mainGlobals c=some (some (.ref C))->Ext Hs H Hs' H'->E (.ref C) none H'
theorem EX.step{X:Cx}{c:Str}{Hs H Hs1 H1:Hp}{E:XK}(h:EX X c Hs H E)(e:Ext Hs H Hs1 H1):EX X c Hs1 H1 E:=fun C H' Hs' hn e'=>h C H' Hs' hn (e.trans e')
def EvX(X:Cx)(ρ:Rho)(e:Expr)(c:Str):Prop:=∀ σ H Hs E,Same Hs H->bC X.K Hs ρ σ->EX X c Hs H E->XOk X σ E->∀ Q,iz X e σ H Q
def Kv(X:Cx)(ρ:Rho)(es:List Expr)(c:Str):Prop:=∀ σ H Hs E,Same Hs H->bC X.K Hs ρ σ->EX X c Hs H E->XOk X σ E->∀ Q,pC X es σ H Q
section
variable {X:Cx} {ρ:Rho} {cx:Cxt} {k:Nat} {sc scope:Scope}
theorem pK{f:Addr}{fd:FuncData}{ps:List Str}{sp:Sp}{E:XK}{z0:List (Addr×Obj)}{σ:St}{H:Hp}{s:Shared}{Q:VK}{us:List Value}{vs:List V}(F:FnOk X.prog X.w X.K X.mg X.base (CX1 X.prog X.w) k f fd ps sp)(hr:Room k X.A)(hb:Binds X.K fd ps [])(hx:XOk X σ E)
  (I:Inv X z0 σ H s) (r:Vals vs us) (h:sp vs H Q E):wpAny (model X.prog X.w) X.A (call (.ref f) us) (EP X z0 σ Q) X.xe s:=by
 have hl:(us++([]:List Value)).length=ps.length:=by rw[N2z,<- r.length];exact F.len _ _ _ _ h
 have hb':=hb s us I.kIn hl;rw[N2z] at hb';refine wpAny_call (M3z (F.run X.A X.stack s H ⟨us,[]⟩ us vs Q E hr I.env0 hb' r h) fun r s' hq=>?_)
 cases r with
 | error e=>exact hx z0 H s e s' I hq
 | ok fl =>
  cases fl with
  | ret u=>exact I.after hq
  | next=>exact False.elim hq
  | brk=>exact False.elim hq
  | cont=>exact False.elim hq
theorem vq{f:Expr->Option D}{g:Expr->Option Str}{c:Str}(hf:∀ e d,f e=some d->Ev X ρ e d)(hg:∀ e c,g e=some c->EvX X ρ e c):∀ {es:List Expr},(∀ e∈es,aA e=true)->rN f g es=some c->Kv X ρ es c
 | [],_,h=>by simp[rN] at h
 | e::es,hp,h=>by
  simp only[rN] at h;intro σ H Hs E hs hst hE hx Q;refine(aP ak bQ (aj (hp e (by simp)))).sem ?_
  cases he:f e with
  | some d =>
   rw[he] at h;exact hf e d he σ H Hs _ hs hst fun v H1 Hs1 E1 _=>vq hf hg (fun e' h'=>hp e' (S0z _ h')) h σ H1 Hs1 E E1.sub (hst.same E1.vis) (hE.step E1) hx _
  | none =>
   rw[he] at h;exact hg e c h σ H Hs E hs hst hE hx _
theorem uh{f:Str}{es:List Expr}{c:Str}{p pos:Pos}(G:Good cx k X sc)(hg:Gl X f)(hf:cx.fns.contains f=true)(hne:es≠[])(hp:∀ e∈es,aA e=true)(h:Kv X ρ es c\/∃ ds,EvA X ρ es ds/\cx.callx f ds=some c) :
  EvX X ρ (.Call (.Name f p) es [] pos) c:=by
 obtain⟨hdb,a,fd,ps,_,har,hm,hk,hb,F⟩:=G.fns f hf
 cases es with
 | nil=>exact absurd rfl hne
 | cons e es =>
  intro σ H Hs E hs hst hE hx Q z0 s I;refine I1z (dY I hg hm ?_ hdb);refine J1z (h₀:=X.base) I.ok.mod.kin hk ?_ (aj (hp e (by simp))) (dh fun e' he=>hp e' (S0z _ he));rcases h with h | ⟨ds,hA,hc⟩
  ·exact thn (h σ H Hs E hs hst hE hx (fun _ _=>False) pos z0 s I) fun us s1 ⟨vs,H1,I1,r,q⟩=>q.elim
  ·refine thn (hA σ H Hs (fun vs H1=>∃ Hs1,Ext Hs H Hs1 H1/\aJ X.K Hs1 ds vs) hs hst (fun vs H1 Hs1 E1 r1=>⟨Hs1,E1,r1⟩) pos z0 s I) fun us s1 ⟨vs,H1,I1,r,Hs1,E1,r1⟩=>⟨I1.kIn,?_⟩
   exact pK F G.room hb hx I1 r ⟨by rw[<- r1.length,har ds c hc],Hs1,ds,E1.sub,r1,.inr ⟨c,hc,hE.step E1⟩⟩
theorem xT{x:Str}{a:Expr}{k':Keyword}{c:Str}{p pos:Pos}(G:Good cx k X sc)(hx:aU cx sc x=some "max")(hk:(HJ k').isSome=true)(h:EvX X ρ a c)(hp:aA a=true):EvX X ρ (.Call (.Name x p) [a] [k'] pos) c:=by
 obtain⟨hg,hm,rfl⟩:=aX G hx;obtain⟨ka,kv,kp⟩:=k';obtain⟨i,hi⟩:=Option.isSome_iff_exists.mp hk;unfold HJ at hi;split at hi
 ·rename_i q
  have e:ka=some "default":=by simpa using q
  subst e;intro σ H Hs E hs hst hE hx Q z0 s I;have he:starEach [a] X.env=(false,eval a X.env)::starEach [] X.env:=aj hp
  have hbt:backTo pos (starEach [a] X.env)=(false,eval a X.env)::backTo pos (starEach [] X.env):=by rw[he];rfl
  refine I1z (cY (u:=.builtin "max") I hg hm (by decide +kernel) ?_ (by decide) (by decide));refine PyProof.Rows.callWith_kw ?_ hbt (by rw[hbt];rfl) rfl rfl;exact thn (aP ak bw he pos z0 s σ H (fun _ _=>False) I (h σ H Hs E hs hst hE hx _)) fun us s1 ⟨vs,H1,I1,r,q⟩=>q.elim
 ·cases hi
theorem eY(cx:Cxt):∀ (n:Nat) {k:Nat} {X:Cx} {sc:Scope} {ρ:Rho} {e:Expr} {c:Str},Good cx k X sc->X.N=ρ.map (·.1)->evx cx n sc ρ e=some c->EvX X ρ e c
 | 0,k,X,sc,ρ,e,c,_,_,h=>by exact nomatch (show(Option.none:Option Str)=some c from h)
 | n+1,k,X,sc,ρ,e,c,G,hN,h=>by
  have ih:∀ e d,ev cx n sc ρ e=some d->Ev X ρ e d/\∀ b,d=.bl b->EvT X ρ e b:=fun e d h=>bR cx n G hN h;simp only[evx] at h;split at h
  ·rename_i x p args pos
   split at h
   ·rename_i hc
    simp only[G2z] at hc;obtain⟨⟨⟨hgl,hne⟩,hpl⟩,hfn⟩:=hc
    have hg:Gl X x:=by
     have e:sc.names.lookup x=some .globalImplicit:=by unfold lN at hgl;simpa using hgl
     show X.env.scope.names.lookup x=_;rw[G.sce,e]
    have hp:∀ e∈args,aA e=true:=fun e he=>List.all_eq_true.mp hpl e he;refine uh G hg hfn (fun q=>by rw[q] at hne;exact absurd hne (by decide)) hp ?_;split at h
    ·rename_i ds hds
     exact .inr ⟨ds,(cX (fun e _ d hd=>⟨(ih e d hd).1,aO hd⟩) hds).1,h⟩
    ·exact .inl (vq (fun e d h=>(ih e d h).1) (fun e c h=>eY cx n G hN h) hp h)
   ·cases h
  ·simp at h
  ·rename_i x p a k' pos
   split at h
   ·rename_i hc
    simp only[G2z] at hc;obtain⟨⟨h1,h2⟩,h3⟩:=hc;exact xT G (by simpa using h1) h2 (eY cx n G hN h) h3
   ·cases h
  ·rename_i cc a b pos
   split at h
   ·rename_i hc
    have hc':=(ih _ _ (cJ hc)).2 _ rfl;have ha:=eY cx n G hN h;intro σ H Hs E hs hst hE hx Q;exact(iZ cg ak ak).sem (hc' σ H Hs _ hs hst fun H1 Hs1 E1=>mV (ha σ H1 Hs1 E E1.sub (hst.same E1.vis) (hE.step E1) hx Q))
   ·rename_i hc
    have hc':=(ih _ _ (cJ hc)).2 _ rfl;have ha:=eY cx n G hN h;intro σ H Hs E hs hst hE hx Q;exact(iZ cg ak ak).sem (hc' σ H Hs _ hs hst fun H1 Hs1 E1=>oh (ha σ H1 Hs1 E E1.sub (hst.same E1.vis) (hE.step E1) hx Q))
   ·cases h
  ·rename_i a op b pos
   split at h
   ·rename_i hp
    have ha:=eY cx n G hN h;intro σ H Hs E hs hst hE hx Q;exact(lD (gG G.room op) ak ak (bZ hp)).sem (ha σ H Hs E hs hst hE hx _)
   ·cases h
  ·rename_i elt tg iter ifs a scope pos
   split at h
   ·rename_i hc
    simp only[G2z] at hc;obtain⟨⟨ha,hok⟩,hp⟩:=hc
    have ea:a=0:=by simpa using ha
    subst ea;obtain⟨ok1,ok2,ok3⟩:=bJ G hok;have hi:=eY cx n G hN h;intro σ H Hs E hs hst hE hx Q;refine PE.sem (gF G.calm ok1 ok2 ok3 fM (fun Xc C=>⟨dU,cV,ak⟩) (bO hp)) ?_;intro z0 s I;exact thn (hi σ H Hs E hs hst hE hx (fun _ _=>False) z0 s I) fun v s1 ⟨_,_,_,_,q⟩=>q.elim
   ·cases h
  ·cases h
end
section
variable {X:Cx} {ρ:Rho} {cx:Cxt} {k F:Nat} {sc scope:Scope} {Hs0 H0:Hp} {e:Expr} {d:D}
theorem wY{y:Expr}(h:Bk cx sc y=true):uI cx sc "list" [y]=.al/\aA y=true:=by
 unfold Bk at h;split at h
 ·exact⟨rfl,rfl⟩
 ·rename_i f p1 as p2
  rw[G2z] at h
  have hb:aU cx sc f=none:=by
   unfold aU;rw[E4z h.1]
   cases q:cx.blt.lookup f with
   | none=>rfl
   | some z=>rw[q] at h;exact absurd h.2 (by simp)
  refine⟨?_,rfl⟩;simp only[uI,vB,hb];rfl
 ·cases h
theorem qu{n:Nat}{lnm:Str}{y:Expr}{p1 p3:Pos}{v:D}(h:ev cx n sc ρ (.Call (.Name lnm p1) [y] [] p3)=some v)(hb:aU cx sc lnm=some "list")(hw:uI cx sc "list" [y]=.al):∃ m d es,ev cx m sc ρ y=some d/\items d=some es/\v=.lst es:=by
 cases n with
 | zero=>exact nomatch (show(Option.none:Option D)=some v from h)
 | succ n =>
  unfold aU at hb;split at hb
  ·rename_i hg
   have h':(match uI cx sc "list" [y] with
    | .lr1 a=>do let j <- (ev cx n sc ρ a).bind asI;if cL j&&szl j.toNat then some (.lst (bK 0 j)) else none
    | .lr2 a a'=>do let i <- (ev cx n sc ρ a).bind asI;let j <- (ev cx n sc ρ a').bind asI;if cL i&&cL j&&szl (j-i).toNat then some (.lst (bK i j)) else none
    | .tr1 a=>if true then none else none
    | .tv a=>if true then none else none
    | .ls a=>if true then none else none
    | .al=>do let ds <- iD (ev cx n sc ρ) [y];DE.blt "list" ds)=some v:=by
    rw[<- h];simp only[ev,hg,D4z,hb];rfl
   rw[hw] at h';obtain⟨ds,h1,h2⟩:=aH h';simp only[iD] at h1;obtain⟨d',g1,g2⟩:=aH h1;obtain⟨_,g3,g4⟩:=aH g2;cases g3;cases g4;obtain⟨es,g5,g6⟩:=aH (show(items d' >>=fun l=>some (D.lst l))=some v from h2);cases g6;exact⟨n,d',es,g1,g5,rfl⟩
  ·cases hb
theorem uW{n:Nat}{es:List D}(G:Good cx k X sc)(hN:X.N=ρ.map (·.1))(ho:Bh cx sc e=true)(he:ev cx n sc ρ e=some (.lst es)):Bp X ρ e es:=by
 unfold Bh at ho;split at ho
 ·rename_i lnm p1 y p3
  simp only[G2z] at ho;obtain⟨q2,q3⟩:=ho
  have hb:aU cx sc lnm=some "list":=by simpa using q2
  obtain⟨hw,hpl⟩:=wY q3;obtain⟨m,d',es',g1,g2,g3⟩:=qu he hb hw;cases g3;obtain⟨hg,hm,rfl⟩:=aX G hb;intro σ H Hs Q hs hst hq;refine(eO (fP (X:=X)) hg hm (by decide +kernel) (aP ak bw (aj hpl)) (by decide) (by decide) (aj hpl) rfl).sem ?_;refine(bR cx m G hN g1).1 σ H Hs _ hs hst fun v H7 Hs7 E7 r7=>?_;obtain⟨q,us,rfl,k1,k2⟩:=gw r7 g2;exact⟨q,us,rfl,k1.imp E7.sub.seq E7.sub.tup,fun b hb7=>hq b us Hs7 _ (Ext.acc E7 (E7.all.free hb7) (E7.sub.free hb7)) (E7.all.free hb7) (E7.sub.free hb7) aK k2⟩
 ·cases n with
  | zero=>exact nomatch (show(Option.none:Option D)=some _ from he)
  | succ n =>
   obtain⟨tg,iter,ifs,l,out,rfl,hok,hI,hp,hz,hgo,e1,hE⟩:=gU G hN he;cases e1;obtain⟨ok1,ok2,ok3⟩:=bJ G hok;intro σ H Hs Q hs hst hq;exact(gF G.calm ok1 ok2 ok3 fM (fun Xc C=>⟨dU,cV,ak⟩) (bO hp)).sem (gR G hN hok hI hz hgo hE hs hst hq)
 ·cases ho
theorem yp{tg iter elt:Expr}{l:List D}{dss:List (List D)}(G:Good cx k X sc)(hN:X.N=ρ.map (·.1))(hok:fu sc scope=true)(hI:EvI X ρ tg iter l)(hz:szl l.length=true)(hlen:dss.length=l.length)
  (hs1:∀ Xc,CompOf X scope Xc->∀ (i:Nat) d,l[i]?=some d->∃ ρ1 es,fL scope tg d (bB scope ρ)=some ρ1/\dss[i]?=some es/\(Xc.N=ρ1.map (·.1)->Bp Xc ρ1 elt es))
  {σ:St} {H Hs:Hp} {Q:VK} (hs:Same Hs H) (hst:bC X.K Hs ρ σ) (hq:∀ a bs Hs' H',Ext Hs H Hs' H'->OO X.K H Hs' H' a bs dss->Q (.ref a) H') :
  lg X scope (kZ X tg iter) (lH X.N scope.names) (fun Xc=>tZ Xc tg) (fun Xc=>lO Xc []) (fun Xc=>iz Xc elt) σ H Q:=by
 obtain⟨ok1,ok2,ok3⟩:=bJ G hok;refine hI σ H Hs _ hs hst fun J H1 Hs1 E1 hJ acc hacc Xc C=>?_;have GC:=G.comp C hok;have OC:=Owns.comp (scope:=scope) G C
 have hNc:∀ ρ1:Rho,ρ1.map (·.1)=scope.names.map (·.1)->Xc.N=ρ1.map (·.1):=fun ρ1 h=>by rw[C.N,h]
 have a1:Hs1 acc=none:=E1.sub.free hacc;have a0:H acc=none:=E1.all.free hacc
 let W:Nat->Nat->St->Hp->Prop:=fun i m σc H3=>m=l.length-i/\i<=l.length/\∃ Hs3 bs,Ext Hs1 H1 Hs3 H3/\OO X.K H Hs3 H3 acc bs (dss.take i)/\σc.length=scope.names.length/\bC X.K Hs3 (bB scope ρ) σc
 refine⟨W,⟨l.length,rfl,Q3z _,Hs1,[],Ext.acc (.refl E1.sub) hacc a1,⟨aK,a1,a0,.nil,by simp,by simp,fun j b e=>by simp at e⟩,by simp[lH],gW hN (hst.same E1.vis)⟩,?_⟩;rintro i m σc H3 ⟨rfl,hi,Hs3,bs,E3,o3,l3,s3⟩;obtain⟨st3,go3⟩:=hJ Hs3 H3 E3.vis E3.sub
 by_cases hlt:i<l.length
 ·have hd:l[i]?=some l[i]:=List.getElem?_eq_getElem hlt
  obtain⟨gi,yi⟩:=go3 i l[i] hd;refine .inr ⟨gi,fun σ' H'=>W (i+1) (l.length-(i+1)) σ' H',fun σ' H' w=>⟨_,by omega,w⟩,fun x H4 y4=>?_⟩;obtain⟨Hs4,E4,rx⟩:=yi x H4 y4;obtain⟨ρ1,es,k1,k4,kO⟩:=hs1 Xc C i l[i] hd;have s4:bC X.K Hs4 (bB scope ρ) σc:=s3.same E4.vis;have KE:=iI (K:=Xc.K) (Hs:=Hs4) (ρ:=ρ) (n:=scope.names.length) ok2 rfl;refine lV (X:=Xc) (scope:=scope) (Hs:=Hs4) GC.calm OC GC.nd E4.sub (hNc _ bW) KE k1 ⟨bW,l3,by rw[C.K];exact s4,by rw[C.K];exact s4⟩ (by rw[C.K];exact rx) fun σ5 hN5 p5=>?_;obtain⟨_,l5,s5,s5'⟩:=p5;refine vf (f:=fun _=>none) (ifs:=[]) (b:=true) (fun _ _ h=>nomatch h) rfl E4.sub s5 fun H6 Hs6 E6=>mV ?_;have E46:=E4.trans E6;have o6:=o3.step E46;have E16:Ext Hs1 H1 Hs6 H6:=E3.trans E46;refine kO hN5 σ5 H6 Hs6 _ E6.sub (s5.same E6.vis) fun b us Hs7 H7 E7 hb6 hbs hb7 g2=>?_;have o7:=o6.step E7;have E17:Ext Hs1 H1 Hs7 H7:=E16.trans E7
  have ne:acc≠b:=fun w=>by have:=o6.1;rw[w,hb6] at this;cases this
  refine⟨bs.map V.ref,o7.1,?_,rfl,hlt,Hs7,bs++[b],?_,?_,l5,?_⟩
  ·have:=jG hz
   have:=o7.2.2.2.2.2.1;rw[P2z,this,C2z];omega
  ·exact Ext.acc E17 hacc o7.2.1
  ·have b0:H b=none:=E1.all.free (E16.all.free hb6)
   have ln:=o7.2.2.2.2.2.1
   have old:∀ (j:Nat) b',bs[j]?=some b'->b'≠b/\b'≠acc:=fun j b' e=>by
    obtain⟨_,_,_,_,_,m4,_⟩:=o6.2.2.2.2.2.2 j b' e;refine⟨fun w=>?_,fun w=>o6.2.2.2.2.1 (by rw[<- w];exact List.mem_of_getElem? e)⟩;rw[w,hb6] at m4;cases m4
   refine⟨by rw[aK,List.map_append];rfl,o7.2.1,o7.2.2.1,?_,?_,?_,fun j b' e=>?_⟩
   ·rw[List.nodup_append]
    refine⟨o7.2.2.2.1,by simp,fun x' hx' y' hy'=>?_⟩;obtain⟨j,e⟩:=List.mem_iff_getElem?.mp hx';rw[List.mem_singleton.mp hy'];exact(old j x' e).1
   ·rw[List.mem_append,not_or]
    exact⟨o7.2.2.2.2.1,by simpa using ne⟩
   ·rw[K1z,ln,C2z,C2z,List.length_singleton]
    omega
   ·by_cases hj:j<bs.length
    ·rw[List.getElem?_append_left hj] at e
     obtain⟨m1,m2,ds,ws,m3,m4,m5⟩:=o7.2.2.2.2.2.2 j b' e;obtain⟨n1,n2⟩:=old j b' e;refine⟨m1,m2,ds,ws,?_,by rw[aq n2];exact m4,m5⟩;rw[ln,C2z] at hj;rw[List.getElem?_take] at m3 ⊢;rw[E4z (by omega)] at m3 ⊢;exact m3
    ·rw[List.getElem?_append_right (by omega)] at e
     have ej:j-bs.length=0:=by
      rcases Nat.eq_zero_or_pos (j-bs.length) with z | z
      ·exact z
      ·rw[List.getElem?_eq_none (by simp;omega)] at e;cases e
     rw[ej] at e
     have eb:b=b':=by simpa using e
     subst eb
     have jl:j=i:=by
      rw[ln,C2z] at hj ej;omega
     subst jl;refine⟨hbs,b0,es,us,?_,by rw[aq (C4z ne)];exact hb7,by rw[<- C.K];exact g2⟩;rw[List.getElem?_take,E4z (by omega)];exact k4
  ·rw[<- C.K]
   exact s5'.same (E6.trans E7).vis
 ·have hi':i=l.length:=by omega
  subst hi';refine .inl ⟨st3,hq acc bs Hs3 H3 (E1.trans E3) ?_⟩;rw[<- hlen,List.take_length] at o3;exact o3
theorem OO.low{K:Zf}{H0 H1 Hs H:Hp}{a:Addr}{bs:List Addr}{dss:List (List D)}(h:OO K H1 Hs H a bs dss)(q:∀ b,H1 b=none->H0 b=none):OO K H0 Hs H a bs dss:=by
 obtain⟨h1,h2,h3,h4,h5,h6,h7⟩:=h;refine⟨h1,h2,q _ h3,h4,h5,h6,fun j b e=>?_⟩;obtain⟨k1,k2,k3⟩:=h7 j b e;exact⟨k1,q _ k2,k3⟩
theorem mR:∀ {ds:List D} {dss:List (List D)},yE ds=some dss->dss.length=ds.length/\∀ (i:Nat) d,ds[i]?=some d->∃ es,d=.lst es/\dss[i]?=some es
 | [],dss,h=>by cases h;exact⟨rfl,fun i d e=>by simp at e⟩
 | d::ds,dss,h=>by
  cases d with
  | lst es =>
   simp only[yE,P0z] at h;obtain⟨r,h1,rfl⟩:=h;obtain⟨g1,g2⟩:=mR h1;refine⟨by simp[g1],fun i d e=>?_⟩
   cases i with
   | zero=>simp at e;subst e;exact⟨es,rfl,rfl⟩
   | succ i=>exact g2 i d (by simpa using e)
  | _=>simp[yE] at h
theorem iK{f:D->Option (Option D)}:∀ {l out:List D},(∀ d∈l,f d≠some none)->cB f l=some out->out.length=l.length/\∀ (i:Nat) d,l[i]?=some d->∃ v,f d=some (some v)/\out[i]?=some v
 | [],out,_,h=>by cases h;exact⟨rfl,fun i d e=>by simp at e⟩
 | d::l,out,hn,h=>by
  rcases gY h with⟨v,o',f1,f2,rfl⟩ | ⟨f1,_⟩
  ·obtain⟨g1,g2⟩:=iK (fun d hd=>hn d (S0z _ hd)) f2
   refine⟨by simp[g1],fun i d e=>?_⟩
   cases i with
   | zero=>simp at e;subst e;exact⟨v,f1,rfl⟩
   | succ i=>exact g2 i d (by simpa using e)
  ·exact absurd f1 (hn d F1z)
theorem BR{x:Str}{px pos:Pos}{dss:List (List D)}(G:GoodS cx k X sc)(hN:X.N=ρ.map (·.1))(hx:ownIn sc x=true)(hc:(ρ.map (·.1)).contains x=true)(hoo:ooE cx sc e=true)(hon:tH (frz F e ρ) x=true)(he:ev cx F sc (frz F e ρ) e=some d)(hd:zX d=some dss) :
  Runs X Hs0 H0 ρ (.nxt (bV (frz F e ρ) x (.oo dss))) (fG X (.Assign [.Name x px] e pos)):=by
 obtain⟨ox,of⟩:=G.own.own x hx
 have hN':X.N=(frz F e ρ).map (·.1):=by rw[aG];exact hN
 unfold ooE at hoo;split at hoo
 ·rename_i elt y' pt iter a0 scope p4
  cases F with
  | zero=>exact nomatch (show(Option.none:Option D)=some d from he)
  | succ F =>
   obtain⟨tg,iter',ifs,l,out,hg,hok,hI,hp,hz,hgo,rfl,hE⟩:=gU G.good hN' he;cases hg;obtain⟨ok1,ok2,ok3⟩:=bJ G.good hok;intro σ H Hs D h _ hn hr;obtain⟨i,hi⟩:=bx hc;obtain⟨Hs1,sm1,h1⟩:=h.frozen (F+1) (.ListComp elt [⟨.Name y' pt,iter,[],0⟩] scope p4);generalize hρ:frz (F+1) (.ListComp elt [⟨.Name y' pt,iter,[],0⟩] scope p4) ρ=ρ' at *
   have nm:ρ'.map (·.1)=ρ.map (·.1):=by rw[<- hρ,aG]
   have hf:∀ d o,j5 cx F sc scope ρ' (.Name y' pt) elt [] d=some o->∃ ρ1 v,fL scope (.Name y' pt) d (bB scope ρ')=some ρ1/\ev cx F (kW scope sc) ρ1 elt=some v/\o=some v:=fun d o h=>by
    obtain⟨ρ1,h1,h⟩:=aH h;obtain⟨b,h2,h⟩:=aH h;cases h2;simp only[D4z,P0z] at h;obtain⟨v,h3,h4⟩:=h;exact⟨ρ1,v,h1,h3,h4.symm⟩
   obtain⟨n1,n2⟩:=iK (fun d _ h=>by obtain⟨_,_,_,_,h⟩:=hf d _ h;cases h) hgo
   obtain⟨m1,m2⟩:=mR (show yE out=some dss from hd)
   have hnd:(ρ'.map (·.1)).Nodup:=by rw[nm,<- hN];exact G.good.nd
   have hi':X.N[i]?=some x:=by rw[hN];exact hi
   have rd:lg X scope (kZ X (.Name y' pt) iter) (lH X.N scope.names) (fun Xc=>tZ Xc (.Name y' pt)) (fun Xc=>lO Xc []) (fun Xc=>iz Xc elt) σ H (fun v H1=>D.nx (σ.set i (some v)) H1):=by
    refine yp (dss:=dss) G.good hN' hok hI hz (by rw[m1,n1]) (fun Xc C j dd hj=>?_) h1.ext.sub h1.sh fun a bs Hs' H' E o=>?_
    ·obtain⟨v,f1,f2⟩:=n2 j dd hj
     obtain⟨ρ1,v',b1,b2,b3⟩:=hf dd _ f1;cases b3;obtain⟨es',g3,g4⟩:=m2 j v f2;subst g3;exact⟨ρ1,es',b1,g4,fun hN1=>uW (G.good.comp C hok) hN1 hoo b2⟩
    ·exact hn _ _ Hs' H' rfl (sm1.trans E.vis) (by rw[aF,nm];exact hN) ((h1.step E).own2 hnd (by rw[nm];exact hi) (o.low fun b q=>h1.ext.all.free q) (tG hnd (by rw[nm];exact hi) hon))
   cases hsw:(X.env.blockKind==.function&&X.env.kindOf x==some .local&&px.line==p4.line && !(scope.names.any fun(n,k)=>n==x&&(k==.local||k==.cell))) with
   | true =>
    have e1:swapsWith (.ListComp elt [⟨.Name y' pt,iter,[],0⟩] scope p4) (some (.Name x px)) pos.line X.env=pure true:=by rw[<- hsw];rfl
    rw[G2z,G2z,G2z] at hsw
    have hl:X.env.scope.names.lookup x=some .local:=by simpa[Env.kindOf] using hsw.1.1.2
    exact PS.sem (pP G.good.nd hi' hl G.good.calm ok1 ok2 ok3 fM (fun Xc C=>⟨dU,cV,ak⟩) (bO hp) e1) rd
   | false =>
    have e1:swapsWith (.ListComp elt [⟨.Name y' pt,iter,[],0⟩] scope p4) (some (.Name x px)) pos.line X.env=pure false:=by rw[<- hsw];rfl
    exact PS.sem (eH G.good.nd hi' ox (gF G.good.calm ok1 ok2 ok3 fM (fun Xc C=>⟨dU,cV,ak⟩) (bO hp)) e1 of) rd
 ·cases hoo
theorem gC{o i:Expr}{pos:Pos}{env:Env}(h:aA i=true):∀ v,assign (.Subscript o i pos) env v=(do
   let ov <- holding [v] (eval o env)
   let iv <- holding [v,ov] (eval i env)
   standAt pos
   holding [v,ov,iv] (setItem ov iv v)
   release [v,ov,iv] []):=by
 intro v
 cases i<;>first | rfl | (exact absurd h (by simp[aA]))
theorem aJ.set{K:Zf}{H:Hp}{d:D}{v:V}(hv:Rep K H d v):∀ {ds:List D} {vs:List V} (n:Nat),aJ K H ds vs->aJ K H (ds.set n d) (vs.set n v)
 | [],vs,n,h=>by
  have:vs=[]:=by simpa[aJ] using h
  subst this;simpa[aJ] using h
 | e::ds,vs,n,h=>by
  simp only[aJ] at h;obtain⟨w,r,rfl,h1,h2⟩:=h
  cases n with
  | zero=>exact .cons hv h2
  | succ n=>exact .cons h1 (aJ.set hv n h2)
theorem lA{tg:Expr}{l:Nat}{env:Env}(he:ev cx F sc ρ e=some d)(hc:aR e=false):swapsWithSole [tg] e l env=pure false:=by
 show swapsWith e (some tg) l env=pure false
 exact cR he fun a b c p q=>by rw[q] at hc;cases hc
theorem gn{o i:Expr}{pos:Pos}{env:Env}:swappedStores [.Subscript o i pos] e env=pure none:=by
 cases e<;>rfl
theorem vM{x:Str}{i1 i2:Expr}{dss:List (List D)}{ds:List D}{j1 j2:Int}{n1 n2:Nat}{px tp tp2 pos:Pos}(G:GoodS cx k X sc)(hN:X.N=ρ.map (·.1))(hx:ρ.lookup x=some (.oo dss))(ho:ownIn sc x=true)(hp:au x=true)(hfr:aR e=false)
  (q1:ev cx F sc (frz F e ρ) e=some d) (q2:ev cx F sc (frz F i1 ρ) i1=some (.int j1)) (q3:ixD dss.length j1=some n1) (q4:dss[n1]?=some ds) (q5:ev cx F sc (frz F i2 ρ) i2=some (.int j2)) (q6:ixD ds.length j2=some n2) (q7:dZ d=true) :
  Runs X Hs0 H0 ρ (.nxt (bV ρ x (.oo (dss.set n1 (ds.set n2 d))))) (fG X (.Assign [.Subscript (.Subscript (.Name x px) i1 tp) i2 tp2] e pos)):=by
 have hNf:∀ e,X.N=(frz F e ρ).map (·.1):=fun e=>by rw[aG];exact hN
 obtain⟨i,hi,_⟩:=aY hx
 have nd:(ρ.map (·.1)).Nodup:=by rw[<- hN];exact G.good.nd
 intro σ H Hs D h _ hn hr;obtain⟨⟨ad,bs,k1,k2⟩,_⟩:=h.oo i x dss hi;unfold au at hp;rw[G2z,W3z,W3z] at hp;have vis:Vis X.env.scope x:=(G.own.own x ho).1.elim .inl fun q=>.inr (.inl q)
 have hNi:X.N[i]?=some x:=by rw[hN,List.getElem?_map,hi];rfl
 have pv:∀ {pp:Pos},PE X (.Name x pp) (yQ i):=fun {pp}=>dj hNi vis (by simpa using hp.1) (by simpa using hp.2);have ll:=k2.2.2.2.2.2.1
 have nlt:n1<bs.length:=by
  rw[ll];exact(List.getElem?_eq_some_iff.mp q4).1
 obtain⟨b,hb⟩:∃ b,bs[n1]?=some b:=⟨_,List.getElem?_eq_getElem nlt⟩;refine PS.sem (mJ ak (pY (wA qH pv ak (fX (aO q2))) ak set_list (gC (aO q5))) (lA q1 hfr) gn rfl) ?_;obtain⟨Hs1,sm1,shp,h1⟩:=h.frozen2 F e;refine(bR cx F G.good (hNf e) q1).1 σ H Hs1 _ h1.ext.sub h1.sh fun v1 H1 Hs4 E1 r1=>?_;obtain⟨Hs7,B1,r1'⟩:=dz h.ext.sub sm1 shp E1 q7 r1;have hB1:=h.step B1;obtain⟨Hs2,sm2,h2⟩:=hB1.frozen F i1;refine⟨.ref ad,k1,(bR cx F G.good (hNf i1) q2).1 σ H1 Hs2 _ h2.ext.sub h2.sh fun v2 H2 Hs5 E2 r2=>?_⟩;have B2:Ext Hs7 H1 Hs7 H2:=⟨.refl _,E2.all,hB1.ext.sub.trans E2.all,fun _ _ _ h=>h⟩;have hB2:=hB1.step B2;have o2:=(k2.step B1).step B2;refine⟨ad,bs.map V.ref,j1,.ref b,rfl,aD r2,.of o2.1,?_,?_⟩
 ·unfold atI
  rw[P2z,ll,<- jQ,q3];show(bs.map V.ref)[n1]?=_;rw[List.getElem?_map,hb];rfl
 obtain⟨Hs3,sm3,h3⟩:=hB2.frozen F i2;refine(bR cx F G.good (hNf i2) q5).1 σ H2 Hs3 _ h3.ext.sub h3.sh fun v3 H3 Hs6 E3 r3=>?_;have B3:Ext Hs7 H2 Hs7 H3:=⟨.refl _,E3.all,hB2.ext.sub.trans E3.all,fun _ _ _ h=>h⟩;have o3:=o2.step B3;obtain⟨m1,m2,ds',us,m3,m4,m5⟩:=o3.2.2.2.2.2.2 n1 b hb;rw[q4] at m3;cases m3;have nab:ad≠b:=fun w=>o3.2.2.2.2.1 (by rw[w];exact List.mem_of_getElem? hb);refine⟨b,us,j2,n2,rfl,aD r3,m4,by rw[<- m5.length,<- jQ];exact q6,?_⟩;refine hn _ _ Hs7 _ rfl B1.vis (by rw[aF];exact hN) ((hB2.step B3).app2 nd hi k1 m1 m2 ⟨us,m4⟩ (bs':=bs) ⟨by rw[aq nab];exact o3.1,o3.2.1,o3.2.2.1,o3.2.2.2.1,o3.2.2.2.2.1,by rw[R2z];exact o3.2.2.2.2.2.1,fun jj b' e=>?_⟩)
 by_cases hjj:n1=jj
 ·subst hjj
  rw[hb] at e;cases e;refine⟨m1,m2,ds.set n2 d,us.set n2 v1,?_,aK,aJ.set r1' n2 m5⟩;rw[List.getElem?_set,E4z rfl,E4z (by rw[<- ll];exact nlt)]
 ·obtain⟨m1',m2',ds',us',m3',m4',m5'⟩:=o3.2.2.2.2.2.2 jj b' e
  refine⟨m1',m2',ds',us',?_,?_,m5'⟩
  ·rw[List.getElem?_set,F4z hjj];exact m3'
  ·rw[aq]
   ·exact m4'
   ·intro w
    rw[w] at e;exact hjj ((List.getElem?_inj nlt o3.2.2.2.1).mp (hb.trans e.symm))
end
section
variable {X:Cx} {pos:Pos}
end
section
variable {X:Cx} {ρ:Rho} {cx:Cxt} {k F:Nat} {sc scope:Scope} {Hs0 H0:Hp} {e:Expr} {d:D}
theorem yV{es:List Expr}{l:List D}{ρ':Rho}{kt:Nat}{pt pos:Pos}(G:GoodS cx k X sc)(hN:X.N=ρ.map (·.1))(hs:(swp sc es e).isSome=true)(he:ev cx F sc (frz F e ρ) e=some d)(hl:items d=some l)(hb:bindNames sc es l (frz F e ρ)=some ρ') :
  Runs X Hs0 H0 ρ (.nxt ρ') (fG X (.Assign [.Tuple es kt pt] e pos)):=by
 have hN':X.N=(frz F e ρ).map (·.1):=by rw[aG];exact hN
 obtain⟨b,hb'⟩:=Option.isSome_iff_exists.mp hs
 cases b with
 | false =>
  have hw:=yU (kt:=kt) (pt:=pt) G.good hb'
  have hso:swapsWithSole [.Tuple es kt pt] e pos.line X.env=pure false:=by
   show swapsWith e (some (.Tuple es kt pt)) pos.line X.env=pure false
   by_cases hc:∃ a b c p,e=.ListComp a b c p
   ·obtain⟨a,b,c,p,rfl⟩:=hc
    rfl
   ·exact cR he fun a b c p q=>hc ⟨a,b,c,p,q⟩
  intro σ H Hs D h _ hn hr;exact PS.sem (mJ ak dU hso hw rfl) (ug G hN he h fun v Hs' H' sm h' r=>oO G h'.ext.sub hN' mU hl hb h' r fun σ' hN2 p=>hn ρ' σ' Hs' H' rfl sm hN2 p)
 | true =>
  obtain⟨x,px,y,py,a,b,k2,p2,rfl,rfl,lx,ly,hxy,pa,pb,hw⟩:=vJ (kt:=kt) (pt:=pt) G.good hb'
  cases F with
  | zero=>simp[ev] at he
  | succ F =>
   simp only[ev] at he;obtain⟨ds,h1,he⟩:=aH he;split at he
   ·cases he
    simp only[items,Z1z] at hl;subst hl;have hA:=(cX (fun e _ d hd=>⟨(bR cx F G.good hN' hd).1,aO hd⟩) h1).1
    have hlen:ds.length=2:=by have:=(dF (env:=X.env) hb).2.2;simpa using this.symm
    obtain⟨d1,d2,rfl⟩:∃ d1 d2,ds=[d1,d2]:=by
     match ds,hlen with
     | [d1,d2],_=>exact⟨d1,d2,rfl⟩
    simp only[bindNames] at hb;split at hb
    ·rename_i c1
     split at hb
     ·rename_i c2
      cases hb;rw[G2z] at c1 c2;rw[aF] at c2;obtain⟨i,hi⟩:=bx c1.2;obtain⟨j,hj⟩:=bx c2.2
      have hij:i≠j:=fun z=>by rw[z,hj] at hi;cases hi;exact hxy rfl
      intro σ H Hs D h _ hn hr;obtain⟨Hs1,sm1,h1'⟩:=h.frozen (F+1) (.Tuple [a,b] k2 p2);refine PS.sem (zy G.good.calm G.good.nd (by rw[hN'];exact hi) (by rw[hN'];exact hj) hij lx ly bQ hw rfl) (hA σ H Hs1 _ h1'.ext.sub h1'.sh fun vs H' Hs' E r=>?_);obtain⟨v,w,rfl,r1,r2⟩:=BZ r
      have nd:((frz (F+1) (.Tuple [a,b] k2 p2) ρ).map (·.1)).Nodup:=by rw[<- hN'];exact G.good.nd
      have g1:=(h1'.step E).set nd hi r1;have g2:=g1.set (by rw[aF];exact nd) (by rw[aF];exact hj) r2;exact⟨v,w,rfl,hn _ _ Hs' H' rfl (sm1.trans E.vis) (by rw[aF,aF];exact hN') g2⟩
     ·cases hb
    ·cases hb
   ·cases he
theorem Runs.frz0{fl:Fl}{t:TS}{e:Expr}(h:Runs X Hs0 H0 (frz 0 e ρ) fl t):Runs X Hs0 H0 ρ fl t:=by
 intro σ H Hs D hd hN hn hr;obtain⟨Hs1,sm1,h1⟩:=hd.frozen 0 e;exact h σ H Hs1 D h1 (by rw[aG];exact hN) (fun ρ' σ' Hs' H' q sm hN' h'=>hn ρ' σ' Hs' H' q (sm1.trans sm) hN' h') hr
theorem pH{x:Str}{ds:List D}{px ap cp pos:Pos}(G:GoodS cx k X sc)(hN:X.N=ρ.map (·.1))(hx:(frz F e ρ).lookup x=some (.ow ds))(ho:ownIn sc x=true)(hp:au x=true)(hline:(ap.endLine==cp.line)=true)(hz:szl (ds.length+1)=true)(he:ev cx F sc (frz F e ρ) e=some d) :
  Runs X Hs0 H0 ρ (.nxt (bV (frz F e ρ) x (.ow (ds++[d])))) (fG X (.Expr (.Call (.Attribute (.Name x px) "append" ap) [e] [] cp) pos)):=by
 have hN':X.N=(frz F e ρ).map (·.1):=by rw[aG];exact hN
 obtain⟨i,hi,_⟩:=aY hx
 have nd:((frz F e ρ).map (·.1)).Nodup:=by rw[<- hN'];exact G.good.nd
 have hpl:=aO he;intro σ H Hs D h _ hn hr;obtain⟨Hs1,sm1,h1⟩:=h.frozen F e;obtain⟨a,vs,k1,k2,k3,k4,k5⟩:=h1.ow i x ds hi;unfold au at hp;rw[G2z,W3z,W3z] at hp;have vis:Vis X.env.scope x:=(G.own.own x ho).1.elim .inl fun q=>.inr (.inl q);refine PS.sem (dX (jO L0z H0z I0z eU (dj (i:=i) (by rw[hN',List.getElem?_map,hi];rfl) vis (by simpa using hp.1) (by simpa using hp.2)) (aP ak bw (aj hpl)) rfl (by rw[aj hpl];rfl) hline (aj hpl) rfl) rfl) ?_;refine⟨_,k1,.inl ⟨rfl,vs,.of k2⟩,?_⟩;refine(bR cx F G.good hN' he).1 σ H Hs1 _ h1.ext.sub h1.sh fun v H' Hs' E r=>?_;have h2:=h1.step E;refine⟨a,vs,v,rfl,rfl,E.all _ _ k2,by have:=k3.length;have:=jG hz;omega,?_⟩;exact hn _ _ Hs' _ rfl (sm1.trans E.vis) (by rw[aF];exact hN') (h2.app nd hi k1 (aJ.append (aJ.same E.vis ds vs k3) (.cons r .nil)))
theorem nW{x:Str}{ds:List D}{px ap cp pos:Pos}(G:GoodS cx k X sc)(hN:X.N=ρ.map (·.1))(hx:ρ.lookup x=some (.ow ds))(ho:ownIn sc x=true)(hp:au x=true)(hline:(ap.endLine==cp.line)=true)(hz:szl (ds.length+1)=true)(he:ev cx F sc (frz F e ρ) e=some d)(hfl:dZ d=true) :
  Runs X Hs0 H0 ρ (.nxt (bV ρ x (.ow (ds++[d])))) (fG X (.Expr (.Call (.Attribute (.Name x px) "append" ap) [e] [] cp) pos)):=by
 have hN':X.N=(frz F e ρ).map (·.1):=by rw[aG];exact hN
 obtain⟨i,hi,_⟩:=aY hx
 have nd:(ρ.map (·.1)).Nodup:=by rw[<- hN];exact G.good.nd
 have hpl:=aO he;intro σ H Hs D h _ hn hr;obtain⟨Hs1,sm1,shp,h1⟩:=h.frozen2 F e;obtain⟨a,vs,k1,k2,k3,k4,k5⟩:=h.ow i x ds hi;unfold au at hp;rw[G2z,W3z,W3z] at hp;have vis:Vis X.env.scope x:=(G.own.own x ho).1.elim .inl fun q=>.inr (.inl q);refine PS.sem (dX (jO L0z H0z I0z eU (dj (i:=i) (by rw[hN,List.getElem?_map,hi];rfl) vis (by simpa using hp.1) (by simpa using hp.2)) (aP ak bw (aj hpl)) rfl (by rw[aj hpl];rfl) hline (aj hpl) rfl) rfl) ?_;refine⟨_,k1,.inl ⟨rfl,vs,.of k2⟩,?_⟩;refine(bR cx F G.good hN' he).1 σ H Hs1 _ h1.ext.sub h1.sh fun v H' Hs' E r=>?_;obtain⟨Hs3,E3,r3⟩:=dz h.ext.sub sm1 shp E hfl r;have h2:=h.step E3;refine⟨a,vs,v,rfl,rfl,E3.all _ _ k2,by have:=k3.length;have:=jG hz;omega,?_⟩;exact hn _ _ Hs3 _ rfl E3.vis (by rw[aF];exact hN) (h2.app nd hi k1 (aJ.append (aJ.same E3.vis ds vs k3) (.cons r3 .nil)))
theorem vN{x:Str}{ie:Expr}{ds:List D}{j:Int}{n:Nat}{px tp pos:Pos}(G:GoodS cx k X sc)(hN:X.N=ρ.map (·.1))(hx:(frz F ie (frz F e ρ)).lookup x=some (.ow ds))(ho:ownIn sc x=true)(hp:au x=true)(hfr:aR e=false)
  (q1:ev cx F sc (frz F ie (frz F e ρ)) e=some d) (q4:ev cx F sc (frz F ie (frz F e ρ)) ie=some (.int j)) (q5:ixD ds.length j=some n) :
  Runs X Hs0 H0 ρ (.nxt (bV (frz F ie (frz F e ρ)) x (.ow (ds.set n d)))) (fG X (.Assign [.Subscript (.Name x px) ie tp] e pos)):=by
 have hN':X.N=(frz F ie (frz F e ρ)).map (·.1):=by rw[aG,aG];exact hN
 obtain⟨i,hi,_⟩:=aY hx
 have nd:((frz F ie (frz F e ρ)).map (·.1)).Nodup:=by rw[<- hN'];exact G.good.nd
 intro σ H Hs D h _ hn hr;obtain⟨Hs1,sm1,h1⟩:=h.frozen F e;obtain⟨Hs3,sm3,h3⟩:=h1.frozen F ie;obtain⟨ad,vs,k1,k2,k3,k4,k5⟩:=h3.ow i x ds hi;unfold au at hp;rw[G2z,W3z,W3z] at hp;have vis:Vis X.env.scope x:=(G.own.own x ho).1.elim .inl fun q=>.inr (.inl q)
 have hNi:X.N[i]?=some x:=by rw[hN',List.getElem?_map,hi];rfl
 have pv:∀ {pp:Pos},PE X (.Name x pp) (yQ i):=fun {pp}=>dj hNi vis (by simpa using hp.1) (by simpa using hp.2);refine PS.sem (mJ ak (pY pv ak set_list (gC (aO q4))) (lA q1 hfr) gn rfl) ?_;refine(bR cx F G.good hN' q1).1 σ H Hs3 _ h3.ext.sub h3.sh fun v1 H1 Hs4 E1 r1=>?_;refine⟨.ref ad,k1,(bR cx F G.good hN' q4).1 σ H1 Hs4 _ E1.sub (h3.sh.same E1.vis) fun v3 H3 Hs6 E3 r3=>?_⟩;have E:=E1.trans E3;refine⟨ad,vs,j,n,rfl,aD r3,E.all _ _ k2,by rw[<- k3.length,<- jQ];exact q5,?_⟩;exact hn _ _ Hs6 _ rfl (sm1.trans (sm3.trans E.vis)) (by rw[aF];exact hN') ((h3.step E).app nd hi k1 (aJ.set (Rep.same E3.vis _ _ r1) n (aJ.same E.vis ds vs k3)))
theorem sH{x:Str}{ie:Expr}{ds:List D}{j:Int}{n:Nat}{px tp pos:Pos}(G:GoodS cx k X sc)(hN:X.N=ρ.map (·.1))(hx:ρ.lookup x=some (.ow ds))(ho:ownIn sc x=true)(hp:au x=true)(hfr:aR e=false)
  (q1:ev cx F sc (frz F e ρ) e=some d) (q4:ev cx F sc (frz F e ρ) ie=some (.int j)) (q5:ixD ds.length j=some n) (hfl:dZ d=true) :
  Runs X Hs0 H0 ρ (.nxt (bV ρ x (.ow (ds.set n d)))) (fG X (.Assign [.Subscript (.Name x px) ie tp] e pos)):=by
 have hN':X.N=(frz F e ρ).map (·.1):=by rw[aG];exact hN
 obtain⟨i,hi,_⟩:=aY hx
 have nd:(ρ.map (·.1)).Nodup:=by rw[<- hN];exact G.good.nd
 intro σ H Hs D h _ hn hr;obtain⟨Hs1,sm1,shp,h1⟩:=h.frozen2 F e;obtain⟨ad,vs,k1,k2,k3,k4,k5⟩:=h.ow i x ds hi;unfold au at hp;rw[G2z,W3z,W3z] at hp;have vis:Vis X.env.scope x:=(G.own.own x ho).1.elim .inl fun q=>.inr (.inl q)
 have hNi:X.N[i]?=some x:=by rw[hN,List.getElem?_map,hi];rfl
 have pv:∀ {pp:Pos},PE X (.Name x pp) (yQ i):=fun {pp}=>dj hNi vis (by simpa using hp.1) (by simpa using hp.2);refine PS.sem (mJ ak (pY pv ak set_list (gC (aO q4))) (lA q1 hfr) gn rfl) ?_;refine(bR cx F G.good hN' q1).1 σ H Hs1 _ h1.ext.sub h1.sh fun v1 H1 Hs4 E1 r1=>?_;refine⟨.ref ad,k1,(bR cx F G.good hN' q4).1 σ H1 Hs4 _ E1.sub (h1.sh.same E1.vis) fun v3 H3 Hs6 E3 r3=>?_⟩;have E:=E1.trans E3;obtain⟨Hs7,E7,r7⟩:=dz h.ext.sub sm1 shp E hfl (Rep.same E3.vis _ _ r1);refine⟨ad,vs,j,n,rfl,aD r3,E.all _ _ k2,by rw[<- k3.length,<- jQ];exact q5,?_⟩;exact hn _ _ Hs7 _ rfl E7.vis (by rw[aF];exact hN) ((h.step E7).app nd hi k1 (aJ.set r7 n (aJ.same E7.vis ds vs k3)))
theorem sI{x:Str}{px pos:Pos}(G:GoodS cx k X sc)(hN:X.N=ρ.map (·.1))(hx:ownIn sc x=true)(hc:(ρ.map (·.1)).contains x=true)(hrd:rdA e=true)(he:ev cx F sc (frz F e ρ) e=some d)(hfl:dZ d=true) :
  Runs X Hs0 H0 ρ (.nxt (bV ρ x (.sh d))) (fG X (.Assign [.Name x px] e pos)):=by
 obtain⟨ox,of⟩:=G.own.own x hx
 have hN':X.N=(frz F e ρ).map (·.1):=by rw[aG];exact hN
 obtain⟨i,hi⟩:=bx hc
 have nd:(ρ.map (·.1)).Nodup:=by rw[<- hN];exact G.good.nd
 intro σ H Hs D h _ hn hr;obtain⟨Hs1,sm1,shp,h1⟩:=h.frozen2 F e
 have hsw:=cR (t:=some (.Name x px)) (l:=pos.line) (env:=X.env) he fun a b c p q=>by rw[q] at hrd;cases hrd
 refine PS.sem (eH (i:=i) G.good.nd (by rw[hN];exact hi) ox ak hsw of) ?_
 refine(bR cx F G.good hN' he).1 σ H Hs1 _ h1.ext.sub h1.sh fun v H' Hs' E r=>?_;obtain⟨Hs3,E3,r3⟩:=dz h.ext.sub sm1 shp E hfl r;exact hn _ _ Hs3 _ rfl E3.vis (by rw[aF];exact hN) ((h.step E3).set nd hi r3)
theorem yW{x:Str}{ds:List D}{px pos:Pos}(G:GoodS cx k X sc)(hN:X.N=ρ.map (·.1))(hx:ownIn sc x=true)(hc:(ρ.map (·.1)).contains x=true)(hno:rR (frz F e ρ) x=true)(hl:yF cx sc e=true)(he:ev cx F sc (frz F e ρ) e=some (.lst ds)) :
  Runs X Hs0 H0 ρ (.nxt (bV (frz F e ρ) x (.ow ds))) (fG X (.Assign [.Name x px] e pos)):=by
 have hN':X.N=(frz F e ρ).map (·.1):=by rw[aG];exact hN
 obtain⟨ox,of⟩:=G.own.own x hx
 have hfr:aR e=false:=by cases e<;>first | rfl | (simp[yF] at hl;done)
 have hown:Bh cx sc e=true:=by
  unfold yF at hl;split at hl
  ·exact hl
  ·cases hl
 refine mj G hN hx hc hno fun i hi σ H Hs D hs hst hq=>?_
 have hsw:=cR (t:=some (.Name x px)) (l:=pos.line) (env:=X.env) he fun a b c p q=>by rw[q] at hfr;cases hfr
 exact PS.sem (eH (i:=i) G.good.nd hi ox ak hsw of) (uW G.good hN' hown he σ H Hs _ hs hst fun acc vs Hs' H' E a1 a2 a3 r=>hq acc vs Hs' H' E a1 a2 a3 r)
theorem qP(l:Addr)(xs:Array Value)(n:Nat)(b:Addr)(ys:Array Value)(m:Nat)(dd:Option Addr)(sl:Array (Option Value))(c0:¬(!xs.isEmpty&&Builtin.List.listTooLong (xs.size+ys.size))=true)(c1:xs.size<=sizeLine)(c2:xs.size+ys.size<=sizeLine+1) :
  Meets (Builtin.«list.extend» ⟨[.ref l,.ref b],[]⟩) (fun _ R s=>s.heap.get? l=some { cls:=.type "list",data:=.seq xs n }/\s.heap.get? b=some { cls:=.type "list",dict:=dd,data:=.seq ys m,slots:=sl } /\
   R (.ok (.ret Value.none)) { s with heap:=s.heap.update l (Obj.mapSeq fun x=>x++ys),toks:=s.toks }) :=
 .of_wp fun prog w A R s h=>by
  obtain⟨hp,g,d,tk,os⟩:=s;obtain⟨hl,hb,h⟩:=h;have f1:=sub_list_list;have f2:=AutoSeq1.sub_tuple_list;have f3:=AutoSeq1.sub_list_tuple
  have z:(xs++ys).size<=sizeLine+1:=by rw[Array.size_append];exact c2
  wp_walk using(wpAny_updateSeq hl rfl (hz:=c1) (_hz':=z)),E0z hl,E0z hb;exact⟨_,rfl,h⟩
def Ck(K:Zf):V->List V->Hp->VK->Prop:=fun x vs H Q=>∃ l b xs zs,x=.ref l/\vs=[.ref b]/\H l=some (.lst xs)/\SqL K H b zs/\xs.length+zs.length<=sizeLine/\Q .non (upd H l (.lst (xs++zs)))
theorem wV:MtM X "list.extend" (Ck X.K):=by
 intro z0 s σ H x vs v us Q I rx rv h;obtain⟨l,b,xs,zs,rfl,rfl,hH,hB,hz,q⟩:=h;cases (show v=Value.ref l from rx);obtain⟨u,rfl,ru⟩:=rv.one;cases (show u=Value.ref b from ru);obtain⟨z,its,n,r,hl,e⟩:=I.lstM hH;obtain⟨its2,r2,pl,hz2⟩:=I.list hB;have hl2:=r2.length;obtain⟨⟨c2,dd2,data2,sl2⟩,n2,e2,hc2,hd2,hs2⟩:=pl;simp only at hc2 hs2
 have hsz:its.toArray.size+its2.toArray.size<=sizeLine:=by rw[T1z,T1z];omega
 have lng:¬ (!its.toArray.isEmpty&&Builtin.List.listTooLong (its.toArray.size+its2.toArray.size))=true:=fun w=>by
  rw[jc hsz,A3z] at w;cases w
 obtain⟨h3,h4⟩:=(show dd2=none/\data2=.seq its2.toArray n2 from⟨hd2,hs2⟩);subst hc2 h4;refine V3z F.slot_list_extend ⟨_,e,rfl⟩ F.entry_list_extend (F.args_list_extend_2 _ _) (qP l its.toArray n b its2.toArray n2 dd2 sl2 lng (by rw[T1z];omega) (by omega)) ⟨e,e2,?_⟩;exact⟨.non,_,I.lset (its':=its++its2) hH e (by simp) (r.append r2) (by rw[K1z];omega),rfl,q⟩
theorem oE(l:Addr)(xs:Array Value)(n:Nat)(b:Addr)(ys:Array Value)(m:Nat)(dd:Option Addr)(sl:Array (Option Value))(c0:¬(!xs.isEmpty&&Builtin.List.listTooLong (xs.size+ys.size))=true)(c1:xs.size<=sizeLine)(c2:xs.size+ys.size<=sizeLine+1) :
  Meets (Builtin.«list.extend» ⟨[.ref l,.ref b],[]⟩) (fun _ R s=>s.heap.get? l=some { cls:=.type "list",data:=.seq xs n }/\s.heap.get? b=some { cls:=.type "tuple",dict:=dd,data:=.seq ys m,slots:=sl } /\
   R (.ok (.ret Value.none)) { s with heap:=s.heap.update l (Obj.mapSeq fun x=>x++ys),toks:=s.toks }) :=
 .of_wp fun prog w A R s h=>by
  obtain⟨hp,g,d,tk,os⟩:=s;obtain⟨hl,hb,h⟩:=h;have f1:=sub_list_list;have f2:=AutoSeq1.sub_tuple_list;have f3:=AutoSeq1.sub_list_tuple;have f4:=isSubtype_tuple_tuple
  have z:(xs++ys).size<=sizeLine+1:=by rw[Array.size_append];exact c2
  wp_walk using(wpAny_updateSeq hl rfl (hz:=c1) (_hz':=z)),E0z hl,E0z hb;exact⟨_,rfl,h⟩
def Cj(K:Zf):V->List V->Hp->VK->Prop:=fun x vs H Q=>∃ l b xs zs,x=.ref l/\vs=[.ref b]/\H l=some (.lst xs)/\SqT K H b zs/\xs.length+zs.length<=sizeLine/\Q .non (upd H l (.lst (xs++zs)))
theorem wU:MtM X "list.extend" (Cj X.K):=by
 intro z0 s σ H x vs v us Q I rx rv h;obtain⟨l,b,xs,zs,rfl,rfl,hH,hB,hz,q⟩:=h;cases (show v=Value.ref l from rx);obtain⟨u,rfl,ru⟩:=rv.one;cases (show u=Value.ref b from ru);obtain⟨z,its,n,r,hl,e⟩:=I.lstM hH;obtain⟨its2,r2,pl,hz2⟩:=I.tuple hB;have hl2:=r2.length;obtain⟨⟨c2,dd2,data2,sl2⟩,e2,hc2,n2,hs2⟩:=pl;simp only at hc2 hs2
 have hsz:its.toArray.size+its2.toArray.size<=sizeLine:=by rw[T1z,T1z];omega
 have lng:¬ (!its.toArray.isEmpty&&Builtin.List.listTooLong (its.toArray.size+its2.toArray.size))=true:=fun w=>by
  rw[jc hsz,A3z] at w;cases w
 subst hc2 hs2;refine V3z F.slot_list_extend ⟨_,e,rfl⟩ F.entry_list_extend (F.args_list_extend_2 _ _) (oE l its.toArray n b its2.toArray n2 dd2 sl2 lng (by rw[T1z];omega) (by omega)) ⟨e,e2,?_⟩;exact⟨.non,_,I.lset (its':=its++its2) hH e (by simp) (r.append r2) (by rw[K1z];omega),rfl,q⟩
theorem pG{x:Str}{ds zs:List D}{px ap cp pos:Pos}(G:GoodS cx k X sc)(hN:X.N=ρ.map (·.1))(hx:(frz F e ρ).lookup x=some (.ow ds))(ho:ownIn sc x=true)(hp:au x=true)(hline:(ap.endLine==cp.line)=true)(hz:szl (ds.length+zs.length)=true)(he:ev cx F sc (frz F e ρ) e=some (.lst zs)) :
  Runs X Hs0 H0 ρ (.nxt (bV (frz F e ρ) x (.ow (ds++zs)))) (fG X (.Expr (.Call (.Attribute (.Name x px) "extend" ap) [e] [] cp) pos)):=by
 have hN':X.N=(frz F e ρ).map (·.1):=by rw[aG];exact hN
 obtain⟨i,hi,_⟩:=aY hx
 have nd:((frz F e ρ).map (·.1)).Nodup:=by rw[<- hN'];exact G.good.nd
 have hpl:=aO he;intro σ H Hs D h _ hn hr;obtain⟨Hs1,sm1,h1⟩:=h.frozen F e;obtain⟨a,vs,k1,k2,k3,k4,k5⟩:=h1.ow i x ds hi;unfold au at hp;rw[G2z,W3z,W3z] at hp;have vis:Vis X.env.scope x:=(G.own.own x ho).1.elim .inl fun q=>.inr (.inl q);refine PS.sem (dX (jO L0z PySem.F.slot_list_extend PySem.F.type_list_extend wV (dj (i:=i) (by rw[hN',List.getElem?_map,hi];rfl) vis (by simpa using hp.1) (by simpa using hp.2)) (aP ak bw (aj hpl)) rfl (by rw[aj hpl];rfl) hline (aj hpl) rfl) rfl) ?_;refine⟨_,k1,.inl ⟨rfl,vs,.of k2⟩,?_⟩;refine(bR cx F G.good hN' he).1 σ H Hs1 _ h1.ext.sub h1.sh fun v H' Hs' E r=>?_;have h2:=h1.step E;obtain⟨b,us,rfl,g1,g2⟩:=bF r;refine⟨a,b,vs,us,rfl,rfl,E.all _ _ k2,E.sub.seq g1,by have:=k3.length;have:=g2.length;have:=dR hz;omega,?_⟩;exact hn _ _ Hs' _ rfl (sm1.trans E.vis) (by rw[aF];exact hN') (h2.app nd hi k1 (aJ.append (aJ.same E.vis ds vs k3) g2))
theorem nU{x:Str}{ds zs:List D}{px ap cp pos:Pos}(G:GoodS cx k X sc)(hN:X.N=ρ.map (·.1))(hx:(frz F e ρ).lookup x=some (.ow ds))(ho:ownIn sc x=true)(hp:au x=true)(hline:(ap.endLine==cp.line)=true)(hz:szl (ds.length+zs.length)=true)(he:ev cx F sc (frz F e ρ) e=some (.tup zs)) :
  Runs X Hs0 H0 ρ (.nxt (bV (frz F e ρ) x (.ow (ds++zs)))) (fG X (.Expr (.Call (.Attribute (.Name x px) "extend" ap) [e] [] cp) pos)):=by
 have hN':X.N=(frz F e ρ).map (·.1):=by rw[aG];exact hN
 obtain⟨i,hi,_⟩:=aY hx
 have nd:((frz F e ρ).map (·.1)).Nodup:=by rw[<- hN'];exact G.good.nd
 have hpl:=aO he;intro σ H Hs D h _ hn hr;obtain⟨Hs1,sm1,h1⟩:=h.frozen F e;obtain⟨a,vs,k1,k2,k3,k4,k5⟩:=h1.ow i x ds hi;unfold au at hp;rw[G2z,W3z,W3z] at hp;have vis:Vis X.env.scope x:=(G.own.own x ho).1.elim .inl fun q=>.inr (.inl q);refine PS.sem (dX (jO L0z PySem.F.slot_list_extend PySem.F.type_list_extend wU (dj (i:=i) (by rw[hN',List.getElem?_map,hi];rfl) vis (by simpa using hp.1) (by simpa using hp.2)) (aP ak bw (aj hpl)) rfl (by rw[aj hpl];rfl) hline (aj hpl) rfl) rfl) ?_;refine⟨_,k1,.inl ⟨rfl,vs,.of k2⟩,?_⟩;refine(bR cx F G.good hN' he).1 σ H Hs1 _ h1.ext.sub h1.sh fun v H' Hs' E r=>?_;have h2:=h1.step E;obtain⟨b,us,rfl,g1,g2⟩:=bf r;refine⟨a,b,vs,us,rfl,rfl,E.all _ _ k2,E.sub.tup g1,by have:=k3.length;have:=g2.length;have:=dR hz;omega,?_⟩;exact hn _ _ Hs' _ rfl (sm1.trans E.vis) (by rw[aF];exact hN') (h2.app nd hi k1 (aJ.append (aJ.same E.vis ds vs k3) g2))
theorem vQ{pos:Pos}(G:GoodS cx k X sc)(hN:X.N=ρ.map (·.1))(he:ev cx F sc (frz F e ρ) e=some d)(hc:∀ a b c p,e≠.ListComp a b c p):Runs X Hs0 H0 ρ (.nxt (frz F e ρ)) (fG X (.Expr e pos)):=by
 intro σ H Hs D h _ hn hr;exact PS.sem (dX ak (cR he hc)) (ug G hN he h fun v Hs' H' sm h' r=>hn _ _ Hs' H' rfl sm (by rw[aG];exact hN) h')
theorem qL{f:Rho->Stmt->Option Fl}(hf:∀ ρ s fl,X.N=ρ.map (·.1)->f ρ s=some fl->Runs X Hs0 H0 ρ fl (fG X s)):∀ (l:List Stmt) (ρ:Rho) (fl:Fl),X.N=ρ.map (·.1)->fD f l ρ=some fl->Runs X Hs0 H0 ρ fl (dJ X l)
 | [],ρ,fl,hN,h=>by
  simp only[fD,Z1z] at h;subst h;intro σ H Hs D h _ hn hr;exact PSs.sem pO (hn _ _ Hs H rfl (.refl _) hN h)
 | s::r,ρ,fl,hN,h=>by
  simp only[fD] at h;obtain⟨fl1,h1,h2⟩:=aH h;intro σ H Hs D hd _ hn hr;refine PSs.sem (eG pQ bh) (hf ρ s fl1 hN h1 σ H Hs _ hd hN (fun ρ' σ' Hs' H' q sm hN' hd'=>?_) fun d v Hs' H' q E rr lm'=>?_)
  ·subst q
   exact qL hf r ρ' fl hN' h2 σ' H' Hs' D hd' hN' (fun ρ2 σ2 Hs2 H2 q2 sm2=>hn ρ2 σ2 Hs2 H2 q2 (sm.trans sm2)) hr
  ·subst q
   cases h2;exact hr d v Hs' H' rfl E rr lm'
theorem uM{tg iter:Expr}{body:List Stmt}{l:List D}{fl:Fl}{pos:Pos}{f:D->Rho->Option Fl}(G:GoodS cx k X sc)(hN:X.N=ρ.map (·.1))(hI:evI cx (dW tg) (ev cx F sc (frz F iter ρ)) sc iter=some l)
  (hf:∀ d ρ1 fl,f d ρ1=some fl->X.N=ρ1.map (·.1)->∃ ρ2,fL sc tg d ρ1=some ρ2/\(X.N=ρ2.map (·.1)->Runs X Hs0 H0 ρ2 fl (dJ X body))) (h:gO f l (frz F iter ρ)=some fl):Runs X Hs0 H0 ρ fl (fG X (.For tg iter body [] pos)):=by
 have hN':X.N=(frz F iter ρ).map (·.1):=by rw[aG];exact hN
 obtain⟨hI',hp⟩:=qY (tg:=tg) (ρ:=frz F iter ρ) G.good (fun e d h=>⟨(bR cx F G.good hN' h).1,aO h⟩) hI;intro σ H Hs D hd _ hn hr;obtain⟨Hs1,sm1,h1⟩:=hd.frozen F iter;refine PS.sem (zA G.pass G.good.calm fM dU bh (bO hp)) (hI' σ H Hs1 _ h1.ext.sub h1.sh fun J H2 Hs2 E2 hJ=>?_)
 let W:Nat->Nat->St->Hp->Prop:=fun i m σ H=>m=l.length-i/\i<=l.length/\∃ ρi Hsi,Same Hs2 Hsi/\Hd X.K X.lm Hs0 H0 Hsi H ρi σ/\X.N=ρi.map (·.1)/\gO f (l.drop i) ρi=some fl
 refine⟨W,⟨l.length,rfl,Q3z _,_,Hs2,.refl _,h1.step E2,hN',by simpa using h⟩,?_⟩;rintro i m σi Hi ⟨rfl,hi,ρi,Hsi,sm,hdi,hNi,gi⟩;obtain⟨stp,go⟩:=hJ Hsi Hi sm hdi.ext.sub
 by_cases hlt:i<l.length
 ·obtain⟨g1,g2⟩:=go i l[i] (List.getElem?_eq_getElem hlt)
  refine .inr ⟨g1,fun σ' H'=>W (i+1) (l.length-(i+1)) σ' H',fun σ' H' w=>⟨_,by omega,w⟩,fun x H' y=>?_⟩;obtain⟨Hs3,E3,rx⟩:=g2 x H' y;rw[C0z hlt] at gi;simp only[gO] at gi;obtain⟨fl1,b1,b2⟩:=aH gi;obtain⟨ρ2,c1,c2⟩:=hf _ _ _ b1 hNi;have hd3:=hdi.step E3;refine lV G.good.calm G.own G.good.nd hd3.ext.sub hNi (mU (Hs0:=Hs0) (H0:=H0) (H:=H')) c1 hd3 rx fun σ' hN2 p=>?_;refine c2 hN2 σ' H' Hs3 _ p hN2 (fun ρ' σ'' Hs' H'' q sm4 hN3 hd4=>?_) fun d v Hs' H'' q E rr lm'=>?_
  ·subst q
   exact⟨rfl,hlt,ρ',Hs',sm.trans (E3.vis.trans sm4),hd4,hN3,b2⟩
  ·subst q
   cases b2;exact hr d v Hs' H'' rfl E rr lm'
 ·have hi':i=l.length:=by omega
  subst hi';refine .inl ⟨stp,?_⟩;rw[List.drop_length] at gi;simp only[gO,Z1z] at gi;exact hn ρi σi Hsi Hi gi.symm (sm1.trans (E2.vis.trans sm)) hNi hdi
end
section
variable {X:Cx} {ρ:Rho} {cx:Cxt} {k F:Nat} {sc scope:Scope} {Hs0 H0:Hp} {e:Expr} {d:D}
theorem Bs{s:Stmt}{D:Ends}{σ:St}{H:Hp}(h:fG X.nox s D σ H):fG X s D σ H:=fun z0 s0 I=>S3z (h z0 s0 (I.wish _)) (fun _ _ q=>q.unwish) fun _ _ z=>False.elim z
abbrev Cx.pinned(X:Cx)(pn:List (Addr×Obj))(xe:Value->Shared->Prop):Cx:={ X with pn:=pn,xe:=xe }
theorem Inv.repin{pn pn' z0 pins':List (Addr×Obj)}{xe xe':Value->Shared->Prop}{σ:St}{H:Hp}{s:Shared}(I:Inv (X.pinned pn xe) z0 σ H s)(h:∀ p∈pn'++pins',p∈pn++z0):Inv (X.pinned pn' xe') pins' σ H s :=
 ⟨⟨I.ok.mod,I.ok.kind,I.ok.glob,I.ok.blt,I.ok.above,I.ok.inj,I.ok.has,I.ok.cab,I.ok.hd,I.ok.frames,I.ok.stk,I.ok.exf,I.ok.bs,I.ok.bsz,I.ok.noex,I.ok.exfs,I.ok.funs,I.ok.frf⟩,I.os,I.bare,I.base,I.loc,I.cell,I.free,I.freeC,fun p hp=>I.pin p (h p hp),I.hok,I.len⟩
def uE(rs:Bool)(X:Cx)(Hs0 H0:Hp)(ρ:Rho)(c:Str)(ρ':Rho)(t:TS):Prop:=∀ σ H Hs D,Hd X.K X.lm Hs0 H0 Hs H ρ σ->X.N=ρ.map (·.1) ->
 (∀ σ' Hs' H',Same Hs Hs'->X.N=ρ'.map (·.1)->Hd X.K X.lm Hs0 H0 Hs' H' ρ' σ'->∃ E,EX X c Hs' H' E/\XOk X σ' E/\(rs=true->rO X σ' E))->t D σ H
theorem qM{rs:Bool}{f:Rho->Stmt->Option Fl}{g:Rho->Stmt->Option (Str×Rho)}{c:Str}{ρ':Rho}(hf:∀ ρ s fl,X.N=ρ.map (·.1)->f ρ s=some fl->Runs X.nox Hs0 H0 ρ fl (fG X.nox s))(hg:∀ ρ s c ρ',X.N=ρ.map (·.1)->g ρ s=some (c,ρ')->uE rs X Hs0 H0 ρ c ρ' (fG X s)) :
  ∀ (l:List Stmt) (ρ:Rho),X.N=ρ.map (·.1)->lq f g l ρ=some (c,ρ')->uE rs X Hs0 H0 ρ c ρ' (dJ X l)
 | [],ρ,hN,h=>by simp[lq] at h
 | s::r,ρ,hN,h=>by
  simp only[lq] at h;intro σ H Hs D hd _ hx;refine PSs.sem (eG pQ bh) ?_;split at h
  ·rename_i ρ1 h1
   refine Bs (hf ρ s _ hN h1 σ H Hs _ hd hN (fun ρ2 σ2 Hs2 H2 q sm hN2 hd2=>?_) fun d v Hs2 H2 q _ _=>nomatch q);cases q;exact qM hf hg r ρ1 hN2 h σ2 H2 Hs2 D hd2 hN2 fun σ3 Hs3 H3 sm3=>hx σ3 Hs3 H3 (sm.trans sm3)
  ·cases h
  ·exact hg ρ s c ρ' hN h σ H Hs _ hd hN hx
theorem mZ{c:Str}(G:Good cx k X sc)(hN:X.N=ρ.map (·.1))(he:evx cx F sc (frz F e ρ) e=some c){σ:St}{H Hs:Hp}{rs:Bool}{Q:VK}(h:Hd X.K X.lm Hs0 H0 Hs H ρ σ)
  (hx:∀ σ' Hs' H',Same Hs Hs'->X.N=(frz F e ρ).map (·.1)->Hd X.K X.lm Hs0 H0 Hs' H' (frz F e ρ) σ'->∃ E,EX X c Hs' H' E/\XOk X σ' E/\(rs=true->rO X σ' E)):iz X e σ H Q:=by
 obtain⟨Hs1,sm1,h1⟩:=h.frozen F e
 have hN':X.N=(frz F e ρ).map (·.1):=by rw[aG];exact hN
 obtain⟨E,e1,e2,_⟩:=hx σ Hs1 H sm1 hN' h1;exact eY cx F G hN' he σ H Hs1 E h1.ext.sub h1.sh e1 e2 Q
theorem uK{t:Option Expr}{l:Nat}{env:Env}{c:Str}(he:evx cx F sc ρ e=some c)(hc:aR e=false):swapsWith e t l env=pure false:=by
 cases F with
 | zero=>exact nomatch (show(Option.none:Option Str)=some c from he)
 | succ F =>
  cases e<;>first | rfl | (exact nomatch (show(Option.none:Option Str)=some c from he)) | (exact absurd hc (by simp[aR]))
end
mutual
theorem lu(cx:Cxt)(F:Nat):∀ (n:Nat) {k:Nat} {X:Cx} {sc:Scope} {ρ:Rho} {s:Stmt} {fl:Fl} {Hs0 H0:Hp},GoodS cx k X sc->X.N=ρ.map (·.1)->DE.st cx F n sc ρ s=some fl->Runs X Hs0 H0 ρ fl (fG X s)
 | 0,k,X,sc,ρ,s,fl,Hs0,H0,_,_,h=>by simp[DE.st] at h
 | n+1,k,X,sc,ρ,s,fl,Hs0,H0,G,hN,h=>by
  have block:∀ (l:List Stmt) (ρ:Rho) (fl:Fl),X.N=ρ.map (·.1)->fD (fun ρ s=>DE.st cx F n sc ρ s) l ρ=some fl->Runs X Hs0 H0 ρ fl (dJ X l):=qL fun ρ s fl hN h=>lu cx F n G hN h
  cases s with
  | Pass pos =>
   simp only[DE.st,Z1z] at h;subst h;intro σ H Hs D hd _ hn hr;exact PS.sem v9 (hn _ _ Hs H rfl (.refl _) hN hd)
  | Return v pos =>
   simp only[DE.st] at h
   cases v with
   | none =>
    simp only[Z1z] at h;subst h;intro σ H Hs D hd _ hn hr;exact PS.sem v7 (hr .non .non Hs H rfl hd.ext (by simp[Rep]) hd.lmt)
   | some e =>
    simp only[P0z] at h;obtain⟨d,he,rfl⟩:=h;intro σ H Hs D hd _ hn hr;exact PS.sem (iC ak) (ug G hN he hd fun v Hs' H' sm h' r=>hr d v Hs' H' rfl h'.ext r h'.lmt)
  | Assign tgs e pos =>
   simp only[DE.st] at h;split at h
   ·split at h
    ·rename_i hc
     rw[G2z] at hc;split at h
     ·rename_i hoo
      rw[G2z] at hoo;obtain⟨d,he,h⟩:=Option.bind_eq_some_iff.mp h;obtain⟨dss,hd,rfl⟩:=P0z.mp h;exact BR G hN hc.1 hc.2 hoo.1 hoo.2 he hd
     ·split at h
      ·rename_i hle
       rw[G2z] at hle;obtain⟨d,he,h⟩:=Option.bind_eq_some_iff.mp h;obtain⟨ds,hd,rfl⟩:=P0z.mp h
       cases d<;>simp[Kf] at hd
       subst hd;exact yW G hN hc.1 hc.2 hle.2 hle.1 he
      ·split at h
       ·split at h
        ·rename_i hno
         simp only[P0z] at h;obtain⟨d,he,rfl⟩:=h;exact Runs.frz0 (e:=e) (pF G (by rw[aG];exact hN) hc.1 (by rw[aG];exact hc.2) (fun _=>hno) he)
        ·cases h
       ·rename_i hno
        split at h
        ·rename_i hrd
         obtain⟨d,he,h⟩:=Option.bind_eq_some_iff.mp h;split at h
         ·rename_i hfl
          cases h;exact sI G hN hc.1 hc.2 hrd he hfl
         ·cases h
        ·simp only[P0z] at h
         obtain⟨d,he,rfl⟩:=h;refine pF G hN hc.1 hc.2 (fun hf=>?_) he;rw[hf,Bool.true_and] at hno;simpa using hno
    ·cases h
   ·split at h
    ·rename_i hs
     obtain⟨d,he,h⟩:=aH h;obtain⟨l,hl,h⟩:=aH h;simp only[P0z] at h;obtain⟨ρ',hb,rfl⟩:=h;rcases V2z _ _ |>.mp hs with hs | hs
     ·exact yV G hN hs he hl hb
     ·cases hs
    ·cases h
   ·split at h
    ·rename_i x px
     split at h
     ·simp at h
     ·split at h
      ·rename_i ds hx
       split at h
       ·rename_i hc
        simp only[G2z,X1z] at hc;obtain⟨d,h1,h⟩:=aH h;obtain⟨j,h4,h⟩:=aH h;obtain⟨n,h5,h⟩:=aH h;cases h;exact vN G hN hx hc.1.1 hc.1.2 hc.2 h1 (bD h4) h5
       ·cases h
      ·split at h
       ·rename_i ds hx'
        split at h
        ·rename_i hc
         simp only[G2z,X1z] at hc;obtain⟨d,h1,h⟩:=aH h;obtain⟨j,h4,h⟩:=aH h;obtain⟨n,h5,h⟩:=aH h;split at h
         ·rename_i hfl
          cases h;exact sH G hN hx' hc.1.1 hc.1.2 hc.2 h1 (bD h4) h5 hfl
         ·cases h
        ·cases h
       ·cases h
      ·cases h
    ·split at h
     ·rename_i dss hx
      split at h
      ·rename_i hc
       rw[G2z,G2z] at hc;obtain⟨d,h1,h⟩:=aH h;obtain⟨j1,h2,h⟩:=aH h;obtain⟨n1,h3,h⟩:=aH h;obtain⟨ds,h4,h⟩:=aH h;obtain⟨j2,h5,h⟩:=aH h;obtain⟨n2,h6,h⟩:=aH h;split at h
       ·rename_i h7
        cases h;exact vM G hN hx hc.1.1 hc.1.2 (by simpa using hc.2) h1 (bD h2) h3 h4 (bD h5) h6 h7
       ·cases h
      ·cases h
     ·cases h
    ·cases h
   ·cases h
  | Expr v pos =>
   simp only[DE.st] at h;split at h
   ·rename_i x px m ap e cp
    split at h
    ·rename_i ds hx
     split at h
     ·rename_i hc
      rw[G2z,G2z] at hc;obtain⟨⟨c1,c2⟩,c4⟩:=hc;split at h
      ·rename_i hc2
       rw[G2z] at hc2;simp only[P0z] at h;obtain⟨d,he,rfl⟩:=h
       have em:m="append":=by simpa using hc2.1
       subst em;exact pH G hN hx c1 c2 c4 hc2.2 he
      ·split at h
       ·rename_i hc3
        obtain⟨d,he,h⟩:=aH h
        have em:m="extend":=by simpa using hc3
        subst em;split at h
        ·split at h
         ·rename_i hz
          cases h;exact pG G hN hx c1 c2 c4 hz he
         ·cases h
        ·split at h
         ·rename_i hz
          cases h;exact nU G hN hx c1 c2 c4 hz he
         ·cases h
        ·cases h
       ·cases h
     ·cases h
    ·split at h
     ·rename_i ds hx
      split at h
      ·rename_i hc
       rw[G2z,G2z,G2z,G2z] at hc;obtain⟨⟨⟨c1,c2⟩,c4⟩,c5,c6⟩:=hc;obtain⟨d,he,h⟩:=aH h
       have em:m="append":=by simpa using c5
       subst em;split at h
       ·rename_i hfl
        cases h;exact nW G hN hx c1 c2 c4 c6 he hfl
       ·cases h
      ·cases h
     ·cases h
    ·cases h
   ·cases h
   ·cases h
   ·rename_i h1 h3 h4
    simp only[P0z] at h;obtain⟨d,he,rfl⟩:=h;exact vQ G hN he fun a b c p q=>h3 a b c p q
  | If c a b pos =>
   simp only[DE.st] at h;obtain⟨t,h1,h⟩:=aH h;have he:=cJ h1;intro σ H Hs D hd _ hn hr;refine PS.sem (pR cg bh bh) (qQ G hN he hd fun Hs' H' sm h'=>?_)
   cases t with
   | true =>
    simp only[D4z] at h;exact mV (block a _ fl hN h σ H' Hs' D h' hN (fun ρ2 σ2 Hs2 H2 q2 sm2=>hn ρ2 σ2 Hs2 H2 q2 (sm.trans sm2)) hr)
   | false =>
    simp only[M1z,B4z] at h;exact oh (block b _ fl hN h σ H' Hs' D h' hN (fun ρ2 σ2 Hs2 H2 q2 sm2=>hn ρ2 σ2 Hs2 H2 q2 (sm.trans sm2)) hr)
  | For tg iter body orelse pos =>
   simp only[DE.st] at h;split at h
   ·obtain⟨l,hI,h⟩:=aH h
    refine uM G hN hI (fun d ρ1 fl hf hN1=>?_) h;obtain⟨ρ2,g1,g2⟩:=aH hf;exact⟨ρ2,g1,fun hN2=>block body ρ2 fl hN2 g2⟩
   ·cases h
  | While c body orelse pos =>
   simp only[DE.st] at h;split at h
   ·simp at h
   ·cases h
  | _=>exact nomatch (show(Option.none:Option Fl)=some fl from h)
theorem uL(cx:Cxt)(F:Nat):∀ (n:Nat) {k:Nat} {X:Cx} {sc:Scope} {ρ:Rho} {s:Stmt} {c:Str} {ρ':Rho} {Hs0 H0:Hp},GoodS cx k X.nox sc->X.N=ρ.map (·.1)->DE.stx cx F n sc ρ s=some (c,ρ')->uE cx.rs X Hs0 H0 ρ c ρ' (fG X s)
 | 0,k,X,sc,ρ,s,c,ρ',Hs0,H0,_,_,h=>by simp[DE.stx] at h
 | n+1,k,X,sc,ρ,s,c,ρ',Hs0,H0,G,hN,h=>by
  have GX:Good cx k X sc:=⟨G.good.calm,G.good.room,G.good.sce,G.good.kind,G.good.nd,G.good.cst,G.good.blt,G.good.exs,G.good.fns,G.good.kw⟩
  have block:∀ (l:List Stmt) (ρ:Rho) (c:Str) (ρ':Rho),X.N=ρ.map (·.1)->lq (fun ρ s=>DE.st cx F n sc ρ s) (fun ρ s=>DE.stx cx F n sc ρ s) l ρ=some (c,ρ')->uE cx.rs X Hs0 H0 ρ c ρ' (dJ X l):=fun l ρ c ρ' hN h =>
   qM (fun ρ s fl hN h=>lu cx F n G hN h) (fun ρ s c ρ' hN h=>uL cx F n G hN h) l ρ hN h
  simp only[DE.stx] at h;split at h
  ·rename_i cc np txt j p1 cpos pos
   split at h
   ·rename_i hc
    cases h;simp only[G2z] at hc;obtain⟨⟨⟨h1,h2⟩,h3⟩,h4⟩:=hc;obtain⟨C,M,e1,_,e2,_⟩:=GX.exs.cls c h3
    have hg:Gl X c:=by
     have e:sc.names.lookup c=some .globalImplicit:=by unfold lN at h2;simpa using h2
     show X.env.scope.names.lookup c=_;rw[GX.sce,e]
    unfold au at h4;rw[G2z,W3z] at h4;intro σ H Hs D hd _ hx z0 s I;obtain⟨E,x1,x2,x3⟩:=hx σ Hs H (.refl _) hN hd;exact sS I GX.room.hd hg (GX.exs.glob _ _ e1) (by simpa using h4.1) e2 fun s2 h' e args I2 hm=>x3 h1 z0 H s2 C e h' args I2 hm (x1 C H Hs e1 (.refl hd.ext.sub))
   ·cases h
  ·rename_i e pos
   split at h
   ·cases h
   ·rename_i hfr
    obtain⟨c1,h1,h2⟩:=P0z.mp h;cases h2;intro σ H Hs D hd _ hx;exact PS.sem (dX ak (uK h1 (by simpa using hfr))) (mZ GX hN h1 hd hx)
  ·rename_i e pos
   obtain⟨c1,h1,h2⟩:=P0z.mp h;cases h2;intro σ H Hs D hd _ hx;exact PS.sem (iC ak) (mZ GX hN h1 hd hx)
  ·rename_i x px e pos
   split at h
   ·cases h
   ·rename_i hfr
    obtain⟨c1,h1,h2⟩:=P0z.mp h;cases h2;intro σ H Hs D hd _ hx z0 s I;exact wpAny_Assign_Name (thn (mZ (Q:=fun _ _=>False) GX hN h1 hd hx z0 s I) fun v s1 ⟨_,_,_,_,q⟩=>q.elim) (uK h1 (by simpa using hfr))
  ·rename_i cc a b pos
   split at h
   ·rename_i kk hk
    have he:=cJ hk
    have hN':X.N=(frz F cc ρ).map (·.1):=by rw[aG];exact hN
    intro σ H Hs D hd _ hx;obtain⟨Hs1,sm1,h1⟩:=hd.frozen F cc;refine PS.sem (pR cg bh bh) ((bR cx F GX hN' he).2 kk rfl σ H Hs1 _ h1.ext.sub h1.sh fun H' Hs' E=>?_);have h2:=h1.step E
    cases kk with
    | true=>exact mV (block a _ c ρ' hN' h σ H' Hs' D h2 hN' fun σ3 Hs3 H3 sm3=>hx σ3 Hs3 H3 ((sm1.trans E.vis).trans sm3))
    | false=>exact oh (block b _ c ρ' hN' h σ H' Hs' D h2 hN' fun σ3 Hs3 H3 sm3=>hx σ3 Hs3 H3 ((sm1.trans E.vis).trans sm3))
   ·rename_i hk
    split at h
    ·rename_i e hn
     obtain⟨c1,h1,h2⟩:=P0z.mp h;cases h2;unfold ql at hn;split at hn
     ·rename_i f as ks p1 p2
      cases hn
      have hN':X.N=(frz F (.UnaryOp .Not (.Call f as ks p1) p2) ρ).map (·.1):=by rw[aG];exact hN
      intro σ H Hs D hd _ hx;obtain⟨Hs1,sm1,hd1⟩:=hd.frozen F (.UnaryOp .Not (.Call f as ks p1) p2);obtain⟨E,e1,e2,_⟩:=hx σ Hs1 H sm1 hN' hd1;exact PS.sem (pR (uR (uQ ak)) bh bh) (eY cx F GX hN' h1 σ H Hs1 E hd1.ext.sub hd1.sh e1 e2 _)
     ·cases hn
    ·cases h
  ·rename_i tg iter body pos
   split at h
   ·obtain⟨c1,h1,h2⟩:=P0z.mp h
    cases h2;intro σ H Hs D hd _ hx z0 s I;rw[arm_exec_For];exact T3z (D3z (T3z (thn (mZ (Q:=fun _ _=>False) GX hN h1 hd hx z0 s I) fun v s1 ⟨_,_,_,_,q⟩=>q.elim)))
   ·cases h
  ·cases h
end
structure FunAt (K:Zf) (mg:Str->Option Value) (f:Str) (fd:Fd):Prop where
 ex:∃ (nm:Str) (t:Stmt) (a:Addr) (g:FuncData),mg f=some (.ref a)/\Fun K nm nm t a g/\Binds K g fd.ps []/\fd.body=aQ t/\fd.sc=aB t
 fs:FnScope fd.N fd.ps fd.sc
 nd:(f==("__debug__":Str))=false
structure Text (w:World) (K:Zf) (mg:Str->Option Value) (P:Pg):Prop where
 cst:∀ x d,P.cst.lookup x=some d->∃ v u,(∀ H,Rep K H d v)/\mg x=some u/\RelV v u
 blt:∀ x b,P.blt.lookup x=some b->mg x=none/\x=Str.ofString b
 fns:∀ f fd,P.defs.lookup f=some fd->FunAt K mg f fd
 exs:XText K mg P.exs P.top
 kw:KnW K w
def Kp(ps:List (Str×Str)):D:=.dic (ps.map fun p=>.inr p.1) (ps.map fun p=>.str p.2)
def dEs(o:Obj):Array DictEntry:=match o.data with | .dict es _=>es | _ => #[]
def dN(o:Obj):Nat:=match o.data with | .dict _ n=>n | _=>0
def isS(x:Str):Value->Bool
 | .str y _=>x==y
 | _=>false
theorem u5{x:Str}{v:Value}(h:isS x v=true):∃ t,v=.str x t:=by
 unfold isS at h;split at h
 ·rename_i y t
  have e:x=y:=by simpa using h
  subst e;exact⟨t,rfl⟩
 ·cases h
def chk:List (Str×Str)->List DictEntry->Bool
 | [],[]=>true
 | p::r,e::es=>isS p.1 e.key&&isS p.2 e.val&&chk r es
 | _,_=>false
theorem vp{K:Zf}{H:Hp}:∀ {ps:List (Str×Str)} {es:List DictEntry},chk ps es=true->∃ kvs:List (Key×V),kvs.map (·.1)=ps.map (fun p=>Sum.inr p.1)/\aJ K H (ps.map fun p=>D.str p.2) (kvs.map (·.2))/\Paired (fun(p:Key×V) (e:DictEntry)=>(∃ x t,p.1=.inr x/\e.key=.str x t)/\RelV p.2 e.val) kvs es
 | [],[],_=>⟨[],rfl,.nil,.nil⟩
 | p::r,e::es,h=>by
  simp only[chk,G2z] at h;obtain⟨⟨h1,h2⟩,h3⟩:=h;obtain⟨kvs,g1,g2,g3⟩:=vp (K:=K) (H:=H) h3;obtain⟨t,e1⟩:=u5 h1;obtain⟨t',e2⟩:=u5 h2;exact⟨(.inr p.1,.str p.2)::kvs,by simp[g1],.cons (by simp[Rep]) g2,.cons ⟨⟨p.1,t,rfl,e1⟩,⟨t',e2⟩⟩ g3⟩
 | [],_::_,h=>by simp[chk] at h
 | _::_,[],h=>by simp[chk] at h
theorem Ax{K:Zf}{H H':Hp}{ps:List (Str×Str)}{kvs:List (Key×V)}(h:aJ K H (ps.map fun p=>D.str p.2) (kvs.map (·.2))):aJ K H' (ps.map fun p=>D.str p.2) (kvs.map (·.2)):=by
 generalize kvs.map (·.2)=vs at h ⊢
 induction ps generalizing vs with
 | nil=>simpa[aJ] using h
 | cons p r ih =>
  simp only[E3z,aJ] at h ⊢;obtain⟨v,q,h1,h2,h3⟩:=h;exact⟨v,q,h1,by simpa[Rep] using h2,ih _ h3⟩
theorem cD{K:Zf}{h:Heap}{mg:Str->Option Value}{x:Str}{ps:List (Str×Str)}(X:K.In h)(G:h.Ns mainGlobals mg)(a:Addr)(o:Obj)(e:PySem.W.nsIn K mainGlobals x=some (some (.ref a)))(l:K.lookup a=some o)(ex:o.ExactDict)(hd:o.data=.dict (dEs o) (dN o))(hc:(chk ps (dEs o).toList&&gH (ps.map (·.1)))=true)(hs:(a==sysModules)=false) :
  ∃ v u,(∀ H,Rep K H (Kp ps) v)/\mg x=some u/\RelV v u:=by
 rw[G2z] at hc;obtain⟨kvs,g1,g2,g3⟩:=vp (K:=K) (H:=fun _=>none) hc.1
 have nd:(kvs.map (·.1)).Nodup:=by
  rw[g1];have n:=dw hc.2
  have q:(ps.map fun p=>(Sum.inr p.1:Key))=(ps.map (·.1)).map Sum.inr:=by simp
  rw[q];exact List.Pairwise.map _ (fun a b hab z=>hab (Sum.inr.inj z)) n
 refine⟨.ref a,_,fun H=>?_,G3z X G e,rfl⟩;unfold Kp;simp only[Rep];exact⟨a,kvs,rfl,.inr ⟨o,dEs o,dN o,l,ex,hd,hs,nd,g3⟩,g1,Ax g2⟩
theorem cT{α:Type}:∀ {l:List (Str×α)} {x:Str},(l.map (·.1)).contains x=true->∃ a,l.lookup x=some a
 | [],x,h=>by simp at h
 | (y,a)::r,x,h=>by
  rw[D2z]
  cases hb:x==y with
  | true=>exact⟨a,rfl⟩
  | false =>
   refine cT ?_;rw[E3z,List.contains_cons,hb,Bool.false_or] at h;exact h
theorem gq{K:Zf}{H:Hp}{fd:Fd}{ds:List D}{vs:List V}(S:FnScope fd.N fd.ps fd.sc)(hl:ds.length=fd.ps.length)(r:aJ K H ds vs) :
  fd.N=(aZ fd ds).map (·.1)/\(start fd.N vs).length=(aZ fd ds).length/\∀ (i:Nat) (x:Str) (s:Sl),(aZ fd ds)[i]?=some (x,s)->(s=.no\/∃ d v,s=.sh d/\(start fd.N vs)[i]?=some (some v)/\Rep K H d v):=by
 have lv:=r.length
 have lz:(fd.ps.zip (ds.map Sl.sh)).length=fd.ps.length:=by rw[List.length_zip,P2z];omega
 have hpl:fd.ps.length<=fd.N.length:=by have:=congrArg List.length S.pre;rw[C2z] at this;omega
 refine⟨?_,?_,fun i x s e=>?_⟩
 ·unfold aZ
  rw[List.map_append,O3z,List.map_fst_zip (by rw[P2z];omega)]
  have:(fd.N.drop fd.ps.length).map ((fun p:Str×Sl=>p.1)∘fun x=>(x,Sl.no))=fd.N.drop fd.ps.length:=by
   rw[show((fun p:Str×Sl=>p.1)∘fun x=>(x,Sl.no))=id from rfl,List.map_id]
  rw[this]
  conv=>lhs;rw[<- List.take_append_drop fd.ps.length fd.N,S.pre]
 ·unfold start aZ
  rw[K1z,K1z,lz];simp;omega
 ·unfold aZ at e
  by_cases hi:i<fd.ps.length
  ·rw[List.getElem?_append_left (by rw[lz];exact hi),List.getElem?_zip_eq_some] at e
   obtain⟨_,e2⟩:=e;rw[List.getElem?_map] at e2;obtain⟨d,e3,rfl⟩:=P0z.mp e2;obtain⟨v,g1,g2⟩:=r.get e3;refine .inr ⟨d,v,rfl,?_,g2⟩;unfold start;rw[List.getElem?_append_left (by rw[P2z];omega),List.getElem?_map,g1];rfl
  ·rw[List.getElem?_append_right (by rw[lz];omega),List.getElem?_map] at e
   obtain⟨y,_,e3⟩:=P0z.mp e;cases e3;exact .inl rfl
section
variable {P:Program} {w:World} {K:Zf} {mg:Str->Option Value} {base:Heap} {T:Pg} {F:Nat}
abbrev vR(c:Str->List D->Option Rs):Str->List D->Option D:=fun f ds=>Rs.val? (c f ds)
abbrev xR(c:Str->List D->Option Rs):Str->List D->Option Str:=fun f ds=>Rs.exc? (c f ds)
theorem dB{o:Option Rs}{d:D}(h:Rs.val? o=some d):o=some (.val d):=by
 unfold Rs.val? at h;split at h
 ·cases h;rfl
 ·cases h
theorem dH{o:Option Rs}{c:Str}(h:Rs.exc? o=some c):o=some (.exc c):=by
 unfold Rs.exc? at h;split at h
 ·cases h;rfl
 ·cases h
theorem cI{k:Nat}{f:Str}{fd:Fd}(hf:T.defs.lookup f=some fd):∀ ds r,bG T F k f ds=some r->ds.length=fd.ps.length:=by
 intro ds d h
 cases k with
 | zero=>simp[lU] at h
 | succ k =>
  simp only[lR,hf] at h;split at h
  ·rename_i hl;simpa using hl
  ·cases h
theorem Fun.okX{x qual:Str}{st:Stmt}{f:Addr}{fd:FuncData}{N ps:List Str}{k:Nat}{sp:Sp}(F:Fun K x qual st f fd)(S:FnScope N ps (aB st))(len:∀ vs H Q E,sp vs H Q E->vs.length=ps.length)
  (hbody : ∀ (cdv : Value) (A : Around) (outer : List Env) (s : Shared) (H : Hp) (vs : List V) (Q : VK) (E : XK), Room k (A.deeper (envOfC qual (aB st) s.heap.objs.size f cdv)) -> sp vs H Q E ->
   ∃ t,PSs (dg (CX1 P w) P w K mg base N qual (aB st) f cdv A outer s H E) (aQ st) t/\t { nx:=fun _ H'=>Q .non H',rt:=Q } (start N vs) H):FnOk P w K mg base (CX1 P w) (k+1) f fd ps sp:=by
 obtain⟨oc,od,kV,doc,pm,an,cdv,ct,osl,rfl,lk,hcd⟩:=F.ex;exact Aj lk hcd S len fun A outer s H vs Q E hr hsp=>hbody cdv A outer s H vs Q E hr hsp
theorem nC(X:Text w K mg T):∀ (k:Nat) (nm f:Str) (fd:Fd) (t:Stmt) (a:Addr) (g:FuncData),T.defs.lookup f=some fd->Fun K nm nm t a g->fd.body=aQ t->fd.sc=aB t->FnScope fd.N fd.ps fd.sc->FnOk P w K mg base (CX1 P w) k a g fd.ps (spX K (vR (bG T F k)) (xR (bG T F k)) f fd.ps)
  | 0,nm,f,fd,t,a,g,hf,Fn,hb,hs,S=>by
    refine⟨fun vs H Q E h=>h.1,fun A outer s H args us vs Q E _ _ _ _ h=>?_⟩
    obtain⟨_,Hs,ds,_,_,⟨d,hc,_⟩ | ⟨c,hc,_⟩⟩:=h
    · have:=dB hc;simp[lU] at this
    · have:=dH hc;simp[lU] at this
  | k+1,nm,f,fd,t,a,g,hf,Fn,hb,hs,S=>by
    refine Fun.okX (N:=fd.N) Fn (by rw[<- hs];exact S) (fun vs H Q E h=>h.1) fun cdv A outer s H vs Q E hr h=>?_
    obtain⟨hlv,Hs,ds,hsm,rl,hcase⟩:=h
    have hld:ds.length=fd.ps.length:=by
      rcases hcase with⟨d,hc,_⟩ | ⟨c,hc,_⟩
      · exact cI hf ds _ (dB hc)
      · exact cI hf ds _ (dH hc)
    have unf:bG T F (k+1) f ds=oN (T.cx (bG T F k)) F fd.sc fd.body (aZ fd ds):=by
      simp only[lR,hf]
      rw[E4z (by simpa using hld)]
    obtain⟨s1,s2,s3⟩:=gq S hld rl
    refine⟨dJ _ (aQ t),bh,?_⟩
    have G:GoodS (T.cx (bG T F k)) k (dg (CX1 P w) P w K mg base fd.N nm (aB t) a cdv A outer s H E).nox fd.sc :=
      { good := { calm := rfl, room := hr, sce := hs.symm, kind := S.kind, nd := S.nd, cst := X.cst, blt := X.blt, exs := X.exs, kw := X.kw
                  fns:=fun f' hf'=>by
                    obtain⟨fd',hl'⟩:=cT (l:=T.defs) hf'
                    have FA:=X.fns f' fd' hl'
                    obtain⟨nm',t',a',g',m1,m2,m3,m4,m5⟩:=FA.ex
                    exact⟨FA.nd,a',g',fd'.ps,fun ds d h=>cI hl' ds _ (dB h),fun ds c h=>cI hl' ds _ (dH h),m1,m2.kp,m3,nC X k nm' f' fd' t' a' g' hl' m2 m4 m5 FA.fs⟩ }
        own:=⟨fun x hx=>⟨by
          unfold ownIn at hx
          rw[V2z] at hx
          show(aB t).names.lookup x=_\/(aB t).names.lookup x=_
          rw[<- hs]
          exact hx.imp (fun q=>by simpa using q) (fun q=>by simpa using q),.inl rfl⟩⟩
        pass:=PassesOwn.never
        stk:=⟨rfl,rfl⟩ }
    have noow:∀ (i:Nat) (x:Str) (ds':List D),(aZ fd ds)[i]?=some (x,.ow ds')->False:=fun i x ds' e=>by
      rcases s3 i x _ e with q | ⟨d',v,q,q1,q2⟩
      · cases q
      · cases q
    have hd:Hd K none Hs H Hs H (aZ fd ds) (start fd.N vs):=by
      refine⟨.refl hsm,s2,fun i x d e=>?_,fun i x ds' e=>(noow i x ds' e).elim,fun i j x y ds' es a' _ e=>(noow i x ds' e).elim,(fun i x dss e=>by
        rcases s3 i x _ e with q | ⟨d',v,q,q1,q2⟩
        · cases q
        · cases q),fun p hp=>nomatch hp⟩
      rcases s3 i x _ e with q | ⟨d',v,q,q1,q2⟩
      · cases q
      · cases q
        exact⟨v,q1,q2⟩
    rcases hcase with⟨d,hc,hq⟩ | ⟨c,hc,hq⟩
    · have hc':=dB hc
      rw[unf] at hc'
      unfold oN at hc'
      intro z0 s0 I
      have fin:∀ fl,fD (fun ρ s=>DE.st (T.cx (bG T F k)) F F fd.sc ρ s) fd.body (aZ fd ds)=some fl->(match fl with | .ret d'=>d'=d | .nxt _=>d=.non)->dJ (dg (CX1 P w) P w K mg base fd.N nm (aB t) a cdv A outer s H E).nox (aQ t) { nx:=fun _ H'=>Q .non H',rt:=Q } (start fd.N vs) H:=by
        intro fl hg hfl
        rw[hb] at hg
        refine qL (fun ρ s fl hN h=>lu _ F F G hN h) (aQ t) (aZ fd ds) fl s1 hg (start fd.N vs) H Hs _ hd s1 (fun ρ' σ' Hs' H' q _ _ hd'=>?_) fun d' v Hs' H' q E' r _=>?_
        · subst q
          have e:d=.non:=hfl
          subst e
          exact hq .non H' Hs' hd'.ext (by simp[Rep])
        · subst q
          have e:d'=d:=hfl
          subst e
          exact hq v H' Hs' E' r
      have key:dJ (dg (CX1 P w) P w K mg base fd.N nm (aB t) a cdv A outer s H E).nox (aQ t) { nx:=fun _ H'=>Q .non H',rt:=Q } (start fd.N vs) H:=by
        split at hc'
        · rename_i d' hg;cases hc';exact fin _ hg rfl
        · rename_i ρ' hg;cases hc';exact fin _ hg rfl
        · split at hc'<;>cases hc'
      exact S3z (key z0 s0 (I.wish _)) (fun _ _ q=>q.unwish) fun _ _ z=>False.elim z
    · have hc':=dH hc
      rw[unf] at hc'
      unfold oN at hc'
      split at hc'
      · cases hc'
      · cases hc'
      · split at hc'
        · rename_i c' ρ' hg
          cases hc'
          rw[hb] at hg
          refine qM (rs:=true) (X:=dg (CX1 P w) P w K mg base fd.N nm (aB t) a cdv A outer s H E) (fun ρ s fl hN h=>lu _ F F G hN h) (fun ρ s c ρ' hN h=>uL _ F F G hN h) (aQ t) (aZ fd ds) s1 hg (start fd.N vs) H Hs _ hd s1 fun σ1 Hs1 H1 _ _ hd1=>?_
          refine⟨E,fun C H2 Hs2 q E2=>hq C H2 Hs2 q (hd1.ext.trans E2),fun z0 H2 s2 e s3 I2 hcx=>qb z0 σ1 H2 s2 e s3 I2 hcx,fun _ z0 H2 s2 C e h' args I2 hm hE=>nZ I2 hm hE⟩
        · cases hc'
theorem FnOk.calm{k:Nat}{f:Addr}{fd:FuncData}{ps:List Str}{sp:Sp}(F:FnOk P w K mg base (CX1 P w) k f fd ps sp)(h:∀ vs H Q E,sp vs H Q E->sp vs H Q E0):FnOk P w K mg base CX0 k f fd ps sp :=
 ⟨F.len,fun A outer s H args us vs Q E hr he hb hv hs=>M3z (F.run A outer s H args us vs Q E0 hr he hb hv (h _ _ _ _ hs)) fun r s' q=>by
  cases r with
  | error e=>obtain⟨_,_,_,_,_,_,z⟩:=(show CX1 P w outer H s E0 e s' from q);exact z.elim
  | ok fl=>cases fl<;>exact q⟩
def mq(K:Zf):Sp:=fun vs H Q _=>∃ (a:Addr) (ns:List Int),vs=[.ref a]/\SqL K H a (ns.map V.int)/\ns.length<=63/\∀ H',Q (.bl true) H'
theorem zZ{k:Nat}{f:Str}{fd:Fd}{t:Stmt}{a:Addr}{g:FuncData}(X:Text w K mg T)(hf:T.defs.lookup f=some fd)(Fn:Fun K f f t a g)(hb:fd.body=aQ t)(hs:fd.sc=aB t)(S:FnScope fd.N fd.ps fd.sc)(h1:fd.ps.length=1)
  (hlaw:∀ ns:List Int,ns.length<=63->kh T F k f [.lst (ns.map D.int)]=some (.bl true)):FnOk P w K mg base CX0 k a g fd.ps (mq K):=by
 refine FnOk.calm ((nC (F:=F) X k f f fd t a g hf Fn hb hs S).imp fun vs H Q E h=>?_) fun _ _ _ _ h=>h;obtain⟨p,ns,rfl,hS,hl,q⟩:=h;refine⟨by rw[h1];rfl,H,[.lst (ns.map D.int)],.refl _,.cons ?_ .nil,.inl ⟨.bl true,by have:=hlaw ns hl;rw[jA] at this;exact this,fun v H' Hs' _ r=>by rw[bI r];exact q H'⟩⟩;simp only[Rep];exact⟨p,ns.map V.int,rfl,hS,fW (fun x=>by simp[Rep]) ns⟩
end
end L2
namespace L2
open PySem PySem.Spec PyProof.Rows DE
section
variable {P:Program} {w:World} {K:Zf} {mg:Str->Option Value} {base:Heap} {N:List Str} {qual:Str} {scope:Scope} {f:Addr} {cd:Value} {cl:List (Str×Addr)} {A:Around} {outer:List Env} {s:Shared} {H:Hp} {E:XK}
theorem sZ:Passes (CX1 P w) (ju (CX1 P w) P w K mg base N qual scope f cd cl A outer s H E) E:=by
 intro z0 σ H1 s1 e s' I h;obtain⟨ea,cls,H',rfl,Fl,hn,hE⟩:=h;obtain⟨B,a0,fl,hokB,kB,tB⟩:=Fl.fly;have hfr:frs (ju (CX1 P w) P w K mg base N qual scope f cd cl A outer s H E).stack=s.heap.objs.size::frs outer:=ji rfl;have nL:∀ b o,s.heap.get? b=some o->b≠s.heap.objs.size:=fun b o q=>I3z (H3z q)
 have nin:∀ b o,s.heap.get? b=some o->b∉frs outer->b∉frs (ju (CX1 P w) P w K mg base N qual scope f cd cl A outer s H E).stack:=fun b o q hb z=>by
  rw[hfr] at z;rcases List.mem_cons.mp z with z | z
  ·exact nL b o q z
  ·exact hb z
 have noex:∀ b:Addr,b∉(ju (CX1 P w) P w K mg base N qual scope f cd cl A outer s H E).ex:=fun b z=>absurd (show b∈([]:List Addr) from z) (by simp);show wpAny _ _ (leaving _ (.ref ea)) _ _ _;refine wpAny_leaves_onW I.ok.frames rfl fl fun h2 fl2 up=>?_;refine⟨ea,cls,H',rfl,⟨Fl.os.trans I.os,Fl.bare,?_,⟨B,a0,fl2,hokB,fun b o q n hb=>?_,fun b o q hb=>?_⟩,?_⟩,hn,hE⟩
 ·have U1:=Un.fly Fl.un kB tB fl2.1 (qm fl.2.2.1) up
  have U0:Un (frs (ju (CX1 P w) P w K mg base N qual scope f cd cl A outer s H E).stack) [] H H1 s.heap s1.heap:=I.base.mono (fun b hb=>by rw[hfr];exact S0z _ hb) (fun b hb=>hb)
  exact(U0.trans U1).restrict fun b o hb q=>by
   rw[hfr] at hb;rcases List.mem_cons.mp hb with z | z
   ·exact absurd z (nL b o q)
   ·exact z
 ·exact kB b o (I.base.keep b o q n hb (noex b)) (I.base.free b o q n (noex b)) (nin b o q hb)
 ·obtain⟨o1,q1⟩:=I.base.there b o q (noex b)
  exact tB b o1 q1 (nin b o q hb)
 ·cases q:s.heap.get? ea with
  | none=>rfl
  | some o =>
   obtain⟨o1,q1⟩:=I.base.there ea o q (noex ea);rw[Fl.fresh] at q1;cases q1
end
section
variable {P:Program} {w:World} {K:Zf} {mg:Str->Option Value} {base:Heap} {T:Pg} {F k:Nat}
def spL(K:Zf)(Hs0:Hp)(c:Str):Sp:=fun vs H Q E=>vs=[]/\Same Hs0 H/\∀ C H' Hs',PySem.W.nsIn K mainGlobals c=some (some (.ref C))->Ext Hs0 H Hs' H'->E (.ref C) none H'
theorem z6(X:Text w K mg T){f c':Addr}{name qual:Str}{params:Arguments}{body:Expr}{scope:Scope}{pm ctv:Value}{cl:List (Str×Addr)}{ws:List V}{ρ:Rho}{Hs0:Hp}{c:Str}
    (lk:base.get? f=some (PySem.W.kla_obj name qual params body scope cl pm c' ctv)) (hcd:base.CodeRec (.ref c') qual) (L:LamNames base scope (ρ.map (·.1)) ws cl) (hnd:(ρ.map (·.1)).Nodup)
    (hr:bC K Hs0 ρ (ws.map some)) (he:evx (T.cx (bG T F k)) F scope ρ body=some c) :
    FnOk P w K mg base (CX1 P w) (k+1) f (PySem.W.kla_fn name qual params body scope cl pm (.ref c') ctv) [] (spL K Hs0 c):=by
  refine z7 lk hcd L (fun vs H Q E h=>by rw[h.1];rfl) fun A outer s H Q E hroom h=>?_
  obtain⟨_,hsm,hE⟩:=h
  refine⟨iz _ body,ak,?_⟩
  have G:Good (T.cx (bG T F k)) k (ju (CX1 P w) P w K mg base (ρ.map (·.1)) qual scope f (.ref c') cl A outer s H E) scope :=
    { calm := rfl, room := hroom, sce := rfl, kind := L.kind, nd := hnd, cst := X.cst, blt := X.blt, exs := X.exs, kw := X.kw
      fns:=fun f' hf'=>by
        obtain⟨fd',hl'⟩:=cT (l:=T.defs) hf'
        have FA:=X.fns f' fd' hl'
        obtain⟨nm',t',a',g',m1,m2,m3,m4,m5⟩:=FA.ex
        exact⟨FA.nd,a',g',fd'.ps,fun ds d h=>cI hl' ds _ (dB h),fun ds c h=>cI hl' ds _ (dH h),m1,m2.kp,m3,nC X k nm' f' fd' t' a' g' hl' m2 m4 m5 FA.fs⟩ }
  exact eY _ F G rfl he (ws.map some) H Hs0 E hsm hr hE (fun z0 H1 s1 e s' I h=>sZ z0 _ H1 s1 e s' I h) Q
end
end L2
namespace L2
open PySem PySem.Spec PyProof.Rows DE PySem.SeqAt
structure GoodC (cx:Cxt) (X:Cx) (sc:Scope):Prop where
 un:X.A.units+100<cLine
 sce:X.env.scope=sc
 nd:X.N.Nodup
 blt:∀ x b,cx.blt.lookup x=some b->X.mg x=none/\x=Str.ofString b
 exs:XText X.K X.mg cx.exs cx.top
def evC(cx:Cxt):Nat->Scope->Rho->Expr->Option D
 | 0,_,_,_=>none
 | n+1,sc,ρ,e=>match e with
  | .Name x _=>if au x&&sc.names.lookup x==some .local then(match ρ.lookup x with | some (.sh d)=>some d | _=>none) else none
  | .Constant c _ _=>(match c with
    | .none=>some .non
    | .bool b=>some (.bl b)
    | .int i=>some (.int i)
    | .str x=>some (.str x)
    | _=>none)
  | .BinOp a op b _=>do let x <- evC cx n sc ρ a;let y <- evC cx n sc ρ b;binop op x y
  | .UnaryOp .Not a _=>do let x <- evC cx n sc ρ a;(asB x).map fun b=>.bl (!b)
  | .BoolOp op es _=>fC op (evC cx n sc ρ) es
  | .Compare a [.NotEq] [b] _=>do let i <- (evC cx n sc ρ a).bind asI;let j <- (evC cx n sc ρ b).bind asI;some (.bl (!(i==j)))
  | .List es _=>do let ds <- iD (evC cx n sc ρ) es;if szl ds.length then some (.lst ds) else none
  | .Subscript a b _=>do let x <- evC cx n sc ρ a;let i <- (evC cx n sc ρ b).bind asI;let xs <- items x;atD xs i
  | .Call (.Name x _) [a,t] [] _=>if aU cx sc x==some "isinstance" then do
    let d <- evC cx n sc ρ a
    match d with
    | .exc c=>if cx.exs.contains c then(match xOf cx sc t with
     | some c'=>some (.bl (oW cx.top c c'))
     | none=>if tyOf cx sc t==some "ValueError" then some (.bl true) else none) else none
    | _=>none
   else none
  | .Call (.Attribute (.Name y py) m ap) [e] [] p=>if ap.endLine==p.line then do
    let x <- evC cx n sc ρ (.Name y py)
    let z <- evC cx n sc ρ e
    jf m x z
   else none
  | _=>none
section
variable {X:Cx} {ρ:Rho} {cx:Cxt} {k:Nat} {sc:Scope}
theorem bT:∀ {n:Nat} {ρ:Rho} {e:Expr} {d:D},evC cx n sc ρ e=some d->aA e=true
 | 0,_,_,_,h=>by simp[evC] at h
 | n+1,ρ,e,d,h=>by
  unfold evC at h
  cases e<;>first | rfl | (simp at h;done)
theorem rH{x:Str}{b:String}(G:GoodC cx X sc)(h:aU cx sc x=some b):Gl X x/\X.mg x=none/\x=Str.ofString b:=by
 unfold aU lN at h;split at h
 ·rename_i hg
  have e:sc.names.lookup x=some .globalImplicit:=by simpa using hg
  obtain⟨h1,h2⟩:=G.blt x b h;exact⟨by show X.env.scope.names.lookup x=_;rw[G.sce,e],h1,h2⟩
 ·cases h
theorem lM{x c:Str}{t a:Expr}{cv:V}{cw:Value}{b:Bool}{p pos:Pos}(G:GoodC cx X sc)(hx:aU cx sc x=some "isinstance")(hc:cx.exs.contains c=true)(ht:PE X t (tC cv))(hpt:aA t=true)(hcv:∀ u,RelV cv u->u=cw)
  (hk:∀ C,PySem.W.nsIn X.K mainGlobals c=some (some (.ref C))->PySem.W.kitOne X.K (.ref C) cw=some b) (ha:Ev X ρ a (.exc c)) (hp:aA a=true):Ev X ρ (.Call (.Name x p) [a,t] [] pos) (.bl b):=by
 obtain⟨hg,hm,rfl⟩:=rH G hx;obtain⟨C,M,e1,_,_,e2,_⟩:=G.exs.cls c hc;intro σ H Hs Q hs hst hq;refine(bM (j8 (X:=X) (cv:=cv) e2 hcv (hk C e1)) hg hm (by decide +kernel) (aP ak (aP ht bw (aj hpt)) (aj hp)) (by decide) (by decide) (aj hp) (by rw[aj hpt];rfl)).sem ?_;refine ha σ H Hs _ hs hst fun v H1 Hs1 E1 r1=>?_;have r2:=Rep.same E1.sub _ v r1;simp only[Rep] at r2;obtain⟨a0,C0,rfl,f1,f2⟩:=r2;rw[e1] at f1;cases f1;exact⟨a0,rfl,f2,hq _ H1 Hs1 E1 (by simp[Rep])⟩
theorem uX(hu:X.A.units<cLine):OpR X (compareOp .NotEq) (fun u v H Q=>∃ i j,u=.int i/\v=.int j/\Q (.bl (!(i==j))) H):=by
 intro z0 s σ H u v w z Q I ru rv h;obtain⟨i,j,rfl,rfl,q⟩:=h;exact(jw (d:=.int i) (d':=.int j) I X.A (by simp[Rep]) (by simp[Rep]) ru rv (by simp only[dep];omega) (by simp[dep]) (by simp[dep])).2 _ _ _ _ ⟨.bl _,H,I,rfl,q⟩
theorem jX(G:GoodC cx X sc)(hN:X.N=ρ.map (·.1)):∀ (n:Nat) {e:Expr} {d:D},evC cx n sc ρ e=some d->Ev X ρ e d/\∀ b,d=.bl b->EvT X ρ e b
 | 0,e,d,h=>by simp[evC] at h
 | n+1,e,d,h=>by
  have ih:∀ e d,evC cx n sc ρ e=some d->Ev X ρ e d/\∀ b,d=.bl b->EvT X ρ e b:=fun e d h=>jX G hN n h;have ihp:∀ e d,evC cx n sc ρ e=some d->Ev X ρ e d/\aA e=true:=fun e d h=>⟨(ih e d h).1,bT h⟩;have val:∀ {e d},(∀ whole,isTrue e X.env whole=(do let v <- whole;standAt e.pos;holding [v] (truthy v)))->Ev X ρ e d->Ev X ρ e d/\∀ b,d=.bl b->EvT X ρ e b:=fun he h1=>⟨h1,fun b hb=>by subst hb;exact qW h1 he⟩;simp only[evC] at h;split at h
  ·split at h
   ·rename_i hp
    rw[G2z] at hp;split at h
    ·rename_i d' hl
     cases h;refine val (fun _=>rfl) (qR hN ?_ hp.1 hl);exact .inl (by rw[G.sce];simpa using hp.2)
    ·cases h
   ·cases h
  ·exact val (fun _=>rfl) (m7 h)
  ·obtain⟨x,h1,h⟩:=aH h
   obtain⟨y,h2,h⟩:=aH h;exact val (fun _=>rfl) (m8 (ih _ _ h1).1 (ih _ _ h2).1 h)
  ·obtain⟨x,h1,h⟩:=aH h
   obtain⟨b,h2,rfl⟩:=P0z.mp h
   cases x<;>simp[asB] at h2
   subst h2;refine⟨vd (ih _ _ h1).1,fun c hc=>?_⟩;cases hc;exact qX ((ih _ _ h1).2 _ rfl)
  ·obtain⟨h1,h2⟩:=gP (fun e _ d hd=>ih e d hd) h
   exact⟨h1,fun b hb=>(h2 b hb).t⟩
  ·obtain⟨i,h1,h⟩:=aH h
   obtain⟨j,h2,h⟩:=aH h;cases h;have h1':=bD h1;have h2':=bD h2
   have hu:X.A.units<cLine:=by have:=G.un;omega
   refine⟨cu (ih _ _ h1').1 (ih _ _ h2').1 (lD (uX hu) ak ak (bZ (bT h2'))) fun u v H Hs Q hs r1 r2 hq=>⟨i,j,aD r1,aD r2,hq _ H Hs (.refl hs) (by simp[Rep])⟩,fun c' hc' σ H Hs Q hs hst hq=>?_⟩;cases hc';refine(pN (uX hu) ak ak (bZ (bT h2'))).sem ((ih _ _ h1').1 σ H Hs _ hs hst fun u H1 Hs1 E1 r1=>(ih _ _ h2').1 σ H1 Hs1 _ E1.sub (hst.same E1.vis) fun v H2 Hs2 E2 r2=>?_);exact⟨i,j,aD r1,aD r2,_,rfl,hq H2 Hs2 (E1.trans E2)⟩
  ·obtain⟨ds,h1,h⟩:=aH h
   split at h
   ·rename_i hz
    cases h;exact val (fun _=>rfl) (qT (cX (fun e _ d hd=>ihp e d hd) h1).1 hz)
   ·cases h
  ·obtain⟨x,h1,h⟩:=aH h
   obtain⟨i,h2,h⟩:=aH h;obtain⟨us,h3,h⟩:=aH h;have h2':=bD h2;exact val (fun _=>rfl) (jm (ih _ _ h1).1 (ih _ _ h2').1 (bT h2') h3 h)
  ·split at h
   ·rename_i hb
    have hx:=eq_of_beq hb;obtain⟨d1,h1,h⟩:=aH h;split at h
    ·rename_i c
     split at h
     ·rename_i hc
      refine val (fun _=>rfl) ?_;split at h
      ·rename_i c' hxo
       cases h;obtain⟨pt,rfl,hgl,hin,hd⟩:=uH hxo
       have hg:Gl X c':=by
        have e:sc.names.lookup c'=some .globalImplicit:=by unfold lN at hgl;simpa using hgl
        show X.env.scope.names.lookup c'=_;rw[G.sce,e]
       by_cases htop:c'=cx.top
       ·subst htop
        obtain⟨C,M,e1,e2,_,_,_,e3,_⟩:=G.exs.cls c hc
        have:oW cx.top c cx.top=true:=by unfold oW;simp
        rw[this];refine lM (cv:=.ref M) (cw:=.ref M) G hx hc (gD hg (G.exs.glob _ _ e2) rfl hd) rfl (fun u r=>r) (fun C' e=>?_) (ih _ _ h1).1 (bT h1);rw[e] at e1;cases e1;exact e3
       ·have hin':cx.exs.contains c'=true:=hin.resolve_right htop
        obtain⟨C,C',e1,e2,e3⟩:=G.exs.sub c c' hc hin'
        have:oW cx.top c c'=(c==c'):=by
         unfold oW
         have:(c'==cx.top)=false:=by simpa using htop
         rw[this,Bool.or_false]
        rw[this];refine lM (cv:=.ref C') (cw:=.ref C') G hx hc (gD hg (G.exs.glob _ _ e2) rfl hd) rfl (fun u r=>r) (fun C'' e=>?_) (ih _ _ h1).1 (bT h1);rw[e] at e1;cases e1;exact e3
      ·split at h
       ·rename_i ht
        cases h;obtain⟨t,pt,rfl,ht'⟩:=o8 (eq_of_beq ht);obtain⟨hg2,hm2,rfl⟩:=rH G ht';refine lM (cv:=.ty "ValueError") (cw:=.type "ValueError") G hx hc (lE hg2 hm2 (by decide +kernel) rfl) rfl (fun u r=>r) (fun C e=>?_) (ih _ _ h1).1 (bT h1);obtain⟨C',M,e1,_,_,_,_,_,e2⟩:=G.exs.cls c hc;rw[e] at e1;cases e1;exact e2
       ·cases h
     ·cases h
    ·cases h
   ·cases h
  ·split at h
   ·rename_i hl
    obtain⟨x,h1,h⟩:=aH h;obtain⟨z,h2,h⟩:=aH h;exact val (fun _=>rfl) (m6 (ih _ _ h1).1 (ih _ _ h2).1 (bT h2) hl h)
   ·cases h
  ·cases h
def runC(cx:Cxt)(F:Nat)(sc:Scope):List Stmt->Rho->Option D
 | [],_=>none
 | s::r,ρ=>match s with
  | .Assign [.Name x _] e _=>if sc.names.lookup x==some .local&&(ρ.map (·.1)).contains x then(match e with
    | .ListComp .. =>none
    | e=>(evC cx F sc ρ e).bind fun d=>runC cx F sc r (bV ρ x (.sh d))) else none
  | .If c [.Return (some e) _] [] _=>((evC cx F sc ρ c).bind asB).bind fun b=>if b then evC cx F sc ρ e else runC cx F sc r ρ
  | .Return (some e) _=>evC cx F sc ρ e
  | _=>none
theorem nY{K:Zf}{Hs:Hp}{ρ:Rho}{σ:St}{x:Str}{i:Nat}{d:D}{v:V}(h:bC K Hs ρ σ)(hn:(ρ.map (·.1)).Nodup)(hi:(ρ.map (·.1))[i]?=some x)(hl:σ.length=ρ.length)(r:Rep K Hs d v):bC K Hs (bV ρ x (.sh d)) (σ.set i (some v)):=fun j y d' e=>by
 have li:i<σ.length:=by have:=(List.getElem?_eq_some_iff.mp hi).1;rw[hl];simpa using this
 rw[aL hn hi j] at e;split at e
 ·rename_i hj
  subst hj;cases e;exact⟨v,by rw[List.getElem?_set_self li],r⟩
 ·rename_i hj
  obtain⟨v',q1,q2⟩:=h j y d' e;exact⟨v',by rw[List.getElem?_set_ne (fun z=>hj z.symm)];exact q1,q2⟩
theorem lB{F:Nat}(G:GoodC cx X sc):∀ (l:List Stmt) {ρ:Rho} {d:D} {σ:St} {H Hs:Hp} {D:Ends},X.N=ρ.map (·.1)->σ.length=ρ.length->Same Hs H->bC X.K Hs ρ σ->runC cx F sc l ρ=some d->(∀ v H' Hs',Ext Hs H Hs' H'->Rep X.K Hs' d v->D.rt v H')->dJ X l D σ H
 | [],ρ,d,σ,H,Hs,D,hN,hl,hs,hst,h,hq=>by simp[runC] at h
 | s::r,ρ,d,σ,H,Hs,D,hN,hl,hs,hst,h,hq=>by
  have nd:(ρ.map (·.1)).Nodup:=by rw[<- hN];exact G.nd
  simp only[runC] at h;split at h
  ·rename_i x px e pos
   split at h
   ·rename_i hx
    rw[G2z] at hx
    have lx:sc.names.lookup x=some .local:=by simpa using hx.1
    obtain⟨i,hi⟩:∃ i:Nat,(ρ.map (·.1))[i]?=some x:=List.mem_iff_getElem?.mp (by simpa using hx.2)
    have hlx:X.env.scope.names.lookup x=some .local:=by rw[G.sce];exact lx
    have go:∀ d1,evC cx F sc ρ e=some d1->(∀ a b c p,e≠.ListComp a b c p)->runC cx F sc r (bV ρ x (.sh d1))=some d->dJ X (.Assign [.Name x px] e pos::r) D σ H:=fun d1 he hne hr=>by
     refine PSs.sem (eG (eH (i:=i) (te:=iz X e) G.nd (by rw[hN];exact hi) (.inl hlx) ak ?_ (.inr hlx)) bh) ?_
     ·cases e<;>first | rfl | exact absurd rfl (hne _ _ _ _) | (simp[evC] at he;done) | (cases F<;>simp[evC] at he;done)
     ·refine(jX G hN F he).1 σ H Hs _ hs hst fun v H1 Hs1 E1 r1=>?_
      exact lB G r (by rw[aF];exact hN) (by rw[R2z,hl];have:=congrArg List.length (aF ρ x (.sh d1));simpa using this.symm) E1.sub (nY (hst.same E1.vis) nd hi hl r1) hr fun v' H2 Hs2 E2 r2=>hq v' H2 Hs2 (E1.trans E2) r2
    split at h
    ·cases h
    ·rename_i hne
     obtain⟨d1,h1,h2⟩:=Option.bind_eq_some_iff.mp h;exact go d1 h1 (fun a b c p z=>hne a b c p z) h2
   ·cases h
  ·rename_i c e p1 pos
   obtain⟨b,h1,h⟩:=Option.bind_eq_some_iff.mp h;have h1':=cJ h1;refine PSs.sem (eG (pR cg (iW (iC ak)) pO) bh) ?_;refine(jX G hN F h1').2 b rfl σ H Hs _ hs hst fun H1 Hs1 E1=>?_
   cases b with
   | true =>
    refine mV ?_;exact(jX G hN F h).1 σ H1 Hs1 _ E1.sub (hst.same E1.vis) fun v H2 Hs2 E2 r2=>hq v H2 Hs2 (E1.trans E2) r2
   | false =>
    refine oh ?_;exact lB G r hN hl E1.sub (hst.same E1.vis) h fun v' H2 Hs2 E2 r2=>hq v' H2 Hs2 (E1.trans E2) r2
  ·rename_i e pos
   refine PSs.sem (eG (iC ak) bh) ?_;exact(jX G hN F h).1 σ H Hs _ hs hst fun v H2 Hs2 E2 r2=>hq v H2 Hs2 E2 r2
  ·cases h
end
end L2
namespace L2
open PySem PySem.Spec PyProof.Rows
abbrev Cx.unc(X:Cx):Cx:={ X with calm:=false }
structure RoomS (k:Nat) (A:Around):Prop where
 dp:A.depth+3*k+5<recursionLimit
 un:A.units+16*k+200<cLine
theorem RoomS.deeper{k:Nat}{A:Around}(r:RoomS (k+1) A)(env:Env):RoomS k (A.deeper env) :=
 ⟨by have:=r.dp;show A.depth+1+3*k+5<_;omega,by have:=r.un;show A.units+3+16*k+200<_;omega⟩
theorem RoomS.depth{k:Nat}{A:Around}(r:RoomS k A):A.depth<recursionLimit:=by have:=r.dp;omega
structure FnS (P:Program) (w:World) (K:Zf) (mg:Str->Option Value) (base:Heap) (CX:CXT) (k:Nat) (f:Addr) (fd:FuncData) (ps:List Str) (sp:Sp):Prop where
 len:∀ vs H Q E,sp vs H Q E->vs.length=ps.length
 run:∀ (A:Around) (outer:List Env) (s:Shared) (H:Hp) (args:Args) (us:List Value) (vs:List V) (Q:VK) (E:XK),RoomS k A->Env0 P w K mg base A outer s H->BindsTo s fd args (ps.zip us)->Vals vs us->sp vs H Q E ->
  codeAny (model P w) A (.call (.ref f) args) (CR CX outer P w H s Q E) s
theorem ou{CX:CXT}{P:Program}{w:World}{K:Zf}{mg:Str->Option Value}{base:Heap}{N ps:List Str}{qual:Str}{scope:Scope}{f:Addr}{cd:Value}{A:Around}{outer:List Env}{s s1:Shared}{H:Hp}{E:XK}{us:List Value}{vs:List V}
  (S:FnScope N ps scope) (e0:Env0 P w K mg base A outer s H) (hl:vs.length=ps.length) (r:Vals vs us)
  (x:InCallC s s.heap.objs.size (bindL (envOfC qual scope s.heap.objs.size f cd).kindOf (ps.zip us) fun _=>none) (cellsFrom (s.heap.objs.size+1) scope.names []) (bindC (envOfC qual scope s.heap.objs.size f cd).kindOf (ps.zip us) fun _=>none) s1) :
  Inv (dg CX P w K mg base N qual scope f cd A outer s H E).unc [] (start N vs) H s1:=by
 have hpl:ps.length<=N.length:=by have:=congrArg List.length S.pre;rw[C2z] at this;omega
 obtain⟨h1,tk,rfl,hk⟩:=x.done;have noA:∀ b:Addr,b∉(dg CX P w K mg base N qual scope f cd A outer s H E).unc.ex:=fun b z=>absurd (show b∈([]:List Addr) from z) (by simp)
 refine⟨⟨e0.mod,S.kind,rfl,rfl,P3z _,fun y z c h1 h2=>?_,fun y hy=>?_,fun y c _ h=>?_,(fun z=>nomatch z),U0z e0.frames,.inr ⟨rfl,rfl⟩,fun b z=>absurd z (noA b),e0.bs,e0.bsz,fun b _ _=>noA b,fun b z=>absurd z (noA b),e0.funs,e0.frf⟩,
  rfl,e0.bare,Un.kept hk,⟨_,x.toInCall.ns,fun i y v h1 h2 h3=>?_⟩,fun y c h=>⟨_,x.cell y c h⟩,e0.hok.fresh (P3z _),fun y c h=>?_,fun p hp=>absurd (show p∈([]:List (Addr×Obj)) from hp) (by simp),e0.hok.kept hk,?_⟩
 ·exact name_of_addr x.apart (Z0z h1) (Z0z h2)
 ·have hy:scope.names.lookup y=some .cell\/scope.names.lookup y=some .free:=hy
  rcases hy with hy | hy
  ·exact fZ hy
  ·exact absurd rfl (S.nofree _ (Z0z hy))
 ·exact K3z (x.above y c (Z0z h))
 ·have hi:i<vs.length:=by
   unfold start at h2
   by_cases hi:i<vs.length
   ·exact hi
   ·rw[List.getElem?_append_right (by simpa using hi)] at h2
    rw[List.getElem?_replicate] at h2
    split at h2<;>cases h2
  have ha:vs[i]?=some v:=by
   unfold start at h2;rw[List.getElem?_append_left (by simpa using hi),List.getElem?_map] at h2
   cases e:vs[i]? with
   | none=>rw[e] at h2;cases h2
   | some a=>rw[e] at h2;cases h2;rfl
  obtain⟨u,hu,rv⟩:=r.get ha
  have hp:ps[i]?=some y:=by
   rw[<- S.pre,List.getElem?_take_of_lt (by omega)];exact h1
  have ndP:ps.Nodup:=by rw[<- S.pre];exact S.nd.sublist (List.take_sublist _ _)
  refine⟨u,rv,?_⟩;rcases S.par y (List.mem_of_getElem? hp) with k | k
  ·exact .inl ⟨k,g8 ndP hp hu k⟩
  ·obtain⟨c,e⟩:=fZ (n:=s.heap.objs.size+1) k
   refine .inr ⟨.inl k,c,e,?_⟩;have q:=x.cell y c e;rw[ig ndP hp hu (by show scope.names.lookup y≠_;rw[k];decide)] at q;exact q
 ·exact e0.hok.fresh (K3z (x.above y c (Z0z h)))
 ·unfold start
  show _=N.length;rw[K1z,P2z,List.length_replicate];omega
theorem Ai{CX:CXT}{P:Program}{w:World}{K:Zf}{mg:Str->Option Value}{base:Heap}{k:Nat}{f:Addr}{name qual:Str}{params:Arguments}{body:List Stmt}{scope:Scope}{dV kV doc pm cdv ct oc:Value}{an od:Option Addr}
  {osl:Array (Option Value)} {N ps:List Str} {sp:Sp} (lk:K.lookup f=some ⟨oc,od,.func (PySem.W.fnOf name qual params body scope dV kV doc pm an cdv ct),osl⟩) (hcd:PySem.W.codeIn K cdv qual=true) (S:FnScope N ps scope)
  (len:∀ vs H Q E,sp vs H Q E->vs.length=ps.length)
  (hbody : ∀ (A : Around) (outer : List Env) (s : Shared) (H : Hp) (vs : List V) (Q : VK) (E : XK), RoomS k (A.deeper (envOfC qual scope s.heap.objs.size f cdv)) -> sp vs H Q E ->
   ∃ t,PSs (dg CX P w K mg base N qual scope f cdv A outer s H E).unc body t/\t { nx:=fun _ H'=>Q .non H',rt:=Q } (start N vs) H) :
  FnS P w K mg base CX (k+1) f (PySem.W.fnOf name qual params body scope dV kV doc pm an cdv ct) ps sp:=by
 refine⟨len,fun A outer s H args us vs Q E hr e0 hb r hsp=>?_⟩;have hl:=len _ _ _ _ hsp;have KX:K.In s.heap:=e0.mod.kin.keeps fun b o e=>(e0.bs b o e).1;have lim:s.heap.NoLimit:=e0.mod.nolimit.keeps fun b o e=>(e0.bs b o e).1
 have hkind:∀ y∈ps.zip us,scope.names.lookup y.1=some .local\/(scope.names.lookup y.1=some .cell/\((cellsFrom (s.heap.objs.size+1) scope.names []).lookup y.1).isSome=true):=fun⟨n,v⟩ hy=>by
  rcases S.par n (O2z hy).1 with q | q
  ·exact .inl q
  ·exact .inr ⟨q,M0z _ _ _ (.inl q)⟩
 refine codeAny_call_function hr.depth (KX _ _ lk) rfl S.co S.gen rfl (PySem.W.codeRec_of KX hcd) (hb _ _ _ _ ?_);refine wpAny_newFunctionEnv_cells S.kind hkind fun env he s1 x=>?_;subst he;refine⟨lim.keeps x.toInCall.keep,codeAny_func ?_⟩;obtain⟨t,ht,hq⟩:=hbody A outer s H vs Q E (hr.deeper _) hsp;have I:Inv (dg CX P w K mg base N qual scope f cdv A outer s H E).unc [] (start N vs) H s1:=ou S e0 hl r x;refine S3z (ht [] s1 (start N vs) H _ I hq) (fun fl s' hs=>?_) fun e s' hs=>hs
 have fin:∀ {σ':St} {H':Hp} {v:V} {u:Value},Inv (dg CX P w K mg base N qual scope f cdv A outer s H E).unc [] σ' H' s'->RelV v u->Q v H'->CE outer P w H s Q u s' :=
  fun {σ' H' v u} J rv q=>⟨v,H',J.os,J.bare,J.base,J.hok,rv,q⟩
 cases fl with
 | ret u =>
  obtain⟨v,σ',H',J,rv,q⟩:=hs;exact fin J rv q
 | next =>
  obtain⟨σ',H',J,q⟩:=hs;exact fin (v:=V.non) (u:=Value.none) J rfl q
 | brk =>
  obtain⟨_,_,_,q⟩:=hs;exact False.elim q
 | cont =>
  obtain⟨_,_,_,q⟩:=hs;exact False.elim q
section
variable {X:Cx} {z0:List (Addr×Obj)} {σ:St} {H H':Hp} {s s':Shared} {ea C:Addr}
theorem yq{c n:Str}{b1:Stmt}{bd:List Stmt}{ts:TS}{R:VK}{Mc:Addr}{np hp:Pos}{i:Nat}{Q:Flow->Shared->Prop}(I:Inv X z0 σ H s)(Fl:Fly X.prog X.w X.stack H s H' ea (.ref C) s')(hn:H' ea=none)(hst:X.stack=X.env::X.outer/\X.env.frame=some X.env.locals)
  (hg:Gl X c) (hm:X.mg c=some (.ref Mc)) (hcd:(c==("__debug__":Str))=false) (hx:PySem.W.exmOne X.K (.ref C) (.ref Mc)=some true) (nd:X.N.Nodup) (hi:X.N[i]?=some n)
  (ln:X.env.scope.names.lookup n=some .local) (d1:(n==("__debug__":Str))=false) (d2:(n==("__classdict__":Str))=false)
  (hps:PSs (X.inSuite (.ref ea) fun _ _=>False) (b1::bd) ts) (hts:ts { nx:=fun _ _=>False,rt:=R } (σ.set i (some (.ref ea))) (upd H' ea (.ext (isX ea (.ref C)))))
  (k:∀ s2 σ2 H2 v u,Inv X z0 σ2 H2 s2->RelV v u->R v H2->Q (.ret u) s2) :
  wpAny (model X.prog X.w) X.A (noteFrame (.ref ea) X.env) (fun _ s₂=>wpAny (model X.prog X.w) X.A (setFlight (.ref ea) none) (fun _ s₃ =>
   wpAny (model X.prog X.w) X.A (handleBy (.ref ea) X.env [.ExceptHandler (some (.Name c np)) (some n) (b1::bd) hp]) Q X.xe s₃) X.xe s₂) X.xe s':=by
 obtain⟨B,a0,fl,hokB,kB,tB⟩:=Fl.fly
 have hfr:X.A.frames=some (X.env::X.outer):=by rw[<- hst.1];exact I.ok.frames
 have fl':Heap.FlyingW B (X.env::X.outer) ea (.ref C) a0 s'.heap:=by rw[<- hst.1];exact fl
 refine wpAny_looks_onW hfr hst.2 fl' fun h4 held4 up4=>?_;refine wpAny_landsW held4 fun h5 fl5 up5=>?_;have U5:Un (frs X.stack) [] H H' s.heap h5:=Un.fly Fl.un kB tB fl5.1 (qm fl.2.2.1) (up4.trans up5);have I5:Inv X z0 σ H' { s' with heap:=h5 }:=Fly.lands I Fl hokB U5 fl5.1;refine wpAny_handleBy_cons (codeAny_handlers_test ?_) (by intro q;cases q);refine dY (I5.inSuite (.ref ea) X.xe) hg hm ?_ hcd
 have LT:PySem.W.Looks (model X.prog X.w) h5 (typeOf (.ref ea)) (.ref C):=by
  obtain⟨ob,hob,hoc⟩:=fl5.there;exact xty hob hoc
 refine(PySem.W.exm_one I5.kIn LT hx).here ?_;refine codeAny_handlers_suite_as ?_;refine lands_againW fl5 fun h6 fl6 up6=>?_;have U6:Un (frs X.stack) [] H H' s.heap h6:=Un.fly Fl.un kB tB fl6.1 (qm fl.2.2.1) ((up4.trans up5).trans up6)
 have hX6:isX ea (.ref C) h6:=by
  obtain⟨oe,ws,e1,e2,e3,_⟩:=fl6.first
  exact⟨oe,e1,e2,ws,e3⟩
 have hok6:HOk X.prog X.w (upd H' ea (.ext (isX ea (.ref C)))) h6:=fun b u e=>by
  by_cases hb:b=ea
  ·subst hb;rw[aK] at e;cases e;exact Af hX6
  ·rw[aq hb] at e
   exact((hokB.kept fl6.1) b u e).stay (fun _ _ _ q=>q) (fun b' q=>by rw[aq (ao q hn)];exact q) fun b' xs q=>by rw[aq (ao q hn)];exact q
 have U6':Un (frs X.stack) [] H (upd H' ea (.ext (isX ea (.ref C)))) s.heap h6:=by
  refine⟨U6.keep,U6.slot,fun b o q n hx=>?_,U6.there,fun b xs q=>?_,fun b o u q=>?_,fun b ps q=>?_⟩
  ·rw[aq (fun z=>by rw[z,Fl.fresh] at q;cases q)]
   exact U6.free b o q n hx
  ·have:=U6.tups b xs q
   rw[aq (ao this hn)];exact this
  ·have:=U6.frzs b o u q
   rw[aq (ao this hn)];exact this
  ·obtain⟨more,e⟩:=U6.tbls b ps q
   exact⟨more,by rw[aq (ao e hn)];exact e⟩
 have I6:Inv X z0 σ (upd H' ea (.ext (isX ea (.ref C)))) { s' with heap:=h6 }:=I.call' (s':={ s' with heap:=h6 }) Fl.os U6' hok6 Fl.bare (fun b z=>absurd z (by simp));refine eE (X:=X.inSuite (.ref ea) X.xe) (I6.inSuite (.ref ea) X.xe) nd hi (.inl ln) (v:=.ref ea) rfl (fun s7 I7=>?_) (.inr ln)
 have hiσ:i<σ.length:=by rw[I.len];exact(List.getElem?_eq_some_iff.mp hi).1
 have I7':Inv (X.inSuite (.ref ea) fun _ _=>False) z0 (σ.set i (some (.ref ea))) (upd H' ea (.ext (isX ea (.ref C)))) s7:=(I7.outSuite I.ok).inSuite _ _;refine S3z (hps z0 s7 _ _ { nx:=fun _ _=>False,rt:=R } I7' hts) (fun f s8 h8=>?_) fun _ _ z=>z.elim
 cases f with
 | next=>obtain⟨_,_,_,z⟩:=h8;exact z.elim
 | brk=>obtain⟨_,_,_,z⟩:=h8;exact z.elim
 | cont=>obtain⟨_,_,_,z⟩:=h8;exact z.elim
 | ret u =>
  obtain⟨v8,σ8,H8,I8,rv,q8⟩:=h8;have I8':Inv X z0 σ8 H8 s8:=I8.outSuite I.ok;obtain⟨m,hm8,_⟩:=id I8'.loc;refine wpAny_nameGoes_keeps ln hm8 (by rw[I.ok.kind];rfl) fun h9 v hn9 hs9=>?_;exact k _ _ _ _ _ (I8'.unbound (t':=s8.toks+1) nd hi hm8 hn9 hs9) rv q8
end
section
variable {P:Program} {w:World} {K:Zf} {mg:Str->Option Value} {base:Heap} {T:DE.Pg} {F k:Nat}
open DE hiding st
def spC(K:Zf)(c:Str)(d:D):Sp:=fun vs H Q _=>vs.length=1/\∃ Hs,Same Hs H/\aJ K Hs [.exc c] vs/\∀ v H' Hs',Ext Hs H Hs' H'->Rep K Hs' d v->Q v H'
theorem Aw{CX:CXT}(X:Text w K mg T){nm:Str}{fd:Fd}{t:Stmt}{a:Addr}{g:FuncData}{c:Str}{d:D}(Fn:Fun K nm nm t a g)(hb:fd.body=aQ t)(hs:fd.sc=aB t)(S:FnScope fd.N fd.ps fd.sc)(h1:fd.ps.length=1)
  (hrun:runC (T.cx (bG T F 0)) F fd.sc fd.body (aZ fd [.exc c])=some d):FnS P w K mg base CX (k+1) a g fd.ps (spC K c d):=by
 obtain⟨oc,od,kV,doc,pm,an,cdv,ct,osl,rfl,lk,hcd⟩:=Fn.ex;refine Ai lk hcd (by rw[<- hs];exact S) (fun vs H Q E h=>by rw[h.1,h1]) fun A outer s H vs Q E hr h=>?_;obtain⟨hlv,Hs,hsm,rl,hq⟩:=h;obtain⟨s1,s2,s3⟩:=gq S (by rw[h1];rfl) rl;refine⟨dJ _ (aQ t),bh,?_⟩;have G:GoodC (T.cx (bG T F 0)) (dg CX P w K mg base fd.N nm (aB t) a cdv A outer s H E).unc fd.sc:=⟨by have:=hr.un;show(A.deeper _).units+100<_;omega,hs.symm,S.nd,X.blt,X.exs⟩;rw[hb] at hrun;refine lB G (aQ t) s1 s2 hsm (fun i x d' e=>?_) hrun fun v H' Hs' E1 r1=>hq v H' Hs' E1 r1;rcases s3 i x _ e with q | ⟨d'',v,q,q1,q2⟩
 ·cases q
 ·cases q
  exact⟨v,q1,q2⟩
theorem yt{X:Cx}{i k:Nat}{x:Str}{f:Addr}{fd:FuncData}{sp:Sp}{p pos:Pos}{o:Obj}{E:XK}{σ:St}{H:Hp}{Q:VK}(F:FnOk X.prog X.w X.K X.mg X.base (CX1 X.prog X.w) k f fd [] sp)(hr:Room k X.A)(hN:X.N[i]?=some x)(hv:Vis X.env.scope x)(ho:X.base.get? f=some o)(hd:o.data=.func fd)(hb:Binds X.K fd [] [])(hx:XOk X σ E)
  (hσ:σ[i]?=some (some (.ref f))) (hsp:sp [] H Q E) (hdb:(x==("__debug__":Str))=false) (hcd:(x==("__classdict__":Str))=false):iz X (.Call (.Name x p) [] [] pos) σ H Q:=by
 intro z0 s I;refine I1z ?_;refine thn (dj (X:=X) hN hv hdb hcd z0 s σ H (fun v H'=>v=.ref f/\H'=H) I ⟨.ref f,hσ,rfl,rfl⟩) fun u s1 ⟨v,H1,I1,r1,e1,e2⟩=>?_;subst e1 e2;cases (show u=Value.ref f from r1);refine PySem.W.callWith_F0 ?_ (pK (us:=[]) (vs:=[]) F hr hb hx I1 .nil hsp);obtain⟨oc,od,dt,sl⟩:=o;cases (show dt=.func fd from hd);exact⟨oc,od,fd,sl,I1.bk _ _ ho⟩
end
end L2
namespace L2
open PySem PySem.Spec PyProof.Rows
open DE hiding st
section
variable {P:Program} {w:World} {K:Zf} {mg:Str->Option Value} {base:Heap} {T:DE.Pg} {F k:Nat}
def spT(K:Zf)(Hs0:Hp)(f:Addr)(d:D):Sp:=fun vs H Q _=>vs=[.ref f]/\Same Hs0 H/\∀ v H' Hs',Ext Hs0 H Hs' H'->Rep K Hs' d v->Q v H'
theorem vV{X:Cx}{CX:CXT}{f:Addr}{fd:FuncData}{ps:List Str}{sp:Sp}{E:XK}{z0:List (Addr×Obj)}{σ:St}{H:Hp}{s:Shared}{Q:VK}{us:List Value}{vs:List V}(F:FnS X.prog X.w X.K X.mg X.base CX k f fd ps sp)(hr:RoomS k X.A)(hb:Binds X.K fd ps [])(hx:Passes CX X E)
  (I:Inv X z0 σ H s) (r:Vals vs us) (h:sp vs H Q E):wpAny (model X.prog X.w) X.A (call (.ref f) us) (EP X z0 σ Q) X.xe s:=by
 have hl:(us++([]:List Value)).length=ps.length:=by rw[N2z,<- r.length];exact F.len _ _ _ _ h
 have hb':=hb s us I.kIn hl;rw[N2z] at hb';refine wpAny_call (M3z (F.run X.A X.stack s H ⟨us,[]⟩ us vs Q E hr I.env0 hb' r h) fun r s' hq=>?_)
 cases r with
 | error e=>exact hx z0 σ H s e s' I hq
 | ok fl =>
  cases fl with
  | ret u=>exact I.after hq
  | next=>exact False.elim hq
  | brk=>exact False.elim hq
  | cont=>exact False.elim hq
theorem vD{nm:Str}{t:Stmt}{a ac f:Addr}{g gc fd:FuncData}{dn n c cls c':Str}{p1 p2 p3 np p4 p5 p6 p7 hp pos:Pos}{kd:Nat}{Hs0:Hp}{o:Obj}{d:D}{exs:List Str}{pcs:List Str}
  (Fn:Fun K nm nm t a g) (hbody:aQ t=[.Try [.Return (some (.Call (.Name dn p1) [] [] p2)) p3] [.ExceptHandler (some (.Name c np)) (some n) [.Return (some (.Call (.Name cls p4) [.Name n p5] [] p6)) p7] hp] [] [] pos])
  (S:FnScope [dn,n] [dn] (aB t)) (ld:(aB t).names.lookup dn=some .local) (ln:(aB t).names.lookup n=some .local) (lc:(aB t).names.lookup c=some .globalImplicit) (lcls:(aB t).names.lookup cls=some .globalImplicit)
  (hxs:XText K mg exs c) (hin:exs.contains c'=true) (pn:au n=true) (pd:au dn=true) (pc:au c=true) (pcl:(cls==("__debug__":Str))=false)
  (mc:mg cls=some (.ref ac)) (kc:PySem.W.keepIn K (.ref ac)=true) (bc:Binds K gc pcs []) (FC:∀ (base:Heap),FnS P w K mg base (CX1 P w) 1 ac gc pcs (spC K c' d)) (hpc:pcs.length=1)
  (GD:FnOk P w K mg base (CX1 P w) kd f fd [] (spL K Hs0 c')) (hkd:1<=kd) (ho:base.get? f=some o) (hd:o.data=.func fd) (hb:Binds K fd [] []) :
  FnOk P w K mg base (CX1 P w) (kd+1) a g [dn] (spT K Hs0 f d):=by
 unfold au at pn pd pc;rw[G2z,W3z,W3z] at pn pd pc;refine Fun.okX (N:=[dn,n]) Fn S (fun vs H Q E h=>by rw[h.1];rfl) fun cdv A outer s H vs Q E hr h=>?_;obtain⟨rfl,hsm,hq⟩:=h;refine⟨dJ _ (aQ t),bh,?_⟩;rw[hbody];generalize hX:dg (CX1 P w) P w K mg base [dn,n] nm (aB t) a cdv A outer s H E=X
 have xP:X.prog=P:=by rw[<- hX];rfl
 refine PSs.sem (iW pQ) ?_;intro z0 s0 I;obtain⟨C,M,e1,e2,_,_,e3,_⟩:=hxs.cls c' hin;rw[arm_exec_Try];refine T3z (D3z (wpAny_tryStmt_except ?_));subst hX
 let X:=dg (CX1 P w) P w K mg base [dn,n] nm (aB t) a cdv A outer s H E
 let D:Ends:={ nx:=fun _ H'=>Q .non H',rt:=Q }
 let hs:List ExceptHandler:=[.ExceptHandler (some (.Name c np)) (some n) [.Return (some (.Call (.Name cls p4) [.Name n p5] [] p6)) p7] hp]
 let xe:Value->Shared->Prop:=fun e s₁=>wpAny (model X.prog X.w) X.A (noteFrame e X.env) (fun _ s₂=>wpAny (model X.prog X.w) X.A (setFlight e none) (fun _ s₃=>wpAny (model X.prog X.w) X.A (handleBy e X.env hs) (SP X z0 D) X.xe s₃) X.xe s₂) X.xe s₁
 have I0:Inv (X.pinned (X.pn++z0) xe) [] (start [dn,n] [.ref f]) H s0:=Inv.repin (X:=X) (pn:=X.pn) (z0:=z0) I fun p hp=>by simpa using hp
 have run:dJ (X.pinned (X.pn++z0) xe) [.Return (some (.Call (.Name dn p1) [] [] p2)) p3] { nx:=fun _ _=>False,rt:=fun _ _=>False } (start [dn,n] [.ref f]) H:=by
  refine PSs.sem (iW (iC ak)) ?_;refine yt (X:=X.pinned (X.pn++z0) xe) (i:=0) (E:=fun cls _ H2=>cls=.ref C/\∃ Hs2,Ext Hs0 H Hs2 H2) GD hr rfl (.inl ld) ho hd hb ?_ rfl ⟨rfl,hsm,fun C2 H2 Hs2 q E2=>⟨?_,Hs2,E2⟩⟩ (by simpa using pd.1) (by simpa using pd.2)
  ·intro pins2 H2 s2 e s3 I2 hcx
   obtain⟨ea,cl,H3,rfl,Fl,hn3,rfl,Hs3,E3⟩:=hcx;have I2':Inv (X.pinned (X.pn++z0) X.xe) pins2 (start [dn,n] [.ref f]) H2 s2:=Inv.repin (X:=X) I2 fun p hp=>hp;have E4:Ext Hs3 H3 (upd Hs3 ea (.ext (isX ea (.ref C)))) (upd H3 ea (.ext (isX ea (.ref C)))):=Ext.new E3.sub _ hn3;have hm:mg c=some (.ref M):=hxs.glob _ _ e2;refine yq (X:=X.pinned (X.pn++z0) X.xe) (Mc:=M) (R:=Q) I2' Fl hn3 ⟨rfl,rfl⟩ lc hm (by simpa using pc.1) e3 S.nd (i:=1) rfl ln (by simpa using pn.1) (by simpa using pn.2) (iW (iC ak)) ?_ fun s4 σ2 H4 v u I4 rv q4=>?_
   ·
    intro pins5 s5 I5;refine I1z (dY I5 lcls mc ?_ pcl);refine J1z (h₀:=base) I5.ok.mod.kin kc ?_ rfl rfl;have pa:PA ((X.pinned (X.pn++z0) X.xe).inSuite (.ref ea) fun _ _=>False) [.Name n p5] (vI (yQ 1) Bw):=aP (dj (i:=1) rfl (.inl ln) (by simpa using pn.1) (by simpa using pn.2)) bw;refine thn (pa p6 pins5 s5 _ _ (fun vs H1=>vs=[.ref ea]/\H1=upd H3 ea (.ext (isX ea (.ref C)))) I5 ⟨.ref ea,rfl,rfl,rfl⟩) fun us s6 ⟨vs,H6,I6,r6,q6,q7⟩=>⟨I6.kIn,?_⟩;subst q6 q7;refine vV (E:=E0) (FC base) ⟨by have:=hr.dp;show(A.deeper (envOfC nm (aB t) s.heap.objs.size a cdv)).depth+3*1+5<_;omega,by have:=hr.un;show(A.deeper (envOfC nm (aB t) s.heap.objs.size a cdv)).units+16*1+200<_;omega⟩ bc wC I6 r6 ⟨rfl,upd Hs3 ea (.ext (isX ea (.ref C))),E4.sub,.cons (by simp only[Rep];exact⟨ea,C,rfl,e1,aK⟩) .nil,fun v H7 Hs7 E7 r7=>hq v H7 Hs7 ((E3.trans E4).trans E7) r7⟩
   ·exact⟨v,σ2,H4,Inv.repin (X:=X) (pn':=X.pn) I4 fun p hp=>T0z _ hp,rv,q4⟩
  ·have q':PySem.W.nsIn K mainGlobals c'=some (some (.ref C2)):=q
   rw[e1] at q';cases q';rfl
 refine S3z (run [] s0 I0) (fun fl s1 q=>?_) fun e s1 q=>q
 cases fl with
 | next=>obtain⟨_,_,_,z⟩:=q;exact z.elim
 | brk=>obtain⟨_,_,_,z⟩:=q;exact z.elim
 | cont=>obtain⟨_,_,_,z⟩:=q;exact z.elim
 | ret u=>obtain⟨_,_,_,_,_,z⟩:=q;exact z.elim
end
def del(H:Hp)(c:Addr):Hp:=fun b=>if b=c then none else H b
theorem cH{H:Hp}{c b:Addr}(h:b≠c):del H c b=H b:=F4z h
theorem fj{H:Hp}{c:Addr}:del H c c=none:=E4z rfl
theorem jt{H:Hp}{c b:Addr}{o:HO}(h:del H c b=some o):H b=some o/\b≠c:=by
 unfold del at h;split at h
 ·cases h
 ·rename_i n;exact⟨h,n⟩
theorem cG{H:Hp}{c b:Addr}(h:H b=none):del H c b=none:=by
 unfold del;split
 ·rfl
 ·exact h
section
variable {X:Cx} {z0:List (Addr×Obj)} {σ:St} {H:Hp} {s:Shared} {c:Addr} {p:Heap->Prop}
theorem Inv.untrack(I:Inv X z0 σ H s)(h:H c=some (.ext p)):Inv X z0 σ (del H c) s:=by
 have ne:∀ b o,H b=some o->o≠.ext p->del H c b=some o:=fun b o e n=>by
  rw[cH fun z=>by rw[z,h] at e;cases e;exact n rfl];exact e
 refine⟨I.ok,I.os,I.bare,⟨I.base.keep,I.base.slot,fun b o q n hx=>cG (I.base.free b o q n hx),I.base.there,fun b xs q=>ne b _ (I.base.tups b xs q) (fun z=>nomatch z),fun b o u q=>ne b _ (I.base.frzs b o u q) (fun z=>nomatch z),fun b ps q=>?_⟩,I.loc,I.cell,cG I.free,fun x c e=>cG (I.freeC x c e),fun p hp=>?_,fun b u e=>?_,I.len⟩
 ·obtain⟨more,e⟩:=I.base.tbls b ps q
  exact⟨more,ne b _ e (fun z=>nomatch z)⟩
 ·obtain⟨a1,a2,a3⟩:=I.pin p hp
  exact⟨a1,cG a2,a3⟩
 ·obtain⟨e1,e2⟩:=jt e
  exact(I.hok b u e1).stay (fun _ v _ q=>q) (fun d q=>ne d _ q (fun z=>nomatch z)) fun d xs q=>ne d _ q (fun z=>nomatch z)
theorem sO{CX:CXT}{k:Nat}{f:Addr}{fd:FuncData}{ps:List Str}{sp:Sp}{E:XK}{Q:VK}{us:List Value}{vs:List V}(h:H c=some (.ext p))(F:FnOk X.prog X.w X.K X.mg (rJ s.heap (del H c) (frs X.stack)) CX k f fd ps sp)(hr:Room k X.A)(hb:Binds X.K fd ps [])(hx:Passes CX X E)
  (I:Inv X z0 σ H s) (hfr:c∉frs X.stack) (r:Vals vs us) (hsp:sp vs (del H c) (fun v H2=>H2 c=none->Q v (upd H2 c (.ext p))) E):wpAny (model X.prog X.w) X.A (call (.ref f) us) (EP X z0 σ Q) X.xe s:=by
 have J:=I.untrack h
 have hl:us.length=ps.length:=by rw[<- r.length];exact F.len _ _ _ _ hsp
 have hb':=hb s us I.kIn (by rw[N2z];exact hl)
 rw[N2z] at hb';refine wpAny_call (M3z (F.run X.A X.stack s (del H c) ⟨us,[]⟩ us vs _ E hr J.env0Big hb' r hsp) fun r s' hq=>?_)
 cases r with
 | error e=>exact hx z0 σ (del H c) s e s' J hq
 | ok fl =>
  cases fl with
  | ret u =>
   obtain⟨v,H2,os,bare,un,hok,rv,q⟩:=hq;obtain⟨pc,⟨oc,eo⟩,st⟩:=I.hok c _ h;have hn2:H2 c=none:=un.free c oc eo fj (by simp);have e2:s'.heap.get? c=some oc:=un.keep c oc eo fj hfr (by simp)
   have kp:∀ b o,H2 b=some o->upd H2 c (.ext p) b=some o:=fun b o e=>by rw[aq (ao e hn2)];exact e
   refine⟨v,upd H2 c (.ext p),I.call' (s':=s') (ch:=[]) os ⟨fun b o q n=>un.keep b o q (cG n),fun b o q n=>un.slot b o q (cG n),fun b o q n hx=>?_,un.there,fun b xs q=>?_,fun b o u q=>?_,fun b ps q=>?_⟩ (fun b u e=>?_) bare (fun b z=>absurd z (by simp)),rv,q hn2⟩
   ·rw[aq fun z=>by rw[z,h] at n;cases n]
    exact un.free b o q (cG n) hx
   ·exact kp _ _ (un.tups b xs (by rw[cH fun z=>by rw[z,h] at q;cases q];exact q))
   ·exact kp _ _ (un.frzs b o u (by rw[cH fun z=>by rw[z,h] at q;cases q];exact q))
   ·obtain⟨more,e⟩:=un.tbls b ps (by rw[cH fun z=>by rw[z,h] at q;cases q];exact q)
    exact⟨more,kp _ _ e⟩
   ·by_cases hb:b=c
    ·subst hb;rw[aK] at e;cases e
     exact⟨st s.heap s'.heap pc fun o q=>by rw[eo] at q;cases q;exact e2,⟨oc,e2⟩,st⟩
    ·rw[aq hb] at e
     exact(hok b u e).stay (fun _ v _ q=>q) (fun d q=>kp _ _ q) fun d xs q=>kp _ _ q
  | next=>exact False.elim hq
  | brk=>exact False.elim hq
  | cont=>exact False.elim hq
end
abbrev noArgs:Arguments:=⟨[],[],none,[],[],none,[]⟩
theorem tW{K:Zf}{qual:Str}{body:Expr}{scope:Scope}{cl:List (Str×Addr)}{pm cdv ct:Value}:Binds K (PySem.W.kla_fn "<lambda>" qual noArgs body scope cl pm cdv ct) [] []:=.all fun us hl=>by
 have:us=[]:=List.length_eq_zero_iff.mp hl;subst this;rfl
def jV(lsc:Scope):List Str:=(lsc.names.filter fun p=>p.2==.free).map (·.1)
def iH(lsc:Scope)(ρ:Rho):Rho:=(jV lsc).map fun x=>(x,yD (ρ.lookup x))
def Kg:Option Sl->Bool
 | some (.sh _)=>true
 | _=>false
def tV(sc lsc:Scope)(ρ:Rho):Bool :=
 lsc.kind==.function && !lsc.isCoroutine && !lsc.isGenerator&&gH (lsc.names.map (·.1))&&gH (jV lsc)&&lsc.names.all fun p=>p.2 !=.cell&&(p.2 !=.free||(sc.names.lookup p.1==some .cell&&Kg (ρ.lookup p.1)))
structure LamOk (sc lsc:Scope) (ρ:Rho):Prop where
 kind:lsc.kind=.function
 co:lsc.isCoroutine=false
 gen:lsc.isGenerator=false
 nd:(lsc.names.map (·.1)).Nodup
 ndf:(jV lsc).Nodup
 own:∀ x∈lsc.names,x.2≠.cell
 fr:∀ x,(x,NameKind.free)∈lsc.names->sc.names.lookup x=some .cell/\∃ d,ρ.lookup x=some (.sh d)
theorem tU{sc lsc:Scope}{ρ:Rho}(h:tV sc lsc ρ=true):LamOk sc lsc ρ:=by
 unfold tV at h;simp only[G2z] at h;obtain⟨⟨⟨⟨⟨h1,h2⟩,h3⟩,h4⟩,h5⟩,h6⟩:=h;refine⟨by simpa using h1,by simpa using h2,by simpa using h3,dw h4,dw h5,fun x hx=>?_,fun x hx=>?_⟩
 ·have:=List.all_eq_true.mp h6 x hx
  rw[G2z] at this;simpa using this.1
 ·have:=List.all_eq_true.mp h6 _ hx
  rw[G2z,V2z,G2z] at this;rcases this.2 with z | ⟨z1,z2⟩
  ·simp at z
  ·refine⟨by simpa using z1,?_⟩
   unfold Kg at z2;split at z2
   ·rename_i d e;exact⟨d,e⟩
   ·cases z2
theorem mQ{lsc:Scope}{x:Str}:x∈jV lsc↔(x,NameKind.free)∈lsc.names:=by
 unfold jV;constructor
 ·intro h
  obtain⟨⟨y,k⟩,h1,rfl⟩:=List.mem_map.mp h;obtain⟨h2,h3⟩:=List.mem_filter.mp h1
  have:k=.free:=by simpa using h3
  subst this;exact h2
 ·intro h
  exact List.mem_map.mpr ⟨_,List.mem_filter.mpr ⟨h,by simp⟩,rfl⟩
theorem j6{K:Zf}{Hs:Hp}{ρ:Rho}{σ:St}{N:List Str}(hN:N=ρ.map (·.1))(hst:bC K Hs ρ σ):∀ l:List Str,(∀ x∈l,∃ d,ρ.lookup x=some (.sh d)) ->
  ∃ ws:List V,ws.length=l.length/\(∀ (i:Nat) x v,l[i]?=some x->ws[i]?=some v->∃ j:Nat,N[j]?=some x/\σ[j]?=some (some v))/\bC K Hs (l.map fun x=>(x,yD (ρ.lookup x))) (ws.map some)
 | [],_=>⟨[],rfl,fun i x v h=>by simp at h,fun i x d h=>by simp at h⟩
 | y::l,h=>by
  obtain⟨ws,h1,h2,h3⟩:=j6 hN hst l fun x hx=>h x (S0z _ hx);obtain⟨d,hd⟩:=h y F1z;obtain⟨j,e1,e2⟩:=aY hd;obtain⟨v,e3,e4⟩:=hst j y d e1;refine⟨v::ws,by simp[h1],fun i x v' a1 a2=>?_,fun i x d' a1=>?_⟩
  ·cases i with
   | zero =>
    simp at a1 a2;subst a1 a2;exact⟨j,by rw[hN,List.getElem?_map,e1];rfl,e3⟩
   | succ i=>exact h2 i x v' (by simpa using a1) (by simpa using a2)
  ·cases i with
   | zero =>
    simp at a1;obtain⟨rfl,a2⟩:=a1;rw[hd] at a2;simp[yD] at a2;subst a2;exact⟨v,rfl,e4⟩
   | succ i =>
    obtain⟨u,q1,q2⟩:=h3 i x d' (by simpa using a1);exact⟨u,by simpa using q1,q2⟩
structure LCx (X:Cx) (p:Addr×Str):Prop where
 lm:X.lm=some p
 qual:p.2=X.env.qual++"<lambda>"
 code:∃ c,X.env.code=.ref c/\PySem.W.CodeHd X.base c p.1
 bi:X.base.BuiltinsAt X.mg p.1
 glob:X.env.globals=mainGlobals
 fn:∀ x,X.fn x=true
def kJ(P:Program)(w:World)(K:Zf)(mg:Str->Option Value)(kd:Nat)(exs:List Str)(cv:Str->Option D)(tn:Str):Prop :=
 (tn==("__debug__":Str))=false/\∃ a g dn,mg tn=some (.ref a)/\PySem.W.keepIn K (.ref a)=true/\Binds K g [dn] []/\∀ (base:Heap) (f:Addr) (fd:FuncData) (o:Obj) (Hs0:Hp) (c':Str) (d:D),exs.contains c'=true->cv c'=some d->FnOk P w K mg base (CX1 P w) kd f fd [] (spL K Hs0 c')->base.get? f=some o->o.data=.func fd->Binds K fd [] []->FnOk P w K mg base (CX1 P w) (kd+1) a g [dn] (spT K Hs0 f d)
section
variable {X:Cx} {ρ:Rho} {T:Pg} {F k:Nat} {sc:Scope}
theorem nj{z0:List (Addr×Obj)}{σ:St}{H:Hp}{s:Shared}(I:Inv X z0 σ H s)(hfn:∀ x,X.fn x=true){x:Str}{c:Addr}{v:Option Value}(hc:X.env.cells.lookup x=some c)(h:s.heap.IsCell c v):(rJ s.heap H (frs X.stack)).IsCell c v:=by
 obtain⟨o,h1,h2⟩:=h;refine⟨o,jC h1 (I.freeC x c hc) fun z=>?_,h2⟩;rcases List.mem_cons.mp (I.stkSub c z) with e | e
 ·exact I.cne x c hc e
 ·obtain⟨_,o',ho,_⟩:=I.ok.funs.mem e
  exact absurd (D1z (H3z ho) (I.ok.cab x c (hfn x) hc)) (B3z _)
theorem sE{tn c':Str}{body:Expr}{lsc:Scope}{lp pp cp:Pos}{p:Addr×Str}{cv:Str->Option D}{d:D}{σ:St}{H Hs:Hp}{Q:VK}(Tx:Text X.w X.K X.mg T)(L:LCx X p)(hN:X.N=ρ.map (·.1))(hsc:X.env.scope=sc)(hr:Room (k+3) X.A)(TA:kJ X.prog X.w X.K X.mg (k+1) T.exs cv tn)
  (hgl:sc.names.lookup tn=some .globalImplicit) (ok:tV sc lsc ρ=true) (he:evx (T.cx (bG T F k)) F lsc (iH lsc ρ) body=some c') (hin:T.exs.contains c'=true) (hcv:cv c'=some d)
  (hs:Same Hs H) (hst:bC X.K Hs ρ σ) {l:List (Pos×Addr)} (hT:LamT H p.1 p.2 l) (n1:Hs p.1=none) (n2:∀ q∈l,Hs q.2=none)
  (hq:∀ v H' Hs',ExtL p Hs H Hs' H'->Rep X.K Hs' d v->Q v H'):iz X (.Call (.Name tn pp) [.Lambda noArgs body lsc lp] [] cp) σ H Q:=by
 intro z0 s I;have O:=tU ok;obtain⟨hdb,a,g,dn,hm,hk,hbG,hG⟩:=TA;obtain⟨c,hcode,C⟩:=L.code
 have hg:Gl X tn:=by show X.env.scope.names.lookup tn=_;rw[hsc];exact hgl
 have free:∀ x,(x,NameKind.free)∈lsc.names->∃ cc,X.env.cells.lookup x=some cc:=fun x hx=>I.ok.has x (.inl (by show X.env.scope.names.lookup x=_;rw[hsc];exact(O.fr x hx).1))
 have hcl:=cC (env:=X.env) (scope:=lsc) free;obtain⟨ws,w1,w2,w3⟩:=j6 hN hst (jV lsc) fun x hx=>(O.fr x (mQ.mp hx)).2;refine I1z (dY I hg hm ?_ hdb);refine J1z (h₀:=X.base) I.ok.mod.kin hk ?_ rfl rfl;show wpAny _ _ (spliced ((false,eval (.Lambda noArgs body lsc lp) X.env)::backTo cp (starEach [] X.env))) _ _ s;rw[L.qual] at hT;refine H1z (wX I rfl hcode C hcl L.bi L.glob hT fun f c1 ctv pm s' H1 l1 J T1 hc1 hcP hold hnew keep1 e1 e4 hf1 keep=>?_);refine S1z ⟨J.kIn,?_⟩;have J':=J.untrack hc1;have stk:∀ b∈frs X.stack,H1 b=none:=fun b hb=>J.stkFree b hb
 have hfr:c1∉frs X.stack:=fun z=>by rw[stk c1 z] at hc1;cases hc1
 have ff:f∉frs X.stack:=fun z=>by
  rcases List.mem_cons.mp (I.stkSub f z) with e | e
  ·exact absurd (D1z I.lt (by rw[<- e];exact e4)) (B3z _)
  ·exact I.nofs e4 e
 have rec':(rJ s'.heap (del H1 c1) (frs X.stack)).CodeRec (.ref c1) (X.env.qual++"<lambda>"):=by
  obtain⟨c2,oc,vs,t,a1,a2,a3,a4⟩:=uF.rec J.hok hc1;cases a1;exact⟨c1,oc,vs,t,rfl,jC a2 fj hfr,a3,a4⟩
 have inC:=(jx (cells:=X.env.cells) I.ok.inj lsc.names [] O.nd free (by simp) (by simp)).2;have lk:∀ x cc,(d8 X.env.cells lsc.names []).lookup x=some cc->X.env.cells.lookup x=some cc:=fun x cc e=>inC _ (Z0z e)
 have has:∀ x,(x,NameKind.free)∈lsc.names->∃ cc,(d8 X.env.cells lsc.names []).lookup x=some cc:=fun x hx=>by
  obtain⟨cc,h1⟩:=fY (cells:=X.env.cells) lsc.names [] hx;exact cT (List.contains_iff_mem.mpr (List.mem_map.mpr ⟨_,h1,rfl⟩))
 have eN:(iH lsc ρ).map (·.1)=jV lsc:=by unfold iH;rw[O3z];exact List.map_id (jV lsc)
 obtain⟨m,hns,hloc⟩:=J.loc
 have LN:LamNames (rJ s'.heap (del H1 c1) (frs X.stack)) lsc ((iH lsc ρ).map (·.1)) ws (d8 X.env.cells lsc.names []):=by
  rw[eN];refine⟨O.kind,O.co,O.gen,O.own,w1,fun i x v a1 a2=>?_,fun x y cc a1 a2=>I.ok.inj x y cc (lk x cc a1) (lk y cc a2),fun x e=>has x (Z0z e),fun x cc a1=>?_⟩
  ·have hx:(x,NameKind.free)∈lsc.names:=mQ.mp (List.mem_of_getElem? a1)
   obtain⟨j,b4,b5⟩:=w2 i x v a1 a2
   have kx:X.env.kindOf x=some .cell:=by show X.env.scope.names.lookup x=_;rw[hsc];exact(O.fr x hx).1
   obtain⟨u,ru,lku⟩:=hloc j x v b4 b5 (.inr (.inl kx));obtain⟨cc,hcc⟩:=has x hx;refine⟨aV O.nd hx,cc,u,hcc,ru,?_⟩;rcases lku with⟨z,_⟩ | ⟨_,c3,z1,z2⟩
   ·rw[kx] at z;cases z
   ·rw[lk x cc hcc] at z1;cases z1
    exact nj J' L.fn (lk x cc hcc) z2
  ·obtain⟨v,hv⟩:=J.cell x cc (lk x cc a1)
   exact⟨v,nj J' L.fn (lk x cc a1) hv⟩
 have ef:(rJ s'.heap (del H1 c1) (frs X.stack)).get? f=some (PySem.W.kla_obj "<lambda>" (X.env.qual++"<lambda>") noArgs body lsc (d8 X.env.cells lsc.names []) pm c1 ctv):=jC e1 (cG hf1) ff;have FL:=z6 (P:=X.prog) Tx ef rec' LN (by rw[eN];exact O.ndf) (Hs0:=Hs) (by unfold iH;exact w3) he;have FT:=hG _ f _ _ Hs c' d hin hcv FL ef rfl tW
 have sm:Same Hs (del H1 c1):=fun b o e=>by
  have eb:=hs b o e
  have nP:b≠p.1:=fun z=>by rw[z,n1] at e;cases e
  have nc:b≠c1:=fun z=>by
   rcases hold with z1 | ⟨q,hq',z1⟩
   ·rw[z,z1] at eb;cases eb
   ·rw[z,<- z1,n2 q hq'] at e;cases e
  rw[cH nc];exact keep1 b o nP eb
 have hsc1:Hs c1=none:=by
  rcases hold with z | ⟨q,hq',z⟩
  ·cases e:Hs c1 with
   | none=>rfl
   | some o=>rw[hs c1 o e] at z;cases z
  ·rw[<- z];exact n2 q hq'
 refine sO (vs:=[.ref f]) hc1 FT (hr.mono (by omega)) hbG wC J hfr (.cons rfl .nil) ⟨rfl,sm,fun v H2 Hs2 E2 r2 hn2=>hq v _ Hs2 ⟨E2.vis,fun b o hb e=>?_,fun b o e=>?_,fun b o e n=>?_,l1,⟨?_,fun q hq'=>?_⟩,?_,fun q hq'=>?_⟩ r2⟩
 ·have e':=keep1 b o hb e
  by_cases z:b=c1
  ·subst z;rw[aK];exact hc1.symm.trans e'
  ·rw[aq z];exact E2.all b o (by rw[cH z];exact e')
 ·have:=E2.sub b o e
  rw[aq (ao this hn2)];exact this
 ·by_cases z:b=c1
  ·subst z
   cases q:Hs2 b with
   | none=>rfl
   | some o'=>rw[E2.sub b o' q] at hn2;cases hn2
  ·by_cases z2:b=p.1
   ·subst z2;exact E2.hid _ _ (by rw[cH hcP.symm];exact T1.tab) n
   ·exact E2.hid b o (by rw[cH z];exact keep1 b o z2 e) n
 ·rw[aq hcP.symm]
  exact E2.all _ _ (by rw[cH hcP.symm];exact T1.tab)
 ·by_cases z:q.2=c1
  ·rw[z,aK,L.qual];rfl
  ·rw[aq z,L.qual];exact E2.all _ _ (by rw[cH z];exact T1.cod q hq')
 ·exact E2.hid _ _ (by rw[cH hcP.symm];exact T1.tab) n1
 ·by_cases z:q.2=c1
  ·rw[z]
   cases e:Hs2 c1 with
   | none=>rfl
   | some o'=>rw[E2.sub c1 o' e] at hn2;cases hn2
  ·rcases hnew q hq' with z1 | z1
   ·exact E2.hid _ _ (by rw[cH z];exact T1.cod q hq') (n2 q z1)
   ·exact absurd z1 z
end
end L2
namespace DE
open PySem
def toldOf:Expr->Option (Str×Expr×Scope)
 | .Call (.Name tn _) [.Lambda ⟨[],[],none,[],[],none,[]⟩ body lsc _] [] _=>some (tn,body,lsc)
 | _=>none
end DE
namespace L2
open PySem PySem.Spec PyProof.Rows
open DE hiding st
theorem pA{e:Expr}{tn:Str}{body:Expr}{lsc:Scope}(h:toldOf e=some (tn,body,lsc)):∃ pp lp cp,e=.Call (.Name tn pp) [.Lambda noArgs body lsc lp] [] cp:=by
 unfold toldOf at h;split at h
 ·cases h;exact⟨_,_,_,rfl⟩
 ·cases h
structure LamP where
 tn:Str
 cv:Str->Option D
def iG(cx:Cxt)(L:LamP)(F:Nat)(sc:Scope)(ρ:Rho)(e:Expr):Option D :=
 match toldOf e with
 | some (tn,body,lsc)=>if tn==L.tn&&sc.names.lookup tn==some .globalImplicit&&tV sc lsc ρ then(evx cx F lsc (iH lsc ρ) body).bind fun c=>if cx.exs.contains c then L.cv c else none else none
 | none=>none
def stL(cx:Cxt)(L:LamP)(F:Nat):Nat->Scope->Rho->Stmt->Option Fl
 | 0,_,_,_=>none
 | n+1,sc,ρ,s=>match s with
  | .Assign [.Name x px] (.List [e] p) pos=>match iG cx L F sc ρ e with
   | some d=>if ownIn sc x&&(ρ.map (·.1)).contains x&&rR ρ x then some (.nxt (bV ρ x (.ow [d]))) else none
   | none=>DE.st cx F (n+1) sc ρ (.Assign [.Name x px] (.List [e] p) pos)
  | .Expr (.Call (.Attribute (.Name x px) m ap) [e] [] cp) pos=>match iG cx L F sc ρ e with
   | some d=>match ρ.lookup x with
    | some (.ow ds)=>if ownIn sc x&&au x&&ap.endLine==cp.line&&m=="append"&&szl (ds.length+1) then some (.nxt (bV ρ x (.ow (ds++[d])))) else none
    | _=>none
   | none=>DE.st cx F (n+1) sc ρ (.Expr (.Call (.Attribute (.Name x px) m ap) [e] [] cp) pos)
  | .If c a b _=>do
    let k <- (ev cx F sc (frz F c ρ) c).bind asB
    if k then fD (fun ρ s=>stL cx L F n sc ρ s) a ρ else fD (fun ρ s=>stL cx L F n sc ρ s) b ρ
  | .For tg iter body [] _=>do
    let l <- evI cx (dW tg) (ev cx F sc (frz F iter ρ)) sc iter
    gO (fun d ρ=>do let ρ1 <- fL sc tg d ρ;fD (fun ρ s=>stL cx L F n sc ρ s) body ρ1) l (frz F iter ρ)
  | s=>DE.st cx F (n+1) sc ρ s
section
variable {X:Cx} {ρ:Rho} {T:Pg} {F k:Nat} {sc:Scope} {Hs0 H0:Hp} {L:LamP} {p:Addr×Str}
structure GoodL (T:Pg) (F k:Nat) (L:LamP) (p:Addr×Str) (X:Cx) (sc:Scope):Prop where
 s:GoodS (T.cx (bG T F k)) (k+3) X sc
 t:Text X.w X.K X.mg T
 l:LCx X p
 told:kJ X.prog X.w X.K X.mg (k+1) T.exs L.cv L.tn
theorem jg{e:Expr}{d:D}{σ:St}{H Hs:Hp}{Q:VK}(G:GoodL T F k L p X sc)(hN:X.N=ρ.map (·.1))(h:iG (T.cx (bG T F k)) L F sc ρ e=some d)(hd:Hd X.K X.lm Hs0 H0 Hs H ρ σ)(hq:∀ v H' Hs',ExtL p Hs H Hs' H'->Rep X.K Hs' d v->Q v H'):iz X e σ H Q/\aA e=true:=by
 unfold iG at h;split at h
 ·rename_i tn body lsc ht
  obtain⟨pp,lp,cp,rfl⟩:=pA ht;split at h
  ·rename_i hc
   rw[G2z,G2z] at hc;obtain⟨c,h1,h2⟩:=Option.bind_eq_some_iff.mp h;split at h2
   ·rename_i hin
    have etn:tn=L.tn:=by simpa using hc.1.1
    subst etn;obtain⟨_,l,hT,n1,n2⟩:=hd.lam p G.l.lm;exact⟨sE G.t G.l hN G.s.good.sce G.s.good.room G.told (by simpa using hc.1.2) hc.2 h1 hin h2 hd.ext.sub hd.sh hT n1 n2 hq,rfl⟩
   ·cases h2
  ·cases h
 ·cases h
theorem vO{x:Str}{e:Expr}{d:D}{px p' pos:Pos}(G:GoodL T F k L p X sc)(hN:X.N=ρ.map (·.1))(hx:ownIn sc x=true)(hc:(ρ.map (·.1)).contains x=true)(hno:rR ρ x=true)(h:iG (T.cx (bG T F k)) L F sc ρ e=some d) :
  Runs X Hs0 H0 ρ (.nxt (bV ρ x (.ow [d]))) (fG X (.Assign [.Name x px] (.List [e] p') pos)):=by
 intro σ H Hs D hd _ hn hr;obtain⟨ox,of⟩:=G.s.own.own x hx;obtain⟨i,hi⟩:=bx hc
 have hnd:(ρ.map (·.1)).Nodup:=by rw[<- hN];exact G.s.good.nd
 have pl:aA e=true:=(jg (Q:=fun _ _=>True) G hN h hd fun _ _ _ _ _=>trivial).2;refine PS.sem (eH G.s.good.nd (by rw[hN];exact hi) ox (pZ (aP ak bw (aj pl))) rfl of) ?_;refine(jg G hN h hd fun v H1 Hs1 E1 r1=>?_).1;refine⟨by show 1<=sizeLine;decide,fun a ha=>?_⟩;have h1:=hd.stepL G.l.lm E1;have ha':Hs1 a=none:=E1.sub.free ha;have E2:Ext Hs1 H1 Hs1 (upd H1 a (.lst [v])):=⟨.refl _,fun b u q=>by rw[aq (ao q ha)];exact q,fun b u q=>by rw[aq (ao (E1.sub b u q) ha)];exact E1.sub b u q,fun _ _ _ z=>z⟩;have h2:=h1.step E2;refine hn _ _ Hs1 _ rfl E1.vis (by rw[aF];exact hN) (h2.own hnd hi aK (.cons r1 .nil) ha' (h1.ext.all.free ha) (qp hnd hi hno) fun j y es hj q1 q2=>?_);obtain⟨b,us,k1,k2,_⟩:=h1.ow j y es q1;rw[k1] at q2;cases q2;rw[ha] at k2;cases k2
theorem vP{x:Str}{e:Expr}{d:D}{ds:List D}{px ap cp pos:Pos}(G:GoodL T F k L p X sc)(hN:X.N=ρ.map (·.1))(hx:ρ.lookup x=some (.ow ds))(ho:ownIn sc x=true)(hp:au x=true)(hline:(ap.endLine==cp.line)=true)(hz:szl (ds.length+1)=true)(h:iG (T.cx (bG T F k)) L F sc ρ e=some d) :
  Runs X Hs0 H0 ρ (.nxt (bV ρ x (.ow (ds++[d])))) (fG X (.Expr (.Call (.Attribute (.Name x px) "append" ap) [e] [] cp) pos)):=by
 obtain⟨i,hi,_⟩:=aY hx
 have nd:(ρ.map (·.1)).Nodup:=by rw[<- hN];exact G.s.good.nd
 intro σ H Hs D hd _ hn hr;have hpl:aA e=true:=(jg (Q:=fun _ _=>True) G hN h hd fun _ _ _ _ _=>trivial).2;obtain⟨a,vs,k1,k2,k3,k4,k5⟩:=hd.ow i x ds hi;unfold au at hp;rw[G2z,W3z,W3z] at hp;have vis:Vis X.env.scope x:=(G.s.own.own x ho).1.elim .inl fun q=>.inr (.inl q);refine PS.sem (dX (jO L0z H0z I0z eU (dj (i:=i) (by rw[hN,List.getElem?_map,hi];rfl) vis (by simpa using hp.1) (by simpa using hp.2)) (aP ak bw (aj hpl)) rfl (by rw[aj hpl];rfl) hline (aj hpl) rfl) rfl) ?_;refine⟨_,k1,.inl ⟨rfl,vs,.of k2⟩,?_⟩;refine(jg G hN h hd fun v H1 Hs1 E1 r1=>?_).1;have h1:=hd.stepL G.l.lm E1;obtain⟨a',vs',g1,g2,g3,g4,g5⟩:=h1.ow i x ds hi;rw[k1] at g1;cases g1;refine⟨a,vs',v,rfl,rfl,g2,by have:=g3.length;have:=jG hz;omega,?_⟩;exact hn _ _ Hs1 _ rfl E1.vis (by rw[aF];exact hN) (h1.app nd hi k1 (aJ.append g3 (.cons r1 .nil)))
theorem uN:∀ (n:Nat) {ρ:Rho} {s:Stmt} {fl:Fl},GoodL T F k L p X sc->X.N=ρ.map (·.1)->stL (T.cx (bG T F k)) L F n sc ρ s=some fl->Runs X Hs0 H0 ρ fl (fG X s)
 | 0,ρ,s,fl,_,_,h=>by simp[stL] at h
 | n+1,ρ,s,fl,G,hN,h=>by
  have block:∀ (l:List Stmt) (ρ:Rho) (fl:Fl),X.N=ρ.map (·.1)->fD (fun ρ s=>stL (T.cx (bG T F k)) L F n sc ρ s) l ρ=some fl->Runs X Hs0 H0 ρ fl (dJ X l):=qL fun ρ s fl hN h=>uN n G hN h;simp only[stL] at h;split at h
  ·split at h
   ·rename_i d hl
    split at h
    ·rename_i hc
     rw[G2z,G2z] at hc;cases h;exact vO G hN hc.1.1 hc.1.2 hc.2 hl
    ·cases h
   ·exact lu _ F (n+1) G.s hN h
  ·split at h
   ·rename_i d hl
    split at h
    ·rename_i ds hx
     split at h
     ·rename_i hc
      simp only[G2z] at hc;obtain⟨⟨⟨⟨c1,c2⟩,c3⟩,c4⟩,c5⟩:=hc;cases h;have em:=eq_of_beq c4;subst em;exact vP G hN hx c1 c2 c3 c5 hl
     ·cases h
    ·cases h
   ·exact lu _ F (n+1) G.s hN h
  ·rename_i c a b pos
   obtain⟨t,h1,h⟩:=aH h;have he:=cJ h1;intro σ H Hs D hd _ hn hr;refine PS.sem (pR cg bh bh) (qQ G.s hN he hd fun Hs' H' sm h'=>?_)
   cases t with
   | true =>
    simp only[D4z] at h;exact mV (block a _ fl hN h σ H' Hs' D h' hN (fun ρ2 σ2 Hs2 H2 q2 sm2=>hn ρ2 σ2 Hs2 H2 q2 (sm.trans sm2)) hr)
   | false =>
    simp only[M1z,B4z] at h;exact oh (block b _ fl hN h σ H' Hs' D h' hN (fun ρ2 σ2 Hs2 H2 q2 sm2=>hn ρ2 σ2 Hs2 H2 q2 (sm.trans sm2)) hr)
  ·rename_i tg iter body pos
   obtain⟨l,hI,h⟩:=aH h;refine uM G.s hN hI (fun d ρ1 fl hf hN1=>?_) h;obtain⟨ρ2,g1,g2⟩:=aH hf;exact⟨ρ2,g1,fun hN2=>block body ρ2 fl hN2 g2⟩
  ·exact lu _ F (n+1) G.s hN h
end
abbrev Cx.relm(X:Cx)(q:Option (Addr×Str)):Cx:={ X with lm:=q }
section
variable {X:Cx} {z0:List (Addr×Obj)} {σ:St} {H:Hp} {s:Shared} {q:Option (Addr×Str)}
theorem Inv.relm(I:Inv X z0 σ H s)(q:Option (Addr×Str)):Inv (X.relm q) z0 σ H s :=
 ⟨⟨I.ok.mod,I.ok.kind,I.ok.glob,I.ok.blt,I.ok.above,I.ok.inj,I.ok.has,I.ok.cab,I.ok.hd,I.ok.frames,I.ok.stk,I.ok.exf,I.ok.bs,I.ok.bsz,I.ok.noex,I.ok.exfs,I.ok.funs,I.ok.frf⟩,I.os,I.bare,I.base,I.loc,I.cell,I.free,I.freeC,I.pin,I.hok,I.len⟩
theorem Inv.unrelm(I:Inv (X.relm q) z0 σ H s):Inv X z0 σ H s :=
 ⟨⟨I.ok.mod,I.ok.kind,I.ok.glob,I.ok.blt,I.ok.above,I.ok.inj,I.ok.has,I.ok.cab,I.ok.hd,I.ok.frames,I.ok.stk,I.ok.exf,I.ok.bs,I.ok.bsz,I.ok.noex,I.ok.exfs,I.ok.funs,I.ok.frf⟩,I.os,I.bare,I.base,I.loc,I.cell,I.free,I.freeC,I.pin,I.hok,I.len⟩
theorem SP.unrelm{D:Ends}{f:Flow}(h:SP (X.relm q) z0 D f s):SP X z0 D f s:=by
 cases f with
 | next=>obtain⟨σ',H',I,z⟩:=h;exact⟨σ',H',I.unrelm,z⟩
 | brk=>obtain⟨σ',H',I,z⟩:=h;exact⟨σ',H',I.unrelm,z⟩
 | cont=>obtain⟨σ',H',I,z⟩:=h;exact⟨σ',H',I.unrelm,z⟩
 | ret u=>obtain⟨v,σ',H',I,r,z⟩:=h;exact⟨v,σ',H',I.unrelm,r,z⟩
end
section
variable {P:Program} {w:World} {K:Zf} {mg:Str->Option Value} {base:Heap} {T:DE.Pg} {F k:Nat}
def mz(K:Zf)(Pt:Addr):Sp:=fun vs H Q _=>∃ (a:Addr) (ns:List Int),vs=[.ref a]/\SqL K H a (ns.map V.int)/\ns.length<=63/\H Pt=some (fQ Pt #[])/\∀ (H':Hp) (ps':Array Value),H' Pt=some (fQ Pt ps')->Q (.bl true) H'
theorem wW{fd:Fd}{t:Stmt}{f c Pt:Addr}{nm:Str}{dV kV doc pm ct oc:Value}{an od:Option Addr}{osl:Array (Option Value)}{L:LamP}(Tx:Text w K mg T)(lk:K.lookup f=some ⟨oc,od,.func (PySem.W.fnOf nm nm (bL t) (aQ t) (aB t) dV kV doc pm an (.ref c) ct),osl⟩)(hcd:PySem.W.codeIn K (.ref c) nm=true)
    (hb:fd.body=aQ t) (hs:fd.sc=aB t) (S:FnScope fd.N fd.ps fd.sc) (h1:fd.ps.length=1) (hC:PySem.W.CodeHd base c Pt) (hbm:base.BuiltinsAt mg Pt)
    (told:kJ P w K mg (k+1) T.exs L.cv L.tn)
    (hlaw:∀ ns:List Int,ns.length<=63->fD (fun ρ s=>stL (T.cx (bG T F k)) L F F fd.sc ρ s) fd.body (aZ fd [.lst (ns.map D.int)])=some (.ret (.bl true))) :
    FnOk P w K mg base CX0 (k+4) f (PySem.W.fnOf nm nm (bL t) (aQ t) (aB t) dV kV doc pm an (.ref c) ct) fd.ps (mz K Pt):=by
  refine Aj (N:=fd.N) lk hcd (by rw[<- hs];exact S) (fun vs H Q E h=>by obtain⟨a,ns,rfl,_⟩:=h;rw[h1];rfl) fun A outer s H vs Q E hr h=>?_
  obtain⟨a,ns,rfl,hS,hl,hP,hq⟩:=h
  let p:Addr×Str:=(Pt,(envOfC nm (aB t) s.heap.objs.size f (.ref c)).qual++"<lambda>")
  let X0:=dg CX0 P w K mg base fd.N nm (aB t) f (.ref c) A outer s H E
  let X:=X0.nox.relm (some p)
  have G:GoodL T F k L p X fd.sc :=
    { s := { good := { calm := rfl, room := hr, sce := hs.symm, kind := S.kind, nd := S.nd, cst := Tx.cst, blt := Tx.blt, exs := Tx.exs, kw := Tx.kw
                       fns:=fun f' hf'=>by
                         obtain⟨fd',hl'⟩:=cT (l:=T.defs) hf'
                         have FA:=Tx.fns f' fd' hl'
                         obtain⟨nm',t',a',g',m1,m2,m3,m4,m5⟩:=FA.ex
                         exact⟨FA.nd,a',g',fd'.ps,fun ds d h=>cI hl' ds _ (dB h),fun ds c h=>cI hl' ds _ (dH h),m1,m2.kp,m3,(nC Tx k nm' f' fd' t' a' g' hl' m2 m4 m5 FA.fs).mono (by omega)⟩ }
             own:=⟨fun x hx=>⟨by
               unfold ownIn at hx
               rw[V2z] at hx
               show(aB t).names.lookup x=_\/(aB t).names.lookup x=_
               rw[<- hs]
               exact hx.imp (fun q=>by simpa using q) (fun q=>by simpa using q),.inl rfl⟩⟩
             pass:=PassesOwn.never
             stk:=⟨rfl,rfl⟩ }
      t:=Tx
      l:=⟨rfl,rfl,⟨c,rfl,hC⟩,hbm,rfl,fun _=>rfl⟩
      told:=told }
  have Tab:LamT H Pt p.2 []:=⟨by rw[hP];rfl,fun q hq=>by simp at hq⟩
  have naP:∀ {o:HO},H a=some o->(∀ u,o≠.ext u)->a≠Pt:=fun e n z=>by rw[z,hP] at e;cases e;exact n _ rfl
  have rl:aJ K (del H Pt) [.lst (ns.map D.int)] [.ref a]:=by
    refine .cons ?_ .nil
    simp only[Rep]
    refine⟨a,ns.map V.int,rfl,?_,fW (fun x=>by simp[Rep]) ns⟩
    rcases hS with(e | ⟨o,e⟩) | e
    · exact .inl (.inl (by rw[cH (naP e fun u z=>nomatch z)];exact e))
    · exact .inl (.inr ⟨o,by rw[cH (naP e fun u z=>nomatch z)];exact e⟩)
    · exact .inr e
  obtain⟨s1,s2,s3⟩:=gq S (ds:=[.lst (ns.map D.int)]) (by rw[h1];rfl) rl
  have noow:∀ (i:Nat) (x:Str) (ds':List D),(aZ fd [.lst (ns.map D.int)])[i]?=some (x,.ow ds')->False:=fun i x ds' e=>by
    rcases s3 i x _ e with q | ⟨d',v,q,q1,q2⟩
    · cases q
    · cases q
  have hd:Hd K (some p) (del H Pt) (del H Pt) (del H Pt) H (aZ fd [.lst (ns.map D.int)]) (start fd.N [.ref a]):=by
    refine⟨⟨.refl _,fun b o e=>(jt e).1,fun b o e=>(jt e).1,fun _ _ _ z=>z⟩,s2,fun i x d e=>?_,fun i x ds' e=>(noow i x ds' e).elim,fun i j x y ds' es a' _ e=>(noow i x ds' e).elim,(fun i x dss e=>by
      rcases s3 i x _ e with q | ⟨d',v,q,q1,q2⟩
      · cases q
      · cases q),fun p' hp'=>?_⟩
    · rcases s3 i x _ e with q | ⟨d',v,q,q1,q2⟩
      · cases q
      · cases q
        exact⟨v,q1,q2⟩
    · cases hp'
      exact⟨fj,[],Tab,fj,fun q hq=>by simp at hq⟩
  refine⟨fun D σ H=>∀ z0 s0,Inv X z0 σ H s0->wpAny (model X.prog X.w) X.A (execs (aQ t) X.env) (SP X z0 D) X.xe s0,fun z0 s0 σ H1 D I h=>?_,?_⟩
  · exact S3z (h z0 s0 ((I.wish _).relm _)) (fun fl s' z=>z.unrelm.unwish) fun _ _ z=>False.elim z
  · have hg:=hlaw ns hl
    rw[hb] at hg
    exact qL (X:=X) (Hs0:=del H Pt) (H0:=del H Pt) (fun ρ s fl hN h=>uN F G hN h) (aQ t) (aZ fd [.lst (ns.map D.int)]) _ s1 hg (start fd.N [.ref a]) H (del H Pt) _ hd s1 (fun ρ' σ' Hs' H' q _ _ hd'=>by cases q) fun d' v Hs' H' q E' r lm'=>by
      cases q
      obtain⟨l,T'⟩:=lm' p rfl
      rw[bI r]
      exact hq H' _ T'.tab
end
section
variable {P:Program} {w:World} {K:Zf} {mg:Str->Option Value} {T:DE.Pg} {F kd:Nat}
def Kq(T:DE.Pg)(F:Nat)(fd:Fd)(c:Str):Option D:=runC (T.cx (bG T F 0)) F fd.sc fd.body (aZ fd [.exc c])
theorem pB{tn cls dn n:Str}{fdT fdC:Fd}{p1 p2 p3 np p4 p5 p6 p7 hp pos:Pos}(Tx:Text w K mg T)(hT:T.defs.lookup tn=some fdT)(hC:T.defs.lookup cls=some fdC)
  (hbody:fdT.body=[.Try [.Return (some (.Call (.Name dn p1) [] [] p2)) p3] [.ExceptHandler (some (.Name T.top np)) (some n) [.Return (some (.Call (.Name cls p4) [.Name n p5] [] p6)) p7] hp] [] [] pos])
  (hN:fdT.N=[dn,n]) (hps:fdT.ps=[dn]) (ld:fdT.sc.names.lookup dn=some .local) (ln:fdT.sc.names.lookup n=some .local) (lc:fdT.sc.names.lookup T.top=some .globalImplicit) (lcls:fdT.sc.names.lookup cls=some .globalImplicit)
  (pn:au n=true) (pd:au dn=true) (pc:au T.top=true) (h1:fdC.ps.length=1) (hkd:1<=kd):kJ P w K mg kd T.exs (Kq T F fdC) tn:=by
 have FA:=Tx.fns tn fdT hT;obtain⟨nm,t,a,g,m1,m2,m3,m4,m5⟩:=FA.ex;have FB:=Tx.fns cls fdC hC;obtain⟨nm',t',ac,gc,q1,q2,q3,q4,q5⟩:=FB.ex;have S:=FA.fs;rw[hN,hps,m5] at S;rw[hps] at m3;refine⟨FA.nd,a,g,dn,m1,m2.kp,m3,fun base f fd o Hs0 c' d hin hcv GD ho hd hb=>?_⟩;exact vD m2 (m4.symm.trans hbody) S (m5▸ld) (m5▸ln) (m5▸lc) (m5▸lcls) Tx.exs hin pn pd pc FB.nd q1 q2.kp q3 (fun base=>Aw (k:=0) Tx q2 q4 q5 FB.fs h1 hcv) h1 GD hkd ho hd hb
end
end L2
namespace L2
open PySem PySem.Spec PyProof.Rows
theorem qw{P:Program}{w:World}{K:Zf}{mg mb:Str->Option Value}{k:Nat}{fa a c Pt:Addr}{fd:FuncData}{x:Str}{s₁:Shared}{vs:List Value}{ns:List Int}
  (KX:K.In s₁.heap) (hns:s₁.heap.Ns mainGlobals mg) (hb:s₁.heap.Ns builtinsNs mb) (hbb:∀ x:Str,x≠"__name__"->mb x=bootBuiltins x) (hlim:s₁.heap.NoLimit) (hg:s₁.gens = #[])
  (ha:s₁.heap.get? a=some { cls:=.type "list",data:=.seq vs.toArray }) (hi:IntsAre vs ns) (hl:ns.length<=63) (hr:Room k callerA)
  (hT:s₁.heap.get? Pt=some (PySem.W.tabObj #[])) (hKP:K.lookup Pt=none) (hC:PySem.W.CodeHd s₁.heap c Pt) (hbm:s₁.heap.BuiltinsAt mg Pt)
  (F:∀ base:Heap,K.In base->base.Ns mainGlobals mg->PySem.W.CodeHd base c Pt->base.BuiltinsAt mg Pt->FnOk P w K mg base CX0 k fa fd [x] (mz K Pt)) (hbind:∀ (s:Shared) (u:Value),BindsTo s fd ⟨[u],[]⟩ [(x,u)]) :
  codeAny (model P w) callerA (.call (.ref fa) ⟨[.ref a],[]⟩) (fun r s'=>r=.ok (.ret (.bool true))/\OldK s₁.heap s'.heap/\s'.os=s₁.os/\AllBare s'.gens) s₁:=by
 have rv:=gj hi;have lenV:=hi.length
 have naP:a≠Pt:=fun z=>by rw[z,hT] at ha;cases ha
 have core:∀ H0:Hp,Only H0->SqL K H0 a (ns.map V.int)->HOk P w H0 s₁.heap->(∀ b,H0 b≠none->b=a)->(H0 a≠none->K.lookup a=none) ->
   codeAny (model P w) callerA (.call (.ref fa) ⟨[.ref a],[]⟩) (fun r s'=>r=.ok (.ret (.bool true))/\OldK s₁.heap s'.heap/\s'.os=s₁.os/\AllBare s'.gens) s₁:=by
  intro H0 hO hS hok hA hK
  have h0P:H0 Pt=none:=by
   cases q:H0 Pt with
   | none=>rfl
   | some u=>exact absurd (hA Pt (by rw[q];simp)).symm naP
  have eP:(upd H0 Pt (fQ Pt #[])) Pt=some (fQ Pt #[]):=aK
  have hokH:HOk P w (upd H0 Pt (fQ Pt #[])) s₁.heap:=fun b u e=>by
   by_cases hb:b=Pt
   ·subst hb;rw[aK] at e;cases e;exact uJ hT
   ·rw[aq hb] at e
    exact(hok b u e).stay (fun c v _ q=>q) (fun c q=>by rw[aq (ao q h0P)];exact q) fun c xs q=>by rw[aq (ao q h0P)];exact q
  have hSH:SqL K (upd H0 Pt (fQ Pt #[])) a (ns.map V.int):=by
   rcases hS with(e | ⟨o,e⟩) | e
   ·exact .inl (.inl (by rw[aq naP];exact e))
   ·exact .inl (.inr ⟨o,by rw[aq naP];exact e⟩)
   ·exact .inr e
  have noH:∀ {b:Addr},b≠Pt->b≠a->(upd H0 Pt (fQ Pt #[])) b=none:=fun {b} h1 h2=>by
   rw[aq h1]
   cases q:H0 b with
   | none=>rfl
   | some u=>exact absurd (hA b (by rw[q];simp)) h2
  have un_of:∀ {b:Addr} {o:Obj},s₁.heap.get? b=some o->(upd H0 Pt (fQ Pt #[])) b=none->(jR s₁.heap (upd H0 Pt (fQ Pt #[]))).get? b=some o:=fun e n=>jh e n;have nsK:∀ {b:Addr} {m:Str->Option Value},s₁.heap.Ns b m->(jR s₁.heap (upd H0 Pt (fQ Pt #[]))).Ns b m:=fun {b m} ⟨o,es,ep,e,d,r⟩=>⟨o,es,ep,un_of e (noH (fun z=>by rw[z,hT] at e;cases e;cases d) (fun z=>by rw[z,ha] at e;cases e;cases d)),d,r⟩
  have hKb:K.In (jR s₁.heap (upd H0 Pt (fQ Pt #[]))):=fun b o e=>un_of (KX b o e) (by
   have hbP:b≠Pt:=fun z=>by rw[z,hKP] at e;cases e
   rw[aq hbP]
   cases q:H0 b with
   | none=>rfl
   | some u =>
    have e':b=a:=hA b (by rw[q];simp)
    subst e'
    rw[hK (by rw[q];simp)] at e;cases e)
  have hM:Mod K mg (jR s₁.heap (upd H0 Pt (fQ Pt #[]))):=⟨hKb,nsK hns,⟨mb,nsK hb,hbb⟩,let ⟨mc,h1,h2⟩:=hlim;⟨mc,nsK h1,h2⟩⟩
  have e0:Env0 P w K mg (jR s₁.heap (upd H0 Pt (fQ Pt #[]))) callerA [] s₁ (upd H0 Pt (fQ Pt #[])):=⟨rfl,hM,fun b o e=>lF e,Nat.le_of_eq (gM _ _),trivial,fun b hb=>absurd (show b∈([]:List Addr) from hb) (by simp),hokH,.of_eq hg⟩
  have hCb:PySem.W.CodeHd (jR s₁.heap (upd H0 Pt (fQ Pt #[]))) c Pt:=by
   obtain⟨o,vs',file,tf,flags,tg,inF,text,tt,e1,e2,r⟩:=hC;exact⟨o,vs',file,tf,flags,tg,inF,text,tt,un_of e1 (noH r.2.2.2.2.2.2.2 (fun z=>by rw[z,ha] at e1;cases e1;exact absurd (show Value.type "list"=Value.type "code" from e2) (by decide))),e2,r⟩
  have hBb:(jR s₁.heap (upd H0 Pt (fQ Pt #[]))).BuiltinsAt mg Pt:=by
   obtain⟨bm,ob,b1,b2,b3,b4,b5,b6,b7,b8⟩:=hbm;exact⟨bm,ob,b1,b2,b3,b4,un_of b5 (noH b4 (fun z=>by rw[z,ha] at b5;cases b5;exact absurd (show Value.type "list"=Value.type "module" from b6) (by decide))),b6,b7,b8⟩
  refine M3z ((F _ hKb (nsK hns) hCb hBb).run callerA [] s₁ _ ⟨[.ref a],[]⟩ [.ref a] [.ref a] (fun v H'=>v=.bl true/\∃ ps',H' Pt=some (fQ Pt ps')) (fun _ _ _=>False) hr e0 (hbind s₁ (.ref a)) (.cons rfl .nil) ⟨a,ns,rfl,hSH,hl,eP,fun H' ps' e=>⟨rfl,ps',e⟩⟩) fun r s' h=>?_
  cases r with
  | error e=>exact False.elim h
  | ok fl =>
   cases fl with
   | next=>exact False.elim h
   | brk=>exact False.elim h
   | cont=>exact False.elim h
   | ret u =>
    obtain⟨v,H',os,bare,un,hok',r',q,ps',hps⟩:=h;subst q;obtain rfl:u=Value.bool true:=r'
    have keep:∀ b o,s₁.heap.get? b=some o->b≠Pt->s'.heap.get? b=some o:=fun b o e hbP=>by
     by_cases hba:b=a
     ·subst hba
      rcases hO b with z | ⟨ob,xs,z⟩
      ·exact un.keep b o e (by rw[aq hbP];exact z) (by intro z;exact absurd (show b∈([]:List Addr) from z) (by simp)) (by simp)
      ·have z1:(upd H0 Pt (fQ Pt #[])) b=some (.frz ob (.lst xs)):=by rw[aq hbP];exact z
       have z2:=un.frzs b ob _ z1;obtain⟨e1,_⟩:=hok b _ z;obtain⟨e2,_⟩:=hok' b _ z2;rw[e] at e1;cases e1;exact e2
     ·exact un.keep b o e (noH hbP hba) (by intro z;exact absurd (show b∈([]:List Addr) from z) (by simp)) (by simp)
    have hPt:s'.heap.get? Pt=some (PySem.W.tabObj ps'):=(hok' Pt _ hps).1;refine⟨rfl,⟨fun b o e=>?_,fun b o e=>?_⟩,os,bare⟩
    ·by_cases hbP:b=Pt
     ·subst hbP
      rw[hT] at e;cases e
      exact .inr (.inl ⟨(hC.tab hT).isCodeTable,rfl,#[],ps',rfl,by rw[hPt];simp⟩)
     ·exact .inl (keep b o e hbP)
    ·by_cases hbP:b=Pt
     ·subst hbP;exact⟨_,hPt⟩
     ·exact⟨o,keep b o e hbP⟩
 cases hk:K.lookup a with
 | some o =>
  have e:=KX a o hk;rw[ha] at e;cases e;refine core (fun _=>none) (fun _=>.inl rfl) (.inr ⟨_,vs.toArray,_,hk,rfl,rfl,rfl,by rw[T1z,lenV];exact J3z hl (by decide),by simpa using rv⟩) (fun b u z=>by have z':(none:Option HO)=some u:=z;cases z') (fun b z=>absurd rfl z) fun z=>absurd rfl z
 | none =>
  refine core (fun b=>if b=a then some (.frz { cls:=.type "list",data:=.seq vs.toArray } (.lst (ns.map V.int))) else none) (fun b=>?_) (.inl (.inr ⟨{ cls:=.type "list",data:=.seq vs.toArray },E4z rfl⟩)) (fun b u z=>?_) (fun b z=>?_) fun _=>hk
  ·by_cases hb:b=a
   ·exact .inr ⟨_,_,E4z hb⟩
   ·exact .inl (F4z hb)
  ·by_cases hb:b=a
   ·have z':=(E4z hb).symm.trans z
    cases z';subst hb;exact⟨ha,by rw[P2z];exact J3z hl (by decide),vs,_,rv,ha⟩
   ·have z':=(F4z hb).symm.trans z
    cases z'
  ·by_cases hb:b=a
   ·exact hb
   ·exact absurd (F4z hb) z
theorem walkL{l:PySem.W.OpenLaw}{k:Nat}{q:Program}{loose:List Str}{XP:(Str->Option Value)->Heap->Prop}{YP:World->Heap->Prop}{d:DefRec}{K:Params->Zf}{x:Str}{c Pt:Addr}
    (hn:l.most=some 63) (hdf:d.params.defaults=[]) (hr:Room k callerA)
    (hY:∀ (w:World) (h:Heap),YP w h->(K w.params).In h/\h.get? Pt=some (PySem.W.tabObj #[])) (hKP:∀ P,(K P).lookup Pt=none) (hKC:∀ P,PySem.W.codeHdIn (K P) c Pt=true)
    (F:∀ (w:World) (mg:Str->Option Value) (fa:Addr) (h:Heap),(K w.params).In h->h.Ns mainGlobals mg->mg d.name=some (.ref fa) ->
      ∃ fd : FuncData, (∀ (s : Shared) (u : Value), BindsTo s fd ⟨[u], []⟩ [(x, u)]) /\
        ∀ base:Heap,(K w.params).In base->base.Ns mainGlobals mg->PySem.W.CodeHd base c Pt->base.BuiltinsAt mg Pt->FnOk l.prog w (K w.params) mg base CX0 k fa fd [x] (mz (K w.params) Pt)) :
    PySem.W.WalkO q loose XP YP l.row.toRowW d [] (fun f vs=>PySem.call f vs):=by
  refine Att.iu hn hdf fun w s₀ s₁ mg mb fa o pm cd doc a vs ns G Y ho hd hcd hmg hobj hints hlen hg=>?_
  obtain⟨KX,hT⟩:=hY w _ Y
  obtain⟨fd,hb,hF⟩:=F w mg fa _ KX G.T.g hmg
  obtain⟨bm,ob,b1,b2,b3,b4,b5,b6⟩:=G.T.bmain
  have hbP:bm≠Pt:=fun z=>by rw[z,hT] at b3;cases b3;cases b4
  have hbG:bm≠mainGlobals:=fun z=>by
    obtain⟨o,es,ep,e,hd,_⟩:=G.T.g
    rw[z,e] at b3;cases b3;rw[hd] at b6;cases b6
  exact qw KX G.T.g G.T.b G.T.builtins G.T.nolimit hg hobj hints hlen hr hT (hKP _) (PySem.W.codeHd_of_K KX (hKC _)) ⟨bm,ob,b1,b2,hbG,hbP,b3,b4,b5,b6⟩ hF hb
end L2
namespace DE
open PySem
def Ls{α:Type}(m:Nat)(h:Nat->α):List α:=(List.range m).map h
theorem lW{l:List D}{j:Nat}{d:D}(h:l[j]?=some d):atD l (j:Int)=some d:=by
 have hj:=(List.getElem?_eq_some_iff.mp h).1;unfold atD ixD;rw[E4z (by omega),E4z (by omega)];simpa using h
theorem pL{n:Nat}:bK 0 (n:Int)=Ls n fun k=>.int k:=by
 unfold bK Ls;simp
def Lk(cx:Cxt)(sc:Scope)(ρ:Rho)(x:Str):Option D:=if au x then(match sc.names.lookup x with
    | some .local=>(match ρ.lookup x with | some (.sh d)=>some d | _=>none)
    | some .cell=>(match ρ.lookup x with | some (.sh d)=>some d | _=>none)
    | some .free=>(match ρ.lookup x with | some (.sh d)=>some d | _=>none)
    | some .globalImplicit=>cx.cst.lookup x
    | _=>none) else none
def Ma(c:Const):Option D:=(match c with
    | .none=>some .non
    | .bool b=>some (.bl b)
    | .int i=>some (.int i)
    | .str x=>some (.str x)
    | _=>none)
section
variable {cx:Cxt} {n:Nat} {sc scope:Scope} {ρ:Rho} {a b c e:Expr} {es:List Expr} {p q:Pos} {x y z d:D} {ds:List D} {nm:Str} {op op':CmpOp}
theorem xName(h:Lk cx sc ρ nm=some d):ev cx (n+1) sc ρ (.Name nm p)=some d:=h
theorem cQ{k:Const}{j:Nat}(h:Ma k=some d):ev cx (n+1) sc ρ (.Constant k j p)=some d:=h
theorem iQ{o:Operator}(h1:ev cx n sc ρ a=some x)(h2:ev cx n sc ρ b=some y)(h:binop o x y=some d):ev cx (n+1) sc ρ (.BinOp a o b p)=some d:=by
 simp only[ev,h1,h2];exact h
theorem Ir{i:Int}(h1:ev cx n sc ρ a=some (.int i)):ev cx (n+1) sc ρ (.UnaryOp .USub a p)=some (.int (-i)):=by
 simp only[ev,h1];rfl
theorem yx(h1:ev cx n sc ρ a=some x)(h2:ev cx n sc ρ b=some y)(h:cmpop op x y=some d):ev cx (n+1) sc ρ (.Compare a [op] [b] p)=some d:=by
 simp only[ev,h1,h2];exact h
theorem Bd{f:Expr->Option D}:iD f []=some []:=rfl
theorem gb{f:Expr->Option D}(h1:f a=some x)(h2:iD f es=some ds):iD f (a::es)=some (x::ds):=by
 simp only[iD,h1,h2];rfl
theorem Iu(h1:iD (ev cx n sc ρ) es=some ds)(hz:szl ds.length=true):ev cx (n+1) sc ρ (.List es p)=some (.lst ds):=by
 simp only[ev,h1];show(if szl ds.length=true then _ else _)=_;rw[E4z hz]
theorem vL{x:D}{i:Int}{xs:List D}(h:items x=some xs):Bf x (.int i)=atD xs i:=by cases x<;>simp[items] at h<;>subst h<;>rfl
theorem xIx{i:Int}{xs:List D}(h1:ev cx n sc ρ a=some x)(h2:ev cx n sc ρ b=some (.int i))(h3:items x=some xs)(h4:atD xs i=some d)(hs:aA b=true:=by rfl):ev cx (n+1) sc ρ (.Subscript a b p)=some d:=by
 simp only[ev,h1];show Option.bind _ _=_
 cases b<;>first | (simp[aA] at hs;done) | (simp only[h2];show Bf x (.int i)=some d;rw[vL h3];exact h4)
theorem yL{B:String}(hg:aU cx sc nm=some B)(hw:uI cx sc B es=.al)(hn:(B=="isinstance"||es.isEmpty)=false)(h1:iD (ev cx n sc ρ) es=some ds)(h:blt B ds=some d):ev cx (n+1) sc ρ (.Call (.Name nm q) es [] p)=some d:=by
 rw[Bool.or_eq_false_iff] at hn;unfold aU at hg;split at hg
 ·rename_i hgl
  simp only[ev,hgl,hg,D4z];split
  ·rename_i he;cases he;simp at hn
  ·rename_i he;cases he
   simp only[hw,hn.2,h1,M1z,B4z];exact h
  ·rename_i he;cases he
 ·cases hg
def isFn(cx:Cxt)(sc:Scope)(nm:Str)(es:List Expr):Bool:=lN cx sc nm&&(cx.blt.lookup nm).isNone&&cx.fns.contains nm && !es.isEmpty
theorem rY(hf:isFn cx sc nm es=true)(h1:iD (ev cx n sc ρ) es=some ds)(h:cx.call nm ds=some d):ev cx (n+1) sc ρ (.Call (.Name nm q) es [] p)=some d:=by
 unfold isFn at hf;rw[G2z,G2z,G2z] at hf;obtain⟨⟨⟨h2,h3⟩,h4⟩,h5⟩:=hf
 have h3':cx.blt.lookup nm=none:=by simpa using h3
 simp only[ev,h2,h3',h4,h5,Bool.and_self,D4z,h1];exact h
theorem wR1{tup:Bool}{j:Int}(hw:vB cx sc e=.r1 a)(h1:ev cx n sc ρ a=some (.int j))(hz:cL j=true):evI cx tup (ev cx n sc ρ) sc e=some (bK 0 j):=by
 unfold evI;rw[hw];simp only[h1,H2z,asI];show(if cL j=true then _ else _)=_;rw[E4z hz]
variable {F:Nat} {f:Rho->Stmt->Option Fl} {r:List Stmt} {fl:Fl} {m:Nat}
abbrev blk(cx:Cxt)(F m:Nat)(sc:Scope):List Stmt->Rho->Option Fl:=fD (fun ρ s=>st cx F m sc ρ s)
theorem xG:blk cx F m sc [] ρ=some (.nxt ρ):=rfl
def vG(cx:Cxt)(F m:Nat)(sc:Scope)(r:List Stmt):Fl->Option Fl
 | .ret d=>some (.ret d)
 | .nxt ρ'=>blk cx F m sc r ρ'
theorem gSt{s:Stmt}{fl1:Fl}(h:st cx F m sc ρ s=some fl1)(k:vG cx F m sc r fl1=some fl):blk cx F m sc (s::r) ρ=some fl:=by
 show(st cx F m sc ρ s).bind _=_;rw[h]
 cases fl1<;>exact k
theorem Bo(h:ev cx F sc (frz F e ρ) e=some d):blk cx F (m+1) sc (.Return (some e) p::r) ρ=some (.ret d):=by
 refine gSt (fl1:=.ret d) ?_ rfl;simp only[st,h];rfl
theorem Kl{px:Pos}(ho:(ownIn sc nm&&(ρ.map (·.1)).contains nm)=true)(h:ev cx F sc (frz F e ρ) e=some d)(k:blk cx F (m+1) sc r (bV (frz F e ρ) nm (jJ e d))=some fl)(hoo:(ooE cx sc e&&tH (frz F e ρ) nm)=false:=by rfl)(hno:(aR e && !rR (frz F e ρ) nm)=false:=by rfl)(hle:yF cx sc e=false:=by rfl)(hrd:rdA e=false:=by rfl):blk cx F (m+1) sc (.Assign [.Name nm px] e p::r) ρ=some fl:=by
 refine gSt (fl1:=.nxt _) ?_ k;simp only[st,h,E4z ho,hoo,hno,hle,hrd,Bool.false_and,M1z,B4z];rfl
theorem Km{A B:List Stmt}{fl1:Fl}(h:ev cx F sc (frz F c ρ) c=some (.bl true))(k:blk cx F m sc A ρ=some fl1)(k2:vG cx F (m+1) sc r fl1=some fl):blk cx F (m+1) sc (.If c A B p::r) ρ=some fl:=by
 refine gSt ?_ k2;have k':fD (fun ρ s=>st cx F m sc ρ s) A ρ=some fl1:=k;simp only[st,h,bind,H2z,asB,D4z,k']
theorem LQ{A B:List Stmt}{fl1:Fl}(h:ev cx F sc (frz F c ρ) c=some (.bl false))(k:blk cx F m sc B ρ=some fl1)(k2:vG cx F (m+1) sc r fl1=some fl):blk cx F (m+1) sc (.If c A B p::r) ρ=some fl:=by
 refine gSt ?_ k2;have k':fD (fun ρ s=>st cx F m sc ρ s) B ρ=some fl1:=k;simp only[st,h,bind,H2z,asB,M1z,B4z,k']
theorem Ie{A:List Stmt}(h:ev cx F sc (frz F c ρ) c=some (.bl false))(k:blk cx F (m+1) sc r ρ=some fl):blk cx F (m+1) sc (.If c A [] p::r) ρ=some fl :=
 LQ h xG k
abbrev cxN(P:Pg)(F k:Nat):Cxt:=⟨P.cst,P.blt,P.defs.map (·.1),P.exs,P.top,true,kh P F k,yu P F k⟩
theorem Ar{P:Pg}{k:Nat}:P.cx (bG P F k)=cxN P F k:=by
 have e1:kh P F k=fun f ds=>Rs.val? (bG P F k f ds):=by funext f ds;exact jA
 have e2:yu P F k=fun f ds=>Rs.exc? (bG P F k f ds):=by funext f ds;exact uz
 unfold cxN;rw[e1,e2];rfl
theorem Bc{P:Pg}{k:Nat}{f:Str}{fd:Fd}(hf:P.defs.lookup f=some fd)(hl:(ds.length==fd.ps.length)=true)(h:blk (cxN P F k) F F fd.sc fd.body (aZ fd ds)=some (.ret d)):kh P F (k+1) f ds=some d:=by
 have h':fD (fun ρ s=>st (cxN P F k) F F fd.sc ρ s) fd.body (aZ fd ds)=some (.ret d):=h;rw[jA];simp only[lR,hf,hl,D4z,oN,Ar,h',Rs.val?]
end
abbrev row(n:Nat)(f:Nat->Int):D:=.tup (Ls n fun j=>.int (f j))
abbrev tbl(m n:Nat)(f:Nat->Nat->Int):D:=.tup (Ls m fun i=>.tup (Ls n fun j=>.int (f i j)))
theorem K6{n:Nat}(h:n<=100000):cL (n:Int)=true:=by
 unfold cL;rw[X2z (by omega),X2z (by omega)];rfl
theorem oLt{i j:Int}(h:i<j):cmpop .Lt (.int i) (.int j)=some (.bl true):=by
 show some (D.bl (decide (i<j)))=_;rw[X2z h]
theorem IV{i j:Int}(h:¬ i<j):cmpop .Lt (.int i) (.int j)=some (.bl false):=by
 show some (D.bl (decide (i<j)))=_;rw[K2z h]
theorem Ay{i j:Int}(h:small i=true\/small j=true):binop .Mult (.int i) (.int j)=some (.int (i*j)):=by
 show(if(small i||small j||(mid i&&mid j))=true then _ else _)=_;rw[E4z (by rw[V2z,V2z];exact .inl h)]
theorem yH{i j:Int}(h:0<j):binop .Mod (.int i) (.int j)=some (.int (i%j)):=by
 show(if decide (0<j)=true then _ else _)=_;rw[E4z (X2z h)]
theorem Mf{i j:Int}(h:0<j)(h':j<1073741824):binop .FloorDiv (.int i) (.int j)=some (.int (i / j)):=by
 show(if(decide (0<j)&&decide (j<1073741824))=true then _ else _)=_;rw[E4z (by rw[X2z h,X2z h'];rfl)]
mutual
theorem yj:∀ d:D,dep d<1000->deq d d=true
 | .non,_=>rfl
 | .bl b,_=>by simp[deq]
 | .int i,_=>by simp[deq]
 | .str x,_=>by simp[deq]
 | .tup xs,h=>by simp only[deq];exact jo xs (by simp only[dep] at h;omega)
 | .lst xs,h=>by simp only[deq];exact jo xs (by simp only[dep] at h;omega)
 | .exc c,h=>absurd h (by simp[dep])
 | .dic _ _,h=>absurd h (by simp[dep])
theorem jo:∀ ds:List D,deps ds<1000->jY ds ds=true
 | [],_=>rfl
 | d::ds,h=>by
  simp only[deps] at h;simp only[jY,yj d (by omega),jo ds (by omega),Bool.and_self]
end
theorem oEq{x y:D}(h1:dep x<=50)(h2:dep y<=50):cmpop .Eq x y=some (.bl (deq x y)):=by
 show(if(decide (dep x<=50)&&decide (dep y<=50))=true then some (D.bl (deq x y)) else none)=_;rw[X2z h1,X2z h2];rfl
theorem rB{b:Nat}:∀ {l:List D},(∀ d∈l,dep d<=b)->deps l<=b
 | [],_=>Q3z _
 | d::r,h=>by
  simp only[deps];exact Nat.max_le.mpr ⟨h d F1z,rB fun e he=>h e (S0z _ he)⟩
section
variable {cx:Cxt} {n:Nat} {sc scope:Scope} {ρ:Rho} {a b c e:Expr} {es:List Expr} {p q:Pos} {x y z d:D} {ds:List D} {nm:Str}
theorem Iv{tup:Bool}{j:Nat}(hw:vB cx sc e=.r1 a)(h1:ev cx n sc ρ a=some (.int j))(hz:j<=100000):evI cx tup (ev cx n sc ρ) sc e=some (Ls j fun k=>.int k):=by
 rw[wR1 hw h1 (K6 hz),pL]
end
section
variable {cx:Cxt} {n:Nat} {sc scope:Scope} {ρ:Rho} {a b c e:Expr} {es:List Expr} {p q:Pos} {x y z d:D} {ds:List D} {nm:Str}
end
section
variable {cx:Cxt} {n:Nat} {sc scope:Scope} {ρ:Rho} {a b c e:Expr} {es:List Expr} {p q:Pos} {x y z d:D} {ds:List D} {nm:Str} {F m:Nat} {r:List Stmt} {fl:Fl} {op op':CmpOp}
end
section
variable {cx:Cxt} {n:Nat} {sc scope:Scope} {ρ:Rho} {a b c e:Expr} {es:List Expr} {p q:Pos} {x y z d:D} {ds:List D} {nm:Str} {F m:Nat} {r:List Stmt} {fl:Fl}
end
section
variable {cx:Cxt} {n:Nat} {sc scope:Scope} {ρ:Rho} {a b c e:Expr} {p q:Pos}
end
def nOw:Sl->Bool
 | .ow _=>false
 | .oo _=>false
 | _=>true
section
variable {cx:Cxt} {sc:Scope} {ρ:Rho} {c e:Expr} {p:Pos} {d:D} {nm:Str} {F m:Nat} {r:List Stmt} {fl:Fl}
theorem qe(h:aR e=false):ooE cx sc e=false:=by
 cases e<;>first | rfl | exact absurd h (by simp[aR])
theorem pI(h:aR e=false):jJ e d=.sh d:=by
 unfold jJ;split
 ·rw[h];rfl
 ·rfl
theorem Ah{px:Pos}{ρ':Rho}(hf:frz F e ρ=ρ')(ho:(ownIn sc nm&&(ρ.map (·.1)).contains nm)=true)(hfr:aR e=false)(h:ev cx F sc ρ' e=some d)(k:blk cx F (m+1) sc r (bV ρ' nm (.sh d))=some fl)(hle:yF cx sc e=false:=by rfl)(hrd:rdA e=false:=by rfl):blk cx F (m+1) sc (.Assign [.Name nm px] e p::r) ρ=some fl:=by
 refine Kl ho (by rw[hf];exact h) ?_ (by rw[qe hfr];rfl) (by rw[hfr];rfl) hle hrd
 rw[hf,pI hfr];exact k
theorem uc{y:Str}{s:Sl}{ρ:Rho}:frz F e ((y,s)::ρ)=(match s with | .ow ds=>if cZ F y e then(y,.sh (.lst ds)) else(y,.ow ds) | .oo dss=>if cZ F y e then(y,.sh (.lst (dss.map .lst))) else(y,.oo dss) | s=>(y,s))::frz F e ρ:=by
 cases s<;>rfl
theorem ud{y:Str}{s:Sl}{ρ:Rho}(h:nOw s=true):frz F e ((y,s)::ρ)=(y,s)::frz F e ρ:=by
 cases s<;>first | rfl | simp[nOw] at h
theorem xK{y:Str}{ds:List D}{ρ:Rho}(h:cZ F y e=true):frz F e ((y,.ow ds)::ρ)=(y,.sh (.lst ds))::frz F e ρ:=by
 show(if cZ F y e=true then _ else _)::_=_;rw[E4z h];rfl
end
def upd(f:Nat->Nat->Int)(a b:Nat)(v:Int):Nat->Nat->Int:=fun i j=>if i=a then(if j=b then v else f i j) else f i j
theorem yG{F:Nat}{e:Expr}:frz F e []=[]:=rfl
theorem cP{F:Nat}{e:Expr}{y:Str}{s:Sl}{ρ ρ':Rho}(h:nOw s=true)(q:frz F e ρ=ρ'):frz F e ((y,s)::ρ)=(y,s)::ρ':=by rw[ud h,q]
def gc(u d:Int):Int:=(Int.gcd u d:Int)
section
variable {cx:Cxt} {sc:Scope} {ρ ρ' ρ2:Rho} {e:Expr} {p:Pos} {d:D} {nm:Str} {F m:Nat} {r:List Stmt} {fl:Fl} {ds:List D}
theorem Ih{y:Str}(h:cZ F y e=false)(q:frz F e ρ=ρ'):frz F e ((y,.ow ds)::ρ)=(y,.ow ds)::ρ':=by
 rw[uc,q];simp only[h,M1z,B4z]
theorem Ko{y:Str}(h:cZ F y e=true)(q:frz F e ρ=ρ'):frz F e ((y,.ow ds)::ρ)=(y,.sh (.lst ds))::ρ':=by rw[xK h,q]
end
theorem qO{f:D->Rho->Option Fl}{h:Nat->D}{P:Nat->Rho->Prop}{N:Nat}(hs:∀ i ρ,i<N->P i ρ->∃ ρ',P (i+1) ρ'/\f (h i) ρ=some (.nxt ρ')){ρ:Rho}(h0:P 0 ρ):∃ ρ',P N ρ'/\gO f (Ls N h) ρ=some (.nxt ρ'):=by
 have key:∀ (n a:Nat) (ρ:Rho),a+n<=N->P a ρ->∃ ρ',P (a+n) ρ'/\gO f ((List.range' a n).map h) ρ=some (.nxt ρ'):=by
  intro n
  induction n with
  | zero=>intro a ρ _ hp;exact⟨ρ,hp,rfl⟩
  | succ n ih =>
   intro a ρ ha hp;obtain⟨ρ1,h1,h2⟩:=hs a ρ (by omega) hp;obtain⟨ρ2,h3,h4⟩:=ih (a+1) ρ1 (by omega) h1;refine⟨ρ2,by rw[show a+(n+1)=a+1+n by omega];exact h3,?_⟩;rw[List.range'_succ,E3z];simp only[gO,h2];exact h4
 obtain⟨ρ',h1,h2⟩:=key N 0 ρ (by omega) h0;rw[Nat.zero_add] at h1;refine⟨ρ',h1,?_⟩;unfold Ls;rw[List.range_eq_range'];exact h2
end DE
namespace M06
open PySem L2 DE
def top(i:Nat):Stmt:=PySem.Challenge.pw_minortables_k06_put_together_refused.main.body.getD i (.Pass ⟨0,0,0,0⟩)
def bH(t:Stmt):Fd:=⟨(bL t).args.map (·.arg),(bL t).args.map (·.arg)++(((aB t).names.filter fun p=>(p.2==.local||p.2==.cell) && !((bL t).args.map (·.arg)).contains p.1).map (·.1)),aB t,aQ t⟩
def cs:List (Str×D):=[("MOST_LINES",.int 4)]
noncomputable def bl:List (Str×String):=[("len","len"),("all","all"),("sum","sum"),("tuple","tuple"),("list","list"),("int","int"),("bool","bool"),("isinstance","isinstance"),("range","range"),("zip","zip"),("enumerate","enumerate"),("ValueError","ValueError")]
def df:List (Str×Fd):=[(("is_whole":Str),bH (top 12)),(("is_whole_within":Str),bH (top 13)),(("is_short_tuple":Str),bH (top 14)),(("has_lines":Str),bH (top 15)),(("numbers_of":Str),bH (top 16)),(("has_table_form":Str),bH (top 17)),(("is_square":Str),bH (top 18)),(("is_place":Str),bH (top 19)),(("need_table":Str),bH (top 20)),(("need_square":Str),bH (top 21)),(("need_same_size":Str),bH (top 22)),(("need_place":Str),bH (top 23)),(("need_size":Str),bH (top 24)),(("column_of":Str),bH (top 26)),(("columns_of":Str),bH (top 27)),(("turned":Str),bH (top 28)),(("row_by_column":Str),bH (top 29)),(("row_by_columns":Str),bH (top 30)),(("times":Str),bH (top 31)),(("row_plus":Str),bH (top 32)),(("plain_row":Str),bH (top 33)),(("plain":Str),bH (top 34)),(("line_sums":Str),bH (top 36)),(("sums":Str),bH (top 37)),(("slant_sum":Str),bH (top 38)),(("signs_in":Str),bH (top 39)),(("is_even":Str),bH (top 40)),(("unlike_places":Str),bH (top 41)),(("power":Str),bH (top 42)),(("go_together":Str),bH (top 43)),(("set_below":Str),bH (top 45)),(("set_beside":Str),bH (top 46)),(("set_aslant":Str),bH (top 47)),(("need_two_rows":Str),bH (top 48)),(("rows_exchanged":Str),bH (top 49)),(("row_added":Str),bH (top 50)),(("_law_cell":Str),bH (top 52)),(("_law_pick":Str),bH (top 53)),(("_law_class":Str),bH (top 55)),(("_law_told":Str),bH (top 56)),(("law":Str),bH (top 57))]
noncomputable def xs:List Str:=["NoTable","NoFit","NoPlace","NoStep","NoSteps","NoText","NoName","NoBack"]
def T:Pg:=⟨cs,bl,df,xs,"MinorError"⟩
def BnO(nm:Str)(t:Stmt):Prop:=∀ (kV doc pm:Value) (an:Option Addr) (cdv ct:Value) (us:List Value),us.length=(bH t).ps.length->bindArgs (PySem.W.fnOf nm nm (bL t) (aQ t) (aB t) .none kV doc pm an cdv ct) ⟨us,[]⟩=pure ((bH t).ps.zip us)
def fsB(fd:Fd):Bool:=decide (fd.sc.kind=.function) && !fd.sc.isCoroutine && !fd.sc.isGenerator&&decide fd.N.Nodup&&decide (fd.N.take fd.ps.length=fd.ps)&&fd.ps.all (fun x=>decide (fd.sc.names.lookup x=some .local)||decide (fd.sc.names.lookup x=some .cell))&&fd.sc.names.all fun y=>decide (y.2≠.free)
theorem xJ{fd:Fd}(h:fsB fd=true):FnScope fd.N fd.ps fd.sc:=by
 unfold fsB at h;simp only[G2z,Y1z,X1z,List.all_eq_true,V2z] at h;obtain⟨⟨⟨⟨⟨⟨h1,h2⟩,h3⟩,h4⟩,h5⟩,h6⟩,h7⟩:=h;exact⟨h1,h2,h3,h4,h5,h6,h7⟩
theorem aM{K:Zf}{h:Heap}{mg:Str->Option Value}{x nm:Str}{t:Stmt}(X:K.In h)(G:h.Ns mainGlobals mg)(f:Addr)(dc pm cd:Value)(hb:BnO nm t)(a:PySem.W.nsIn K mainGlobals x=some (some (.ref f)))
  (l:K.lookup f=some ⟨.type "function",none,.func (PySem.W.fnOf nm nm (bL t) (aQ t) (aB t) .none .none dc pm none cd .none),#[]⟩) (c:(PySem.W.codeIn K cd nm&&PySem.W.keepIn K (.ref f)&&fsB (bH t) && !(x==("__debug__":Str)))=true):FunAt K mg x (bH t):=by
 simp only[G2z,X1z] at c;obtain⟨⟨⟨c,k⟩,hs⟩,hd⟩:=c;exact⟨⟨nm,t,f,_,G3z X G a,qN l c k,(qN l c k).binds hb,rfl,rfl⟩,xJ hs,hd⟩
theorem len1{us:List Value}(h:us.length=1):∃ a,us=[a]:=List.length_eq_one_iff.mp h
theorem len2{us:List Value}(h:us.length=2):∃ a b,us=[a,b]:=by cases us with | nil=>cases h | cons a r=>obtain⟨b,z⟩:=len1 (us:=r) (Nat.succ.inj h);exact⟨a,b,congrArg (List.cons a) z⟩
theorem zY{us:List Value}(h:us.length=3):∃ a b c,us=[a,b,c]:=by cases us with | nil=>cases h | cons a r=>obtain⟨b,c,z⟩:=len2 (us:=r) (Nat.succ.inj h);exact⟨a,b,c,congrArg (List.cons a) z⟩
theorem Ln{us:List Value}(h:us.length=4):∃ a b c d,us=[a,b,c,d]:=by cases us with | nil=>cases h | cons a r=>obtain⟨b,c,d,z⟩:=zY (us:=r) (Nat.succ.inj h);exact⟨a,b,c,d,congrArg (List.cons a) z⟩
theorem b12:BnO "is_whole" (top 12):=fun _ _ _ _ _ _ _ h=>by obtain⟨_,rfl⟩:=len1 h;rfl
theorem b13:BnO "is_whole_within" (top 13):=fun _ _ _ _ _ _ _ h=>by obtain⟨_,_,_,rfl⟩:=zY h;rfl
theorem b14:BnO "is_short_tuple" (top 14):=fun _ _ _ _ _ _ _ h=>by obtain⟨_,rfl⟩:=len1 h;rfl
theorem b15:BnO "has_lines" (top 15):=fun _ _ _ _ _ _ _ h=>by obtain⟨_,rfl⟩:=len1 h;rfl
theorem b16:BnO "numbers_of" (top 16):=fun _ _ _ _ _ _ _ h=>by obtain⟨_,rfl⟩:=len1 h;rfl
theorem b17:BnO "has_table_form" (top 17):=fun _ _ _ _ _ _ _ h=>by obtain⟨_,rfl⟩:=len1 h;rfl
theorem b18:BnO "is_square" (top 18):=fun _ _ _ _ _ _ _ h=>by obtain⟨_,rfl⟩:=len1 h;rfl
theorem b19:BnO "is_place" (top 19):=fun _ _ _ _ _ _ _ h=>by obtain⟨_,_,rfl⟩:=len2 h;rfl
theorem b20:BnO "need_table" (top 20):=fun _ _ _ _ _ _ _ h=>by obtain⟨_,rfl⟩:=len1 h;rfl
theorem b21:BnO "need_square" (top 21):=fun _ _ _ _ _ _ _ h=>by obtain⟨_,rfl⟩:=len1 h;rfl
theorem b22:BnO "need_same_size" (top 22):=fun _ _ _ _ _ _ _ h=>by obtain⟨_,_,rfl⟩:=len2 h;rfl
theorem b23:BnO "need_place" (top 23):=fun _ _ _ _ _ _ _ h=>by obtain⟨_,_,rfl⟩:=len2 h;rfl
theorem b24:BnO "need_size" (top 24):=fun _ _ _ _ _ _ _ h=>by obtain⟨_,_,rfl⟩:=len2 h;rfl
theorem b26:BnO "column_of" (top 26):=fun _ _ _ _ _ _ _ h=>by obtain⟨_,_,rfl⟩:=len2 h;rfl
theorem b27:BnO "columns_of" (top 27):=fun _ _ _ _ _ _ _ h=>by obtain⟨_,rfl⟩:=len1 h;rfl
theorem b28:BnO "turned" (top 28):=fun _ _ _ _ _ _ _ h=>by obtain⟨_,rfl⟩:=len1 h;rfl
theorem b29:BnO "row_by_column" (top 29):=fun _ _ _ _ _ _ _ h=>by obtain⟨_,_,rfl⟩:=len2 h;rfl
theorem b30:BnO "row_by_columns" (top 30):=fun _ _ _ _ _ _ _ h=>by obtain⟨_,_,rfl⟩:=len2 h;rfl
theorem b31:BnO "times" (top 31):=fun _ _ _ _ _ _ _ h=>by obtain⟨_,_,rfl⟩:=len2 h;rfl
theorem b32:BnO "row_plus" (top 32):=fun _ _ _ _ _ _ _ h=>by obtain⟨_,_,rfl⟩:=len2 h;rfl
theorem b33:BnO "plain_row" (top 33):=fun _ _ _ _ _ _ _ h=>by obtain⟨_,_,rfl⟩:=len2 h;rfl
theorem b34:BnO "plain" (top 34):=fun _ _ _ _ _ _ _ h=>by obtain⟨_,rfl⟩:=len1 h;rfl
theorem b36:BnO "line_sums" (top 36):=fun _ _ _ _ _ _ _ h=>by obtain⟨_,rfl⟩:=len1 h;rfl
theorem b37:BnO "sums" (top 37):=fun _ _ _ _ _ _ _ h=>by obtain⟨_,rfl⟩:=len1 h;rfl
theorem b38:BnO "slant_sum" (top 38):=fun _ _ _ _ _ _ _ h=>by obtain⟨_,rfl⟩:=len1 h;rfl
theorem b39:BnO "signs_in" (top 39):=fun _ _ _ _ _ _ _ h=>by obtain⟨_,rfl⟩:=len1 h;rfl
theorem b40:BnO "is_even" (top 40):=fun _ _ _ _ _ _ _ h=>by obtain⟨_,rfl⟩:=len1 h;rfl
theorem b41:BnO "unlike_places" (top 41):=fun _ _ _ _ _ _ _ h=>by obtain⟨_,_,rfl⟩:=len2 h;rfl
theorem b42:BnO "power" (top 42):=fun _ _ _ _ _ _ _ h=>by obtain⟨_,_,rfl⟩:=len2 h;rfl
theorem b43:BnO "go_together" (top 43):=fun _ _ _ _ _ _ _ h=>by obtain⟨_,_,rfl⟩:=len2 h;rfl
theorem b45:BnO "set_below" (top 45):=fun _ _ _ _ _ _ _ h=>by obtain⟨_,_,rfl⟩:=len2 h;rfl
theorem b46:BnO "set_beside" (top 46):=fun _ _ _ _ _ _ _ h=>by obtain⟨_,_,rfl⟩:=len2 h;rfl
theorem b47:BnO "set_aslant" (top 47):=fun _ _ _ _ _ _ _ h=>by obtain⟨_,_,rfl⟩:=len2 h;rfl
theorem b48:BnO "need_two_rows" (top 48):=fun _ _ _ _ _ _ _ h=>by obtain⟨_,_,_,rfl⟩:=zY h;rfl
theorem b49:BnO "rows_exchanged" (top 49):=fun _ _ _ _ _ _ _ h=>by obtain⟨_,_,_,rfl⟩:=zY h;rfl
theorem b50:BnO "row_added" (top 50):=fun _ _ _ _ _ _ _ h=>by obtain⟨_,_,_,_,rfl⟩:=Ln h;rfl
theorem b52:BnO "_law_cell" (top 52):=fun _ _ _ _ _ _ _ h=>by obtain⟨_,_,rfl⟩:=len2 h;rfl
theorem b53:BnO "_law_pick" (top 53):=fun _ _ _ _ _ _ _ h=>by obtain⟨_,_,_,rfl⟩:=zY h;rfl
theorem b55:BnO "_law_class" (top 55):=fun _ _ _ _ _ _ _ h=>by obtain⟨_,rfl⟩:=len1 h;rfl
theorem b56:BnO "_law_told" (top 56):=fun _ _ _ _ _ _ _ h=>by obtain⟨_,rfl⟩:=len1 h;rfl
theorem b57:BnO "law" (top 57):=fun _ _ _ _ _ _ _ h=>by obtain⟨_,rfl⟩:=len1 h;rfl
theorem in_of{α:Type}{Q:Str->α->Prop}:∀ {l:List (Str×α)},(∀ p∈l,Q p.1 p.2)->∀ f fd,l.lookup f=some fd->Q f fd
 | (y,e)::r,hp,f,fd,h=>by
  rw[D2z] at h
  cases hb:f==y with
  | true =>
   rw[hb] at h
   have e1:f=y:=by simpa using hb
   cases h;subst e1;exact hp _ F1z
  | false =>
   rw[hb] at h;exact in_of (fun p hm=>hp p (S0z _ hm)) f fd h
theorem aC{α:Type}{Q:α->Prop}{a:α}{l:List α}(h:Q a)(t:∀ p∈l,Q p):∀ p∈a::l,Q p:=List.forall_mem_cons.mpr ⟨h,t⟩
theorem aN{α:Type}{Q:α->Prop}:∀ p∈([]:List α),Q p:=List.forall_mem_nil _
theorem cA{K:Zf}{h:Heap}{mg:Str->Option Value}{x:Str}{i:Int}(X:K.In h)(G:h.Ns mainGlobals mg)(tk:Tok)(e:PySem.W.nsIn K mainGlobals x=some (some (.int i tk))):∃ v u,(∀ H,Rep K H (D.int i) v)/\mg x=some u/\RelV v u:=⟨.int i,_,fun _=>by simp[Rep],G3z X G e,⟨_,rfl⟩⟩
theorem bA{K:Zf}{h:Heap}{mg:Str->Option Value}{x:Str}{b:String}(X:K.In h)(G:h.Ns mainGlobals mg)(e:PySem.W.nsIn K mainGlobals x=some none)(q:x=Str.ofString b):mg x=none/\x=Str.ofString b:=⟨PySem.W.mg_none_of X G e,q⟩
theorem HF:T.defs.lookup ("law":Str)=some (bH (top 57)):=by rfl'
theorem fin{l:PySem.W.OpenLaw}{w:World}{K:Zf}{h:Heap}{mg:Str->Option Value}{fa:Addr}(hlaw:∀ ns:List Int,ns.length<=63->kh T 60 40 "law" [.lst (ns.map D.int)]=some (.bl true))(TX:Text w K mg T)(X:K.In h)(G:h.Ns mainGlobals mg)(hfa:mg "law"=some (.ref fa))(f:Addr)(dc pm cd:Value)(a:PySem.W.nsIn K mainGlobals "law"=some (some (.ref f)))
  (lk:K.lookup f=some ⟨.type "function",none,.func (PySem.W.fnOf "law" "law" (bL (top 57)) (aQ (top 57)) (aB (top 57)) .none .none dc pm none cd .none),#[]⟩) (c:PySem.W.codeIn K cd "law"=true) (kp:PySem.W.keepIn K (.ref f)=true) :
  ∃ fd:FuncData,(∀ (s:Shared) (v:Value),BindsTo s fd ⟨[v],[]⟩ [("_law_script",v)])/\∀ base:Heap,K.In base->base.Ns mainGlobals mg->FnOk l.prog w K mg base CX0 40 fa fd ["_law_script"] (mq K):=by
 have e:=hfa.symm.trans (G3z X G a);cases e;refine⟨_,fun s v=>.of_eq (b57 .none dc pm none cd .none [v] rfl),fun base _ _=>?_⟩;exact zZ (fd:=bH (top 57)) (t:=top 57) (f:="law") TX HF (qN lk c kp) rfl rfl (xJ (by decide +kernel)) rfl hlaw
theorem walk{l:PySem.W.OpenLaw}{q:Program}{loose:List Str}{XP:(Str->Option Value)->Heap->Prop}{YP:World->Heap->Prop}{d:DefRec}{K:Params->Zf}(hn:l.most=some 63)(hdf:d.params.defaults=[])
  (hY:∀ (w:World) (h:Heap),YP w h->(K w.params).In h)
  (F : ∀ (w : World) (mg : Str -> Option Value) (fa : Addr) (h : Heap), (K w.params).In h -> h.Ns mainGlobals mg -> mg d.name = some (.ref fa) ->
   ∃ fd:FuncData,(∀ (s:Shared) (u:Value),BindsTo s fd ⟨[u],[]⟩ [("_law_script",u)])/\∀ base:Heap,(K w.params).In base->base.Ns mainGlobals mg->FnOk l.prog w (K w.params) mg base CX0 40 fa fd ["_law_script"] (mq (K w.params))) :
  PySem.W.WalkO q loose XP YP l.row.toRowW d [] (fun f vs=>PySem.call f vs) :=
 L2.vC (n:=63) (k:=40) (x:="_law_script") (CX:=fun _=>CX0) (sp:=fun w=>mq (K w.params)) hn (by decide) hdf ⟨rfl,by decide,by decide⟩ hY F (fun _ _ a ns hl _ hS=>⟨a,ns,rfl,hS,hl,fun _=>rfl⟩) fun _ _ _ _ _ z=>z
end M06
local macro_rules | `(tactic| walk_at "xs") => `(tactic| first | exact DE.bLen | exact DE.bLenL | exact DE.bSum | rfl | assumption | omega)
local macro_rules | `(tactic| walk_at "xm") => `(tactic| first | exact DE.Bd | (refine' DE.gb ?hA ?hB; (case hA => walk_at "xv"); (case hB => walk_at "xm")))
local macro_rules | `(tactic| walk_at "xi") => `(tactic| first
 | (refine' DE.wSqT ?hA ?hB; (case hA => rfl); (case hB => walk_at "xv"))
 | (refine' DE.wSq ?hA ?hB ?hC; (case hA => rfl); (case hB => walk_at "xv"); (case hC => rfl))
 | (refine' DE.Iv ?hA ?hB ?hC; (case hA => rfl); (case hB => walk_at "xv"); (case hC => omega))
 | (refine' DE.wR2 ?hA ?hB ?hC ?hD; (case hA => rfl); (case hB => walk_at "xv"); (case hC => walk_at "xv"); (case hD => walk_at "xs"))
 | (refine' DE.wZpL ?hA ?hB ?hC; (case hA => rfl); (case hB => walk_at "xv"); (case hC => walk_at "xv"))
 | (refine' DE.wEnL ?hA ?hB; (case hA => rfl); (case hB => walk_at "xv")))
local macro_rules | `(tactic| walk_at "xl") => `(tactic| (refine' DE.xComp ?hA ?hB ?hC (DE.compGo_Ls ?hD); (case hA => rfl); (case hB => walk_at "xi"); (case hC => (exact DE.szlLs (by omega))); (case hD => (intro i hi; refine' DE.cStep ?hE ?hF; (case hE => rfl); (case hF => walk_at "xv")))))
local macro_rules | `(tactic| walk_at "xv") => `(tactic| first
 | exact DE.xName rfl
 | exact DE.cQ rfl
 | (refine' DE.iQ ?hA ?hB ?hC; (case hA => walk_at "xv"); (case hB => walk_at "xv"); (case hC => walk_at "xs"))
 | (refine' DE.yx ?hA ?hB ?hC; (case hA => walk_at "xv"); (case hB => walk_at "xv"); (case hC => walk_at "xs"))
 | (refine' DE.xIx0 ?hA ?hB ?hC ?hD ?hE; (case hA => walk_at "xv"); (case hB => walk_at "xv"); (case hC => omega); (case hD => rfl); (case hE => rfl))
 | (refine' DE.xIxL ?hA ?hB ?hC ?hD ?hE; (case hA => walk_at "xv"); (case hB => walk_at "xv"); (case hC => omega); (case hD => rfl); (case hE => rfl))
 | (refine' DE.xIxLl ?hA ?hB ?hC ?hD ?hE; (case hA => walk_at "xv"); (case hB => walk_at "xv"); (case hC => omega); (case hD => rfl); (case hE => rfl))
 | (refine' DE.xIsi ?hA ?hB ?hC ?hD ?hE ?hF ?hG; (case hA => rfl); (case hB => rfl); (case hC => rfl); (case hD => walk_at "xv"); (case hE => rfl); (case hF => rfl); (case hG => rfl))
 | (refine' DE.yL ?hA ?hB ?hC ?hD ?hE; (case hA => rfl); (case hB => rfl); (case hC => rfl); (case hD => walk_at "xm"); (case hE => walk_at "xs"))
 | (refine' DE.rY ?hA ?hB ?hC; (case hA => rfl); (case hB => walk_at "xm"); (case hC => walk_at "xc"))
 | (refine' DE.xLr1n ?hA ?hB ?hC ?hD; (case hA => rfl); (case hB => rfl); (case hC => walk_at "xv"); (case hD => omega))
 | (refine' DE.xTup ?hA ?hB; (case hA => walk_at "xm"); (case hB => rfl))
 | (refine' DE.Iu ?hA ?hB; (case hA => walk_at "xm"); (case hB => rfl))
 | walk_at "xl"
 | (refine' DE.Ir ?hA; (case hA => walk_at "xv"))
 | (refine' DE.xNot ?hA; (case hA => walk_at "xv")))
local macro_rules|`(tactic|nofun)=>`(tactic|walk_at "xv")
namespace M06
open PySem DE
noncomputable def oK(ns:List Int)(k:Nat):Int:=if k<ns.length then ns.getD k 0 else if ns=[] then 0 else ns.getD (k%ns.length) 0*31+k
def fO(ns:List Int)(k:Nat):Int:=(oK ns k+6151*((k:Int)+1))*40692%2147483399
def pickN(ns:List Int)(k many:Nat):Nat:=((fO ns k*fO ns k+fO ns k / 31)%2147483629%(many:Int)).toNat
noncomputable abbrev scr(ns:List Int):D:=.lst (ns.map D.int)
theorem iU{ns:List Int}:blt "len" [scr ns]=some (.int (ns.length:Int)):=by
 show some (D.int ((ns.map D.int).length:Int))=_;rw[P2z]
theorem uO{ns:List Int}{k:Nat}(h:k<ns.length):atD (ns.map D.int) (k:Int)=some (.int (ns.getD k 0)):=by
 refine lW ?_;rw[List.getElem?_map,List.getElem?_eq_getElem h,List.getD_eq_getElem?_getD,List.getElem?_eq_getElem h];rfl
theorem vU{ns:List Int}:dep (scr ns)<=50:=by
 simp only[dep]
 have:=rB (b:=0) (l:=ns.map D.int) fun d hd=>by
  obtain⟨i,_,rfl⟩:=List.mem_map.mp hd;simp[dep]
 omega
theorem cell(k:Nat)(ns:List Int)(kk:Nat):kh T 60 (k+1) "_law_cell" [scr ns,.int kk]=some (.int (oK ns kk)):=by
 unfold oK
 by_cases h:kk<ns.length
 ·rw[E4z h]
  refine Bc (fd:=bH (top 52)) rfl rfl (Km (fl1:=.ret (.int (ns.getD kk 0))) (yx (by nofun) (yL rfl rfl rfl (by walk_at "xm") iU) (oLt (by omega))) (Bo ?_) rfl);exact xIx (by nofun) (by nofun) rfl (uO h)
 ·rw[F4z h]
  by_cases e:ns=[]
  ·subst e
   rw[E4z rfl];refine Bc (fd:=bH (top 52)) rfl rfl (Ie (yx (by nofun) (yL rfl rfl rfl (by walk_at "xm") (iU (ns:=[]))) (IV (by simp))) (Km (fl1:=.ret (.int 0)) (yx (by nofun) (by nofun) rfl) (Bo (by nofun)) rfl))
  ·rw[F4z e]
   have hl:0<ns.length:=List.length_pos_iff.mpr e;refine Bc (fd:=bH (top 52)) rfl rfl (Ie (yx (by nofun) (yL rfl rfl rfl (by walk_at "xm") iU) (IV (by omega))) (Ie (yx (y:=.lst []) (by nofun) (by nofun) ?_) (Bo ?_)))
   ·rw[oEq vU (by simp[dep,deps])]
    cases ns with
    | nil=>exact absurd rfl e
    | cons a r=>rfl
   ·refine iQ (iQ (x:=.int (ns.getD (kk%ns.length) 0)) (xIx (i:=((kk%ns.length:Nat):Int)) (by nofun) ?_ rfl (uO (X3z _ hl))) (by nofun) (Ay (.inr (by decide)))) (by nofun) rfl
    refine iQ (by nofun) (yL rfl rfl rfl (by walk_at "xm") iU) ?_;rw[yH (by omega)];rfl
theorem pick(k:Nat)(ns:List Int)(kk:Nat){many:Nat}(h:0<many):kh T 60 (k+2) "_law_pick" [scr ns,.int kk,.int many]=some (.int ((pickN ns kk many:Nat):Int)):=by
 have d0:=Int.emod_nonneg ((oK ns kk+6151*((kk:Int)+1))*40692) (show(2147483399:Int)≠0 by decide);have d1:=Int.emod_lt_of_pos ((oK ns kk+6151*((kk:Int)+1))*40692) (show(0:Int)<2147483399 by decide)
 have e:((pickN ns kk many:Nat):Int)=(fO ns kk*fO ns kk+fO ns kk / 31)%2147483629%(many:Int):=by
  unfold pickN;exact Int.toNat_of_nonneg (Int.emod_nonneg _ (by omega))
 rw[e];refine Bc (fd:=bH (top 53)) rfl rfl (Kl rfl (d:=.int (fO ns kk)) ?_ (Bo ?_))
 ·refine iQ (iQ (iQ (x:=.int (oK ns kk)) (y:=.int (6151*((kk:Int)+1))) ?_ ?_ rfl) (by nofun) (Ay (.inr (by decide)))) (by nofun) (yH (by decide))
  ·refine' rY ?L06a_1a ?L06a_1b ?L06a_1c;(case L06a_1a=>rfl);(case L06a_1b=>walk_at "xm");(case L06a_1c=>exact cell _ ns kk)
  ·exact iQ (by nofun) (iQ (by nofun) (by nofun) rfl) (Ay (.inl (by decide)))
 ·refine iQ (iQ (iQ (iQ (by nofun) (by nofun) (Ay (.inl ?_))) (iQ (by nofun) (by nofun) (Mf (by decide) (by decide))) rfl) (by nofun) (yH (by decide))) (by nofun) (yH (by omega))
  unfold small;unfold fO;rw[X2z (by omega),X2z (by omega)];rfl
end M06
namespace M06
open PySem DE L2
abbrev cx0:Cxt:=T.cx (bG T 60 36)
abbrev LP:LamP:=⟨"_law_told",Kq T 60 (bH (top 55))⟩
abbrev lSc:Scope:=(bH (top 57)).sc
abbrev bdy(i:Nat):List Stmt:=(bH (top 57)).body.drop i
def xM:Stmt->List Stmt
 | .For _ _ b _ _=>b
 | _=>[]
abbrev fB(i:Nat):List Stmt:=(xM ((bH (top 57)).body.getD 2 (.Pass ⟨0,0,0,0⟩))).drop i
abbrev run(n:Nat)(l:List Stmt)(ρ:Rho):Option Fl:=fD (fun ρ s=>stL cx0 LP 60 n lSc ρ s) l ρ
def d7:List D:=[.non,.tup [],.tup [.tup []],.tup [.tup [.int 1,.int 2],.tup [.int 3]],.lst [.tup [.int 1]],.tup (List.replicate 5 (.tup [.int 1])),.tup [.tup [.bl true]],.tup [.tup [.str "1"]],.int 5,.tup [.tup [.int 1,.int 2,.int 3,.int 4,.int 5]]]
def Ib:D:=.tup [.tup [.int 1,.int 2],.tup [.int 3,.int 4]]
def Bq:D:=.tup [.tup [.int 1,.int 2,.int 3]]
def Iz(ns:List Int)(od tl bd gd k th wi:Sl):Rho:=[("_law_script",.sh (scr ns)),("_law_odd",od),("_law_told_here",tl),("_law_bad",bd),("_law_good",gd),("_law_k",k),("_law_thing",th),("_law_wide",wi)]
abbrev SL(ns:List Int)(od tl bd k th:Sl):Rho:=Iz ns od tl bd (.sh Ib) k th (.sh Bq)
abbrev rep(n:Nat)(x:Str):Sl:=.ow (List.replicate n (.str x))
set_option maxHeartbeats 4000000 in
theorem K4(ns:List Int)(tl:Sl)(b:D)(k:Int):∀ q:Nat,q<10->run 59 ((fB 2).take 13) (SL ns (.sh (.lst d7)) tl (.sh b) (.sh (.int k)) (.sh (d7.getD q .non)))=some (.nxt (SL ns (.sh (.lst d7)) (rep 12 "no table") (.sh b) (.sh (.int k)) (.sh (d7.getD q .non))))
 | 0,_=>by rfl'
 | 1,_=>by rfl'
 | 2,_=>by rfl'
 | 3,_=>by rfl'
 | 4,_=>by rfl'
 | 5,_=>by rfl'
 | 6,_=>by rfl'
 | 7,_=>by rfl'
 | 8,_=>by rfl'
 | 9,_=>by rfl'
def uD:List D:=[.int 2,.int (-1),.non,.bl true]
set_option maxHeartbeats 4000000 in
theorem K3(ns:List Int)(tl:Sl)(th:D):∀ (i q:Nat),i<4->q<4->run 59 (fB 15) (SL ns (.sh (.lst d7)) tl (.sh (uD.getD q .non)) (.sh (.int i)) (.sh th))=some (.nxt (SL ns (.sh (.lst d7)) (rep 4 "no place") (.sh (uD.getD q .non)) (.sh (.int i)) (.sh th)))
 | 0,0,_,_=>by rfl'
 | 0,1,_,_=>by rfl'
 | 0,2,_,_=>by rfl'
 | 0,3,_,_=>by rfl'
 | 1,0,_,_=>by rfl'
 | 1,1,_,_=>by rfl'
 | 1,2,_,_=>by rfl'
 | 1,3,_,_=>by rfl'
 | 2,0,_,_=>by rfl'
 | 2,1,_,_=>by rfl'
 | 2,2,_,_=>by rfl'
 | 2,3,_,_=>by rfl'
 | 3,0,_,_=>by rfl'
 | 3,1,_,_=>by rfl'
 | 3,2,_,_=>by rfl'
 | 3,3,_,_=>by rfl'
set_option maxHeartbeats 4000000 in
theorem K1(ns:List Int)(tl:Sl)(b th:D)(k:D):run 60 (bdy 3) (SL ns (.sh (.lst d7)) tl (.sh b) (.sh k) (.sh th))=some (.ret (.bl true)):=by rfl'
theorem K5(ns:List Int):run 60 ((bdy 0).take 2) (Iz ns .no .no .no .no .no .no .no)=some (.nxt (SL ns (.ow d7) .no .no .no .no)):=by rfl'
theorem jT{f:Rho->Stmt->Option Fl}{ρ ρ1:Rho}{fl:Option Fl}:∀ {l:List Stmt} {r:List Stmt},fD f l ρ=some (.nxt ρ1)->fD f r ρ1=fl->fD f (l++r) ρ=fl:=by
 intro l
 induction l generalizing ρ with
 | nil=>intro r h1 h2;cases h1;exact h2
 | cons s l ih =>
  intro r h1 h2;simp only[fD,List.cons_append] at h1 ⊢
  cases hf:f ρ s with
  | none=>rw[hf] at h1;cases h1
  | some fl1 =>
   rw[hf] at h1
   cases fl1 with
   | ret d=>cases h1
   | nxt ρ2=>exact ih (ρ:=ρ2) h1 h2
abbrev stm(i:Nat):Stmt:=(fB i).headD (.Pass ⟨0,0,0,0⟩)
def Od(s:Sl):Prop:=s=.ow d7\/s=.sh (.lst d7)
def Tl(s:Sl):Prop:=s=.no\/∃ l,s=.ow l
section
variable {ns:List Int} {od tl bd th:Sl} {i:Nat}
theorem b0(ho:Od od)(ht:Tl tl)(h1:nOw bd=true)(h2:nOw th=true)(hi:i<4):blk (cxN T 60 36) 60 59 lSc [stm 0] (SL ns od tl bd (.sh (.int i)) th)=some (.nxt (SL ns (.sh (.lst d7)) tl bd (.sh (.int i)) (.sh (d7.getD ((pickN ns 0 10+3*i)%10) .non)))):=by
 have pk:=pick 34 ns 0 (many:=10) (by omega);generalize pickN ns 0 10=p at pk;have hq:(p+3*i)%10<10:=X3z _ (by omega);refine Ah (ρ':=SL ns (.sh (.lst d7)) tl bd (.sh (.int i)) th) (d:=d7.getD ((p+3*i)%10) .non) ?_ rfl rfl (xIx (x:=.lst d7) (i:=(((p+3*i)%10:Nat):Int)) (xName rfl) (iQ (x:=.int ((p:Int)+3*(i:Int))) (y:=.int 10) (iQ (x:=.int p) (y:=.int (3*(i:Int))) (rY rfl (gb (x:=scr ns) (xName rfl) (gb (cQ rfl) (gb (cQ rfl) Bd))) pk) (iQ (x:=.int 3) (y:=.int i) (cQ rfl) (xName rfl) (Ay (.inl rfl))) rfl) (cQ rfl) ?_) rfl ?_) xG
 ·rcases ho with rfl | rfl<;>rcases ht with rfl | ⟨l,rfl⟩
  ·exact cP rfl (Ko rfl (cP rfl (cP h1 (cP rfl (cP rfl (cP h2 (cP rfl yG)))))))
  ·exact cP rfl (Ko rfl (Ih rfl (cP h1 (cP rfl (cP rfl (cP h2 (cP rfl yG)))))))
  ·exact cP rfl (cP rfl (cP rfl (cP h1 (cP rfl (cP rfl (cP h2 (cP rfl yG)))))))
  ·exact cP rfl (cP rfl (Ih rfl (cP h1 (cP rfl (cP rfl (cP h2 (cP rfl yG)))))))
 ·rw[yH (by omega)]
  exact congrArg (fun z=>some (D.int z)) (by omega)
 ·show atD d7 _=_
  refine lW ?_;have:(p+3*i)%10<d7.length:=hq;rw[List.getElem?_eq_getElem this];simp[List.getD,this]
theorem b1(ht:Tl tl)(h1:nOw bd=true){t:D}(hi:i<4):blk (cxN T 60 36) 60 59 lSc [stm 1] (SL ns (.sh (.lst d7)) tl bd (.sh (.int i)) (.sh t))=some (.nxt (SL ns (.sh (.lst d7)) tl (.sh (uD.getD ((pickN ns 1 4+i)%4) .non)) (.sh (.int i)) (.sh t))):=by
 have pk:=pick 34 ns 1 (many:=4) (by omega);generalize pickN ns 1 4=p at pk;have hq:(p+i)%4<4:=X3z _ (by omega);refine Ah (ρ':=SL ns (.sh (.lst d7)) tl bd (.sh (.int i)) (.sh t)) (d:=uD.getD ((p+i)%4) .non) ?_ rfl rfl (xIx (x:=.lst uD) (i:=(((p+i)%4:Nat):Int)) (Iu (gb (cQ rfl) (gb (Ir (cQ rfl)) (gb (cQ rfl) (gb (cQ rfl) Bd)))) rfl) (iQ (x:=.int ((p:Int)+(i:Int))) (y:=.int 4) (iQ (x:=.int p) (y:=.int i) (rY rfl (gb (x:=scr ns) (xName rfl) (gb (cQ rfl) (gb (cQ rfl) Bd))) pk) (xName rfl) rfl) (cQ rfl) ?_) rfl ?_) xG
 ·rcases ht with rfl | ⟨l,rfl⟩
  ·exact cP rfl (cP rfl (cP rfl (cP h1 (cP rfl (cP rfl (cP rfl (cP rfl yG)))))))
  ·exact cP rfl (cP rfl (Ih rfl (cP h1 (cP rfl (cP rfl (cP rfl (cP rfl yG)))))))
 ·rw[yH (by omega)]
  exact congrArg (fun z=>some (D.int z)) (by omega)
 ·show atD uD _=_
  refine lW ?_;have:(p+i)%4<uD.length:=hq;rw[List.getElem?_eq_getElem this];simp[List.getD,this]
theorem round(ho:Od od)(ht:Tl tl)(h1:nOw bd=true)(h2:nOw th=true)(hi:i<4):∃ b t,run 59 (fB 0) (SL ns od tl bd (.sh (.int i)) th)=some (.nxt (SL ns (.sh (.lst d7)) (rep 4 "no place") (.sh b) (.sh (.int i)) (.sh t))):=by
 have e0:=b0 (ns:=ns) ho ht h1 h2 hi;have e1:=b1 (ns:=ns) (t:=d7.getD ((pickN ns 0 10+3*i)%10) .non) ht h1 hi;rw[<- Ar] at e0 e1;have hq:(pickN ns 0 10+3*i)%10<10:=X3z _ (by omega);have hq2:(pickN ns 1 4+i)%4<4:=X3z _ (by omega);generalize (pickN ns 0 10+3*i)%10=q at e0 e1 hq;generalize (pickN ns 1 4+i)%4=q2 at e1 hq2;have eA:=K4 ns tl (uD.getD q2 .non) (i:Int) q hq;have eB:=K3 ns (rep 12 "no table") (d7.getD q .non) i q2 hi hq2;refine⟨_,_,jT (l:=[stm 0]) (r:=fB 1) (ρ1:=SL ns (.sh (.lst d7)) tl bd (.sh (.int i)) (.sh (d7.getD q .non))) ?_ (jT (l:=[stm 1]) (r:=fB 2) (ρ1:=SL ns (.sh (.lst d7)) tl (.sh (uD.getD q2 .non)) (.sh (.int i)) (.sh (d7.getD q .non))) ?_ (jT (l:=(fB 2).take 13) (r:=fB 15) eA eB))⟩
 ·exact e0
 ·exact e1
end
theorem go1{f:Rho->Stmt->Option Fl}{s:Stmt}{ρ ρ':Rho}(h:f ρ s=some (.nxt ρ')):fD f [s] ρ=some (.nxt ρ'):=by
 simp only[fD,h];rfl
theorem BW{cx:Cxt}{L:LamP}{F n:Nat}{sc:Scope}{ρ:Rho}{tg iter:Expr}{body:List Stmt}{p:Pos}{l:List D}{fl:Option Fl}(hI:evI cx (dW tg) (ev cx F sc (frz F iter ρ)) sc iter=some l)
  (h:gO (fun d ρ=>do let ρ1 <- fL sc tg d ρ;fD (fun ρ s=>stL cx L F n sc ρ s) body ρ1) l (frz F iter ρ)=fl):stL cx L F (n+1) sc ρ (.For tg iter body [] p)=fl:=by
 simp only[stL,hI];exact h
theorem tO(ns:List Int)(_h:ns.length<=63):fD (fun ρ s=>stL (T.cx (bG T 60 36)) LP 60 60 (bH (top 57)).sc ρ s) (bH (top 57)).body (aZ (bH (top 57)) [.lst (ns.map D.int)])=some (.ret (.bl true)):=by
 obtain⟨ρ',⟨od,tl,bd,k,th,q1,q2,q3,q4,q5,rfl⟩,go⟩:=qO (f:=fun d ρ=>do let ρ1 <- fL lSc (.Name "_law_k" ⟨0,0,0,0⟩) d ρ;run 59 (fB 0) ρ1) (h:=fun y=>D.int y) (N:=4) (P:=fun i ρ=>∃ od tl bd k th,Od od/\Tl tl/\nOw bd=true/\nOw th=true/\(i=0\/(od=.sh (.lst d7)/\∃ b' k' t',bd=.sh b'/\k=.sh k'/\th=.sh t'))/\ρ=SL ns od tl bd k th) (fun i ρ hi hP=>by
  obtain⟨od,tl,bd,k,th,q1,q2,q3,q4,q5,rfl⟩:=hP;obtain⟨b,t,r⟩:=round (ns:=ns) q1 q2 q3 q4 hi
  exact⟨_,⟨_,_,_,_,_,.inr rfl,.inr ⟨_,rfl⟩,rfl,rfl,.inr ⟨rfl,_,_,_,rfl,rfl,rfl⟩,rfl⟩,r⟩) (ρ:=SL ns (.ow d7) .no .no .no .no) ⟨_,_,_,_,_,.inl rfl,.inl rfl,rfl,rfl,.inl rfl,rfl⟩
 rcases q5 with q5 | ⟨rfl,b',k',t',rfl,rfl,rfl⟩
 ·cases q5
 refine jT (l:=(bdy 0).take 2) (r:=bdy 2) (K5 ns) (jT (l:=(bdy 2).take 1) (r:=bdy 3) (ρ1:=SL ns (.sh (.lst d7)) tl (.sh b') (.sh k') (.sh t')) ?_ (K1 ns tl b' t' k'));refine go1 (BW (l:=Ls 4 fun y=>D.int y) (Iv (j:=4) rfl (cQ rfl) (by omega)) ?_);exact go
theorem yP:T.defs.lookup ("_law_told":Str)=some (bH (top 56)):=by rfl'
theorem Ij:T.defs.lookup ("_law_class":Str)=some (bH (top 55)):=by rfl'
theorem Bt{P:Program}{w:World}{K:Zf}{mg:Str->Option Value}(TX:Text w K mg T):kJ P w K mg 37 T.exs LP.cv LP.tn :=
 pB (F:=60) (dn:="_law_deed") (n:="e") TX yP Ij rfl (by rfl') (by rfl') (by rfl') (by rfl') (by rfl') (by rfl') (by rfl') (by rfl') (by rfl') (by rfl') (by omega)
theorem finL{l:PySem.W.OpenLaw}{w:World}{K:Zf}{h:Heap}{mg:Str->Option Value}{fa:Addr}(TX:Text w K mg T)(X:K.In h)(G:h.Ns mainGlobals mg)(hfa:mg "law"=some (.ref fa))(f c Pt:Addr)(dc pm:Value)(a:PySem.W.nsIn K mainGlobals "law"=some (some (.ref f)))
  (lk:K.lookup f=some ⟨.type "function",none,.func (PySem.W.fnOf "law" "law" (bL (top 57)) (aQ (top 57)) (aB (top 57)) .none .none dc pm none (.ref c) .none),#[]⟩) (cd:PySem.W.codeIn K (.ref c) "law"=true) :
  ∃ fd:FuncData,(∀ (s:Shared) (v:Value),BindsTo s fd ⟨[v],[]⟩ [("_law_script",v)])/\∀ base:Heap,K.In base->base.Ns mainGlobals mg->PySem.W.CodeHd base c Pt->base.BuiltinsAt mg Pt->FnOk l.prog w K mg base CX0 40 fa fd ["_law_script"] (mz K Pt):=by
 have e:=hfa.symm.trans (G3z X G a);cases e;refine⟨_,fun s v=>.of_eq (b57 .none dc pm none (.ref c) .none [v] rfl),fun base _ _ hC hbm=>?_⟩;exact wW (k:=36) (F:=60) (fd:=bH (top 57)) (t:=top 57) (L:=LP) TX lk cd rfl rfl (xJ (by decide +kernel)) rfl hC hbm (Bt TX) tO
end M06
noncomputable section
namespace HS
open PySem PySem.W
theorem goT{p:Program}{w:World}{m:Nat}{a:Option Value}{n:Nat}{x y:Shared}{u:Thread}{c:Code}{o:Pos}{l:List Frame}(h:Fast.tw15667345088766844465 Fast.tw14364793385576792824 p w m a n x u=some (y,⟨Fast.tw11892475500146522536 Fast.tw14364793385576792824 c,c,o,l⟩)):topGo treeTable p w m a n x u=some (y,⟨denote treeTable c,c,o,l⟩):=by
 rw[Fast.te15667345088766844465,B0z,Fast.te11892475500146522536];exact h
theorem KZ{p:Program}{w:World}{m:Nat}{a:Option Value}{k n:Nat}{x:Shared}{u:Thread}{y:Option (Flow×Shared×Code×Pos)}(h:Fast.tw14374325043358763698 Fast.tw14364793385576792824 p w m a k n x u=y):segRun treeTable p w m a k n x u=y:=by
 rw[Fast.te14374325043358763698,B0z];exact h
theorem oU{p:Program}{w:World}{m:Nat}{a:Option Value}{k n:Nat}{x:SharedT}{u:Thread}{y:Option (Flow×SharedT×Code×Pos)}(h:Fast.tw10110043849684766642 Fast.tw14364793385576792824 p w m a k n x u=y):segRunT treeTable p w m a k n x u=y:=by
 rw[Fast.te10110043849684766642,B0z];exact h
theorem Kw{p:Program}{w:World}{m:Nat}{a:Option Value}{n:Nat}{x:Shared}{u:Thread}{y:Option Shared}(h:Fast.tw14082659384304107361 Fast.tw14364793385576792824 p w m a n x u=y):topRun treeTable p w m a n x u=y:=by
 rw[Fast.te14082659384304107361,B0z];exact h
theorem BX{p:Program}{w:World}{m:Nat}{a:Option Value}{n:Nat}{x:Shared}{b l:List Stmt}{E:Env}{c:Code}{o:Pos}{B:List Frame}{y:Option Shared}(e:b=l)(h:topRun treeTable p w m a n x (restOf l E c o B)=y):topRun treeTable p w m a n x (restOf b E c o B)=y:=by
 rw[e];exact h
end HS
namespace H06
open PySem PySem.W HS
noncomputable abbrev p:Program:=PySem.Challenge.pw_minortables_k06_put_together_refused
abbrev q:Program:=PySem.W.view p [1,2,3,4,5,6,7,8,9,11,12,13,14,15,16,17,18,19,20,21,22,23,24,26,27,28,29,30,31,32,33,34,36,37,38,39,40,41,42,43,45,46,47,48,49,50,52,53,54,55,56,57]
abbrev N:Nat:=6446
noncomputable abbrev lo:List Str:=[]
abbrev z:Value:=.none
noncomputable abbrev r(a:Nat):Value:=.ref a
noncomputable abbrev i(a:Int)(n:Nat):Value:=.int a n
abbrev s(x:Str)(n:Nat):Value:=.str x n
abbrev t(x:String):Value:=.type x
abbrev b(x:String):Value:=.builtin x
abbrev e(P:Params)(x:Str)(n:Nat)(v:Value):DictEntry:=⟨PyData.keyHash P x,.str x n,v⟩
def d(j:Nat):Stmt:=p.main.body.getD j (.Pass ⟨0,0,0,0⟩)
def m(j k:Nat):Stmt:=match d j with | .ClassDef _ _ _ l .. =>l.getD k (.Pass ⟨0,0,0,0⟩) | x=>x
def f(x:Stmt)(qn:Str)(g:Nat)(dV kV dc pm cd ct:Value):FuncData:=match x with | .FunctionDef n a l _ _ _ sc .. =>⟨n,qn,a,.stmts l,sc,g,[],dV,kV,dc,pm,none,cd,ct,0⟩ | _=>default
def y:Obj:=⟨.type "tuple",none,.seq #[] 0,#[]⟩
noncomputable def x:Obj:=⟨.none,none,.fields #[],#[]⟩
noncomputable def tnV:List Str->Nat->List Value | [],_=>[] | a::l,k=>.str a k::tnV l (k+1)
def tn(l:List Str)(k:Nat):Obj:=⟨.type "tuple",none,.seq (tnV l k).toArray 0,#[]⟩
def g(a:Stmt)(n:Str):Obj:=⟨.none,none,.func (f a n 0 z z z z z z),#[]⟩
def u(a:Stmt)(n:Str)(pm:Value)(c:Nat):Obj:=⟨.type "function",none,.func (f a n 3 z z z pm (r c) z),#[]⟩
def c(n:Str)(k:Nat)(l a fl:Int)(q:Nat)(bb:Bool)(h:Int)(q':Nat)(v w v':Value)(k':Nat):Obj:=⟨.type "code",none,.fields #[s n k,s n (k+1),s "/claim/cut.py" (k+2),i l 0,i a 0,i 0 0,i 0 0,i fl 0,r q,.bool bb,i h 0,r q',z,v,w,v',i k' 0,i l 0,s "/claim/cut.py" (k'+1)],#[]⟩
def I(t:BT):Nat->List Obj->BT | _,[]=>t | n,o::l=>I (t.ins n o) (n+1) l
def es(P:Params):List DictEntry:=[e P "__doc__" 166 z,
 e P "__package__" 167 z,
 e P "__loader__" 168 (b "__main__.__loader__#opaque"),
 e P "__spec__" 169 z,
 e P "__annotations__" 170 (r 6),
 e P "__builtins__" 171 (r 4),
 e P "__file__" 173 (s "/claim/cut.py" 172),
 e P "__cached__" 174 z,
 e P "MinorError" 206 (r 24),
 e P "NoTable" 222 (r 37),
 e P "NoFit" 238 (r 49),
 e P "NoPlace" 254 (r 61),
 e P "NoStep" 270 (r 73),
 e P "NoSteps" 286 (r 85),
 e P "NoText" 302 (r 97),
 e P "NoName" 318 (r 109),
 e P "NoBack" 334 (r 121),
 e P "MOST_LINES" 338 (i 4 337),
 e P "is_whole" 345 (r 130),
 e P "is_whole_within" 354 (r 137),
 e P "is_short_tuple" 361 (r 144),
 e P "has_lines" 367 (r 149),
 e P "numbers_of" 376 (r 156),
 e P "has_table_form" 382 (r 161),
 e P "is_square" 389 (r 168),
 e P "is_place" 397 (r 175),
 e P "need_table" 404 (r 182),
 e P "need_square" 411 (r 189),
 e P "need_same_size" 419 (r 196),
 e P "need_place" 427 (r 203),
 e P "need_size" 435 (r 210),
 e P "column_of" 443 (r 215),
 e P "columns_of" 449 (r 220),
 e P "turned" 456 (r 227),
 e P "row_by_column" 462 (r 232),
 e P "row_by_columns" 468 (r 237),
 e P "times" 474 (r 242),
 e P "row_plus" 480 (r 247),
 e P "plain_row" 486 (r 252),
 e P "plain" 492 (r 257),
 e P "line_sums" 500 (r 262),
 e P "sums" 507 (r 269),
 e P "slant_sum" 513 (r 274),
 e P "signs_in" 519 (r 279),
 e P "is_even" 526 (r 286),
 e P "unlike_places" 537 (r 293),
 e P "power" 547 (r 300),
 e P "go_together" 555 (r 307),
 e P "set_below" 565 (r 314),
 e P "set_beside" 573 (r 321),
 e P "set_aslant" 579 (r 326),
 e P "need_two_rows" 588 (r 333),
 e P "rows_exchanged" 598 (r 340),
 e P "row_added" 604 (r 345),
 e P "_law_cell" 614 (r 352),
 e P "_law_pick" 624 (r 359),
 e P "_law_table" 630 (r 364),
 e P "_law_class" 639 (r 371),
 e P "_law_told" 647 (r 378),
 e P "law" 661 (r 385)]
def og(k n:Nat)(v:Value)(P:Params):Obj:=⟨.type "dict",none,.dict ((e P "__name__" 165 v::es P).take k).toArray n,#[]⟩
def fv:List Value:=[(i 2 0),(i 0 0),(r 20),(i 4 0),(i 0 0),(r 33),(i 6 0),(i 0 0),(r 45),(i 8 0),(i 0 0),(r 57),(i 10 0),(i 0 0),(r 69),(i 12 0),(i 0 0),(r 81),(i 14 0),(i 0 0),(r 93),(i 16 0),(i 0 0),(r 105),(i 18 0),(i 0 0),(r 117),(i 22 0),(i 0 0),(r 129),(i 24 0),(i 0 0),(r 136),(i 26 0),(i 0 0),(r 143),(i 28 0),(i 0 0),(r 148),(i 32 0),(i 0 0),(r 155),(i 37 0),(i 0 0),(r 160),(i 39 0),(i 0 0),(r 167),(i 41 0),(i 0 0),(r 174),(i 43 0),(i 0 0),(r 181),(i 46 0),(i 0 0),(r 188),(i 49 0),(i 0 0),(r 195),(i 52 0),(i 0 0),(r 202),(i 55 0),(i 0 0),(r 209),(i 59 0),(i 0 0),(r 214),(i 61 0),(i 0 0),(r 219),(i 63 0),(i 0 0),(r 226),(i 66 0),(i 0 0),(r 231),(i 68 0),(i 0 0),(r 236),(i 70 0),(i 0 0),(r 241),(i 77 0),(i 0 0),(r 246),(i 79 0),(i 0 0),(r 251),(i 81 0),(i 0 0),(r 256),(i 85 0),(i 0 0),(r 261),(i 87 0),(i 0 0),(r 268),(i 90 0),(i 0 0),(r 273),(i 94 0),(i 0 0),(r 278),(i 100 0),(i 0 0),(r 285),(i 102 0),(i 0 0),(r 292),(i 112 0),(i 0 0),(r 299),(i 121 0),(i 0 0),(r 306),(i 128 0),(i 0 0),(r 313),(i 135 0),(i 0 0),(r 320),(i 137 0),(i 0 0),(r 325),(i 145 0),(i 0 0),(r 332),(i 149 0),(i 0 0),(r 339),(i 155 0),(i 0 0),(r 344),(i 163 0),(i 0 0),(r 351),(i 169 0),(i 0 0),(r 358),(i 172 0),(i 0 0),(r 363),(i 178 0),(i 0 0),(r 370),(i 186 0),(i 0 0),(r 377),(i 191 0),(i 0 0),(r 384)]
def o12:Obj:=⟨z,none,.fields (fv.take 0).toArray,#[]⟩
def o13:=c "<module>" 182 1 0 0 11 false 181 12 z z z 185
def o14:Obj:=⟨(t "frame"),none,.plain,#[some (r 13),some (r 3),some (r 3),none,some (s "__main__" 164),none,some (r 0)]⟩
def Lj(P:Params):Obj:=og 10 10 (s "minortables.errors" 187) P
def Ht:Obj:=⟨z,none,.fields (fv.take 3).toArray,#[]⟩
def o15:Obj:=⟨(t "tuple"),none,(.seq #[(t "ValueError")] 0),#[]⟩
def o16:Obj:=⟨(t "builtin_function_or_method"),none,(.fields #[(b "type.__prepare__"),(t "type")]),#[]⟩
def o17(P:Params):Obj:=⟨(t "dict"),none,(.dict #[e P "__module__" 196 (s "minortables.errors" 187),e P "__qualname__" 198 (s "MinorError" 197),e P "__firstlineno__" 200 (i 2 199),e P "__static_attributes__" 201 (r 22)] 4),#[]⟩
def o20:=c "MinorError" 191 2 0 0 18 false 181 19 z z z 194
def o21:Obj:=⟨(t "frame"),none,.plain,#[some (r 20),some (r 3),some (r 17),none,some (s "minortables.errors" 187),none,some (r 0)]⟩
def o23(P:Params):Obj:=⟨(t "dict"),none,(.dict #[e P "__module__" 196 (s "minortables.errors" 187),e P "__firstlineno__" 200 (i 2 199),e P "__static_attributes__" 201 (r 22),e P "__weakref__" 203 (r 25),e P "__doc__" 204 z] 3),#[]⟩
def o24:Obj:=⟨(t "type"),none,(.cls ⟨"MinorError",[(t "ValueError")],[(r 24),(t "ValueError"),(t "Exception"),(t "BaseException"),(t "object")],23,"MinorError",true,[],[],false,none,false⟩),#[some (r 15),none,some (s "MinorError" 189),some (s "MinorError" 197),some (b "ValueError.__new__"),some (.bool true)]⟩
def o25:Obj:=⟨(t "getset_descriptor"),none,(.fields #[(s "__weakref__" 202),(r 24),(b "ExceptionGroup.__weakref__"),z]),#[]⟩
def o26:Obj:=⟨(t "super"),none,(.fields #[(r 24),(r 24),(r 24)]),#[]⟩
def o27:Obj:=⟨(t "builtin_function_or_method"),none,(.fields #[(b "object.__init_subclass__"),(r 24)]),#[]⟩
def Li(P:Params):Obj:=og 11 11 (s "minortables.errors" 187) P
def Hr:Obj:=⟨z,none,.fields (fv.take 6).toArray,#[]⟩
def Fi:Obj:=⟨(t "type"),none,(.cls ⟨"MinorError",[(t "ValueError")],[(r 24),(t "ValueError"),(t "Exception"),(t "BaseException"),(t "object")],23,"MinorError",true,[],[(r 37)],false,none,false⟩),#[some (r 15),none,some (s "MinorError" 189),some (s "MinorError" 197),some (b "ValueError.__new__"),some (.bool true)]⟩
def o28:Obj:=⟨(t "tuple"),none,(.seq #[(r 24)] 0),#[]⟩
def o29:Obj:=⟨(t "builtin_function_or_method"),none,(.fields #[(b "type.__prepare__"),(t "type")]),#[]⟩
def o30(P:Params):Obj:=⟨(t "dict"),none,(.dict #[e P "__module__" 214 (s "minortables.errors" 187),e P "__qualname__" 216 (s "NoTable" 215),e P "__firstlineno__" 218 (i 4 217),e P "__static_attributes__" 219 (r 35)] 4),#[]⟩
def o33:=c "NoTable" 209 4 0 0 31 false 181 32 z z z 212
def o34:Obj:=⟨(t "frame"),none,.plain,#[some (r 33),some (r 3),some (r 30),none,some (s "minortables.errors" 187),none,some (r 0)]⟩
def o36(P:Params):Obj:=⟨(t "dict"),none,(.dict #[e P "__module__" 214 (s "minortables.errors" 187),e P "__firstlineno__" 218 (i 4 217),e P "__static_attributes__" 219 (r 35),e P "__doc__" 220 z] 2),#[]⟩
def o37:Obj:=⟨(t "type"),none,(.cls ⟨"NoTable",[(r 24)],[(r 37),(r 24),(t "ValueError"),(t "Exception"),(t "BaseException"),(t "object")],36,"NoTable",true,[],[],false,none,false⟩),#[some (r 28),none,some (s "NoTable" 207),some (s "NoTable" 215),some (b "ValueError.__new__"),some (.bool true)]⟩
def o38:Obj:=⟨(t "super"),none,(.fields #[(r 37),(r 37),(r 37)]),#[]⟩
def o39:Obj:=⟨(t "builtin_function_or_method"),none,(.fields #[(b "object.__init_subclass__"),(r 37)]),#[]⟩
def Lh(P:Params):Obj:=og 12 12 (s "minortables.errors" 187) P
def Hq:Obj:=⟨z,none,.fields (fv.take 9).toArray,#[]⟩
def Fg:Obj:=⟨(t "type"),none,(.cls ⟨"MinorError",[(t "ValueError")],[(r 24),(t "ValueError"),(t "Exception"),(t "BaseException"),(t "object")],23,"MinorError",true,[],[(r 37),(r 49)],false,none,false⟩),#[some (r 15),none,some (s "MinorError" 189),some (s "MinorError" 197),some (b "ValueError.__new__"),some (.bool true)]⟩
def o40:Obj:=⟨(t "tuple"),none,(.seq #[(r 24)] 0),#[]⟩
def o41:Obj:=⟨(t "builtin_function_or_method"),none,(.fields #[(b "type.__prepare__"),(t "type")]),#[]⟩
def o42(P:Params):Obj:=⟨(t "dict"),none,(.dict #[e P "__module__" 230 (s "minortables.errors" 187),e P "__qualname__" 232 (s "NoFit" 231),e P "__firstlineno__" 234 (i 6 233),e P "__static_attributes__" 235 (r 47)] 4),#[]⟩
def o45:=c "NoFit" 225 6 0 0 43 false 181 44 z z z 228
def o46:Obj:=⟨(t "frame"),none,.plain,#[some (r 45),some (r 3),some (r 42),none,some (s "minortables.errors" 187),none,some (r 0)]⟩
def o48(P:Params):Obj:=⟨(t "dict"),none,(.dict #[e P "__module__" 230 (s "minortables.errors" 187),e P "__firstlineno__" 234 (i 6 233),e P "__static_attributes__" 235 (r 47),e P "__doc__" 236 z] 2),#[]⟩
def o49:Obj:=⟨(t "type"),none,(.cls ⟨"NoFit",[(r 24)],[(r 49),(r 24),(t "ValueError"),(t "Exception"),(t "BaseException"),(t "object")],48,"NoFit",true,[],[],false,none,false⟩),#[some (r 40),none,some (s "NoFit" 223),some (s "NoFit" 231),some (b "ValueError.__new__"),some (.bool true)]⟩
def o50:Obj:=⟨(t "super"),none,(.fields #[(r 49),(r 49),(r 49)]),#[]⟩
def o51:Obj:=⟨(t "builtin_function_or_method"),none,(.fields #[(b "object.__init_subclass__"),(r 49)]),#[]⟩
def Lg(P:Params):Obj:=og 13 13 (s "minortables.errors" 187) P
def Ho:Obj:=⟨z,none,.fields (fv.take 12).toArray,#[]⟩
def Fe:Obj:=⟨(t "type"),none,(.cls ⟨"MinorError",[(t "ValueError")],[(r 24),(t "ValueError"),(t "Exception"),(t "BaseException"),(t "object")],23,"MinorError",true,[],[(r 37),(r 49),(r 61)],false,none,false⟩),#[some (r 15),none,some (s "MinorError" 189),some (s "MinorError" 197),some (b "ValueError.__new__"),some (.bool true)]⟩
def o52:Obj:=⟨(t "tuple"),none,(.seq #[(r 24)] 0),#[]⟩
def o53:Obj:=⟨(t "builtin_function_or_method"),none,(.fields #[(b "type.__prepare__"),(t "type")]),#[]⟩
def o54(P:Params):Obj:=⟨(t "dict"),none,(.dict #[e P "__module__" 246 (s "minortables.errors" 187),e P "__qualname__" 248 (s "NoPlace" 247),e P "__firstlineno__" 250 (i 8 249),e P "__static_attributes__" 251 (r 59)] 4),#[]⟩
def o57:=c "NoPlace" 241 8 0 0 55 false 181 56 z z z 244
def o58:Obj:=⟨(t "frame"),none,.plain,#[some (r 57),some (r 3),some (r 54),none,some (s "minortables.errors" 187),none,some (r 0)]⟩
def o60(P:Params):Obj:=⟨(t "dict"),none,(.dict #[e P "__module__" 246 (s "minortables.errors" 187),e P "__firstlineno__" 250 (i 8 249),e P "__static_attributes__" 251 (r 59),e P "__doc__" 252 z] 2),#[]⟩
def o61:Obj:=⟨(t "type"),none,(.cls ⟨"NoPlace",[(r 24)],[(r 61),(r 24),(t "ValueError"),(t "Exception"),(t "BaseException"),(t "object")],60,"NoPlace",true,[],[],false,none,false⟩),#[some (r 52),none,some (s "NoPlace" 239),some (s "NoPlace" 247),some (b "ValueError.__new__"),some (.bool true)]⟩
def o62:Obj:=⟨(t "super"),none,(.fields #[(r 61),(r 61),(r 61)]),#[]⟩
def o63:Obj:=⟨(t "builtin_function_or_method"),none,(.fields #[(b "object.__init_subclass__"),(r 61)]),#[]⟩
def Lf(P:Params):Obj:=og 14 14 (s "minortables.errors" 187) P
def Hl:Obj:=⟨z,none,.fields (fv.take 15).toArray,#[]⟩
def EY:Obj:=⟨(t "type"),none,(.cls ⟨"MinorError",[(t "ValueError")],[(r 24),(t "ValueError"),(t "Exception"),(t "BaseException"),(t "object")],23,"MinorError",true,[],[(r 37),(r 49),(r 61),(r 73)],false,none,false⟩),#[some (r 15),none,some (s "MinorError" 189),some (s "MinorError" 197),some (b "ValueError.__new__"),some (.bool true)]⟩
def o64:Obj:=⟨(t "tuple"),none,(.seq #[(r 24)] 0),#[]⟩
def o65:Obj:=⟨(t "builtin_function_or_method"),none,(.fields #[(b "type.__prepare__"),(t "type")]),#[]⟩
def o66(P:Params):Obj:=⟨(t "dict"),none,(.dict #[e P "__module__" 262 (s "minortables.errors" 187),e P "__qualname__" 264 (s "NoStep" 263),e P "__firstlineno__" 266 (i 10 265),e P "__static_attributes__" 267 (r 71)] 4),#[]⟩
def o69:=c "NoStep" 257 10 0 0 67 false 181 68 z z z 260
def o70:Obj:=⟨(t "frame"),none,.plain,#[some (r 69),some (r 3),some (r 66),none,some (s "minortables.errors" 187),none,some (r 0)]⟩
def o72(P:Params):Obj:=⟨(t "dict"),none,(.dict #[e P "__module__" 262 (s "minortables.errors" 187),e P "__firstlineno__" 266 (i 10 265),e P "__static_attributes__" 267 (r 71),e P "__doc__" 268 z] 2),#[]⟩
def o73:Obj:=⟨(t "type"),none,(.cls ⟨"NoStep",[(r 24)],[(r 73),(r 24),(t "ValueError"),(t "Exception"),(t "BaseException"),(t "object")],72,"NoStep",true,[],[],false,none,false⟩),#[some (r 64),none,some (s "NoStep" 255),some (s "NoStep" 263),some (b "ValueError.__new__"),some (.bool true)]⟩
def o74:Obj:=⟨(t "super"),none,(.fields #[(r 73),(r 73),(r 73)]),#[]⟩
def o75:Obj:=⟨(t "builtin_function_or_method"),none,(.fields #[(b "object.__init_subclass__"),(r 73)]),#[]⟩
def Le(P:Params):Obj:=og 15 15 (s "minortables.errors" 187) P
def Hj:Obj:=⟨z,none,.fields (fv.take 18).toArray,#[]⟩
def Ez:Obj:=⟨(t "type"),none,(.cls ⟨"MinorError",[(t "ValueError")],[(r 24),(t "ValueError"),(t "Exception"),(t "BaseException"),(t "object")],23,"MinorError",true,[],[(r 37),(r 49),(r 61),(r 73),(r 85)],false,none,false⟩),#[some (r 15),none,some (s "MinorError" 189),some (s "MinorError" 197),some (b "ValueError.__new__"),some (.bool true)]⟩
def o76:Obj:=⟨(t "tuple"),none,(.seq #[(r 24)] 0),#[]⟩
def o77:Obj:=⟨(t "builtin_function_or_method"),none,(.fields #[(b "type.__prepare__"),(t "type")]),#[]⟩
def o78(P:Params):Obj:=⟨(t "dict"),none,(.dict #[e P "__module__" 278 (s "minortables.errors" 187),e P "__qualname__" 280 (s "NoSteps" 279),e P "__firstlineno__" 282 (i 12 281),e P "__static_attributes__" 283 (r 83)] 4),#[]⟩
def o81:=c "NoSteps" 273 12 0 0 79 false 181 80 z z z 276
def o82:Obj:=⟨(t "frame"),none,.plain,#[some (r 81),some (r 3),some (r 78),none,some (s "minortables.errors" 187),none,some (r 0)]⟩
def o84(P:Params):Obj:=⟨(t "dict"),none,(.dict #[e P "__module__" 278 (s "minortables.errors" 187),e P "__firstlineno__" 282 (i 12 281),e P "__static_attributes__" 283 (r 83),e P "__doc__" 284 z] 2),#[]⟩
def o85:Obj:=⟨(t "type"),none,(.cls ⟨"NoSteps",[(r 24)],[(r 85),(r 24),(t "ValueError"),(t "Exception"),(t "BaseException"),(t "object")],84,"NoSteps",true,[],[],false,none,false⟩),#[some (r 76),none,some (s "NoSteps" 271),some (s "NoSteps" 279),some (b "ValueError.__new__"),some (.bool true)]⟩
def o86:Obj:=⟨(t "super"),none,(.fields #[(r 85),(r 85),(r 85)]),#[]⟩
def o87:Obj:=⟨(t "builtin_function_or_method"),none,(.fields #[(b "object.__init_subclass__"),(r 85)]),#[]⟩
def Ld(P:Params):Obj:=og 16 16 (s "minortables.errors" 187) P
def Hh:Obj:=⟨z,none,.fields (fv.take 21).toArray,#[]⟩
def Ey:Obj:=⟨(t "type"),none,(.cls ⟨"MinorError",[(t "ValueError")],[(r 24),(t "ValueError"),(t "Exception"),(t "BaseException"),(t "object")],23,"MinorError",true,[],[(r 37),(r 49),(r 61),(r 73),(r 85),(r 97)],false,none,false⟩),#[some (r 15),none,some (s "MinorError" 189),some (s "MinorError" 197),some (b "ValueError.__new__"),some (.bool true)]⟩
def o88:Obj:=⟨(t "tuple"),none,(.seq #[(r 24)] 0),#[]⟩
def o89:Obj:=⟨(t "builtin_function_or_method"),none,(.fields #[(b "type.__prepare__"),(t "type")]),#[]⟩
def o90(P:Params):Obj:=⟨(t "dict"),none,(.dict #[e P "__module__" 294 (s "minortables.errors" 187),e P "__qualname__" 296 (s "NoText" 295),e P "__firstlineno__" 298 (i 14 297),e P "__static_attributes__" 299 (r 95)] 4),#[]⟩
def o93:=c "NoText" 289 14 0 0 91 false 181 92 z z z 292
def o94:Obj:=⟨(t "frame"),none,.plain,#[some (r 93),some (r 3),some (r 90),none,some (s "minortables.errors" 187),none,some (r 0)]⟩
def o96(P:Params):Obj:=⟨(t "dict"),none,(.dict #[e P "__module__" 294 (s "minortables.errors" 187),e P "__firstlineno__" 298 (i 14 297),e P "__static_attributes__" 299 (r 95),e P "__doc__" 300 z] 2),#[]⟩
def o97:Obj:=⟨(t "type"),none,(.cls ⟨"NoText",[(r 24)],[(r 97),(r 24),(t "ValueError"),(t "Exception"),(t "BaseException"),(t "object")],96,"NoText",true,[],[],false,none,false⟩),#[some (r 88),none,some (s "NoText" 287),some (s "NoText" 295),some (b "ValueError.__new__"),some (.bool true)]⟩
def o98:Obj:=⟨(t "super"),none,(.fields #[(r 97),(r 97),(r 97)]),#[]⟩
def o99:Obj:=⟨(t "builtin_function_or_method"),none,(.fields #[(b "object.__init_subclass__"),(r 97)]),#[]⟩
def Lb(P:Params):Obj:=og 17 17 (s "minortables.errors" 187) P
def Hg:Obj:=⟨z,none,.fields (fv.take 24).toArray,#[]⟩
def Ew:Obj:=⟨(t "type"),none,(.cls ⟨"MinorError",[(t "ValueError")],[(r 24),(t "ValueError"),(t "Exception"),(t "BaseException"),(t "object")],23,"MinorError",true,[],[(r 37),(r 49),(r 61),(r 73),(r 85),(r 97),(r 109)],false,none,false⟩),#[some (r 15),none,some (s "MinorError" 189),some (s "MinorError" 197),some (b "ValueError.__new__"),some (.bool true)]⟩
def o100:Obj:=⟨(t "tuple"),none,(.seq #[(r 24)] 0),#[]⟩
def Kd:Obj:=⟨(t "builtin_function_or_method"),none,(.fields #[(b "type.__prepare__"),(t "type")]),#[]⟩
def Kc(P:Params):Obj:=⟨(t "dict"),none,(.dict #[e P "__module__" 310 (s "minortables.errors" 187),e P "__qualname__" 312 (s "NoName" 311),e P "__firstlineno__" 314 (i 16 313),e P "__static_attributes__" 315 (r 107)] 4),#[]⟩
def Ka:Obj:=c "NoName" 305 16 0 0 103 false 181 104 z z z 308
def J9:Obj:=⟨(t "frame"),none,.plain,#[some (r 105),some (r 3),some (r 102),none,some (s "minortables.errors" 187),none,some (r 0)]⟩
def HB(P:Params):Obj:=⟨(t "dict"),none,(.dict #[e P "__module__" 310 (s "minortables.errors" 187),e P "__firstlineno__" 314 (i 16 313),e P "__static_attributes__" 315 (r 107),e P "__doc__" 316 z] 2),#[]⟩
def Hz:Obj:=⟨(t "type"),none,(.cls ⟨"NoName",[(r 24)],[(r 109),(r 24),(t "ValueError"),(t "Exception"),(t "BaseException"),(t "object")],108,"NoName",true,[],[],false,none,false⟩),#[some (r 100),none,some (s "NoName" 303),some (s "NoName" 311),some (b "ValueError.__new__"),some (.bool true)]⟩
def J8:Obj:=⟨(t "super"),none,(.fields #[(r 109),(r 109),(r 109)]),#[]⟩
def o111:Obj:=⟨(t "builtin_function_or_method"),none,(.fields #[(b "object.__init_subclass__"),(r 109)]),#[]⟩
def La(P:Params):Obj:=og 24 24 (s "minortables.checks" 335) P
def Hf:Obj:=⟨z,none,.fields (fv.take 42).toArray,#[]⟩
def wR:Obj:=⟨(t "type"),none,(.cls ⟨"MinorError",[(t "ValueError")],[(r 24),(t "ValueError"),(t "Exception"),(t "BaseException"),(t "object")],23,"MinorError",true,[],[(r 37),(r 49),(r 61),(r 73),(r 85),(r 97),(r 109),(r 121)],false,none,false⟩),#[some (r 15),none,some (s "MinorError" 189),some (s "MinorError" 197),some (b "ValueError.__new__"),some (.bool true)]⟩
def Hy:Obj:=⟨(t "tuple"),none,(.seq #[(r 24)] 0),#[]⟩
def J7:Obj:=⟨(t "builtin_function_or_method"),none,(.fields #[(b "type.__prepare__"),(t "type")]),#[]⟩
def J6(P:Params):Obj:=⟨(t "dict"),none,(.dict #[e P "__module__" 326 (s "minortables.errors" 187),e P "__qualname__" 328 (s "NoBack" 327),e P "__firstlineno__" 330 (i 18 329),e P "__static_attributes__" 331 (r 119)] 4),#[]⟩
def J5:Obj:=c "NoBack" 321 18 0 0 115 false 181 116 z z z 324
def J4:Obj:=⟨(t "frame"),none,.plain,#[some (r 117),some (r 3),some (r 114),none,some (s "minortables.errors" 187),none,some (r 0)]⟩
def Hx(P:Params):Obj:=⟨(t "dict"),none,(.dict #[e P "__module__" 326 (s "minortables.errors" 187),e P "__firstlineno__" 330 (i 18 329),e P "__static_attributes__" 331 (r 119),e P "__doc__" 332 z] 2),#[]⟩
def Hw:Obj:=⟨(t "type"),none,(.cls ⟨"NoBack",[(r 24)],[(r 121),(r 24),(t "ValueError"),(t "Exception"),(t "BaseException"),(t "object")],120,"NoBack",true,[],[],false,none,false⟩),#[some (r 112),none,some (s "NoBack" 319),some (s "NoBack" 327),some (b "ValueError.__new__"),some (.bool true)]⟩
def J3:Obj:=⟨(t "super"),none,(.fields #[(r 121),(r 121),(r 121)]),#[]⟩
def J2:Obj:=⟨(t "builtin_function_or_method"),none,(.fields #[(b "object.__init_subclass__"),(r 121)]),#[]⟩
def Hv:Obj:=tn ["thing"] 342
def J1:Obj:=g (d 12) "is_whole"
def Hu:Obj:=c "is_whole" 339 22 1 3 124 true 181 125 (r 126) (r 127) (r 128) 343
def G9:Obj:=u (d 12) "is_whole" (s "minortables.checks" 335) 129
def G8:Obj:=tn ["thing","least","most"] 349
def JZ:Obj:=g (d 13) "is_whole_within"
def G7:Obj:=c "is_whole_within" 346 24 3 3 131 true 181 132 (r 133) (r 134) (r 135) 352
def G6:Obj:=u (d 13) "is_whole_within" (s "minortables.checks" 335) 136
def G5:Obj:=tn ["thing"] 358
def JX:Obj:=g (d 14) "is_short_tuple"
def G4:Obj:=c "is_short_tuple" 355 26 1 3 138 true 181 139 (r 140) (r 141) (r 142) 359
def G3:Obj:=u (d 14) "is_short_tuple" (s "minortables.checks" 335) 143
def JW:Obj:=g (d 15) "has_lines"
def GZ:Obj:=c "has_lines" 362 28 1 3 145 true 181 146 z z (r 147) 365
def GR:Obj:=u (d 15) "has_lines" (s "minortables.checks" 335) 148
def GQ:Obj:=tn ["table","told","row"] 371
def JV:Obj:=g (d 16) "numbers_of"
def GP:Obj:=c "numbers_of" 368 32 1 3 150 true 181 151 (r 152) (r 153) (r 154) 374
def GK:Obj:=u (d 16) "numbers_of" (s "minortables.checks" 335) 155
def CK(P:Params):Obj:=og 37 37 (s "minortables.tables" 436) P
def zV:Obj:=⟨z,none,.fields (fv.take 81).toArray,#[]⟩
def JT:Obj:=g (d 17) "has_table_form"
def GJ:Obj:=c "has_table_form" 377 37 1 3 157 true 181 158 z z (r 159) 380
def GF:Obj:=u (d 17) "has_table_form" (s "minortables.checks" 335) 160
def Gz:Obj:=tn ["table"] 386
def JR:Obj:=g (d 18) "is_square"
def Gy:Obj:=c "is_square" 383 39 1 3 162 true 181 163 (r 164) (r 165) (r 166) 387
def Gx:Obj:=u (d 18) "is_square" (s "minortables.checks" 335) 167
def Gw:Obj:=tn ["thing","many"] 393
def JQ:Obj:=g (d 19) "is_place"
def Gv:Obj:=c "is_place" 390 41 2 3 169 true 181 170 (r 171) (r 172) (r 173) 395
def Gu:Obj:=u (d 19) "is_place" (s "minortables.checks" 335) 174
def Gs:Obj:=tn ["thing"] 401
def JN:Obj:=g (d 20) "need_table"
def Gq:Obj:=c "need_table" 398 43 1 3 176 true 181 177 (r 178) (r 179) (r 180) 402
def Gp:Obj:=u (d 20) "need_table" (s "minortables.checks" 335) 181
def Gn:Obj:=tn ["table"] 408
def JM:Obj:=g (d 21) "need_square"
def Gm:Obj:=c "need_square" 405 46 1 3 183 true 181 184 (r 185) (r 186) (r 187) 409
def Gk:Obj:=u (d 21) "need_square" (s "minortables.checks" 335) 188
def Gj:Obj:=tn ["one","other"] 415
def JL:Obj:=g (d 22) "need_same_size"
def Gi:Obj:=c "need_same_size" 412 49 2 3 190 true 181 191 (r 192) (r 193) (r 194) 417
def Gh:Obj:=u (d 22) "need_same_size" (s "minortables.checks" 335) 195
def Gg:Obj:=tn ["thing","many"] 423
def JK:Obj:=g (d 23) "need_place"
def Gf:Obj:=c "need_place" 420 52 2 3 197 true 181 198 (r 199) (r 200) (r 201) 425
def Ge:Obj:=u (d 23) "need_place" (s "minortables.checks" 335) 202
def Gd:Obj:=tn ["thing","most"] 431
def JH:Obj:=g (d 24) "need_size"
def Gb:Obj:=c "need_size" 428 55 2 3 204 true 181 205 (r 206) (r 207) (r 208) 433
def Ga:Obj:=u (d 24) "need_size" (s "minortables.checks" 335) 209
def JG:Obj:=g (d 26) "column_of"
def FZ:Obj:=c "column_of" 438 59 2 3 211 true 181 212 z z (r 213) 441
def FW:Obj:=u (d 26) "column_of" (s "minortables.tables" 436) 214
def JF:Obj:=g (d 27) "columns_of"
def FQ:Obj:=c "columns_of" 444 61 1 3 216 true 181 217 z z (r 218) 447
def FP:Obj:=u (d 27) "columns_of" (s "minortables.tables" 436) 219
def FN:Obj:=tn ["table"] 453
def JD:Obj:=g (d 28) "turned"
def FJ:Obj:=c "turned" 450 63 1 3 221 true 181 222 (r 223) (r 224) (r 225) 454
def Fz:Obj:=u (d 28) "turned" (s "minortables.tables" 436) 226
def JC:Obj:=g (d 29) "row_by_column"
def Fy:Obj:=c "row_by_column" 457 66 2 3 228 true 181 229 z z (r 230) 460
def Fx:Obj:=u (d 29) "row_by_column" (s "minortables.tables" 436) 231
def JB:Obj:=g (d 30) "row_by_columns"
def Fw:Obj:=c "row_by_columns" 463 68 2 3 233 true 181 234 z z (r 235) 466
def Fv:Obj:=u (d 30) "row_by_columns" (s "minortables.tables" 436) 236
def CJ(P:Params):Obj:=og 50 50 (s "minortables.joining" 556) P
def zU:Obj:=⟨z,none,.fields (fv.take 120).toArray,#[]⟩
def Jz:Obj:=g (d 31) "times"
def Ft:Obj:=c "times" 469 70 2 3 238 true 181 239 z z (r 240) 472
def Fq:Obj:=u (d 31) "times" (s "minortables.tables" 436) 241
def Jy:Obj:=g (d 32) "row_plus"
def Fp:Obj:=c "row_plus" 475 77 2 3 243 true 181 244 z z (r 245) 478
def Fj:Obj:=u (d 32) "row_plus" (s "minortables.tables" 436) 246
def Jx:Obj:=g (d 33) "plain_row"
def Eu:Obj:=c "plain_row" 481 79 2 3 248 true 181 249 z z (r 250) 484
def Et:Obj:=u (d 33) "plain_row" (s "minortables.tables" 436) 251
def Jw:Obj:=g (d 34) "plain"
def Es:Obj:=c "plain" 487 81 1 3 253 true 181 254 z z (r 255) 490
def Er:Obj:=u (d 34) "plain" (s "minortables.tables" 436) 256
def Jv:Obj:=g (d 36) "line_sums"
def Ep:Obj:=c "line_sums" 495 85 1 3 258 true 181 259 z z (r 260) 498
def Eo:Obj:=u (d 36) "line_sums" (s "minortables.measuring" 493) 261
def En:Obj:=tn ["table"] 504
def Ju:Obj:=g (d 37) "sums"
def Em:Obj:=c "sums" 501 87 1 3 263 true 181 264 (r 265) (r 266) (r 267) 505
def El:Obj:=u (d 37) "sums" (s "minortables.measuring" 493) 268
def Jt:Obj:=g (d 38) "slant_sum"
def Ek:Obj:=c "slant_sum" 508 90 1 3 270 true 181 271 z z (r 272) 511
def Ej:Obj:=u (d 38) "slant_sum" (s "minortables.measuring" 493) 273
def Js:Obj:=g (d 39) "signs_in"
def Ei:Obj:=c "signs_in" 514 94 1 3 275 true 181 276 z z (r 277) 517
def Eh:Obj:=u (d 39) "signs_in" (s "minortables.measuring" 493) 278
def Ef:Obj:=tn ["table"] 523
def Jr:Obj:=g (d 40) "is_even"
def Ed:Obj:=c "is_even" 520 100 1 3 280 true 181 281 (r 282) (r 283) (r 284) 524
def Ec:Obj:=u (d 40) "is_even" (s "minortables.measuring" 493) 285
def Eb:Obj:=tn ["one","other","told","row","column"] 530
def Jq:Obj:=g (d 41) "unlike_places"
def Ea:Obj:=c "unlike_places" 527 102 2 3 287 true 181 288 (r 289) (r 290) (r 291) 535
def DY:Obj:=u (d 41) "unlike_places" (s "minortables.measuring" 493) 292
def DX:Obj:=tn ["table","many","told","often"] 541
def Jp:Obj:=g (d 42) "power"
def DW:Obj:=c "power" 538 112 2 3 294 true 181 295 (r 296) (r 297) (r 298) 545
def o300:=u (d 42) "power" (s "minortables.measuring" 493) 299
def DR:Obj:=tn ["one","other"] 551
def Jo:Obj:=g (d 43) "go_together"
def DQ:Obj:=c "go_together" 548 121 2 3 301 true 181 302 (r 303) (r 304) (r 305) 553
def DP:Obj:=u (d 43) "go_together" (s "minortables.measuring" 493) 306
def DN:Obj:=tn ["one","other"] 561
def Jm:Obj:=g (d 45) "set_below"
def DK:Obj:=c "set_below" 558 128 2 3 308 true 181 309 (r 310) (r 311) (r 312) 563
def DG:Obj:=u (d 45) "set_below" (s "minortables.joining" 556) 313
def wQ(P:Params):Obj:=og 61 61 (s "law_minortables_k06_put_together_refused" 605) P
def uY:Obj:=⟨z,none,.fields (fv.take 153).toArray,#[]⟩
def Dz:Obj:=tn ["one","other"] 569
def Jl:Obj:=g (d 46) "set_beside"
def Dy:Obj:=c "set_beside" 566 135 2 3 315 true 181 316 (r 317) (r 318) (r 319) 571
def Dw:Obj:=u (d 46) "set_beside" (s "minortables.joining" 556) 320
def Jk:Obj:=g (d 47) "set_aslant"
def Dv:Obj:=c "set_aslant" 574 137 2 3 322 true 181 323 z z (r 324) 577
def Du:Obj:=u (d 47) "set_aslant" (s "minortables.joining" 556) 325
def Dt:Obj:=tn ["table","one","other"] 583
def Jj:Obj:=g (d 48) "need_two_rows"
def Ds:Obj:=c "need_two_rows" 580 145 3 3 327 true 181 328 (r 329) (r 330) (r 331) 586
def Dr:Obj:=u (d 48) "need_two_rows" (s "minortables.joining" 556) 332
def Dq:Obj:=tn ["table","one","other","rows"] 592
def Ji:Obj:=g (d 49) "rows_exchanged"
def Dp:Obj:=c "rows_exchanged" 589 149 3 3 334 true 181 335 (r 336) (r 337) (r 338) 596
def Dn:Obj:=u (d 49) "rows_exchanged" (s "minortables.joining" 556) 339
def Jh:Obj:=g (d 50) "row_added"
def Dm:Obj:=c "row_added" 599 155 4 3 341 true 181 342 z z (r 343) 602
def Dl:Obj:=u (d 50) "row_added" (s "minortables.joining" 556) 344
def Dk:Obj:=tn ["_law_script","_law_k"] 610
def Jg:Obj:=g (d 52) "_law_cell"
def Dj:Obj:=c "_law_cell" 607 163 2 3 346 true 181 347 (r 348) (r 349) (r 350) 612
def Di:Obj:=u (d 52) "_law_cell" (s "law_minortables_k06_put_together_refused" 605) 351
def Dh:Obj:=tn ["_law_script","_law_k","_law_many","_law_drawn"] 618
def Jf:Obj:=g (d 53) "_law_pick"
def Dg:Obj:=c "_law_pick" 615 169 3 3 353 true 181 354 (r 355) (r 356) (r 357) 622
def Df:Obj:=u (d 53) "_law_pick" (s "law_minortables_k06_put_together_refused" 605) 358
def Je:Obj:=g (d 54) "_law_table"
def Jd:Obj:=c "_law_table" 625 172 4 3 360 true 181 361 z z (r 362) 628
def Jc:Obj:=u (d 54) "_law_table" (s "law_minortables_k06_put_together_refused" 605) 363
def Dd:Obj:=tn ["_law_kept","_law_kinds","_law_some"] 634
def Jb:Obj:=g (d 55) "_law_class"
def Dc:Obj:=c "_law_class" 631 178 1 3 365 true 181 366 (r 367) (r 368) (r 369) 637
def CZ:Obj:=u (d 55) "_law_class" (s "law_minortables_k06_put_together_refused" 605) 370
def CW:Obj:=tn ["_law_deed","e"] 643
def Ja:Obj:=g (d 56) "_law_told"
def o377:=c "_law_told" 640 186 1 3 372 true 181 373 (r 374) (r 375) (r 376) 645
def CV:Obj:=u (d 56) "_law_told" (s "law_minortables_k06_put_together_refused" 605) 377
def CT:Obj:=tn ["_law_script","_law_odd","_law_told_here"] 651
def CQ:Obj:=tn ["_law_bad","_law_good","_law_k","_law_thing","_law_wide"] 654
def IW:Obj:=g (d 57) "law"
def CP:Obj:=c "law" 648 191 1 3 379 true 181 380 (r 381) (r 382) (r 383) 659
def CN:Obj:=u (d 57) "law" (s "law_minortables_k06_put_together_refused" 605) 384
def Ha(P:Params):Heap:=⟨⟨[boot_o_0 P,boot_o_1 P,boot_o_2 P,boot_o_3 P,boot_o_4 P,boot_o_5 P,boot_o_6 P,boot_o_7 P,boot_o_8 P,boot_o_9 P,boot_o_10 P,y,o12,o13,o14]⟩,{}⟩
def T0(P:Params):BT:=I .nil 0 [boot_o_0 P,boot_o_1 P,boot_o_2 P,boot_o_3 P,boot_o_4 P,boot_o_5 P,boot_o_6 P,boot_o_7 P,boot_o_8 P,boot_o_9 P,boot_o_10 P,y,o12,o13,o14]
def T1(P:Params):BT:=I (T0 P) 15 [o15,o16,o17 P,y,x,o20,o21,y,o23 P,o24,o25,o26,o27] |>.set 3 (fun _=>Lj P) |>.set 12 (fun _=>Ht)
def T2(P:Params):BT:=I (T1 P) 28 [o28,o29,o30 P,y,x,o33,o34,y,o36 P,o37,o38,o39] |>.set 3 (fun _=>Li P) |>.set 12 (fun _=>Hr) |>.set 24 (fun _=>Fi)
def T3(P:Params):BT:=I (T2 P) 40 [o40,o41,o42 P,y,x,o45,o46,y,o48 P,o49,o50,o51] |>.set 3 (fun _=>Lh P) |>.set 12 (fun _=>Hq) |>.set 24 (fun _=>Fg)
def T4(P:Params):BT:=I (T3 P) 52 [o52,o53,o54 P,y,x,o57,o58,y,o60 P,o61,o62,o63] |>.set 3 (fun _=>Lg P) |>.set 12 (fun _=>Ho) |>.set 24 (fun _=>Fe)
def T5(P:Params):BT:=I (T4 P) 64 [o64,o65,o66 P,y,x,o69,o70,y,o72 P,o73,o74,o75] |>.set 3 (fun _=>Lf P) |>.set 12 (fun _=>Hl) |>.set 24 (fun _=>EY)
def T6(P:Params):BT:=I (T5 P) 76 [o76,o77,o78 P,y,x,o81,o82,y,o84 P,o85,o86,o87] |>.set 3 (fun _=>Le P) |>.set 12 (fun _=>Hj) |>.set 24 (fun _=>Ez)
def T7(P:Params):BT:=I (T6 P) 88 [o88,o89,o90 P,y,x,o93,o94,y,o96 P,o97,o98,o99] |>.set 3 (fun _=>Ld P) |>.set 12 (fun _=>Hh) |>.set 24 (fun _=>Ey)
def T8(P:Params):BT:=I (T7 P) 100 [o100,Kd,Kc P,y,x,Ka,J9,y,HB P,Hz,J8,o111] |>.set 3 (fun _=>Lb P) |>.set 12 (fun _=>Hg) |>.set 24 (fun _=>Ew)
def T9(P:Params):BT:=I (T8 P) 112 [Hy,J7,J6 P,y,x,J5,J4,y,Hx P,Hw,J3,J2,y,x,Hv,y,J1,Hu,G9,y,x,G8,y,JZ,G7,G6,y,x,G5,y,JX,G4,G3,y,x,JW,GZ,GR,y,x,GQ,y,JV,GP,GK] |>.set 3 (fun _=>La P) |>.set 12 (fun _=>Hf) |>.set 24 (fun _=>wR)
def T10(P:Params):BT:=I (T9 P) 157 [y,x,JT,GJ,GF,y,x,Gz,y,JR,Gy,Gx,y,x,Gw,y,JQ,Gv,Gu,y,x,Gs,y,JN,Gq,Gp,y,x,Gn,y,JM,Gm,Gk,y,x,Gj,y,JL,Gi,Gh,y,x,Gg,y,JK,Gf,Ge,y,x,Gd,y,JH,Gb,Ga,y,x,JG,FZ,FW,y,x,JF,FQ,FP,y,x,FN,y,JD,FJ,Fz,y,x,JC,Fy,Fx,y,x,JB,Fw,Fv] |>.set 3 (fun _=>CK P) |>.set 12 (fun _=>zV)
def T11(P:Params):BT:=I (T10 P) 238 [y,x,Jz,Ft,Fq,y,x,Jy,Fp,Fj,y,x,Jx,Eu,Et,y,x,Jw,Es,Er,y,x,Jv,Ep,Eo,y,x,En,y,Ju,Em,El,y,x,Jt,Ek,Ej,y,x,Js,Ei,Eh,y,x,Ef,y,Jr,Ed,Ec,y,x,Eb,y,Jq,Ea,DY,y,x,DX,y,Jp,DW,o300,y,x,DR,y,Jo,DQ,DP,y,x,DN,y,Jm,DK,DG] |>.set 3 (fun _=>CJ P) |>.set 12 (fun _=>zU)
def T12(P:Params):BT:=I (T11 P) 315 [y,x,Dz,y,Jl,Dy,Dw,y,x,Jk,Dv,Du,y,x,Dt,y,Jj,Ds,Dr,y,x,Dq,y,Ji,Dp,Dn,y,x,Jh,Dm,Dl,y,x,Dk,y,Jg,Dj,Di,y,x,Dh,y,Jf,Dg,Df,y,x,Je,Jd,Jc,y,x,Dd,y,Jb,Dc,CZ,y,x,CW,y,Ja,o377,CV,y,x,CT,CQ,IW,CP,CN] |>.set 3 (fun _=>wQ P) |>.set 12 (fun _=>uY)
def H1(P:Params):Heap:=⟨⟨[boot_o_0 P,boot_o_1 P,boot_o_2 P,wQ P,boot_o_4 P,boot_o_5 P,boot_o_6 P,boot_o_7 P,boot_o_8 P,boot_o_9 P,boot_o_10 P,y,uY,o13,o14,o15,o16,o17 P,y,x,o20,o21,y,o23 P,wR,o25,o26,o27,o28,o29,o30 P,y,x,o33,o34,y,o36 P,o37,o38,o39,o40,o41,o42 P,y,x,o45,o46,y,o48 P,o49,o50,o51,o52,o53,o54 P,y,x,o57,o58,y,o60 P,o61,o62,o63,o64,o65,o66 P,y,x,o69,o70,y,o72 P,o73,o74,o75,o76,o77,o78 P,y,x,o81,o82,y,o84 P,o85,o86,o87,o88,o89,o90 P,y,x,o93,o94,y,o96 P,o97,o98,o99,o100,Kd,Kc P,y,x,Ka,J9,y,HB P,Hz,J8,o111,Hy,J7,J6 P,y,x,J5,J4,y,Hx P,Hw,J3,J2,y,x,Hv,y,J1,Hu,G9,y,x,G8,y,JZ,G7,G6,y,x,G5,y,JX,G4,G3,y,x,JW,GZ,GR,y,x,GQ,y,JV,GP,GK,y,x,JT,GJ,GF,y,x,Gz,y,JR,Gy,Gx,y,x,Gw,y,JQ,Gv,Gu,y,x,Gs,y,JN,Gq,Gp,y,x,Gn,y,JM,Gm,Gk,y,x,Gj,y,JL,Gi,Gh,y,x,Gg,y,JK,Gf,Ge,y,x,Gd,y,JH,Gb,Ga,y,x,JG,FZ,FW,y,x,JF,FQ,FP,y,x,FN,y,JD,FJ,Fz,y,x,JC,Fy,Fx,y,x,JB,Fw,Fv,y,x,Jz,Ft,Fq,y,x,Jy,Fp,Fj,y,x,Jx,Eu,Et,y,x,Jw,Es,Er,y,x,Jv,Ep,Eo,y,x,En,y,Ju,Em,El,y,x,Jt,Ek,Ej,y,x,Js,Ei,Eh,y,x,Ef,y,Jr,Ed,Ec,y,x,Eb,y,Jq,Ea,DY,y,x,DX,y,Jp,DW,o300,y,x,DR,y,Jo,DQ,DP,y,x,DN,y,Jm,DK,DG,y,x,Dz,y,Jl,Dy,Dw,y,x,Jk,Dv,Du,y,x,Dt,y,Jj,Ds,Dr,y,x,Dq,y,Ji,Dp,Dn,y,x,Jh,Dm,Dl,y,x,Dk,y,Jg,Dj,Di,y,x,Dh,y,Jf,Dg,Df,y,x,Je,Jd,Jc,y,x,Dd,y,Jb,Dc,CZ,y,x,CW,y,Ja,o377,CV,y,x,CT,CQ,IW,CP,CN]⟩,{}⟩
def S0(w:World)(os:OsState):SharedT:=⟨T0 w.params,15,{},⟨[]⟩,{},187,os⟩
def S1(w:World)(os:OsState):SharedT:=⟨T1 w.params,28,{},⟨[]⟩,{},207,os⟩
def S2(w:World)(os:OsState):SharedT:=⟨T2 w.params,40,{},⟨[]⟩,{},223,os⟩
def S3(w:World)(os:OsState):SharedT:=⟨T3 w.params,52,{},⟨[]⟩,{},239,os⟩
def S4(w:World)(os:OsState):SharedT:=⟨T4 w.params,64,{},⟨[]⟩,{},255,os⟩
def S5(w:World)(os:OsState):SharedT:=⟨T5 w.params,76,{},⟨[]⟩,{},271,os⟩
def S6(w:World)(os:OsState):SharedT:=⟨T6 w.params,88,{},⟨[]⟩,{},287,os⟩
def S7(w:World)(os:OsState):SharedT:=⟨T7 w.params,100,{},⟨[]⟩,{},303,os⟩
def S8(w:World)(os:OsState):SharedT:=⟨T8 w.params,112,{},⟨[]⟩,{},319,os⟩
def S9(w:World)(os:OsState):SharedT:=⟨T9 w.params,157,{},⟨[]⟩,{},377,os⟩
def S10(w:World)(os:OsState):SharedT:=⟨T10 w.params,238,{},⟨[]⟩,{},469,os⟩
def S11(w:World)(os:OsState):SharedT:=⟨T11 w.params,315,{},⟨[]⟩,{},566,os⟩
def S12(w:World)(os:OsState):SharedT:=⟨T12 w.params,386,{},⟨[]⟩,{},662,os⟩
def S(w:World)(os:OsState):Shared:=⟨H1 w.params,⟨[]⟩,{},662,os⟩
def E:Env:={ scope:=p.main.scope,locals:=mainNs,globals:=mainNs,cells:=[],code:=(r 13),frame:=some 14 }
abbrev C:Code:=.body (behindTheImports p) E
abbrev B:List Frame:=[topFrame ⟨0,0,0,0⟩]
def l1:List Stmt:=((behindTheImports p).drop 0).take 2
def l2:List Stmt:=((behindTheImports p).drop 2).take 1
def l3:List Stmt:=((behindTheImports p).drop 3).take 1
def l4:List Stmt:=((behindTheImports p).drop 4).take 1
def l5:List Stmt:=((behindTheImports p).drop 5).take 1
def l6:List Stmt:=((behindTheImports p).drop 6).take 1
def l7:List Stmt:=((behindTheImports p).drop 7).take 1
def l8:List Stmt:=((behindTheImports p).drop 8).take 1
def l9:List Stmt:=((behindTheImports p).drop 9).take 8
def l10:List Stmt:=((behindTheImports p).drop 17).take 14
def l11:List Stmt:=((behindTheImports p).drop 31).take 15
def l12:List Stmt:=((behindTheImports p).drop 46).take 12
theorem pre(w:World)(os:OsState):topGo treeTable p w 11 (some (r 6)) 12 ⟨boot_heap w.params,Array.mk [],boot_drawn,boot_toks,os⟩ (topStub p)=some (⟨Ha w.params,⟨[]⟩,{},187,os⟩,⟨denote treeTable C,C,⟨0,0,0,0⟩,B⟩):=goT (by rfl')
theorem blk(w:World)(os:OsState):segRun treeTable p w 11 (some (r 6)) 1 1 ⟨Ha w.params,⟨[]⟩,{},187,os⟩ (blockOf (behindTheImports p) E C ⟨0,0,0,0⟩ B)=some (.next,(S0 w os).abs,C,⟨0,0,0,0⟩):=KZ (by rfl')
theorem p1(w:World)(os:OsState):segRun treeTable p w 11 (some (r 6)) 1 196 (S0 w os).abs (piecesOf l1 E C ⟨0,0,0,0⟩ B)=some (.next,(S1 w os).abs,C,⟨2,0,3,8⟩):=Z3z (oU (by rfl'))
theorem p2(w:World)(os:OsState):segRun treeTable p w 11 (some (r 6)) 1 214 (S1 w os).abs (piecesOf l2 E C ⟨2,0,3,8⟩ B)=some (.next,(S2 w os).abs,C,⟨4,0,5,8⟩):=Z3z (oU (by rfl'))
theorem p3(w:World)(os:OsState):segRun treeTable p w 11 (some (r 6)) 1 214 (S2 w os).abs (piecesOf l3 E C ⟨4,0,5,8⟩ B)=some (.next,(S3 w os).abs,C,⟨6,0,7,8⟩):=Z3z (oU (by rfl'))
theorem p4(w:World)(os:OsState):segRun treeTable p w 11 (some (r 6)) 1 214 (S3 w os).abs (piecesOf l4 E C ⟨6,0,7,8⟩ B)=some (.next,(S4 w os).abs,C,⟨8,0,9,8⟩):=Z3z (oU (by rfl'))
theorem p5(w:World)(os:OsState):segRun treeTable p w 11 (some (r 6)) 1 214 (S4 w os).abs (piecesOf l5 E C ⟨8,0,9,8⟩ B)=some (.next,(S5 w os).abs,C,⟨10,0,11,8⟩):=Z3z (oU (by rfl'))
theorem p6(w:World)(os:OsState):segRun treeTable p w 11 (some (r 6)) 1 214 (S5 w os).abs (piecesOf l6 E C ⟨10,0,11,8⟩ B)=some (.next,(S6 w os).abs,C,⟨12,0,13,8⟩):=Z3z (oU (by rfl'))
theorem p7(w:World)(os:OsState):segRun treeTable p w 11 (some (r 6)) 1 214 (S6 w os).abs (piecesOf l7 E C ⟨12,0,13,8⟩ B)=some (.next,(S7 w os).abs,C,⟨14,0,15,8⟩):=Z3z (oU (by rfl'))
theorem p8(w:World)(os:OsState):segRun treeTable p w 11 (some (r 6)) 1 214 (S7 w os).abs (piecesOf l8 E C ⟨14,0,15,8⟩ B)=some (.next,(S8 w os).abs,C,⟨16,0,17,8⟩):=Z3z (oU (by rfl'))
theorem p9(w:World)(os:OsState):segRun treeTable p w 11 (some (r 6)) 1 378 (S8 w os).abs (piecesOf l9 E C ⟨16,0,17,8⟩ B)=some (.next,(S9 w os).abs,C,⟨32,0,36,15⟩):=Z3z (oU (by rfl'))
theorem p10(w:World)(os:OsState):segRun treeTable p w 11 (some (r 6)) 1 376 (S9 w os).abs (piecesOf l10 E C ⟨32,0,36,15⟩ B)=some (.next,(S10 w os).abs,C,⟨68,0,69,68⟩):=Z3z (oU (by rfl'))
theorem p11(w:World)(os:OsState):segRun treeTable p w 11 (some (r 6)) 1 384 (S10 w os).abs (piecesOf l11 E C ⟨68,0,69,68⟩ B)=some (.next,(S11 w os).abs,C,⟨128,0,134,22⟩):=Z3z (oU (by rfl'))
theorem p12(w:World)(os:OsState):segRun treeTable p w 11 (some (r 6)) 1 340 (S11 w os).abs (piecesOf l12 E C ⟨128,0,134,22⟩ B)=some (.next,(S12 w os).abs,C,⟨191,0,229,93⟩):=Z3z (oU (by rfl'))
theorem fin(w:World)(os:OsState):topRun treeTable p w 11 (some (r 6)) 2 (S12 w os).abs ⟨doneF .next,C,⟨191,0,229,93⟩,B⟩=some (S w os):=Kw (by rfl')
abbrev M:Nat:=(12+(1+(196+(214+(214+(214+(214+(214+(214+(214+(378+(376+(384+(340+2))))))))))))))
theorem lst:behindTheImports p=(l1++(l2++(l3++(l4++(l5++(l6++(l7++(l8++(l9++(l10++(l11++(l12++[])))))))))))):=by rfl'
theorem r12(w:World)(os:OsState):topRun treeTable p w 11 (some (r 6)) 2 (S12 w os).abs (restOf [] E C ⟨191,0,229,93⟩ B)=some (S w os):=fin w os
theorem r11(w:World)(os:OsState):topRun treeTable p w 11 (some (r 6)) (340+2) (S11 w os).abs (restOf (l12++[]) E C ⟨128,0,134,22⟩ B)=some (S w os):=A4z (p12 w os) (r12 w os)
theorem r10(w:World)(os:OsState):topRun treeTable p w 11 (some (r 6)) (384+(340+2)) (S10 w os).abs (restOf (l11++(l12++[])) E C ⟨68,0,69,68⟩ B)=some (S w os):=A4z (p11 w os) (r11 w os)
theorem r9(w:World)(os:OsState):topRun treeTable p w 11 (some (r 6)) (376+(384+(340+2))) (S9 w os).abs (restOf (l10++(l11++(l12++[]))) E C ⟨32,0,36,15⟩ B)=some (S w os):=A4z (p10 w os) (r10 w os)
theorem r8(w:World)(os:OsState):topRun treeTable p w 11 (some (r 6)) (378+(376+(384+(340+2)))) (S8 w os).abs (restOf (l9++(l10++(l11++(l12++[])))) E C ⟨16,0,17,8⟩ B)=some (S w os):=A4z (p9 w os) (r9 w os)
theorem r7(w:World)(os:OsState):topRun treeTable p w 11 (some (r 6)) (214+(378+(376+(384+(340+2))))) (S7 w os).abs (restOf (l8++(l9++(l10++(l11++(l12++[]))))) E C ⟨14,0,15,8⟩ B)=some (S w os):=A4z (p8 w os) (r8 w os)
theorem r6(w:World)(os:OsState):topRun treeTable p w 11 (some (r 6)) (214+(214+(378+(376+(384+(340+2)))))) (S6 w os).abs (restOf (l7++(l8++(l9++(l10++(l11++(l12++[])))))) E C ⟨12,0,13,8⟩ B)=some (S w os):=A4z (p7 w os) (r7 w os)
theorem r5(w:World)(os:OsState):topRun treeTable p w 11 (some (r 6)) (214+(214+(214+(378+(376+(384+(340+2))))))) (S5 w os).abs (restOf (l6++(l7++(l8++(l9++(l10++(l11++(l12++[]))))))) E C ⟨10,0,11,8⟩ B)=some (S w os):=A4z (p6 w os) (r6 w os)
theorem r4(w:World)(os:OsState):topRun treeTable p w 11 (some (r 6)) (214+(214+(214+(214+(378+(376+(384+(340+2)))))))) (S4 w os).abs (restOf (l5++(l6++(l7++(l8++(l9++(l10++(l11++(l12++[])))))))) E C ⟨8,0,9,8⟩ B)=some (S w os):=A4z (p5 w os) (r5 w os)
theorem r3(w:World)(os:OsState):topRun treeTable p w 11 (some (r 6)) (214+(214+(214+(214+(214+(378+(376+(384+(340+2))))))))) (S3 w os).abs (restOf (l4++(l5++(l6++(l7++(l8++(l9++(l10++(l11++(l12++[]))))))))) E C ⟨6,0,7,8⟩ B)=some (S w os):=A4z (p4 w os) (r4 w os)
theorem r2(w:World)(os:OsState):topRun treeTable p w 11 (some (r 6)) (214+(214+(214+(214+(214+(214+(378+(376+(384+(340+2)))))))))) (S2 w os).abs (restOf (l3++(l4++(l5++(l6++(l7++(l8++(l9++(l10++(l11++(l12++[])))))))))) E C ⟨4,0,5,8⟩ B)=some (S w os):=A4z (p3 w os) (r3 w os)
theorem r1(w:World)(os:OsState):topRun treeTable p w 11 (some (r 6)) (214+(214+(214+(214+(214+(214+(214+(378+(376+(384+(340+2))))))))))) (S1 w os).abs (restOf (l2++(l3++(l4++(l5++(l6++(l7++(l8++(l9++(l10++(l11++(l12++[]))))))))))) E C ⟨2,0,3,8⟩ B)=some (S w os):=A4z (p2 w os) (r2 w os)
theorem r0(w:World)(os:OsState):topRun treeTable p w 11 (some (r 6)) (196+(214+(214+(214+(214+(214+(214+(214+(378+(376+(384+(340+2)))))))))))) (S0 w os).abs (restOf (l1++(l2++(l3++(l4++(l5++(l6++(l7++(l8++(l9++(l10++(l11++(l12++[])))))))))))) E C ⟨0,0,0,0⟩ B)=some (S w os):=A4z (p1 w os) (r1 w os)
theorem run(w:World)(os:OsState):topRun treeTable p w 11 (some (r 6)) M ⟨boot_heap w.params,Array.mk [],boot_drawn,boot_toks,os⟩ (topStub p)=some (S w os):=go_top (pre w os) (piece_block (blk w os) (BX lst (r0 w os)))
def K(P:Params):Frag:=[(2,boot_o_2 P),(3,wQ P),(15,o15),(22,y),(23,o23 P),(24,wR),(25,o25),(28,o28),(35,y),(36,o36 P),(37,o37),(40,o40),(47,y),(48,o48 P),(49,o49),(52,o52),(59,y),(60,o60 P),(61,o61),(64,o64),(71,y),(72,o72 P),(73,o73),(76,o76),(83,y),(84,o84 P),(85,o85),(88,o88),(95,y),(96,o96 P),(97,o97),(100,o100),(107,y),(108,HB P),(109,Hz),(112,Hy),(119,y),(120,Hx P),(121,Hw),(124,y),(126,Hv),(127,y),(129,Hu),(130,G9),(131,y),(133,G8),(134,y),(136,G7),(137,G6),(138,y),(140,G5),(141,y),(143,G4),(144,G3),(145,y),(148,GZ),(149,GR),(150,y),(152,GQ),(153,y),(155,GP),(156,GK),(157,y),(160,GJ),(161,GF),(162,y),(164,Gz),(165,y),(167,Gy),(168,Gx),(169,y),(171,Gw),(172,y),(174,Gv),(175,Gu),(176,y),(178,Gs),(179,y),(181,Gq),(182,Gp),(183,y),(185,Gn),(186,y),(188,Gm),(189,Gk),(190,y),(192,Gj),(193,y),(195,Gi),(196,Gh),(197,y),(199,Gg),(200,y),(202,Gf),(203,Ge),(204,y),(206,Gd),(207,y),(209,Gb),(210,Ga),(211,y),(214,FZ),(215,FW),(216,y),(219,FQ),(220,FP),(221,y),(223,FN),(224,y),(226,FJ),(227,Fz),(228,y),(231,Fy),(232,Fx),(233,y),(236,Fw),(237,Fv),(238,y),(241,Ft),(242,Fq),(243,y),(246,Fp),(247,Fj),(248,y),(251,Eu),(252,Et),(253,y),(256,Es),(257,Er),(258,y),(261,Ep),(262,Eo),(263,y),(265,En),(266,y),(268,Em),(269,El),(270,y),(273,Ek),(274,Ej),(275,y),(278,Ei),(279,Eh),(280,y),(282,Ef),(283,y),(285,Ed),(286,Ec),(287,y),(289,Eb),(290,y),(292,Ea),(293,DY),(294,y),(296,DX),(297,y),(299,DW),(300,o300),(301,y),(303,DR),(304,y),(306,DQ),(307,DP),(308,y),(310,DN),(311,y),(313,DK),(314,DG),(315,y),(317,Dz),(318,y),(320,Dy),(321,Dw),(322,y),(325,Dv),(326,Du),(327,y),(329,Dt),(330,y),(332,Ds),(333,Dr),(334,y),(336,Dq),(337,y),(339,Dp),(340,Dn),(341,y),(344,Dm),(345,Dl),(346,y),(348,Dk),(349,y),(351,Dj),(352,Di),(353,y),(355,Dh),(356,y),(358,Dg),(359,Df),(365,y),(367,Dd),(368,y),(370,Dc),(371,CZ),(372,y),(374,CW),(375,y),(377,o377),(378,CV),(379,y),(381,CT),(382,CQ),(384,CP),(385,CN)]
def KT(P:Params):Frag:=K P++[(380,x)]
noncomputable abbrev as:List Addr:=[2,3,15,22,23,24,25,28,35,36,37,40,47,48,49,52,59,60,61,64,71,72,73,76,83,84,85,88,95,96,97,100,107,108,109,112,119,120,121,124,126,127,129,130,131,133,134,136,137,138,140,141,143,144,145,148,149,150,152,153,155,156,157,160,161,162,164,165,167,168,169,171,172,174,175,176,178,179,181,182,183,185,186,188,189,190,192,193,195,196,197,199,200,202,203,204,206,207,209,210,211,214,215,216,219,220,221,223,224,226,227,228,231,232,233,236,237,238,241,242,243,246,247,248,251,252,253,256,257,258,261,262,263,265,266,268,269,270,273,274,275,278,279,280,282,283,285,286,287,289,290,292,293,294,296,297,299,300,301,303,304,306,307,308,310,311,313,314,315,317,318,320,321,322,325,326,327,329,330,332,333,334,336,337,339,340,341,344,345,346,348,349,351,352,353,355,356,358,359,365,367,368,370,371,372,374,375,377,378,379,381,382,384,385,380]
abbrev m0:Nat:=11
abbrev tk:Nat:=662
abbrev ann:Option Value:=(some (r 6))
def Xt(s:Shared):Bool:=xlAt q [] s&&recOk PySem.Challenge.rw_minortables_k06_put_together_refused.row.toRowW.records s
theorem lk0(w:World)(os:OsState):(staticsOk (importedModules p.main.body) (boot_heap w.params) (H1 w.params)&&namesBound p (H1 w.params)&&gensDone (S w os)&&laidKept (boot_heap w.params) (H1 w.params))=true:=by
 rw[Fast.te5923862056798008813];rfl'
theorem lk1(w:World)(os:OsState):PyProof.Rows.seen ((PyProof.Rows.recsOf q).map (·.name)) (PyProof.Rows.ownsOf q) [] { S w os with gens := #[] }=PyProof.Rows.expectedOf q:=by
 rw[Fast.te5160383126252970620,Fast.te3399658132070893891,Fast.te5991557255702980513];rfl'
theorem lk2(w:World)(os:OsState):(S w os).heap.bltView=bltViewBooted:=by rfl'
theorem lk3(w:World)(os:OsState):((S w os).heap.keysOk (looseW q lo) ((PyProof.Rows.recsOf q).map (·.name)) ((PyProof.Rows.litsOf q).map (·.1)) ((PyProof.Rows.clssOf q (looseW q lo)).map (·.name))&&(S w os).heap.accountedOkI (importedModules p.main.body)&&(S w os).heap.isNs mainGlobals&&(S w os).heap.isNs builtinsNs&&PyProof.Rows.tablesOk q (S w os).heap&&Xt (S w os)&&(if true then(S w os).gens.size==0 else !leftWithCleanup (S w os).gens))=true:=by
 rw[Fast.te10880121769531294198,Fast.te821141287760084731,Fast.te3399658132070893891,Fast.te7409074990110511671,Fast.te13664370479719496447,Fast.te14722251495701143533,Fast.te5923862056798008813];rfl'
theorem lk4(w:World)(os:OsState):PyProof.Rows.tabsOk q (S w os)=true:=by rw[Fast.te479339242167458305];rfl'
theorem lk5(w:World)(os:OsState):pinSeenD q (PyProof.Rows.drecsOf q) (S w os)=pinGoodD (PyProof.Rows.drecsOf q):=by rw[Fast.te16090120013241838585,Fast.te3247288618530077131];rfl'
theorem lk6(w:World)(os:OsState):PyProof.Rows.plainSeenE q (looseW q lo) (S w os)=PyProof.Rows.plainGoodE q (looseW q lo):=by rw[Fast.te2386780881361962483,Fast.te821141287760084731];rfl'
theorem lk7(w:World)(os:OsState):PyProof.Rows.plainSeenD q lo (S w os)=PyProof.Rows.plainGoodD q lo:=by rw[Fast.te11698064438423848299];rfl'
theorem lk8(w:World)(os:OsState):wideSeen q (S w os)=wideGood q:=by rw[Fast.te7317090234206586261];rfl'
theorem lk9(w:World)(os:OsState):clsSeenW q lo (S w os)=clsGoodW q lo:=by rw[Fast.te7369524293546568484];rfl'
theorem asK(P:Params):as=(KT P).map (·.1):=by rfl'
abbrev H:Hook:=kHook KT as asK
theorem lkY(w:World)(os:OsState):H.obs (S w os)=H.val w:=by rfl'
theorem looks(w:World):(fun os=>((staticsOk (importedModules p.main.body) (boot_heap w.params) (H1 w.params)&&namesBound p (H1 w.params)&&gensDone (S w os)&&laidKept (boot_heap w.params) (H1 w.params)),openSeen q lo (importedModules p.main.body) Xt true (S w os),H.obs (S w os)))=fun _=>(true,openGood q lo,H.val w) :=
 funext fun os=>Y3z (lk0 w os) (Y3z (Y3z (lk1 w os) (Y3z (lk2 w os) (Y3z (lk3 w os) (Y3z (lk4 w os) (Y3z (lk5 w os) (Y3z (lk6 w os) (Y3z (lk7 w os) (Y3z (lk8 w os) (lk9 w os))))))))) (lkY w os))
theorem size(w:World):((boot_heap w.params).isNs mainGlobals&&(Array.mk ([]:List GenState)).size==0,(boot_heap w.params).objs.size,(boot_heap w.params).nsMap mainGlobals "__annotations__")=(true,m0,ann):=by
 rw[Fast.te8920871248978507458];rfl'
theorem bt(w:World):(fencedOpening treeTable p w N).map (fun s=>(s.heap,s.gens,s.drawn,s.toks))=some (boot_heap w.params,Array.mk [],boot_drawn,boot_toks) :=
 boot_open (p:=p) (N:=N) (by rfl') (by rfl') (fun _=>rfl) w
theorem left:LeftO p q lo Xt H.obs H.val N :=
 LeftO.of_pieces (H₀:=boot_heap) (H₁:=H1) (m₀:=m0) (ann:=ann) (M:=M) (gs₀:=Array.mk []) (gs₁:=⟨[]⟩) (d₀:=boot_drawn) (d₁:={}) (k₀:=boot_toks) (k₁:=tk) bt size run (by rfl') looks
abbrev R:OpenLaw:=PySem.Challenge.rw_minortables_k06_put_together_refused
theorem said:R.wellSaid=true:=by rw[Fast.te9446332074065402090];rfl'
def dr:DefRec:=match d 57 with | .FunctionDef n a l _ _ _ sc _ _ o=>⟨n,a,l,sc,o⟩ | _=>⟨"",default,[],default,⟨0,0,0,0⟩⟩
theorem hdef:defOf q R.row.name=some (dr,[]):=by rfl'
theorem hthe:R.row.prog.theDef R.row.name=some (dr.params,dr.body,dr.scope):=by rfl'
theorem hkw:kwWritten? dr.params.kwonlyargs dr.params.kw_defaults=some []:=by rfl'
theorem hok:(chainsOk q&&opensWell R.row.prog&&(frees R.row.toRowW&&R.row.within.isEmpty))=true:=by rfl'
theorem hbare:R.row.prog.bare:=⟨rfl,rfl,rfl,rfl,rfl,by rfl'⟩
theorem Lx:R.row.toRowW.promised:=⟨[.list []],by rfl',by rfl'⟩
theorem holds(call:WalkO q lo (XL q []) H.says R.row.toRowW dr [] fun f vs=>PySem.call f vs):R.Holds :=
 holds_law said fun k1=>holds_open (r:=R.row) (q:=q) (loose:=lo) (Xt:=Xt) (XP:=XL q []) (Yf:=H.obs) (Ya:=H.val) (YP:=H.says) (N:=N) left H.of H.keeps (fun s e=>xl_of s (Bool.and_eq_true_iff.mp e).1) XL.keeps hdef hthe hkw (fun s e=>recFacts_of (Bool.and_eq_true_iff.mp e).2) rfl k1 hok hbare Lx call
end H06
end
namespace M06
open PySem PySem.W L2 DE
set_option maxHeartbeats 0 in
theorem txt(w:World){mg:Str->Option Value}{h:Heap}(X:(H06.K w.params).In h)(G:h.Ns mainGlobals mg):Text w (H06.K w.params) mg T :=
  ⟨in_of (l:=cs) (Q:=fun(x:Str) (d:D)=>∃ v u,(∀ H',Rep (H06.K w.params) H' d v)/\mg x=some u/\RelV v u) (aC (cA X G 337 (by rfl')) (aN)),
    in_of (l:=bl) (Q:=fun x b=>mg x=none/\x=Str.ofString b) (aC (bA X G (by rfl') rfl) (aC (bA X G (by rfl') rfl) (aC (bA X G (by rfl') rfl) (aC (bA X G (by rfl') rfl) (aC (bA X G (by rfl') rfl) (aC (bA X G (by rfl') rfl) (aC (bA X G (by rfl') rfl) (aC (bA X G (by rfl') rfl) (aC (bA X G (by rfl') rfl) (aC (bA X G (by rfl') rfl) (aC (bA X G (by rfl') rfl) (aC (bA X G (by rfl') rfl) (aN))))))))))))),
    in_of (l:=df) (Q:=fun x fd=>FunAt (H06.K w.params) mg x fd) (
     aC (aM X G 130 .none (.str "minortables.checks" 335) (.ref 129) b12 (by rfl') (by rfl') (by rfl')) (
     aC (aM X G 137 .none (.str "minortables.checks" 335) (.ref 136) b13 (by rfl') (by rfl') (by rfl')) (
     aC (aM X G 144 .none (.str "minortables.checks" 335) (.ref 143) b14 (by rfl') (by rfl') (by rfl')) (
     aC (aM X G 149 .none (.str "minortables.checks" 335) (.ref 148) b15 (by rfl') (by rfl') (by rfl')) (
     aC (aM X G 156 .none (.str "minortables.checks" 335) (.ref 155) b16 (by rfl') (by rfl') (by rfl')) (
     aC (aM X G 161 .none (.str "minortables.checks" 335) (.ref 160) b17 (by rfl') (by rfl') (by rfl')) (
     aC (aM X G 168 .none (.str "minortables.checks" 335) (.ref 167) b18 (by rfl') (by rfl') (by rfl')) (
     aC (aM X G 175 .none (.str "minortables.checks" 335) (.ref 174) b19 (by rfl') (by rfl') (by rfl')) (
     aC (aM X G 182 .none (.str "minortables.checks" 335) (.ref 181) b20 (by rfl') (by rfl') (by rfl')) (
     aC (aM X G 189 .none (.str "minortables.checks" 335) (.ref 188) b21 (by rfl') (by rfl') (by rfl')) (
     aC (aM X G 196 .none (.str "minortables.checks" 335) (.ref 195) b22 (by rfl') (by rfl') (by rfl')) (
     aC (aM X G 203 .none (.str "minortables.checks" 335) (.ref 202) b23 (by rfl') (by rfl') (by rfl')) (
     aC (aM X G 210 .none (.str "minortables.checks" 335) (.ref 209) b24 (by rfl') (by rfl') (by rfl')) (
     aC (aM X G 215 .none (.str "minortables.tables" 436) (.ref 214) b26 (by rfl') (by rfl') (by rfl')) (
     aC (aM X G 220 .none (.str "minortables.tables" 436) (.ref 219) b27 (by rfl') (by rfl') (by rfl')) (
     aC (aM X G 227 .none (.str "minortables.tables" 436) (.ref 226) b28 (by rfl') (by rfl') (by rfl')) (
     aC (aM X G 232 .none (.str "minortables.tables" 436) (.ref 231) b29 (by rfl') (by rfl') (by rfl')) (
     aC (aM X G 237 .none (.str "minortables.tables" 436) (.ref 236) b30 (by rfl') (by rfl') (by rfl')) (
     aC (aM X G 242 .none (.str "minortables.tables" 436) (.ref 241) b31 (by rfl') (by rfl') (by rfl')) (
     aC (aM X G 247 .none (.str "minortables.tables" 436) (.ref 246) b32 (by rfl') (by rfl') (by rfl')) (
     aC (aM X G 252 .none (.str "minortables.tables" 436) (.ref 251) b33 (by rfl') (by rfl') (by rfl')) (
     aC (aM X G 257 .none (.str "minortables.tables" 436) (.ref 256) b34 (by rfl') (by rfl') (by rfl')) (
     aC (aM X G 262 .none (.str "minortables.measuring" 493) (.ref 261) b36 (by rfl') (by rfl') (by rfl')) (
     aC (aM X G 269 .none (.str "minortables.measuring" 493) (.ref 268) b37 (by rfl') (by rfl') (by rfl')) (
     aC (aM X G 274 .none (.str "minortables.measuring" 493) (.ref 273) b38 (by rfl') (by rfl') (by rfl')) (
     aC (aM X G 279 .none (.str "minortables.measuring" 493) (.ref 278) b39 (by rfl') (by rfl') (by rfl')) (
     aC (aM X G 286 .none (.str "minortables.measuring" 493) (.ref 285) b40 (by rfl') (by rfl') (by rfl')) (
     aC (aM X G 293 .none (.str "minortables.measuring" 493) (.ref 292) b41 (by rfl') (by rfl') (by rfl')) (
     aC (aM X G 300 .none (.str "minortables.measuring" 493) (.ref 299) b42 (by rfl') (by rfl') (by rfl')) (
     aC (aM X G 307 .none (.str "minortables.measuring" 493) (.ref 306) b43 (by rfl') (by rfl') (by rfl')) (
     aC (aM X G 314 .none (.str "minortables.joining" 556) (.ref 313) b45 (by rfl') (by rfl') (by rfl')) (
     aC (aM X G 321 .none (.str "minortables.joining" 556) (.ref 320) b46 (by rfl') (by rfl') (by rfl')) (
     aC (aM X G 326 .none (.str "minortables.joining" 556) (.ref 325) b47 (by rfl') (by rfl') (by rfl')) (
     aC (aM X G 333 .none (.str "minortables.joining" 556) (.ref 332) b48 (by rfl') (by rfl') (by rfl')) (
     aC (aM X G 340 .none (.str "minortables.joining" 556) (.ref 339) b49 (by rfl') (by rfl') (by rfl')) (
     aC (aM X G 345 .none (.str "minortables.joining" 556) (.ref 344) b50 (by rfl') (by rfl') (by rfl')) (
     aC (aM X G 352 .none (.str "law_minortables_k06_put_together_refused" 605) (.ref 351) b52 (by rfl') (by rfl') (by rfl')) (
     aC (aM X G 359 .none (.str "law_minortables_k06_put_together_refused" 605) (.ref 358) b53 (by rfl') (by rfl') (by rfl')) (
     aC (aM X G 371 .none (.str "law_minortables_k06_put_together_refused" 605) (.ref 370) b55 (by rfl') (by rfl') (by rfl')) (
     aC (aM X G 378 .none (.str "law_minortables_k06_put_together_refused" 605) (.ref 377) b56 (by rfl') (by rfl') (by rfl')) (
     aC (aM X G 385 .none (.str "law_minortables_k06_put_together_refused" 605) (.ref 384) b57 (by rfl') (by rfl') (by rfl')) (
     aN)))))))))))))))))))))))))))))))))))))))))),XText.of (fun x v h=>G3z X G h) (by rfl'),by show List.map _ _=List.map _ _;rfl'⟩
end M06
namespace H06
open PySem PySem.W
theorem HD(P:Params):(K P).lookup 380=none:=by rfl'
theorem inT{P:Params}{h:Heap}(X:(KT P).In h):(K P).In h/\h.get? 380=some (tabObj #[]):=by
 refine⟨fun b o e=>X b o ?_,X 380 _ ?_⟩
 ·unfold KT
  rw[List.lookup_append,e];rfl
 ·unfold KT
  rw[List.lookup_append,HD];rfl
end H06
open PySem PySem.W PyProof.Rows
set_option maxRecDepth 100000 in
set_option maxHeartbeats 0 in
theorem PySem.Challenge.cw_minortables_k06_put_together_refused_holds : PySem.Challenge.rw_minortables_k06_put_together_refused.Holds :=
 H06.holds (L2.walkL (l := PySem.Challenge.rw_minortables_k06_put_together_refused) (k := 40) (K := H06.K) (x := "_law_script") (c := 384) (Pt := 380) rfl (by rfl') ⟨rfl, by decide, by decide⟩ (fun w h Y => H06.inT (PySem.W.kIn_of (e := H06.asK) Y)) (fun P => by rfl') (fun P => by rfl') fun w mg fa h KX G hmg => M06.finL (M06.txt w KX G) KX G hmg 385 384 380 .none (.str "law_minortables_k06_put_together_refused" 605) (by rfl') (by rfl') (by rfl'))
#print axioms PySem.Challenge.cw_minortables_k06_put_together_refused_holds
