import PyProof.Rows.All
import Wide.All
import OpenK.AllK
import Wide.FinOn
import Lean
import PyProof.EqAt
import PyProof.EqKinds
import PyProof.TupleCall
import PyProof.ListRange
import PySem.Names
import PySem.Builtin.Str.Common
import PyProof.Rows.TmSorted
import PyProof.NeKinds
import PyProof.AttrMiss
import PyProof.FactsAll.list
import KE.KDictOf
import KE.KEqDict
import KE.KItemsList
import PyProof.DictItems
import PyProof.DictStraight
import PyProof.DictWalks
import PySem.Challenge.RW_minortables_k82_whole_cases_back
set_option Elab.async false
set_option linter.all false
set_option maxRecDepth 100000
noncomputable section
namespace Zz
abbrev Zf:=PySem.W.Frag
open PySem
def A0z:=@PyProof.Rows.callWith_type1
def B0z:=@PySem.W.Fast.te14364793385576792824
def C0z:=@PySem.F.args_tuple_add_2
def D0z:=@PySem.F.slot_list_append
def E0z:=@PySem.F.type_list_append
def F0z:=@PySem.F.entry_tuple_add
def G0z:=@PySem.F.plainAttrs_dict
def H0z:=@PySem.F.plainAttrs_list
def I0z:=@List.filter_cons_of_neg
def J0z:=@List.filter_cons_of_pos
def K0z:=@decide_eq_false_iff_not
def L0z:=@PySem.W.cellsFrom_some
def M0z:=@PySem.F.slot_tuple_add
def N0z:=@PySem.Calls.callWith_builtin
def O0z:=@Option.map_eq_some_iff
def P0z:=@List.mem_append_right
def Q0z:=@PySem.builtinLookup_eq_fast
def R0z:=@PySem.F.slot_dict_get
def S0z:=@PySem.F.typeOf_object_class
def T0z:=@Bool.and_eq_false_iff
def U0z:=@List.mem_cons_of_mem
def V0z:=@List.mem_append_left
def W0z:=@PySem.W.looks_findIn
def X0z:=@PySem.Calls.evalArgs_plain
def Y0z:=@PySem.Around.under_plainId
def Z0z:=@PySem.W.hideAll_get
def A1z:=@List.filterMap_cons
def B1z:=@Array.length_toList
def C1z:=@PySem.W.plainGet_of
def D1z:=@PySem.mem_of_lookup
def E1z:=@beq_eq_false_iff_ne
def F1z:=@List.length_reverse
def G1z:=@List.toList_toArray
def H1z:=@List.map_congr_left
def I1z:=@Nat.lt_of_lt_of_le
def J1z:=@PySem.W.of_hideAll
def K1z:=@List.mem_cons_self
def L1z:=@PySem.wpAny_pyIter_tuple
def M1z:=@Bool.false_ne_true
def N1z:=@PySem.Calls.spliced_cons
def O1z:=@PySem.wpAny_Call_Name_kw
def P1z:=@PySem.W.callWith_K
def Q1z:=@List.length_append
def R1z:=@Nat.lt_of_le_of_lt
def S1z:=@Bool.false_eq_true
def T1z:=@PySem.wpAny_setField_rec
def U1z:=@PySem.tupleKind_room_in1
def V1z:=@List.zip_cons_cons
def W1z:=@PySem.W.kitx_tuple
def X1z:=@decide_eq_true_iff
def Y1z:=@of_decide_eq_false
def Z1z:=@List.mem_singleton
def A2z:=@PySem.wpAny_truthy_bool
def B2z:=@PySem.wpAny_newObj_type
def C2z:=@PySem.Calls.spliced_nil
def D2z:=@List.size_toArray
def E2z:=@List.reverse_cons
def F2z:=@Nat.lt_succ_of_lt
def G2z:=@Nat.le_of_succ_le
def H2z:=@Option.isSome_map
def I2z:=@Bool.not_eq_true'
def J2z:=@decide_eq_true_eq
def K2z:=@Option.some.injEq
def L2z:=@of_decide_eq_true
def M2z:=@PySem.W.kitx_bool
def N2z:=@PySem.W.kitx_list
def O2z:=@List.append_assoc
def P2z:=@List.length_cons
def Q2z:=@Nat.lt_succ_self
def R2z:=@List.length_take
def S2z:=@List.lookup_cons
def T2z:=@beq_self_eq_true
def U2z:=@PySem.wpAny_call_entry
def V2z:=@PySem.entryFor_of_tree
def W2z:=@Nat.le_add_right
def X2z:=@List.filter_cons
def Y2z:=@Bool.and_eq_true
def Z2z:=@List.range'_succ
def A3z:=@List.not_mem_nil
def B3z:=@Option.bind_some
def C3z:=@PySem.W.kitx_int
def D3z:=@PySem.W.kitx_str
def E3z:=@List.all_eq_true
def F3z:=@decide_eq_false
def G3z:=@Option.some.inj
def H3z:=@PySem.wpAny_passesOwn
def I3z:=@List.length_map
def J3z:=@List.append_nil
def K3z:=@List.of_mem_zip
def L3z:=@List.nodup_cons
def M3z:=@Option.map_some
def N3z:=@PySem.pushCells_keeps
def O3z:=@PySem.typeLookup_type
def P3z:=@PySem.wpAny_specialOf
def Q3z:=@PySem.codeAny_builtin
def R3z:=@Bool.or_eq_true
def S3z:=@List.map_append
def T3z:=@PySem.W.kia_one
def U3z:=@List.length_zip
def V3z:=@List.length_set
def W3z:=@Int.emod_nonneg
def X3z:=@PySem.Heap.size_push
def Y3z:=@decide_eq_true
def Z3z:=@PySem.wpAny_seqItems
def A4z:=@PySem.isSubtype_type
def B4z:=@Bool.and_false
def C4z:=@Nat.lt_irrefl
def D4z:=@PySem.wpAny_standAt
def E4z:=@List.map_cons
def F4z:=@PySem.wpAny_attempt
def G4z:=@PySem.plainId_quiet
def H4z:=@PySem.wpAny_holding
def I4z:=@List.any_cons
def J4z:=@Bool.and_self
def K4z:=@List.all_cons
def L4z:=@List.mem_cons
def M4z:=@PySem.W.mg_of
def N4z:=@PySem.Heap.lt_size
def O4z:=@Nat.ne_of_lt
def P4z:=@Nat.le_trans
def Q4z:=@Nat.le_of_lt
def R4z:=@Nat.ne_of_gt
def S4z:=@PySem.codeAny_mono
def T4z:=@List.map_nil
def U4z:=@PySem.wpAny_typeOf
def V4z:=@List.map_map
def W4z:=@Sum.inr.inj
def X4z:=@Nat.le_refl
def Y4z:=@PySem.sizeLine_eq
def Z4z:=@Nat.zero_le
def A5z:=@PySem.wpAny_field
def B5z:=@PySem.wpAny_of_eq
def C5z:=@List.map_id
def D5z:=@PySem.wpAny_mono
def E5z:=@PySem.wpAny_bind
def F5z:=@PySem.wpAny_pure
def G5z:=@PySem.wpAny_rule
def H5z:=@PySem.call_meets
def I5z:=@bne_iff_ne
def J5z:=@PySem.W.looks_pair
def K5z:=@PySem.W.segRun_of
def L5z:=@PySem.W.piece_app
def M5z:=@if_false
def N5z:=@Ne.symm
def O5z:=@if_true
def P5z:=@if_pos
def Q5z:=@if_neg
end Zz
open Zz
local macro_rules|`(tactic|rfl')=>`(tactic|kernel_rfl)
namespace L2
open PySem PySem.Spec PyProof.Rows
abbrev Key:=Sum Int Str
def sY:Key->Value->Bool
 | .inl k,v=>Value.isInt k v
 | .inr x,v=>Value.isStrOf x v
def Wz(w:World):Key->Int
 | .inl k=>hashInt k
 | .inr x=>hashStr w x
theorem bK:∀{k:Key}{v:Value},sY k v=true->(∃i t,k=Sum.inl i/\v=Value.int i t)\/(∃x t,k=Sum.inr x/\v=Value.str x t)
 | .inl i,v,h=>by
  obtain⟨t,e⟩:=Value.isInt_shape (k:=i) (v:=v) h;exact .inl ⟨i,t,rfl,e⟩
 | .inr x,v,h=>by
  obtain⟨t,e⟩:=Value.isStrOf_shape (x:=x) (v:=v) h;exact .inr ⟨x,t,rfl,e⟩
theorem zX(i:Int)(t:Tok):sY (.inl i) (.int i t)=true:=by simp[sY,Value.isInt]
theorem zW(x:Str)(t:Tok):sY (.inr x) (.str x t)=true:=by simp[sY,Value.isStrOf]
theorem Qc(a b:Int):decide ((Sum.inl a:Key)=Sum.inl b)=(a==b):=by
 by_cases e:a=b
 .subst e;simp
 .have h:¬ (Sum.inl a:Key)=Sum.inl b:=λq=>e (Sum.inl.inj q)
  rw[F3z h];exact(E1z.mpr e).symm
theorem PX(a b:Str):decide ((Sum.inr a:Key)=Sum.inr b)=decide (a=b):=by
 by_cases e:a=b
 .subst e;simp
 .have h:¬ (Sum.inr a:Key)=Sum.inr b:=λq=>e (W4z q)
  rw[F3z h,F3z e]
theorem Qa(a:Int)(b:Str):decide ((Sum.inl a:Key)=Sum.inr b)=false:=F3z (λq=>nomatch q)
theorem P0(a:Str)(b:Int):decide ((Sum.inr a:Key)=Sum.inl b)=false:=F3z (λq=>nomatch q)
def aR(prog:Program)(w:World):PySem.KeyKind prog w Key where
 is:=sY
 hash:=Wz w
 inj:=λv a b ha hb=>by
  rcases bK ha with⟨i,t,rfl,rfl⟩ | ⟨x,t,rfl,rfl⟩
  .rcases bK hb with⟨j,u,rfl,e⟩ | ⟨y,u,rfl,e⟩
   .injection e with e1 _;rw[e1]
   .exact nomatch e
  .rcases bK hb with⟨j,u,rfl,e⟩ | ⟨y,u,rfl,e⟩
   .exact nomatch e
   .injection e with e1 _;rw[e1]
 byValue:=λk v h=>by
  rcases bK h with⟨i,t,rfl,rfl⟩ | ⟨x,t,rfl,rfl⟩<;>rfl
 pyHash:=λhv h=>by
  rcases bK hv with⟨i,t,rfl,rfl⟩ | ⟨x,t,rfl,rfl⟩
  .exact wpAny_pyHash_int h
  .exact wpAny_pyHash_str h
 eqBool:=λhu hv h=>by
  rcases bK hu with⟨i,t,rfl,rfl⟩ | ⟨x,t,rfl,rfl⟩
  .rcases bK hv with⟨j,u,rfl,rfl⟩ | ⟨y,u,rfl,rfl⟩
   .rw[Qc] at h;exact wpAny_eqBool_int h
   .rw[Qa] at h;exact SeqAt.EqAt.int_str i t y u _ _ _ _ h
  .rcases bK hv with⟨j,u,rfl,rfl⟩ | ⟨y,u,rfl,rfl⟩
   .rw[P0] at h;exact SeqAt.EqAt.str_int x t j u _ _ _ _ h
   .rw[PX] at h;exact wpAny_eqBool_str h
 «strs» :=λk x t v h=>by
  rcases bK h with⟨i,u,rfl,e⟩ | ⟨y,u,rfl,e⟩
  .exact nomatch e
  .injection e with e1 _
   subst e1
   cases v<;>rfl
theorem mW(prog:Program)(w:World)(k:Key)(v:Value):(aR prog w).is k v=sY k v:=rfl
theorem sU(prog:Program)(w:World)(i:Int)(t:Tok):(aR prog w).is (.inl i) (.int i t)=true:=zX i t
theorem sS(prog:Program)(w:World)(x:Str)(t:Tok):(aR prog w).is (.inr x) (.str x t)=true:=zW x t
inductive V where
 | non | bl (b:Bool) | int (i:Int) | str (x:Str) | byt (b:Array UInt8) | flt (b:UInt64) | ref (a:Addr) | ty (n:String)
 deriving DecidableEq
def RelV:V->Value->Prop
 | .non,u=>u=Value.none
 | .bl b,u=>u=Value.bool b
 | .int i,u=>∃t,u=Value.int i t
 | .str x,u=>∃t,u=Value.str x t
 | .byt b,u=>∃t,u=Value.bytes b t
 | .flt b,u=>∃t,u=Value.float b t
 | .ref a,u=>u=Value.ref a
 | .ty n,u=>u=Value.type n
abbrev Vals:List V->List Value->Prop:=Paired RelV
theorem Vals.length{xs:List V}{us:List Value}(r:Vals xs us):xs.length=us.length:=Paired.length r
theorem Vals.get:∀{xs:List V}{us:List Value}{i:Nat}{x:V},Vals xs us->xs[i]?=some x->∃u,us[i]?=some u/\RelV x u
 | _,_,_,_,.nil,e=>by simp at e
 | _,_,0,_,.cons r _,e=>by simp at e;subst e;exact⟨_,rfl,r⟩
 | _,_,i+1,x,.cons _ t,e=>by
  obtain⟨u,h1,h2⟩:=Vals.get (i:=i) (x:=x) t (by simpa using e);exact⟨u,by simpa using h1,h2⟩
theorem Vals.append:∀{xs ys:List V}{us ws:List Value},Vals xs us->Vals ys ws->Vals (xs++ys) (us++ws)
 | _,_,_,_,.nil,s=>s
 | _,_,_,_,.cons r t,s=>.cons r (Vals.append t s)
theorem Vals.take:∀{xs:List V}{us:List Value}(n:Nat),Vals xs us->Vals (xs.take n) (us.take n)
 | _,_,0,_=>.nil
 | _,_,_+1,.nil=>.nil
 | _,_,n+1,.cons r t=>.cons r (Vals.take n t)
theorem Vals.drop:∀{xs:List V}{us:List Value}(n:Nat),Vals xs us->Vals (xs.drop n) (us.drop n)
 | _,_,0,r=>r
 | _,_,_+1,.nil=>.nil
 | _,_,n+1,.cons _ t=>Vals.drop n t
def nA:Option V->Option Value->Prop
 | some v,some u=>RelV v u
 | none,none=>True
 | _,_=>False
def KV{κ:Type}:List (κ×V)->List (κ×Value)->Prop:=Paired λ(p:κ×V)(q:κ×Value)=>p.1=q.1/\RelV p.2 q.2
def kV:Key->V
 | .inl i=>.int i
 | .inr x=>.str x
inductive HO where
 | lst (xs:List V)
 | tup (xs:List V)
 | dK (kvs:List (Key×V)) | dT (kvs:List (List Key×V))
 | set (S:Int->Bool) (n:Nat)
 | ins (C dx:Addr) (fs:List (Str×V))
 | own (x:Addr)
 | xd (fs:List (Str×V))
 | met (f x:Addr)
 | rng (lo hi:Int)
 | frz (o:Obj) (u:HO)
 | tbl (ps:Array Value)
 | ext (φ:Heap->Prop)
noncomputable abbrev Hp:=Addr->Option HO
def upd(H:Hp)(a:Addr)(o:HO):Hp:=λb=>if b=a then some o else H b
theorem aB{H:Hp}{a:Addr}{o:HO}:upd H a o a=some o:=by unfold upd;rw[P5z rfl]
theorem aj{H:Hp}{a b:Addr}{o:HO}(h:b≠a):upd H a o b=H b:=by unfold upd;rw[Q5z h]
theorem oG{H:Hp}{a b:Addr}{o u:HO}(h:H a=some o)(h':H b=some u)(d:o≠u):a≠b:=by
 intro e;subst e;rw[h] at h';exact d (G3z h')
theorem ak{H:Hp}{a b:Addr}{o:HO}(h:H a=some o)(h':H b=none):a≠b:=by
 intro e;subst e;rw[h] at h';cases h'
section
variable(P:Program)(w:World)
def cQ(H:Hp)(h:Heap)(a:Addr):HO->Prop
 | .lst xs=>xs.length<=sizeLine/\∃(its:List Value)(n:Nat),Vals xs its/\h.get? a=some {cls:=.type "list",data:=.seq its.toArray n}
 | .tup xs=>xs.length<=sizeLine/\∃its:List Value,Vals xs its/\IsTup h a its.toArray
 | .dK kvs=>kvs.length<=sizeLine/\(a==sysModules)=false/\∃vs,KV kvs vs/\h.DictOf (aR P w) a vs
 | .dT kvs=>kvs.length<=sizeLine/\(a==sysModules)=false/\∃xs:List (List Key×Addr×Value),
   Paired (λ(p:List Key×V)(q:List Key×Addr×Value)=>p.1=q.1/\H q.2.1=some (.tup (p.1.map kV))/\RelV p.2 q.2.2) kvs xs /\
   ∃o es ep,h.get? a=some o/\o.ExactDict/\o.data=.dict es ep/\es.toList=xs.map (entryOfKey (tupleKind (aR P w)))/\(xs.map (·.1)).Nodup
 | .set S n=>h.SetOf (intKind P w) a S n
 | .ins C dx fs=>H dx=some (.own a)/\fs.length<=1000/\dx≠a/\h.get? a=some (W.instObj C dx) /\
   ∃mA,h.Ns1 dx mA/\(∀f,nA (fs.lookup f) (mA f))/\PySem.Within mA (fs.map (·.1))
 | .own _=>∃o,h.get? a=some o
 | .xd fs=>∃mA,h.Ns1 a mA/\∀f,nA (fs.lookup f) (mA f)
 | .rng lo hi=>∃t u v,h.get? a=some {cls:=.type "range",data:=.fields #[.int lo t,.int hi u,.int 1 v]}
 | .frz o u=>h.get? a=some o/\cQ H h a u
 | .tbl ps=>h.get? a=some {cls:=.none,data:=.fields ps}
 | .met f x=>h.get? a=some (W.methodObj (.ref f) (.ref x))
 | .ext φ=>φ h/\(∃o,h.get? a=some o)/\∀h1 h2:Heap,φ h1->(∀o,h1.get? a=some o->h2.get? a=some o)->φ h2
def HOk(H:Hp)(h:Heap):Prop:=∀a o,H a=some o->cQ P w H h a o
end
section
variable{P:Program}{w:World}{H H':Hp}{h h':Heap}{a:Addr}{o:HO}
theorem cQ.lt(x:cQ P w H h a o):a<h.objs.size:=by
 cases o with
 | lst xs=>obtain⟨_,_,_,_,e⟩:=x;exact N4z e
 | tup xs=>obtain⟨_,_,_,p⟩:=x;exact p.lt
 | dK kvs=>obtain⟨_,_,_,_,o,_,_,e,_⟩:=x;exact N4z e
 | dT kvs=>obtain⟨_,_,_,_,o,_,_,e,_⟩:=x;exact N4z e
 | set S n=>obtain⟨o,_,_,_,e,_⟩:=x;exact N4z e
 | ins C dx fs=>obtain⟨_,_,_,e,_⟩:=x;exact N4z e
 | own y=>obtain⟨_,e⟩:=x;exact N4z e
 | xd fs=>obtain⟨_,⟨_,_,_,e,_⟩,_⟩:=x;exact N4z e
 | rng lo hi=>obtain⟨_,_,_,e⟩:=x;exact N4z e
 | frz ob u=>obtain⟨e,_⟩:=x;exact N4z e
 | tbl ps=>exact N4z (show h.get? a=some _ from x)
 | met f y=>exact N4z (show h.get? a=some _ from x)
 | ext φ=>obtain⟨_,⟨_,e⟩,_⟩:=x;exact N4z e
theorem Paired.mapP{α β:Type}{F G:α->β->Prop}:∀{l₁:List α}{l₂:List β},Paired F l₁ l₂->(∀a b,F a b->G a b)->Paired G l₁ l₂
 | _,_,.nil,_=>.nil
 | _,_,.cons r t,f=>.cons (f _ _ r) (Paired.mapP t f)
theorem cQ.stay(x:cQ P w H h a o)(k:∀b u,(b=a\/H b=some (.own a))->h.get? b=some u->h'.get? b=some u)
  (ho:∀b,H b=some (.own a)->H' b=some (.own a)) (ht:∀b xs,H b=some (.tup xs)->H' b=some (.tup xs)):cQ P w H' h' a o:=by
 induction o with
 | lst xs=>obtain⟨z,its,n,r,e⟩:=x;exact⟨z,its,n,r,k _ _ (.inl rfl) e⟩
 | tup xs=>obtain⟨z,its,r,ob,e,c⟩:=x;exact⟨z,its,r,ob,k _ _ (.inl rfl) e,c⟩
 | dK kvs=>obtain⟨z,y,vs,r,ob,es,ep,e,c⟩:=x;exact⟨z,y,vs,r,ob,es,ep,k _ _ (.inl rfl) e,c⟩
 | dT kvs =>
  obtain⟨z,y,xs,r,ob,es,ep,e,c⟩:=x;exact⟨z,y,xs,Paired.mapP r λp q z=>⟨z.1,ht _ _ z.2.1,z.2.2⟩,ob,es,ep,k _ _ (.inl rfl) e,c⟩
 | set S n=>obtain⟨ob,es,ep,t,e,c⟩:=x;exact⟨ob,es,ep,t,k _ _ (.inl rfl) e,c⟩
 | ins C dx fs =>
  obtain⟨d,z,ne,e,mA,⟨od,es,ep,e2,c⟩,r⟩:=x;exact⟨ho _ d,z,ne,k _ _ (.inl rfl) e,mA,⟨od,es,ep,k _ _ (.inr d) e2,c⟩,r⟩
 | own y=>obtain⟨ob,e⟩:=x;exact⟨ob,k _ _ (.inl rfl) e⟩
 | xd fs=>obtain⟨mA,⟨od,es,ep,e,c⟩,r⟩:=x;exact⟨mA,⟨od,es,ep,k _ _ (.inl rfl) e,c⟩,r⟩
 | rng lo hi=>obtain⟨t,u,v,e⟩:=x;exact⟨t,u,v,k _ _ (.inl rfl) e⟩
 | frz ob u ih=>obtain⟨e,q⟩:=x;exact⟨k _ _ (.inl rfl) e,ih q⟩
 | tbl ps =>
  have e:h.get? a=some {cls:=.none,data:=.fields ps}:=x;show h'.get? a=some {cls:=.none,data:=.fields ps};exact k a _ (.inl rfl) e
 | met f y =>
  have e:h.get? a=some (W.methodObj (.ref f) (.ref y)):=x;show h'.get? a=some (W.methodObj (.ref f) (.ref y));exact k a _ (.inl rfl) e
 | ext φ=>obtain⟨p,⟨o,e⟩,st⟩:=x;exact⟨st _ _ p λo q=>k _ _ (.inl rfl) q,⟨o,k _ _ (.inl rfl) e⟩,st⟩
theorem HOk.lt(x:HOk P w H h)(e:H a=some o):a<h.objs.size:=(x a o e).lt
theorem HOk.fresh(x:HOk P w H h)(e:h.objs.size<=a):H a=none:=by
 cases q:H a with
 | none=>rfl
 | some u=>exact absurd (I1z (x.lt q) e) (C4z _)
theorem HOk.kept(x:HOk P w H h)(k:∀b u,h.get? b=some u->h'.get? b=some u):HOk P w H h':=λa o e =>
 (x a o e).stay (λb u _ q=>k b u q) (λ_ q=>q) λ_ _ q=>q
theorem HOk.laid(x:HOk P w H h)(k:∀b u,h.get? b=some u->h'.get? b=some u)(hp:h.objs.size<=a)(new:cQ P w (upd H a o) h' a o):HOk P w (upd H a o) h':=λb u e=>by
 have hn:=x.fresh hp
 by_cases hb:b=a
 .subst hb;rw[aB] at e;cases e;exact new
 .rw[aj hb] at e
  exact(x b u e).stay (λc v _ q=>k c v q) (λc q=>by rw[aj (ak q hn)];exact q) λc xs q=>by rw[aj (ak q hn)];exact q
end
def Rd(H:Hp)(a:Addr)(u:HO):Prop:=H a=some u\/∃o,H a=some (.frz o u)
theorem Rd.ok{P:Program}{w:World}{H:Hp}{h:Heap}{a:Addr}{u:HO}(r:Rd H a u)(x:HOk P w H h):cQ P w H h a u:=by
 rcases r with r | ⟨o,r⟩
 .exact x a u r
 .obtain⟨_,q⟩:=x a _ r
  exact q
def Mut:Option HO->Prop
 | some (.lst _)=>True
 | some (.dK _)=>True
 | some (.dT _)=>True
 | some (.set _ _)=>True
 | some (.ins _ _ _)=>True
 | some (.ext _)=>True
 | _=>False
section
variable{P:Program}{w:World}{H:Hp}{h h':Heap}{x e:Addr}{o':HO}
theorem HOk.write(ok:HOk P w H h)(mu:Mut (H x))(he:e=x\/H e=some (.own x))(k:∀b u,b≠e->h.get? b=some u->h'.get? b=some u)(heo:∃u,h'.get? e=some u)
  (new:cQ P w (upd H x o') h' x o'):HOk P w (upd H x o') h':=λb u q=>by
 have nown:∀c y,H c=some (.own y)->c≠x:=λc y r z=>by subst z;rw[r] at mu;exact mu
 have ntup:∀c xs,H c=some (.tup xs)->c≠x:=λc xs r z=>by subst z;rw[r] at mu;exact mu
 by_cases hb:b=x
 .subst hb;rw[aB] at q;cases q;exact new
 .rw[aj hb] at q
  by_cases hbe:b=e
  .have q':H b=some (.own x):=by
    rcases he with z | z
    .exact absurd (hbe.trans z) hb
    .rw[hbe];exact z
   rw[q] at q';cases q'
   obtain⟨v,hv⟩:=heo;exact⟨v,by rw[hbe];exact hv⟩
  .refine(ok b u q).stay (λc v hc r=>k c v ?_ r) (λc r=>by rw[aj (nown c b r)];exact r) λc xs r=>by rw[aj (ntup c xs r)];exact r
   rcases hc with rfl | hc
   .exact hbe
   .rintro rfl
    rcases he with z | z
    .exact nown c b hc z
    .rw[hc] at z;cases z;exact hb rfl
end
structure Un(fs ex:List Addr)(H H':Hp)(h h':Heap):Prop where
 keep:∀b o,h.get? b=some o->H b=none->b∉fs->b∉ex->h'.get? b=some o
 slot:∀b o,h.get? b=some o->H b=none->b∈fs->b∉ex->∃sl,h'.get? b=some {o with slots:=sl}
 free:∀b o,h.get? b=some o->H b=none->b∉ex->H' b=none
 there:∀b o,h.get? b=some o->b∉ex->∃o',h'.get? b=some o'
 tups:∀b xs,H b=some (.tup xs)->H' b=some (.tup xs)
 frzs:∀b o u,H b=some (.frz o u)->H' b=some (.frz o u)
 tbls:∀b ps,H b=some (.tbl ps)->∃more,H' b=some (.tbl (ps++more))
section
variable{fs fs' ex ex':List Addr}{H H1 H2:Hp}{h h1 h2 h':Heap}{a x e:Addr}{o:HO}
theorem Un.any(u:Un fs ex H H1 h h1){b:Addr}{ob:Obj}(q:h.get? b=some ob)(n:H b=none)(hx:b∉ex):∃sl,h1.get? b=some {ob with slots:=sl}:=by
 by_cases hb:b∈fs
 .exact u.slot b ob q n hb hx
 .exact⟨ob.slots,u.keep b ob q n hb hx⟩
theorem Un.trans(a:Un fs ex H H1 h h1)(b:Un fs ex H1 H2 h1 h2):Un fs ex H H2 h h2 where
 keep:=λc ob q n hc hx=>b.keep c ob (a.keep c ob q n hc hx) (a.free c ob q n hx) hc hx
 slot:=λc ob q n hc hx=>by
  obtain⟨sl,e1⟩:=a.slot c ob q n hc hx;obtain⟨sl',e2⟩:=b.slot c _ e1 (a.free c ob q n hx) hc hx;exact⟨sl',e2⟩
 free:=λc ob q n hx=>by
  obtain⟨o',e1⟩:=a.there c ob q hx;exact b.free c o' e1 (a.free c ob q n hx) hx
 there:=λc ob q hx=>by
  obtain⟨o',e1⟩:=a.there c ob q hx;exact b.there c o' e1 hx
 tups:=λc xs q=>b.tups c xs (a.tups c xs q)
 frzs:=λc ob xs q=>b.frzs c ob xs (a.frzs c ob xs q)
 tbls:=λc ps q=>by
  obtain⟨m1,e1⟩:=a.tbls c ps q;obtain⟨m2,e2⟩:=b.tbls c _ e1;exact⟨m1++m2,by rw[e2,Array.append_assoc]⟩
theorem Un.kept(k:∀b u,h.get? b=some u->h'.get? b=some u):Un fs ex H H h h' :=
 ⟨λb ob q _ _ _=>k b ob q,λb ob q _ _ _=>⟨ob.slots,k b ob q⟩,λ_ _ _ n _=>n,λb ob q _=>⟨ob,k b ob q⟩,λ_ _ q=>q,λ_ _ _ q=>q,λ_ ps q=>⟨#[],by rw[q];simp⟩⟩
theorem Un.refl:Un fs ex H H h h:=Un.kept λ_ _ q=>q
theorem Un.laid(k:∀b u,h.get? b=some u->h'.get? b=some u)(hp:h.objs.size<=a)(hn:H a=none):Un fs ex H (upd H a o) h h' where
 keep:=λb u q _ _ _=>k b u q
 slot:=λb u q _ _ _=>⟨u.slots,k b u q⟩
 free:=λb u q n _=>by rw[aj (O4z (I1z (N4z q) hp))];exact n
 there:=λb u q _=>⟨u,k b u q⟩
 tups:=λb xs q=>by rw[aj (ak q hn)];exact q
 frzs:=λb u xs q=>by rw[aj (ak q hn)];exact q
 tbls:=λb ps q=>⟨#[],by rw[aj (ak q hn),q];simp⟩
theorem Un.write(mu:Mut (H x))(he:e=x\/H e=some (.own x))(k:∀b u,b≠e->h.get? b=some u->h'.get? b=some u)(heo:∃u,h'.get? e=some u):Un fs ex H (upd H x o) h h':=by
 have hx:∀b,H b=none->b≠x:=λb n z=>by subst z;rw[n] at mu;exact mu
 have hb:∀b,H b=none->b≠e:=λb n z=>by
  subst z;rcases he with r | r
  .exact hx b n r
  .rw[n] at r;cases r
 have hm:∀b u,H b=some u->¬ Mut (some u)->b≠x:=λb u q nm z=>by subst z;rw[q] at mu;exact nm mu
 refine⟨λb u q n _ _=>k b u (hb b n) q,λb u q n _ _=>⟨u.slots,k b u (hb b n) q⟩,λb u q n _=>by rw[aj (hx b n)];exact n,λb u q _=>?_,
  λb xs q=>by rw[aj (hm b _ q λz=>z)];exact q,λb u xs q=>by rw[aj (hm b _ q λz=>z)];exact q,λb ps q=>⟨#[],by rw[aj (hm b _ q λz=>z),q];simp⟩⟩
 by_cases hbe:b=e
 .subst hbe;exact heo
 .exact⟨u,k b u hbe q⟩
theorem Un.mono(u:Un fs ex H H1 h h1)(hs:∀b∈fs,b∈fs')(hx:∀b∈ex,b∈ex'):Un fs' ex' H H1 h h1 :=
 ⟨λb ob q n hb he=>u.keep b ob q n (λz=>hb (hs b z)) λz=>he (hx b z),λ_ _ q n _ he=>u.any q n λz=>he (hx _ z),λb ob q n he=>u.free b ob q n λz=>he (hx b z),λb ob q he=>u.there b ob q λz=>he (hx b z),u.tups,u.frzs,u.tbls⟩
end
def trk(h:Heap)(H:Hp):List Addr:=(List.range h.objs.size).filter λa=>(H a).isSome
def xg(h:Heap)(H:Hp):Heap:=W.hideAll h (trk h H)
theorem qH(h:Heap)(H:Hp):(xg h H).objs.size=h.objs.size:=W.hideAll_size _ _
theorem vd{h:Heap}{H:Hp}{b:Addr}{o:Obj}(e:h.get? b=some o)(n:H b=none):(xg h H).get? b=some o :=
 Z0z _ e λhm=>by
  have q:(H b).isSome=true:=(List.mem_filter.mp hm).2;rw[n] at q;simp at q
theorem zE{h:Heap}{H:Hp}{b:Addr}{o:Obj}(e:(xg h H).get? b=some o):h.get? b=some o/\H b=none:=by
 have e':h.get? b=some o:=J1z (trk h H) e;refine⟨e',?_⟩
 cases q:H b with
 | none=>rfl
 | some x =>
  have hm:b∈trk h H:=List.mem_filter.mpr ⟨List.mem_range.mpr (N4z e'),by simp[q]⟩;have z:(xg h H).get? b=none:=W.hideAll_none (trk h H) hm;rw[z] at e;cases e
def Mg(g h:Heap)(L:Addr):List (Addr×Obj):=(List.range h.objs.size).filterMap λa=>if a=L\/(g.get? a).isSome=true then none else(h.get? a).map λo=>(a,o)
def rest(g h:Heap)(L d:Addr):List (Addr×Obj):=(Mg g h L).filter λp=>decide (p.1≠d)
structure Mod(K:Zf)(mg:Str->Option Value)(base:Heap):Prop where
 kin:K.In base
 glob:base.Ns mainGlobals mg
 blt:∃mb,base.Ns builtinsNs mb/\∀x:Str,x≠"__name__"->mb x=bootBuiltins x
 nolimit:base.NoLimit
set_option genInjectivity false in
structure Cx where
 prog:Program
 w:World
 K:Zf
 mg:Str->Option Value
 base:Heap
 A:Around
 N:List Str
 s₀:Shared
 H₀:Hp
 env:Env
 outer:List Env
 stack:List Env
 ex:List Addr
 fn:Str->Bool
 calm:Bool
 pn:List (Addr×Obj)
 xe:Value->Shared->Prop
 lm:Option (Addr×Str):=none
def frs(l:List Env):List Addr:=l.filterMap (·.frame)
abbrev Cx.fs(X:Cx):List Addr:=frs X.outer
def Vis(sc:Scope)(x:Str):Prop:=sc.names.lookup x=some .local\/sc.names.lookup x=some .cell\/sc.names.lookup x=some .free
def Loc(sc:Scope)(x:Str):Prop:=sc.names.lookup x=some .local\/sc.names.lookup x=some .cell
def Look(env:Env)(h:Heap)(m:Str->Option Value)(x:Str)(u:Value):Prop :=
 (env.kindOf x=some .local/\m x=some u)\/((env.kindOf x=some .cell\/env.kindOf x=some .free)/\∃c,env.cells.lookup x=some c/\h.IsCell c (some u))
structure Cx.Ok(X:Cx):Prop where
 mod:Mod X.K X.mg X.base
 kind:X.env.scope.kind=.function
 glob:X.env.globals=mainGlobals
 blt:X.env.builtins=builtinsNs
 above:X.s₀.heap.objs.size<=X.env.locals
 inj:∀x y c,X.env.cells.lookup x=some c->X.env.cells.lookup y=some c->x=y
 has:∀x,(X.env.kindOf x=some .cell\/X.env.kindOf x=some .free)->∃c,X.env.cells.lookup x=some c
 cab:∀x c,X.fn x=true->X.env.cells.lookup x=some c->X.s₀.heap.objs.size<=c
 hd:X.calm=true->X.A.handled=none
 frames:X.A.frames=some X.stack
 stk:X.stack=X.outer\/(X.stack=X.env::X.outer/\X.env.frame=some X.env.locals)
 exf:∀b∈X.ex,b≠X.env.locals/\∀x c,X.env.cells.lookup x=some c->c≠b
 bs:∀b o,X.base.get? b=some o->X.s₀.heap.get? b=some o/\X.H₀ b=none
 bsz:X.base.objs.size<=X.s₀.heap.objs.size
 noex:∀b o,X.base.get? b=some o->b∉X.ex
 exfs:∀b∈X.ex,b∉X.fs
 funs:X.s₀.heap.FunFrames X.base X.outer
 frf:∀b∈X.fs,X.H₀ b=none
structure Inv(X:Cx)(z0:List (Addr×Obj))(Y:List (Option V))(H:Hp)(s:Shared):Prop where
 ok:X.Ok
 os:s.os=X.s₀.os
 bare:AllBare s.gens
 base:Un X.fs X.ex X.H₀ H X.s₀.heap s.heap
 loc:∃m,s.heap.Ns X.env.locals m/\∀(i:Nat)(x:Str)(v:V),X.N[i]?=some x->Y[i]?=some (some v)->Vis X.env.scope x->∃u,RelV v u/\Look X.env s.heap m x u
 cell:∀x c,X.env.cells.lookup x=some c->∃v,s.heap.IsCell c v
 free:H X.env.locals=none
 freeC:∀x c,X.env.cells.lookup x=some c->H c=none
 pin:∀p∈X.pn++z0,s.heap.get? p.1=some p.2/\H p.1=none/\p.1≠X.env.locals/\p.1∉X.fs/\∀v,p.2.data≠.cell v
 hok:HOk X.prog X.w H s.heap
 len:Y.length=X.N.length
section
variable{X:Cx}{z0:List (Addr×Obj)}{Y:List (Option V)}{H H':Hp}{s:Shared}{h':Heap}
theorem Cx.Ok.nofr(ok:X.Ok){b:Addr}{o:Obj}(e:X.base.get? b=some o):b∉X.fs:=λhb=>by
 have:=(ok.funs.mem hb).1;rw[e] at this;cases this
theorem Inv.bs(I:Inv X z0 Y H s):∀b o,X.base.get? b=some o->s.heap.get? b=some o/\H b=none:=λb o e =>
 ⟨I.base.keep b o (I.ok.bs b o e).1 (I.ok.bs b o e).2 (I.ok.nofr e) (I.ok.noex b o e),I.base.free b o (I.ok.bs b o e).1 (I.ok.bs b o e).2 (I.ok.noex b o e)⟩
theorem Inv.bk(I:Inv X z0 Y H s):∀b o,X.base.get? b=some o->s.heap.get? b=some o:=λb o e=>(I.bs b o e).1
theorem Inv.mod(I:Inv X z0 Y H s):Mod X.K X.mg X.base:=I.ok.mod
theorem Inv.kIn(I:Inv X z0 Y H s):X.K.In s.heap:=I.ok.mod.kin.keeps I.bk
theorem Inv.lt(I:Inv X z0 Y H s):X.env.locals<s.heap.objs.size:=let ⟨_,hn,_⟩:=I.loc;hn.lt
theorem Inv.sz(I:Inv X z0 Y H s):X.s₀.heap.objs.size<=s.heap.objs.size:=P4z I.ok.above (Q4z I.lt)
theorem Inv.nofs(I:Inv X z0 Y H s){a:Addr}(h:s.heap.objs.size<=a):a∉X.fs:=λhb=>by
 obtain⟨_,o,ho,_⟩:=I.ok.funs.mem hb;exact absurd (I1z (N4z ho) (P4z I.sz h)) (C4z _)
theorem Inv.cne(I:Inv X z0 Y H s):∀x c,X.env.cells.lookup x=some c->c≠X.env.locals:=λx c e z=>by
 obtain⟨v,o,ho,hd⟩:=I.cell x c e;obtain⟨m,⟨o',es,ep,ho',hd',_⟩,_⟩:=I.loc;rw[z,ho'] at ho;cases ho;rw[hd'] at hd;cases hd
theorem Inv.funs(I:Inv X z0 Y H s):s.heap.FunFrames X.base X.outer:=by
 have all:∀(l:List Env),(∀b∈frs l,b∈X.fs)->X.s₀.heap.FunFrames X.base l->s.heap.FunFrames X.base l:=by
  intro l
  induction l with
  | nil=>intro _ _;trivial
  | cons env r ih =>
   intro hs hl;obtain⟨hk,⟨L,o,hf,hn,ho,hd⟩,hr⟩:=hl;have hL:L∈X.fs:=hs L (by unfold frs;rw[A1z,hf];exact K1z);obtain⟨sl,e⟩:=I.base.slot L o ho (I.ok.frf L hL) hL λz=>I.ok.exfs L z hL;exact⟨hk,⟨L,_,hf,hn,e,hd⟩,ih (λb hb=>hs b (by unfold frs;rw[A1z,hf];exact U0z _ hb)) hr⟩
 exact all X.outer (λ_ hb=>hb) I.ok.funs
theorem Inv.stack(I:Inv X z0 Y H s):s.heap.FunFrames X.base X.stack:=by
 rcases I.ok.stk with e | ⟨e,hf⟩
 .rw[e];exact I.funs
 .rw[e]
  obtain⟨m,hn,_⟩:=I.loc;refine .cons (by rw[I.ok.kind];decide) hf hn ?_ I.funs;exact Heap.get?_none_of_le (P4z I.ok.bsz I.ok.above)
theorem Inv.stkSub(I:Inv X z0 Y H s):∀b∈frs X.stack,b∈X.env.locals::X.fs:=λb hb=>by
 rcases I.ok.stk with e | ⟨e,hf⟩
 .rw[e] at hb;exact U0z _ hb
 .rw[e] at hb
  unfold frs at hb;rw[A1z,hf] at hb;exact hb
theorem Inv.stkFree(I:Inv X z0 Y H s):∀b∈frs X.stack,H b=none:=λb hb=>by
 rcases L4z.mp (I.stkSub b hb) with e | hb
 .rw[e];exact I.free
 .obtain⟨_,o,ho,_⟩:=I.ok.funs.mem hb
  exact I.base.free b o ho (I.ok.frf b hb) λz=>I.ok.exfs b z hb
theorem Inv.step{g':Array GenState}{t':Nat}{d':Drawn}{ch:List Addr}(I:Inv X z0 Y H s)
  (hch:∀b∈ch,(b∈X.ex\/X.s₀.heap.objs.size<=b)/\b≠X.env.locals/\(∀x c,X.env.cells.lookup x=some c->c≠b)/\∀p∈X.pn++z0,p.1≠b)
  (keep:∀b o,b≠X.env.locals->b∉X.fs->b∉ch->s.heap.get? b=some o->H b=none->h'.get? b=some o)
  (slot:∀b o,b≠X.env.locals->b∈X.fs->b∉ch->s.heap.get? b=some o->H b=none->∃sl,h'.get? b=some {o with slots:=sl}) (free:∀b o,b∉ch->s.heap.get? b=some o->H b=none->H' b=none)
  (there:∀b o,b∉ch->s.heap.get? b=some o->∃o',h'.get? b=some o')
  (tups:∀b xs,H b=some (.tup xs)->H' b=some (.tup xs)) (frzs:∀b o u,H b=some (.frz o u)->H' b=some (.frz o u)) (tbls:∀b ps,H b=some (.tbl ps)->∃more,H' b=some (.tbl (ps++more)))
  (ns:∀m,s.heap.Ns X.env.locals m->h'.Ns X.env.locals m) (hok:HOk X.prog X.w H' h') (hg:AllBare g') :
  Inv X z0 Y H' {s with heap:=h',gens:=g',drawn:=d',toks:=t'}:=by
 have neL:∀b o,X.s₀.heap.get? b=some o->b≠X.env.locals:=λb o e=>O4z (I1z (N4z e) I.ok.above)
 have neC:∀b o,X.s₀.heap.get? b=some o->b∉X.ex->b∉ch:=λb o e hx hb=>by
  rcases(hch b hb).1 with z | z
  .exact hx z
  .exact absurd (I1z (N4z e) z) (C4z _)
 have cellK:∀x c,X.env.cells.lookup x=some c->∀v,s.heap.IsCell c v->h'.IsCell c v:=λx c e v ⟨o,ho,hd⟩=>by
  have nch:c∉ch:=λz=>(hch c z).2.2.1 x c e rfl
  by_cases hc:c∈X.fs
  .obtain⟨sl,q⟩:=slot c o (I.cne x c e) hc nch ho (I.freeC x c e)
   exact⟨_,q,hd⟩
  .exact⟨o,keep c o (I.cne x c e) hc nch ho (I.freeC x c e),hd⟩
 refine⟨I.ok,I.os,hg,⟨λb o e n hb hx=>?_,λb o e n hb hx=>?_,λb o e n hx=>?_,λb o e hx=>?_,λb xs e=>tups b xs (I.base.tups b xs e),λb o xs e=>frzs b o xs (I.base.frzs b o xs e),λb ps e=>?_⟩,?_,λx c e=>?_,?_,λx c e=>?_,λp hp=>?_,hok,I.len⟩
 .exact keep b o (neL b o e) hb (neC b o e hx) (I.base.keep b o e n hb hx) (I.base.free b o e n hx)
 .obtain⟨sl,e1⟩:=I.base.slot b o e n hb hx
  obtain⟨sl',e2⟩:=slot b _ (neL b o e) hb (neC b o e hx) e1 (I.base.free b o e n hx);exact⟨sl',e2⟩
 .obtain⟨o',e1⟩:=I.base.there b o e hx
  exact free b o' (neC b o e hx) e1 (I.base.free b o e n hx)
 .obtain⟨o',e1⟩:=I.base.there b o e hx
  exact there b o' (neC b o e hx) e1
 .obtain⟨m1,e1⟩:=I.base.tbls b ps e
  obtain⟨m2,e2⟩:=tbls b _ e1;exact⟨m1++m2,by rw[e2,Array.append_assoc]⟩
 .obtain⟨m,hn,hl⟩:=I.loc
  refine⟨m,ns m hn,λi x v e1 e2 e3=>?_⟩;obtain⟨u,r,l⟩:=hl i x v e1 e2 e3;refine⟨u,r,?_⟩;rcases l with l | ⟨k,c,e,z⟩
  .exact .inl l
  .exact .inr ⟨k,c,e,cellK x c e _ z⟩
 .obtain⟨v,z⟩:=I.cell x c e
  exact⟨v,cellK x c e v z⟩
 .obtain⟨m,⟨o,_,_,ho,_⟩,_⟩:=I.loc
  exact free _ o (λz=>(hch _ z).2.1 rfl) ho I.free
 .obtain⟨v,o,ho,hd⟩:=I.cell x c e
  exact free c o (λz=>(hch c z).2.2.1 x c e rfl) ho (I.freeC x c e)
 .obtain⟨e,n,ne,nf,d⟩:=I.pin p hp
  have nch:p.1∉ch:=λz=>(hch p.1 z).2.2.2 p hp rfl;exact⟨keep p.1 p.2 ne nf nch e n,free p.1 p.2 nch e n,ne,nf,d⟩
theorem Inv.un{t':Nat}(I:Inv X z0 Y H s)(u:Un X.fs [] H H' s.heap h')(hok:HOk X.prog X.w H' h'):Inv X z0 Y H' {s with heap:=h',toks:=t'}:=by
 obtain⟨m,⟨o,es,ep,ho,r⟩,_⟩:=id I.loc;obtain⟨sl,hL⟩:=u.any ho I.free (by simp)
 exact I.step (g':=s.gens) (d':=s.drawn) (ch:=[]) (λ_ z=>nomatch z) (λb o _ hb _ e n=>u.keep b o e n hb (by simp)) (λb o _ hb _ e n=>u.slot b o e n hb (by simp)) (λb o _ e n=>u.free b o e n (by simp)) (λb o _ e=>u.there b o e (by simp)) u.tups u.frzs u.tbls (λm' hm=>by
  obtain⟨o',es',ep',ho',r'⟩:=hm;rw[ho] at ho';cases ho'
  exact⟨_,es',ep',hL,r'⟩) hok I.bare
theorem Inv.call{g':Array GenState}{t':Nat}{d':Drawn}{ch:List Addr}(I:Inv X z0 Y H s)(u:Un (frs X.stack) ch H H' s.heap h')(hok:HOk X.prog X.w H' h')(hg:AllBare g')
  (hch:∀b∈ch,(b∈X.ex\/X.s₀.heap.objs.size<=b)/\b≠X.env.locals/\(∀x c,X.env.cells.lookup x=some c->c≠b)/\∀p∈X.pn++z0,p.1≠b) :
  Inv X z0 Y H' {s with heap:=h',gens:=g',drawn:=d',toks:=t'}:=by
 obtain⟨m,⟨o,es,ep,ho,r⟩,_⟩:=id I.loc;obtain⟨sl,hL⟩:=u.any ho I.free λz=>(hch _ z).2.1 rfl
 exact I.step (ch:=ch) hch (λb o hL hb hc e n=>u.keep b o e n (λz=>(L4z.mp (I.stkSub b z)).elim hL hb) hc) (λb o _ _ hc e n=>u.any e n hc) (λb o hc e n=>u.free b o e n hc) (λb o hc e=>u.there b o e hc) u.tups u.frzs u.tbls (λm' hm=>by
  obtain⟨o',es',ep',ho',r'⟩:=hm;rw[ho] at ho';cases ho'
  exact⟨_,es',ep',hL,r'⟩) hok hg
theorem Inv.turned{t':Nat}{it:Addr}(I:Inv X z0 Y H s)(k:∀b o,b≠it->s.heap.get? b=some o->h'.get? b=some o)(hn:H it=none)(hL:it≠X.env.locals)
  (h1:it∈X.ex\/X.s₀.heap.objs.size<=it) (h2:∀x c,X.env.cells.lookup x=some c->c≠it) (h3:∀p∈X.pn++z0,p.1≠it):Inv X z0 Y H {s with heap:=h',toks:=t'}:=by
 have nit:∀b u,H b=some u->b≠it:=λb u e z=>by rw[z,hn] at e;cases e
 refine I.step (g':=s.gens) (d':=s.drawn) (ch:=[it]) (λb hb=>?_) (λb o _ _ hc e _=>k b o (λz=>hc (by simp[z])) e) (λb o _ _ hc e _=>⟨o.slots,k b o (λz=>hc (by simp[z])) e⟩) (λ_ _ _ _ n=>n)
  (λb o hc e=>⟨o,k b o (λz=>hc (by simp[z])) e⟩) (λ_ _ e=>e) (λ_ _ _ e=>e) (λb ps e=>⟨#[],by rw[e];simp⟩) (λm hm=>?_) (λb u e=>?_) I.bare
 .have e:b=it:=by simpa using hb
  subst e;exact⟨h1,hL,h2,h3⟩
 .obtain⟨o,es,ep,ho,r⟩:=hm
  exact⟨o,es,ep,k _ o (N5z hL) ho,r⟩
 .refine(I.hok b u e).stay (λc v hc q=>k c v ?_ q) (λ_ q=>q) λ_ _ q=>q
  rcases hc with z | z
  .rw[z];exact nit b u e
  .exact nit c _ z
theorem Inv.tok(I:Inv X z0 Y H s)(t:Nat):Inv X z0 Y H {s with toks:=t}:=I.un (h':=s.heap) (t':=t) Un.refl I.hok
theorem Inv.kept{t':Nat}(I:Inv X z0 Y H s)(k:∀b u,s.heap.get? b=some u->h'.get? b=some u):Inv X z0 Y H {s with heap:=h',toks:=t'}:=I.un (Un.kept k) (I.hok.kept k)
theorem Inv.laid{a:Addr}{o:HO}{t':Nat}(I:Inv X z0 Y H s)(k:∀b u,s.heap.get? b=some u->h'.get? b=some u)(hp:s.heap.objs.size<=a)(new:cQ X.prog X.w (upd H a o) h' a o) :
  Inv X z0 Y (upd H a o) {s with heap:=h',toks:=t'}:=I.un (Un.laid k hp (I.hok.fresh hp)) (I.hok.laid k hp new)
theorem Inv.write{x e:Addr}{o:HO}{t':Nat}(I:Inv X z0 Y H s)(mu:Mut (H x))(he:e=x\/H e=some (.own x))(k:∀b u,b≠e->s.heap.get? b=some u->h'.get? b=some u)(heo:∃u,h'.get? e=some u)
  (new:cQ X.prog X.w (upd H x o) h' x o):Inv X z0 Y (upd H x o) {s with heap:=h',toks:=t'}:=I.un (Un.write mu he k heo) (I.hok.write mu he k heo new)
theorem Inv.pins_of{pins':List (Addr×Obj)}(I:Inv X z0 Y H s)(h:∀p∈pins',s.heap.get? p.1=some p.2/\H p.1=none/\p.1≠X.env.locals/\p.1∉X.fs/\∀v,p.2.data≠.cell v):Inv X pins' Y H s :=
 ⟨I.ok,I.os,I.bare,I.base,I.loc,I.cell,I.free,I.freeC,λp hp=>(List.mem_append.mp hp).elim (λz=>I.pin p (V0z _ z)) (h p),I.hok,I.len⟩
theorem oE{N:List Str}(hN:N.Nodup){i j:Nat}{x:Str}(a:N[i]?=some x)(b:N[j]?=some x):i=j:=by
 obtain⟨h1,e1⟩:=List.getElem?_eq_some_iff.mp a;obtain⟨h2,e2⟩:=List.getElem?_eq_some_iff.mp b;exact(List.getElem_inj hN).mp (e1.trans e2.symm)
theorem yu{M:Model}{A:Around}{E:Value->Shared->Prop}{i:Nat}{x:Str}{v:V}{u:Value}{Q:Unit->Shared->Prop}(I:Inv X z0 Y H s)(hN:X.N.Nodup)(hi:X.N[i]?=some x)(hx:Loc X.env.scope x)(r:RelV v u)
  (h:∀s',Inv X z0 (Y.set i (some v)) H s'->(∃a,Heap.SameBut a s.heap s'.heap/\(a=X.env.locals\/X.env.cells.lookup x=some a))->Q () s') (hf:X.fn x=true\/X.env.scope.names.lookup x=some .local:=by first | exact .inl rfl | exact .inr rfl | assumption):wpAny M A (storeName X.env x u) Q E s:=by
 obtain⟨m,hn,hl⟩:=id I.loc
 have hcls:(X.env.scope.kind==.class||(X.env.scope.kind==.module&&X.env.locals !=X.env.globals))=false:=by rw[I.ok.kind];rfl
 have hiY:i<Y.length:=by rw[I.len];exact(List.getElem?_eq_some_iff.mp hi).1
 have cne:=I.cne
 have tracked:∀{a:Addr}{h':Heap},(∃o,s.heap.get? a=some o/\H a=none)->Heap.SameBut a s.heap h'->HOk X.prog X.w H h':=λ{a h'} ha hs b ob e=>by
  obtain⟨_,_,hfree⟩:=ha;refine(I.hok b ob e).stay (λc w' hc q=>(hs.2 c ?_).trans q) (λ_ q=>q) λ_ _ q=>q;rintro rfl;rcases hc with rfl | hc
  .rw[hfree] at e;cases e
  .rw[hfree] at hc;cases hc
 rcases hx with hk | hk
 .refine wpAny_storeName_local hk hn (λh' hn' hs=>?_) hcls
  obtain⟨oL,_,_,hoL,_⟩:=id hn;refine h _ ⟨I.ok,I.os,I.bare,⟨λb o e n hb hx=>?_,λb o e n hb hx=>?_,I.base.free,λb o e hx=>?_,I.base.tups,I.base.frzs,I.base.tbls⟩,⟨_,hn',λj y v' e1 e2 e3=>?_⟩,λy c e=>?_,I.free,I.freeC,λp hp=>?_,tracked ⟨oL,hoL,I.free⟩ hs,by simpa using I.len⟩ ⟨_,hs,.inl rfl⟩
  .exact(hs.2 b (O4z (I1z (N4z e) I.ok.above))).trans (I.base.keep b o e n hb hx)
  .obtain⟨sl,e1⟩:=I.base.slot b o e n hb hx
   exact⟨sl,(hs.2 b (O4z (I1z (N4z e) I.ok.above))).trans e1⟩
  .obtain⟨o',e1⟩:=I.base.there b o e hx
   exact⟨o',(hs.2 b (O4z (I1z (N4z e) I.ok.above))).trans e1⟩
  .by_cases hj:j=i
   .subst hj
    rw[hi] at e1;cases e1
    rw[List.getElem?_set_self hiY] at e2;cases e2;exact⟨u,r,.inl ⟨hk,by simp⟩⟩
   .rw[List.getElem?_set_ne (N5z hj)] at e2
    obtain⟨u',r',q⟩:=hl j y v' e1 e2 e3;refine⟨u',r',?_⟩;rcases q with⟨k,e⟩ | ⟨k,c,e,z⟩
    .refine .inl ⟨k,?_⟩
     have:y≠x:=λe=>hj (oE hN e1 (e▸hi));simp[this,e]
    .exact .inr ⟨k,c,e,z.sameBut hs (cne y c e)⟩
  .obtain⟨w',z⟩:=I.cell y c e
   exact⟨w',z.sameBut hs (cne y c e)⟩
  .obtain⟨e,n,ne,nf,d⟩:=I.pin p hp
   exact⟨(hs.2 p.1 ne).trans e,n,ne,nf,d⟩
 .have hfn:X.fn x=true:=by
   rcases hf with z | z
   .exact z
   .rw[z] at hk;cases hk
  obtain⟨c,hc⟩:=I.ok.has x (.inl hk);obtain⟨w',z⟩:=I.cell x c hc;refine wpAny_storeName_cell I.ok.kind hk hc z (λh' hc' hs=>?_);obtain⟨oc,hoc,hocd⟩:=id z;refine h {s with heap:=h'} ⟨I.ok,I.os,I.bare,⟨λb o e n hb hx=>?_,λb o e n hb hx=>?_,I.base.free,λb o e hx=>?_,I.base.tups,I.base.frzs,I.base.tbls⟩,⟨m,hn.sameBut hs (N5z (cne x c hc)),λj y v' e1 e2 e3=>?_⟩,λy c' e=>?_,I.free,I.freeC,λp hp=>?_,tracked ⟨oc,hoc,I.freeC x c hc⟩ hs,by simpa using I.len⟩ ⟨c,hs,.inr hc⟩
  .exact(hs.2 b (O4z (I1z (N4z e) (I.ok.cab x c hfn hc)))).trans (I.base.keep b o e n hb hx)
  .obtain⟨sl,e1⟩:=I.base.slot b o e n hb hx
   exact⟨sl,(hs.2 b (O4z (I1z (N4z e) (I.ok.cab x c hfn hc)))).trans e1⟩
  .obtain⟨o',e1⟩:=I.base.there b o e hx
   exact⟨o',(hs.2 b (O4z (I1z (N4z e) (I.ok.cab x c hfn hc)))).trans e1⟩
  .by_cases hj:j=i
   .subst hj
    rw[hi] at e1;cases e1
    rw[List.getElem?_set_self hiY] at e2;cases e2;exact⟨u,r,.inr ⟨.inl hk,c,hc,hc'⟩⟩
   .rw[List.getElem?_set_ne (N5z hj)] at e2
    obtain⟨u',r',q⟩:=hl j y v' e1 e2 e3;refine⟨u',r',?_⟩;rcases q with q | ⟨k,c',e,z'⟩
    .exact .inl q
    .refine .inr ⟨k,c',e,z'.sameBut hs ?_⟩
     rintro rfl;exact hj (oE hN e1 (I.ok.inj _ _ _ e hc▸hi))
  .by_cases hcc:c'=c
   .subst hcc;exact⟨_,hc'⟩
   .obtain⟨w2,z2⟩:=I.cell y c' e
    exact⟨w2,z2.sameBut hs hcc⟩
  .obtain⟨e,n,ne,nf,d⟩:=I.pin p hp
   refine⟨(hs.2 p.1 ?_).trans e,n,ne,nf,d⟩;intro q;rw[q,hoc] at e;have q':oc=p.2:=G3z e;exact d w' (by rw[<- q'];exact hocd)
theorem iR{M:Model}{A:Around}{E:Value->Shared->Prop}{i:Nat}{x:Str}{v:V}{u:Value}{Q:Unit->Shared->Prop}(I:Inv X z0 Y H s)(hN:X.N.Nodup)(hi:X.N[i]?=some x)(hx:Loc X.env.scope x)(r:RelV v u)
  (h:∀s',Inv X z0 (Y.set i (some v)) H s'->Q () s') (hf:X.fn x=true\/X.env.scope.names.lookup x=some .local:=by first | exact .inl rfl | exact .inr rfl | assumption):wpAny M A (storeName X.env x u) Q E s :=
 yu I hN hi hx r (λs' I' _=>h s' I') hf
theorem Inv.call'{s':Shared}{ch:List Addr}(I:Inv X z0 Y H s)(ho:s'.os=s.os)(u:Un (frs X.stack) ch H H' s.heap s'.heap)(hok:HOk X.prog X.w H' s'.heap)(hg:AllBare s'.gens)
  (hch:∀b∈ch,(b∈X.ex\/X.s₀.heap.objs.size<=b)/\b≠X.env.locals/\(∀x c,X.env.cells.lookup x=some c->c≠b)/\∀p∈X.pn++z0,p.1≠b):Inv X z0 Y H' s':=by
 obtain⟨h',g',d',t',o'⟩:=s';have e:o'=s.os:=ho;subst e;exact I.call (g':=g') (t':=t') (d':=d') u hok hg hch
end
abbrev XK:=Value->Option Addr->Hp->Prop
abbrev St:=List (Option V)
abbrev VK:=V->Hp->Prop
abbrev TE:=St->Hp->VK->Prop
abbrev TT:=St->Hp->(Bool->Hp->Prop)->Prop
abbrev TA:=St->Hp->(List V->Hp->Prop)->Prop
structure Ends where
 nx:St->Hp->Prop
 rt:VK
 bk:St->Hp->Prop:=λ_ _=>False
 ct:St->Hp->Prop:=λ_ _=>False
abbrev TS:=Ends->St->Hp->Prop
def EP(X:Cx)(z0:List (Addr×Obj))(Y:St)(Q:VK)(u:Value)(s':Shared):Prop:=∃v H',Inv X z0 Y H' s'/\RelV v u/\Q v H'
def TP(X:Cx)(z0:List (Addr×Obj))(Y:St)(Q:Bool->Hp->Prop)(b:Bool)(s':Shared):Prop:=∃H',Inv X z0 Y H' s'/\Q b H'
def AP(X:Cx)(z0:List (Addr×Obj))(Y:St)(Q:List V->Hp->Prop)(us:List Value)(s':Shared):Prop:=∃vs H',Inv X z0 Y H' s'/\Vals vs us/\Q vs H'
def SP(X:Cx)(z0:List (Addr×Obj))(D:Ends)(f:Flow)(s':Shared):Prop :=
 match f with
 | .next=>∃Y' H',Inv X z0 Y' H' s'/\D.nx Y' H'
 | .brk=>∃Y' H',Inv X z0 Y' H' s'/\D.bk Y' H'
 | .cont=>∃Y' H',Inv X z0 Y' H' s'/\D.ct Y' H'
 | .ret u=>∃v Y' H',Inv X z0 Y' H' s'/\RelV v u/\D.rt v H'
def PE(X:Cx)(e:Expr)(t:TE):Prop :=
 ∀(z0:List (Addr×Obj))(s:Shared)(Y:St)(H:Hp)(Q:VK),Inv X z0 Y H s->t Y H Q->wpAny (model X.prog X.w) X.A (eval e X.env) (EP X z0 Y Q) X.xe s
def PT(X:Cx)(e:Expr)(t:TT):Prop :=
 ∀(z0:List (Addr×Obj))(s:Shared)(Y:St)(H:Hp)(Q:Bool->Hp->Prop),Inv X z0 Y H s->t Y H Q->wpAny (model X.prog X.w) X.A (isTrue e X.env (eval e X.env)) (TP X z0 Y Q) X.xe s
def PW(X:Cx)(e:Expr)(t:TT):Prop :=
 ∀(whole:Sem Value)(z0:List (Addr×Obj))(s:Shared)(Y:St)(H:Hp)(Q:Bool->Hp->Prop),Inv X z0 Y H s->t Y H Q->wpAny (model X.prog X.w) X.A (isTrue e X.env whole) (TP X z0 Y Q) X.xe s
theorem PW.pt{X:Cx}{e:Expr}{t:TT}(h:PW X e t):PT X e t:=h _
def PA(X:Cx)(es:List Expr)(t:TA):Prop :=
 ∀(pos:Pos)(z0:List (Addr×Obj))(s:Shared)(Y:St)(H:Hp)(Q:List V->Hp->Prop),Inv X z0 Y H s->t Y H Q->wpAny (model X.prog X.w) X.A (spliced (backTo pos (starEach es X.env))) (AP X z0 Y Q) X.xe s
def PS(X:Cx)(st:Stmt)(t:TS):Prop :=
 ∀(z0:List (Addr×Obj))(s:Shared)(Y:St)(H:Hp)(D:Ends),Inv X z0 Y H s->t D Y H->wpAny (model X.prog X.w) X.A (exec st X.env) (SP X z0 D) X.xe s
def PSs(X:Cx)(st:List Stmt)(t:TS):Prop :=
 ∀(z0:List (Addr×Obj))(s:Shared)(Y:St)(H:Hp)(D:Ends),Inv X z0 Y H s->t D Y H->wpAny (model X.prog X.w) X.A (execs st X.env) (SP X z0 D) X.xe s
theorem thn{α:Type}{t:Sem α}{Q Q':α->Shared->Prop}{M:Model}{A:Around}{E:Value->Shared->Prop}{s:Shared}(h:wpAny M A t Q E s)(hQ:∀a s,Q a s->Q' a s):wpAny M A t Q' E s:=D5z h hQ λ_ _ x=>x
section
variable{X:Cx}
theorem bin{a b:Expr}{ta tb:TE}(ha:PE X a ta)(hb:PE X b tb){z0:List (Addr×Obj)}{s:Shared}{Y:St}{H:Hp}{R:V->V->Hp->Prop}(I:Inv X z0 Y H s)(h:ta Y H λx H1=>tb Y H1 λy H2=>R x y H2)
  {α:Type} {Q:α->Shared->Prop} {f:Value->Value->Sem α}
  (hf:∀v u s2 x y H2,Inv X z0 Y H2 s2->RelV x v->RelV y u->R x y H2->wpAny (model X.prog X.w) X.A (f v u) Q X.xe s2) :
  wpAny (model X.prog X.w) X.A (eval a X.env) (λv s₁=>wpAny (model X.prog X.w) X.A (eval b X.env) (λu s₂=>wpAny (model X.prog X.w) X.A (f v u) Q X.xe s₂) X.xe s₁) X.xe s:=by
 refine thn (ha z0 s Y H _ I h) λv s1 ⟨x,H1,I1,r1,q1⟩=>?_;refine thn (hb z0 s1 Y H1 _ I1 q1) λu s2 ⟨y,H2,I2,r2,q2⟩=>?_;exact hf v u s2 x y H2 I2 r1 r2 q2
def RM(i:Nat):TE:=λY H Q=>∃v,Y[i]?=some (some v)/\Q v H
def tC(v:V):TE:=λ_ H Q=>Q v H
theorem mU{i:Nat}{x:Str}{pos:Pos}(hN:X.N[i]?=some x)(hv:Vis X.env.scope x)(hd:(x==("__debug__":Str))=false:=by decide)(hcd:(x==("__classdict__":Str))=false:=by decide):PE X (.Name x pos) (RM i):=by
 intro z0 s Y H Q I h;obtain⟨v,e,h⟩:=h;obtain⟨m,hn,hl⟩:=I.loc;obtain⟨u,r,l⟩:=hl i x v hN e hv;have fin:EP X z0 Y Q u s:=⟨v,H,I,r,h⟩;rcases l with⟨hk,hm⟩ | ⟨hk,c,hc,hcell⟩
 .exact wpAny_Name (wpAny_loadName_local I.ok.kind hk hn hm fin) hd
 .rcases hk with hk | hk
  .exact wpAny_Name (wpAny_loadName_cell I.ok.kind hk hc hcell fin) hd
  .exact wpAny_Name (wpAny_loadName_free I.ok.kind hk hc hcell fin hcd) hd
theorem mV{i j pos}:PE X (.Constant (.int i) j pos) (tC (.int i)):=λ_ _ _ H _ I h=>wpAny_Constant_int ⟨.int i,H,I.tok _,⟨_,rfl⟩,h⟩
theorem SX{b j pos}:PE X (.Constant (.bool b) j pos) (tC (.bl b)):=λ_ _ _ H _ I h=>Constant_bool ⟨.bl b,H,I,rfl,h⟩
theorem G4{j pos}:PE X (.Constant .none j pos) (tC .non):=λ_ _ _ H _ I h=>Constant_none ⟨.non,H,I,rfl,h⟩
theorem lF{x j pos}:PE X (.Constant (.str x) j pos) (tC (.str x)):=λ_ _ _ H _ I h=>Calls.Constant_str ⟨.str x,H,I.tok _,⟨_,rfl⟩,h⟩
def Gl(X:Cx)(x:Str):Prop:=X.env.kindOf x=some .globalImplicit
theorem f9{E:Value->Shared->Prop}{z0:List (Addr×Obj)}{s:Shared}{Y:St}{H:Hp}{x:Str}{u:Value}{pos:Pos}{Q:Value->Shared->Prop}(I:Inv X z0 Y H s)(hg:Gl X x)(hm:X.mg x=some u)(h:Q u s)
  (hd:(x==("__debug__":Str))=false:=by decide):wpAny (model X.prog X.w) X.A (eval (.Name x pos) X.env) Q E s :=
 Calls.Name_function_global I.ok.kind hg (Calls.loadGlobal_global (by rw[I.ok.glob];exact I.mod.glob.keeps I.bk) hm h) hd
theorem jO{E:Value->Shared->Prop}{z0:List (Addr×Obj)}{s:Shared}{Y:St}{H:Hp}{x:Str}{u:Value}{pos:Pos}{Q:Value->Shared->Prop}(I:Inv X z0 Y H s)(hg:Gl X x)(hm:X.mg x=none)(hv:bootBuiltins x=some u)(h:Q u s)
  (hn:x≠"__name__":=by decide) (hd:(x==("__debug__":Str))=false:=by decide):wpAny (model X.prog X.w) X.A (eval (.Name x pos) X.env) Q E s:=by
 obtain⟨mb,h1,h2⟩:=I.mod.blt;exact Calls.Name_function_global I.ok.kind hg (Calls.loadGlobal_builtin (by rw[I.ok.glob];exact I.mod.glob.keeps I.bk) hm (by rw[I.ok.blt];exact h1.keeps I.bk) ((h2 x hn).trans hv) h) hd
theorem lG{x:Str}{v:V}{u:Value}{pos:Pos}(hg:Gl X x)(hm:X.mg x=some u)(r:RelV v u)(hd:(x==("__debug__":Str))=false:=by decide):PE X (.Name x pos) (tC v) :=
 λ_ _ _ H _ I h=>f9 I hg hm ⟨v,H,I,r,h⟩ hd
theorem sH{x:Str}{v:V}{u:Value}{pos:Pos}(hg:Gl X x)(hm:X.mg x=none)(hv:bootBuiltins x=some u)(r:RelV v u)(hn:x≠"__name__":=by decide)(hd:(x==("__debug__":Str))=false:=by decide):PE X (.Name x pos) (tC v) :=
 λ_ _ _ H _ I h=>jO I hg hm hv ⟨v,H,I,r,h⟩ hn hd
def t2I(ta tb:TE)(k:Int->Int->Hp->Prop):St->Hp->Prop:=λY H=>ta Y H λx H1=>tb Y H1 λy H2=>∃i j,x=.int i/\y=.int j/\k i j H2
variable{a b:Expr}{ta tb:TE}{pos:Pos}
def PC(X:Cx)(op:CmpOp)(a b:Expr)(t:TE):Prop :=
  ∀(z0:List (Addr×Obj))(s:Shared)(Y:St)(H:Hp)(Q:VK), Inv X z0 Y H s->t Y H Q ->
    wpAny (model X.prog X.w) X.A (eval a X.env) (λv s₁=>wpAny (model X.prog X.w) X.A (eval b X.env) (λu s₂=>wpAny (model X.prog X.w) X.A (compareOp op v u) (EP X z0 Y Q) X.xe s₂) X.xe s₁) X.xe s
theorem uU(b:Expr){op:CmpOp}(h:op≠.In)(h2:op≠.NotIn):behindInMarks op b=false:=by
 have e1:(op==CmpOp.In)=false:=by cases op<;>first | rfl | exact absurd rfl h
 have e2:(op==CmpOp.NotIn)=false:=by cases op<;>first | rfl | exact absurd rfl h2
 cases b<;>simp[behindInMarks,e1,e2]
def U7(p:Int->Int->Bool)(ta tb:TE):TE:=λY H Q=>t2I ta tb (λi j H2=>Q (.bl (p i j)) H2) Y H
abbrev V1:TE->TE->TE:=U7 λi j=>decide (i=j)
theorem Ov{op:CmpOp}{p:Int->Int->Bool}(ha:PE X a ta)(hb:PE X b tb)
  (rule:∀(i j:Int)(t u:Tok)(Q:Value->Shared->Prop)(s:Shared),Q (.bool (p i j)) s->wpAny (model X.prog X.w) X.A (compareOp op (.int i t) (.int j u)) Q X.xe s):PC X op a b (U7 p ta tb):=by
 intro z0 s Y H Q I h;refine bin ha hb I h λv u s2 x y H2 I2 rx ry q=>?_;obtain⟨i,j,rfl,rfl,q⟩:=q;obtain⟨t,rfl⟩:=rx;obtain⟨t',rfl⟩:=ry;exact rule i j t t' _ s2 ⟨.bl _,H2,I2,rfl,q⟩
theorem Ow(ha:PE X a ta)(hb:PE X b tb):PC X .Eq a b (V1 ta tb):=Ov ha hb λ_ _ _ _ _ _ h=>eq_int (by rw[Bool.beq_eq_decide_eq];exact h)
def VN(ta:TE):TE:=λY H Q=>ta Y H λx H1=>Q (.bl (decide (x=.non))) H1
theorem RelV.none_iff{x:V}{v:Value}(r:RelV x v):(v==Value.none)=decide (x=.non):=by
 cases x with
 | non=>cases r;rfl
 | bl _=>cases r;rfl
 | int _=>obtain⟨t,rfl⟩:=r;rfl
 | str _=>obtain⟨t,rfl⟩:=r;rfl
 | byt _=>obtain⟨t,rfl⟩:=r;rfl
 | flt _=>obtain⟨t,rfl⟩:=r;rfl
 | ref _=>cases r;rfl
 | ty _=>cases r;rfl
theorem Ou{j pos'}(ha:PE X a ta):PC X .Is a (.Constant .none j pos') (VN ta):=by
 intro z0 s Y H Q I h;refine thn (ha z0 s Y H _ I h) λv s1 ⟨x,H1,I1,r1,q1⟩=>?_;exact Constant_none (is_none_gen ⟨.bl _,H1,I1,by rw[r1.none_iff];rfl,q1⟩)
def tB(t:TE):TT:=λY H Q=>t Y H λx H1=>∃c,x=.bl c/\Q c H1
theorem Oq{op:CmpOp}{t:TE}(h:PC X op a b t)(h1:behindInMarks op b=false:=by first | exact uU _ (by decide) (by decide) | rfl):PE X (.Compare a [op] [b] pos) t:=λz0 s Y H Q I hw=>wpAny_Compare1 (h z0 s Y H Q I hw) h1
theorem yR{op:CmpOp}{t:TE}(h:PC X op a b t)(h1:behindInMarks op b=false:=by first | exact uU _ (by decide) (by decide) | rfl):PT X (.Compare a [op] [b] pos) (tB t):=by
 intro z0 s Y H Q I hw;refine wpAny_isTrue_Compare1 (thn (h z0 s Y H _ I hw) λv s1 h1=>thn h1 λu s2 h2=>thn h2 λc s3 ⟨x,H1,I1,r1,q1⟩=>?_) h1;obtain⟨d,rfl,q⟩:=q1;cases r1;exact A2z ⟨H1,I1,q⟩
theorem yP{e:Expr}{t:TE}(h:PE X e t)(he:∀whole,isTrue e X.env whole=(do let v <- whole;standAt e.pos;holding [v] (truthy v)):=by intro _;rfl):PT X e (tB t):=by
 intro z0 s Y H Q I hw;refine isTrue_plain (thn (h z0 s Y H _ I hw) λv s1 ⟨x,H1,I1,r1,q1⟩=>?_) (he _);obtain⟨d,rfl,q⟩:=q1;cases r1;exact A2z ⟨H1,I1,q⟩
variable{tA tB':TT}{rest:List Expr}
def V4(t u:TT):TT:=λY H Q=>t Y H λc H1=>if c=true then u Y H1 Q else Q false H1
def tOr(t u:TT):TT:=λY H Q=>t Y H λc H1=>if c=true then Q true H1 else u Y H1 Q
def VJ(t:TT):TT:=λY H Q=>t Y H λc H1=>Q (!c) H1
theorem Jt(ha:PT X a tA):PW X (.BoolOp .And [a] pos) tA:=by
 intro wh z0 s Y H Q I h;refine isTrue_and (thn (ha z0 s Y H Q I h) λc s1 e=>?_)
 cases c with
 | true=>exact isTrue_and_nil e
 | false=>exact e
theorem Gy(ha:PT X a tA):PW X (.BoolOp .Or [a] pos) tA:=by
 intro wh z0 s Y H Q I h;refine isTrue_or (thn (ha z0 s Y H Q I h) λc s1 e=>?_)
 cases c with
 | false=>exact isTrue_or_nil e
 | true=>exact e
theorem Gz(ha:PT X a tA)(hb:PW X (.BoolOp .And (b::rest) pos) tB'):PW X (.BoolOp .And (a::b::rest) pos) (V4 tA tB'):=by
 intro wh z0 s Y H Q I h;refine isTrue_and (thn (ha z0 s Y H _ I h) λc s1 ⟨H1,I1,q1⟩=>?_)
 cases c with
 | true=>exact hb wh z0 s1 Y H1 Q I1 q1
 | false=>exact⟨H1,I1,q1⟩
theorem Js(ha:PT X a tA)(hb:PW X (.BoolOp .Or (b::rest) pos) tB'):PW X (.BoolOp .Or (a::b::rest) pos) (tOr tA tB'):=by
 intro wh z0 s Y H Q I h;refine isTrue_or (thn (ha z0 s Y H _ I h) λc s1 ⟨H1,I1,q1⟩=>?_)
 cases c with
 | true=>exact⟨H1,I1,q1⟩
 | false=>exact hb wh z0 s1 Y H1 Q I1 q1
theorem yQ(ha:PT X a tA):PT X (.UnaryOp .Not a pos) (VJ tA):=by
 intro z0 s Y H Q I h;exact isTrue_not (ha z0 s Y H (λc H1=>Q (!c) H1) I h)
def R7(ta tb:TE):TE:=λY H Q=>ta Y H λx H1=>∃c,x=.bl c/\if c=true then tb Y H1 Q else Q (.bl false) H1
def VH(ta tb:TE):TE:=λY H Q=>ta Y H λx H1=>∃c,x=.bl c/\if c=true then Q (.bl true) H1 else tb Y H1 Q
def RQ(ta:TE):TE:=λY H Q=>ta Y H λx H1=>∃c,x=.bl c/\Q (.bl (!c)) H1
theorem Om{op}{t:TE}(h:PE X a t):PE X (.BoolOp op [a] pos) t:=λz0 s Y H Q I hw=>BoolOp_one (h z0 s Y H Q I hw)
theorem G5(ha:PE X a ta)(hb:PE X (.BoolOp .And (b::rest) pos) tb):PE X (.BoolOp .And (a::b::rest) pos) (R7 ta tb):=by
 intro z0 s Y H Q I h;refine BoolOp_and (thn (ha z0 s Y H _ I h) λv s1 ⟨x,H1,I1,r1,q1⟩=>?_);obtain⟨c,rfl,q1⟩:=q1;cases r1;refine A2z ?_
 cases c with
 | true=>exact hb z0 s1 Y H1 Q I1 q1
 | false=>exact⟨.bl false,H1,I1,rfl,q1⟩
theorem Ol(ha:PE X a ta)(hb:PE X (.BoolOp .Or (b::rest) pos) tb):PE X (.BoolOp .Or (a::b::rest) pos) (VH ta tb):=by
 intro z0 s Y H Q I h;refine BoolOp_or (thn (ha z0 s Y H _ I h) λv s1 ⟨x,H1,I1,r1,q1⟩=>?_);obtain⟨c,rfl,q1⟩:=q1;cases r1;refine A2z ?_
 cases c with
 | false=>exact hb z0 s1 Y H1 Q I1 q1
 | true=>exact⟨.bl true,H1,I1,rfl,q1⟩
theorem Oo(ha:PE X a ta):PE X (.UnaryOp .Not a pos) (RQ ta):=by
 intro z0 s Y H Q I h;refine UnaryOp_ (thn (ha z0 s Y H _ I h) λv s1 ⟨x,H1,I1,r1,q1⟩=>?_);obtain⟨c,rfl,q1⟩:=q1;cases r1;exact not_of (A2z ⟨.bl (!c),H1,I1,rfl,q1⟩)
def tIf(t:TT)(ta tb:TE):TE:=λY H Q=>t Y H λc H1=>if c=true then ta Y H1 Q else tb Y H1 Q
theorem uT{c:Expr}(hc:PT X c tA)(ha:PE X a ta)(hb:PE X b tb):PE X (.IfExp c a b pos) (tIf tA ta tb):=by
 intro z0 s Y H Q I h;refine wpAny_IfExp (thn (hc z0 s Y H _ I h) λd s1 ⟨H1,I1,q1⟩=>?_)
 cases d with
 | true=>exact ha z0 s1 Y H1 Q I1 q1
 | false=>exact hb z0 s1 Y H1 Q I1 q1
end
def SqL(K:Zf)(H:Hp)(a:Addr)(xs:List V):Prop :=
 Rd H a (.lst xs) \/
  ∃(o:Obj)(its:Array Value)(n:Nat),K.lookup a=some o/\o.cls=.type "list"/\o.dict=none/\o.data=.seq its n/\its.size<=sizeLine/\Vals xs its.toList
def SqT(K:Zf)(H:Hp)(a:Addr)(xs:List V):Prop :=
 Rd H a (.tup xs) \/
  ∃(o:Obj)(its:Array Value)(n:Nat),K.lookup a=some o/\o.cls=.type "tuple"/\o.data=.seq its n/\its.size<=sizeLine/\Vals xs its.toList
def Xd:Value->Option V
 | .none=>some .non
 | .bool b=>some (.bl b)
 | .int i _=>some (.int i)
 | .str x _=>some (.str x)
 | .bytes b _=>some (.byt b)
 | .float b _=>some (.flt b)
 | .ref a=>some (.ref a)
 | .type n=>some (.ty n)
 | _=>none
theorem RelV.abs{x:V}{u:Value}(r:RelV x u):Xd u=some x:=by
 cases x with
 | non=>cases r;rfl
 | bl _=>cases r;rfl
 | int _=>obtain⟨t,rfl⟩:=r;rfl
 | str _=>obtain⟨t,rfl⟩:=r;rfl
 | byt _=>obtain⟨t,rfl⟩:=r;rfl
 | flt _=>obtain⟨t,rfl⟩:=r;rfl
 | ref _=>cases r;rfl
 | ty _=>cases r;rfl
theorem RelV.inj{x y:V}{u:Value}(r:RelV x u)(q:RelV y u):x=y:=G3z (r.abs.symm.trans q.abs)
theorem Vals.inj:∀{xs ys:List V}{us:List Value},Vals xs us->Vals ys us->xs=ys
 | _,_,_,.nil,.nil=>rfl
 | _,_,_,.cons r t,.cons r' t'=>by rw[r.inj r',Vals.inj t t']
section
variable{X:Cx}{z0:List (Addr×Obj)}{Y:St}{H:Hp}{s:Shared}{a:Addr}{xs ys:List V}
theorem SqL.of{K:Zf}(h:H a=some (.lst xs)):SqL K H a xs:=.inl (.inl h)
theorem SqT.of{K:Zf}(h:H a=some (.tup xs)):SqT K H a xs:=.inl (.inl h)
theorem Inv.list(I:Inv X z0 Y H s)(h:SqL X.K H a xs):∃its:List Value,Vals xs its/\PlainL s.heap a its.toArray/\xs.length<=sizeLine:=by
 rcases h with h | ⟨o,its,n,hk,hc,hd,hs,hz,r⟩
 .obtain⟨z,its,n,r,e⟩:=h.ok I.hok
  exact⟨its,r,⟨_,n,e,rfl,rfl,rfl⟩,z⟩
 .refine⟨its.toList,r,⟨o,n,I.kIn a o hk,hc,hd,by simpa using hs⟩,?_⟩
  have e:=r.length;simp only[B1z] at e;omega
theorem Inv.tuple(I:Inv X z0 Y H s)(h:SqT X.K H a xs):∃its:List Value,Vals xs its/\IsTup s.heap a its.toArray/\xs.length<=sizeLine:=by
 rcases h with h | ⟨o,its,n,hk,hc,hs,hz,r⟩
 .obtain⟨z,its,r,p⟩:=h.ok I.hok
  exact⟨its,r,p,z⟩
 .refine⟨its.toList,r,⟨o,I.kIn a o hk,hc,n,by simpa using hs⟩,?_⟩
  have e:=r.length;simp only[B1z] at e;omega
theorem Inv.list_inj(I:Inv X z0 Y H s)(h:SqL X.K H a xs)(h':SqL X.K H a ys):xs=ys:=by
 obtain⟨its,r,⟨o,n,e,_,_,d⟩,_⟩:=I.list h;obtain⟨its',r',⟨o',n',e',_,_,d'⟩,_⟩:=I.list h';rw[e] at e';cases e';rw[d] at d';injection d' with d1 _
 have:its=its':=by simpa using congrArg Array.toList d1
 subst this;exact r.inj r'
theorem Inv.tuple_inj(I:Inv X z0 Y H s)(h:SqT X.K H a xs)(h':SqT X.K H a ys):xs=ys:=by
 obtain⟨its,r,⟨o,e,_,n,d⟩,_⟩:=I.tuple h;obtain⟨its',r',⟨o',e',_,n',d'⟩,_⟩:=I.tuple h';rw[e] at e';cases e';rw[d] at d';injection d' with d1 _
 have:its=its':=by simpa using congrArg Array.toList d1
 subst this;exact r.inj r'
end
abbrev Cx.wish(X:Cx)(E:Value->Shared->Prop):Cx:={X with xe:=E}
abbrev Cx.nox(X:Cx):Cx:=X.wish λ_ _=>False
theorem Cx.Ok.wish{X:Cx}(ok:X.Ok)(E:Value->Shared->Prop):(X.wish E).Ok :=
 ⟨ok.mod,ok.kind,ok.glob,ok.blt,ok.above,ok.inj,ok.has,ok.cab,ok.hd,ok.frames,ok.stk,ok.exf,ok.bs,ok.bsz,ok.noex,ok.exfs,ok.funs,ok.frf⟩
theorem Cx.Ok.unwish{X:Cx}{E:Value->Shared->Prop}(ok:(X.wish E).Ok):X.Ok :=
 ⟨ok.mod,ok.kind,ok.glob,ok.blt,ok.above,ok.inj,ok.has,ok.cab,ok.hd,ok.frames,ok.stk,ok.exf,ok.bs,ok.bsz,ok.noex,ok.exfs,ok.funs,ok.frf⟩
section
variable{X:Cx}{z0:List (Addr×Obj)}{Y:St}{H:Hp}{s:Shared}{E:Value->Shared->Prop}
theorem Inv.wish(I:Inv X z0 Y H s)(E:Value->Shared->Prop):Inv (X.wish E) z0 Y H s:=⟨I.ok.wish E,I.os,I.bare,I.base,I.loc,I.cell,I.free,I.freeC,I.pin,I.hok,I.len⟩
theorem Inv.unwish(I:Inv (X.wish E) z0 Y H s):Inv X z0 Y H s:=⟨I.ok.unwish,I.os,I.bare,I.base,I.loc,I.cell,I.free,I.freeC,I.pin,I.hok,I.len⟩
theorem SP.unwish{D:Ends}{f:Flow}{s':Shared}(h:SP (X.wish E) z0 D f s'):SP X z0 D f s':=by
 cases f with
 | next=>obtain⟨Y',H',I,q⟩:=h;exact⟨Y',H',I.unwish,q⟩
 | brk=>obtain⟨Y',H',I,q⟩:=h;exact⟨Y',H',I.unwish,q⟩
 | cont=>obtain⟨Y',H',I,q⟩:=h;exact⟨Y',H',I.unwish,q⟩
 | ret u=>obtain⟨v,Y',H',I,r,q⟩:=h;exact⟨v,Y',H',I.unwish,r,q⟩
end
section
variable{X:Cx}{st:Stmt}{rest:List Stmt}{t u:TS}{e:Expr}{te:TE}{pos:Pos}
def Np:TS:=λD Y H=>D.nx Y H
def VD(t u:TS):TS:=λD Y H=>t {D with nx:=u D} Y H
theorem fj:PSs X [] Np:=λ_ _ Y H _ I h=>wpAny_execs_nil ⟨Y,H,I,h⟩
theorem aL(h1:PS X st t)(h2:PSs X rest u):PSs X (st::rest) (VD t u):=by
 intro z0 s Y H D I h;refine wpAny_execs_cons (thn (h1 z0 s Y H {D with nx:=u D} I h) λf s1 q=>?_)
 cases f with
 | next =>
  obtain⟨Y',H',I',q⟩:=q;exact h2 z0 s1 Y' H' D I' q
 | ret v=>exact q
 | brk=>exact q
 | cont=>exact q
theorem aY(h1:PS X st t):PSs X [st] t:=by
 intro z0 s Y H D I h;refine wpAny_execs_cons (thn (h1 z0 s Y H D I h) λf s1 q=>?_)
 cases f with
 | next=>exact wpAny_execs_nil q
 | ret v=>exact q
 | brk=>exact q
 | cont=>exact q
theorem Jw:PS X (.Pass pos) Np:=λ_ _ Y H _ I h=>wpAny_Pass ⟨Y,H,I,h⟩
theorem Inv.quiet{z0:List (Addr×Obj)}{Y:St}{H:Hp}{s:Shared}(I:Inv X z0 Y H s):interactive X.env=false:=by simp[interactive,I.ok.kind]
def RW(te:TE):TS:=λD Y H=>te Y H λ_ H1=>D.nx Y H1
theorem cC(he:PE X e te)(hs:swapsWith e none pos.line X.env=pure false:=by rfl):PS X (.Expr e pos) (RW te):=by
 intro z0 s Y H D I h;exact wpAny_Expr_any (thn (he z0 s Y H _ I h) λv s1 ⟨x,H1,I1,r1,q1⟩=>⟨Y,H1,I1,q1⟩) I.quiet hs
def VF(te:TE):TS:=λD Y H=>te Y H D.rt
theorem cN(he:PE X e te):PS X (.Return (some e) pos) (VF te):=by
 intro z0 s Y H D I h;exact wpAny_Return_some (thn (he z0 s Y H _ I h) λv s1 ⟨x,H1,I1,r1,q1⟩=>⟨x,Y,H1,I1,r1,q1⟩)
def RN:TS:=λD _ H=>D.rt .non H
theorem Jv:PS X (.Return none pos) RN:=λ_ _ Y H _ I h=>wpAny_Return_none ⟨.non,Y,H,I,rfl,h⟩
def VP(c:TT)(t u:TS):TS:=λD Y H=>c Y H λb H1=>if b=true then t D Y H1 else u D Y H1
theorem lD{c:Expr}{a b:List Stmt}{tc:TT}(hc:PT X c tc)(ha:PSs X a t)(hb:PSs X b u):PS X (.If c a b pos) (VP tc t u):=by
 intro z0 s Y H D I h;refine wpAny_If (thn (hc z0 s Y H _ I h) λd s1 ⟨H1,I1,q1⟩=>?_)
 cases d with
 | true=>exact ha z0 s1 Y H1 D I1 q1
 | false=>exact hb z0 s1 Y H1 D I1 q1
end
abbrev TG:=V->St->Hp->(St->Hp->Prop)->Prop
abbrev TGs:=List V->St->Hp->(St->Hp->Prop)->Prop
def PG(X:Cx)(target:Expr)(t:TG):Prop :=
  ∀(z0:List (Addr×Obj))(s:Shared)(Y:St)(H:Hp)(v:V)(u:Value)(Q:St->Hp->Prop), Inv X z0 Y H s->RelV v u->t v Y H Q ->
    wpAny (model X.prog X.w) X.A (assign target X.env u) (λ_ s'=>∃Y' H',Inv X z0 Y' H' s'/\Q Y' H') X.xe s
def PGs(X:Cx)(ts:List Expr)(t:TGs):Prop :=
  ∀(z0:List (Addr×Obj))(s:Shared)(Y:St)(H:Hp)(vs:List V)(us:List Value)(Q:St->Hp->Prop), Inv X z0 Y H s->Vals vs us->t vs Y H Q ->
    wpAny (model X.prog X.w) X.A (assignInOrder ((assignEach ts X.env).map (·.2)) us) (λ_ s'=>∃Y' H',Inv X z0 Y' H' s'/\Q Y' H') X.xe s
section
variable{X:Cx}{pos:Pos}
def Qh(i:Nat):TG:=λv Y H Q=>Q (Y.set i (some v)) H
theorem JF{i:Nat}{x:Str}(hN:X.N.Nodup)(hi:X.N[i]?=some x)(hx:Loc X.env.scope x)(hf:X.fn x=true\/X.env.scope.names.lookup x=some .local:=by first | exact .inl rfl | exact .inr rfl | assumption):PG X (.Name x pos) (Qh i):=by
 intro z0 s Y H v u Q I r h;exact wpAny_assign_Name (iR I hN hi hx r (λs' I'=>⟨_,H,I',h⟩) hf)
def WR:TGs:=λvs Y H Q=>vs=[]/\Q Y H
def Ue(t:TG)(u:TGs):TGs:=λvs Y H Q=>∃v r,vs=v::r/\t v Y H λY' H'=>u r Y' H' Q
theorem JD:PGs X [] WR:=by
 intro z0 s Y H vs us Q I r h;obtain⟨e,h⟩:=h;subst e;cases r;exact assignInOrder_nil ⟨Y,H,I,h⟩
theorem Dm{e:Expr}{es:List Expr}{t:TG}{u:TGs}(h1:PG X e t)(h2:PGs X es u)
  (hs:(assignEach (e::es) X.env).map (·.2)=assign e X.env::(assignEach es X.env).map (·.2):=by rfl):PGs X (e::es) (Ue t u):=by
 intro z0 s Y H vs us Q I r h;obtain⟨v,vr,e1,h⟩:=h;subst e1
 cases r with
 | cons r rr =>
  rw[hs];refine assignInOrder_cons (thn (h1 z0 s Y H _ _ _ I r h) λ_ s1 ⟨Y1,H1,I1,q1⟩=>?_);exact h2 z0 s1 Y1 H1 _ _ Q I1 rr q1
def gTup(K:Zf)(n:Nat)(t:TGs):TG:=λv Y H Q=>∃a xs,v=.ref a/\SqT K H a xs/\xs.length=n/\t xs Y H Q
theorem G3{es:List Expr}{k:Nat}{t:TGs}{n:Nat}(hc:X.calm=true)(h:PGs X es t)
  (hn:(assignEach es X.env).length=n:=by rfl) (hst:(assignEach es X.env).findIdx? (·.1)=none:=by rfl):PG X (.Tuple es k pos) (gTup X.K n t):=by
 intro z0 s Y H v u Q I r hw;obtain⟨a,xs,e1,hq,hl,hw⟩:=hw;subst e1;cases r;obtain⟨its,rv,ht,hz⟩:=I.tuple hq;refine assign_Tuple_tuple (I.ok.hd hc) ht (by simp[hn,<- hl,rv.length]) hst λh' hx=>?_;have I1:Inv X z0 Y H {s with heap:=h'}:=I.kept (t':=s.toks) λb o e=>hx b o (O4z (N4z e)) e;exact h z0 _ Y H xs _ Q I1 (by simpa using rv) hw
def U8(te:TE)(g:TG):TS:=λD Y H=>te Y H λx H1=>g x Y H1 D.nx
theorem GR{tg e:Expr}{te:TE}{g:TG}(he:PE X e te)(hg:PG X tg g)(hs:swapsWithSole [tg] e pos.line X.env=pure false:=by rfl)(hw:swappedStores [tg] e X.env=pure none:=by rfl)
  (h1:(assignEach [tg] X.env).map (·.2)=[assign tg X.env]:=by rfl):PS X (.Assign [tg] e pos) (U8 te g):=by
 intro z0 s Y H D I h;refine wpAny_Assign_stores (thn (he z0 s Y H _ I h) λv s1 ⟨x,H1,I1,r1,q1⟩=>?_) hs hw;rw[h1];exact thn (hg z0 s1 Y H1 x v _ I1 r1 q1) λ_ s2 q=>q
theorem iV{i:Nat}{x:Str}{e:Expr}{te:TE}{pos':Pos}(hN:X.N.Nodup)(hi:X.N[i]?=some x)(hx:Loc X.env.scope x)(he:PE X e te)(hs:swapsWith e (some (.Name x pos')) pos.line X.env=pure false:=by rfl)(hf:X.fn x=true\/X.env.scope.names.lookup x=some .local:=by first | exact .inl rfl | exact .inr rfl | assumption) :
  PS X (.Assign [.Name x pos'] e pos) (U8 te (Qh i)):=by
 intro z0 s Y H D I h;refine wpAny_Assign_Name (thn (he z0 s Y H _ I h) λv s1 ⟨y,H1,I1,r1,q1⟩=>?_) hs;exact iR I1 hN hi hx r1 (λs2 I2=>⟨_,H1,I2,q1⟩) hf
def VG(i j:Nat)(ta:TA):TS:=λD Y H=>ta Y H λvs H1=>∃v w,vs=[v,w]/\D.nx ((Y.set i (some v)).set j (some w)) H1
theorem Oe{i j:Nat}{x y:Str}{a b:Expr}{ta:TA}{px py pt:Pos}{kt k2 pt2}(hc:X.calm=true)(hN:X.N.Nodup)(hi:X.N[i]?=some x)(hj:X.N[j]?=some y)(hij:i≠j)
  (hx:X.env.scope.names.lookup x=some .local) (hy:X.env.scope.names.lookup y=some .local) (ha:PA X [a,b] ta)
  (hw:swappedStores [.Tuple [.Name x px,.Name y py] kt pt] (.Tuple [a,b] k2 pt2) X.env=pure (some [x,y]))
  (hs:swapsWithSole [.Tuple [.Name x px,.Name y py] kt pt] (.Tuple [a,b] k2 pt2) pos.line X.env=pure false:=by rfl) :
  PS X (.Assign [.Tuple [.Name x px,.Name y py] kt pt] (.Tuple [a,b] k2 pt2) pos) (VG i j ta):=by
 intro z0 s Y H D I h;rw[exec_Assign_arm];refine E5z (D4z ?_);rw[hs];refine E5z (F5z ?_);rw[Q5z (by decide)];refine E5z (Tuple_ (thn (ha _ z0 s Y H _ I h) λus s1 ⟨vs,H1,I1,r1,q1⟩=>?_));obtain⟨v,w,e1,q1⟩:=q1;subst e1
 obtain⟨u1,u2,rfl,rv,rw'⟩:∃u1 u2,us=[u1,u2]/\RelV v u1/\RelV w u2:=by
  cases r1 with
  | cons p q =>
   cases q with
   | cons p' q' =>
    cases q';exact⟨_,_,rfl,p,p'⟩
 refine B2z ?_ (by show 2<=sizeLine;decide)
 have I2:Inv X z0 Y H1 {s1 with heap:=s1.heap.push {cls:=.type "tuple",data:=.seq [u1,u2].toArray} }:=I1.kept (t':=s1.toks) λb o e=>Heap.get?_push_of_some _ e;rw[hw];refine E5z (F5z ?_);show wpAny (model X.prog X.w) X.A (do rule "assign.swapped-stores";let items <- unpackItems (.ref s1.heap.objs.size) 2 none;assignInOrder [λv=>bindName X.env y v,λv=>bindName X.env x v] items.reverse;pure Flow.next) _ _ _;refine E5z (G5z (E5z (unpackItems_tuple (items := #[u1,u2]) (I.ok.hd hc) (IsTup.new s1.heap _) λh' hx'=>?_)));have I3:=I2.kept (h':=h') (t':=s1.toks) λb o e=>hx' b o (O4z (N4z e)) e;show wpAny _ _ (assignInOrder [λv=>bindName X.env y v,λv=>bindName X.env x v] [u2,u1] >>=λ_=>pure Flow.next) _ _ _;refine E5z (assignInOrder_cons (wpAny_bindName (iR I3 hN hj (.inl hy) rw' (λs2 I4=>?_) (.inr hy))));refine assignInOrder_cons (wpAny_bindName (iR I4 hN hi (.inl hx) rv (λs3 I5=>assignInOrder_nil (F5z ?_)) (.inr hx)));rw[List.set_comm _ _ (N5z hij)] at I5;exact⟨_,H1,I5,q1⟩
end
section
variable{X:Cx}{pos:Pos}
end
structure It where
 go:Nat->Hp->Prop
 yld:Nat->Hp->V->Hp->Prop
 stop:Nat->Hp->Prop
def vV(X:Cx)(z0:List (Addr×Obj))(H:Hp)(b:Addr):Prop :=
 H b=none/\b≠X.env.locals/\b∉X.fs/\(b∈X.ex\/X.s₀.heap.objs.size<=b)/\(∀x c,X.env.cells.lookup x=some c->c≠b)/\∀p∈X.pn++z0,p.1≠b
theorem Inv.fpOk{X:Cx}{z0:List (Addr×Obj)}{Y:St}{H H':Hp}{s:Shared}{b:Addr}(I:Inv X z0 Y H s)(hb:s.heap.objs.size<=b)(hn:H' b=none):vV X z0 H' b:=by
 refine⟨hn,R4z (I1z I.lt hb),I.nofs hb,.inr (P4z I.sz hb),λx c e z=>?_,λp hp z=>?_⟩
 .obtain⟨v,q⟩:=I.cell x c e
  exact absurd (I1z q.lt (by rw[z];exact hb)) (C4z _)
 .exact absurd (I1z (N4z (I.pin p hp).1) (by rw[z];exact hb)) (C4z _)
structure Turn(P:Program)(w:World)(K:Zf)(tg:Expr)(J:It)(fp:List Addr)(it:Addr)(tn:Nat->Heap->Prop):Prop where
 mem:it∈fp
 obj:∀i h,tn i h->∀b∈fp,∃o,h.get? b=some o/\∀v,o.data≠.cell v
 keep:∀i h h',tn i h->(∀b∈fp,∀o,h.get? b=some o->h'.get? b=some o)->tn i h'
 item:∀(X:Cx),X.prog=P->X.w=w->X.K=K->X.calm=true->∀(i:Nat)(z0:List (Addr×Obj))(s:Shared)(Y:St)(H:Hp)(E:Value->Shared->Prop),Inv X z0 Y H s->(∀b∈fp,vV X z0 H b)->tn i s.heap->J.go i H ->
  wpAny (model P w) X.A (pyNext (.ref it)) (λr s1=>∃u,r=some u /\
   wpAny (model P w) X.A (letOwnedTupleGo tg (.ref it) u) (λ_ s2=>∃x H',Inv X z0 Y H' s2/\RelV x u/\J.yld i H x H'/\tn (i+1) s2.heap/\∀b∈fp,H' b=none) E s1) E s
 done:∀(X:Cx),X.prog=P->X.w=w->X.K=K->X.calm=true->∀(i:Nat)(z0:List (Addr×Obj))(s:Shared)(Y:St)(H:Hp)(E:Value->Shared->Prop),Inv X z0 Y H s->(∀b∈fp,vV X z0 H b)->tn i s.heap->J.stop i H ->
  wpAny (model P w) X.A (pyNext (.ref it)) (λr s1=>r=none/\Inv X z0 Y H s1) E s
 self:∀(A:Around)(i:Nat)(s:Shared)(Q:Value->Shared->Prop)(E:Value->Shared->Prop),tn i s.heap->Q (.ref it) s->wpAny (model P w) A (pyIter (.ref it)) Q E s
abbrev TI:=St->Hp->(It->Hp->Prop)->Prop
def PIE(X:Cx)(z0:List (Addr×Obj))(Y:St)(tg:Expr)(R:It->Hp->Prop)(itv:Value)(s2:Shared):Prop :=
 ∃(it:Addr)(fp:List Addr)(tn:Nat->Heap->Prop)(J:It)(H':Hp),itv=.ref it/\Inv X z0 Y H' s2/\Turn X.prog X.w X.K tg J fp it tn/\tn 0 s2.heap/\(∀b∈fp,vV X z0 H' b)/\R J H'
def PI(X:Cx)(tg iter:Expr)(wi:TI):Prop :=
  ∀(z0:List (Addr×Obj))(s:Shared)(Y:St)(H:Hp)(R:It->Hp->Prop), Inv X z0 Y H s->wi Y H R ->
    wpAny (model X.prog X.w) X.A (eval iter X.env) (λv s1=>wpAny (model X.prog X.w) X.A (pyIter v) (PIE X z0 Y tg R) X.xe s1) X.xe s
theorem wK{M:Model}{A:Around}{E:Value->Shared->Prop}{s:Shared}{tg:Expr}{it:Addr}{u:Value}{o:Obj}{n:String}{vs:Array Value}{Q:Unit->Shared->Prop}(ho:s.heap.get? it=some o)(hc:o.cls=.type n)(hd:o.data=.fields vs)
    (hn:["enumerate","zip","dict_itemiterator","dict_reverseitemiterator","odict_iterator","itertools.zip_longest","itertools.pairwise"].contains n=false) (hQ:Q () s):wpAny M A (letOwnedTupleGo tg (.ref it) u) Q E s:=by
  unfold letOwnedTupleGo
  cases tg<;>first
    | exact F5z hQ
    | (cases u<;>first
        | exact F5z hQ
        | (refine E5z (wpAny_load ho ?_)
           rw[hc,hd]
           show wpAny M A (if(["enumerate","zip","dict_itemiterator","dict_reverseitemiterator","odict_iterator","itertools.zip_longest","itertools.pairwise"].contains n&&vs[0]?==some (rawInt _))=true then _ else _) Q E s
           rw[Q5z (by intro h;rw[hn,Bool.false_and] at h;cases h)]
           exact F5z hQ))
def Itl(K:Zf)(a:Addr):It :=
 ⟨λi H=>∃xs x,SqL K H a xs/\xs[i]?=some x,λi H x H'=>H'=H/\∀xs,SqL K H a xs->xs[i]?=some x,λi H=>∃xs,SqL K H a xs/\xs.length<=i⟩
def Itt(K:Zf)(a:Addr):It :=
 ⟨λi H=>∃xs x,SqT K H a xs/\xs[i]?=some x,λi H x H'=>H'=H/\∀xs,SqT K H a xs->xs[i]?=some x,λi H=>∃xs,SqT K H a xs/\xs.length<=i⟩
def Itr(lo:Int)(n:Nat):It:=⟨λi _=>i<n,λi H x H'=>H'=H/\x=.int (lo+i),λi _=>n<=i⟩
theorem xQ{P:Program}{w:World}{K:Zf}{tg:Expr}(a it:Addr):Turn P w K tg (Itl K a) [it] it (λi h=>h.IsListIter it a i) where
 mem:=by simp
 obj:=λi h st b hb=>by
  have e:b=it:=by simpa using hb
  subst e;obtain⟨o,e,c,d⟩:=st;exact⟨o,e,λv z=>by rw[d] at z;cases z⟩
 keep:=λi h h' st k=>st.at λo e=>k it (by simp) o e
 item:=by
  intro X hP hw hK hc i z0 s Y H E I hf st hg;subst hP hw hK;obtain⟨xs,x,hq,hx⟩:=hg;obtain⟨its,rv,p,hz⟩:=I.list hq;obtain⟨u,hu,ru⟩:=rv.get hx;obtain⟨f0,f1,f2,f3,f4,f5⟩:=hf it (by simp);refine wpAny_pyNext_list_item st p.isList (x:=u) (by simpa using hu) λh' st' sb=>?_;have I1:Inv X z0 Y H {s with heap:=h'}:=I.turned (t':=s.toks) (λb o hb e=>(sb.2 b hb).trans e) f0 f1 f3 f4 f5;obtain⟨o,e,c,d⟩:=id st';exact⟨u,rfl,wK (s:={s with heap:=h'}) e c d (by decide) ⟨x,H,I1,ru,⟨rfl,λys hy=>by rw[I.list_inj hy hq];exact hx⟩,st',λb hb=>(hf b hb).1⟩⟩
 done:=by
  intro X hP hw hK hc i z0 s Y H E I hf st hg;subst hP hw hK;obtain⟨xs,hq,hx⟩:=hg;obtain⟨its,rv,p,hz⟩:=I.list hq;obtain⟨f0,f1,f2,f3,f4,f5⟩:=hf it (by simp);have hl:=rv.length;exact wpAny_pyNext_list_end (I.ok.hd hc) st p.isList (by simp;omega) λh' eb=>⟨rfl,I.turned (t':=s.toks) (λb o hb e=>eb b o hb e) f0 f1 f3 f4 f5⟩
 self:=λ_ _ _ _ _ st h=>wpAny_pyIter_listiter st h
theorem wg{P:Program}{w:World}{K:Zf}{tg:Expr}(a it:Addr):Turn P w K tg (Itt K a) [it] it (λi h=>h.IsTupleIter it a i) where
 mem:=by simp
 obj:=λi h st b hb=>by
  have e:b=it:=by simpa using hb
  subst e;obtain⟨o,e,c,d⟩:=st;exact⟨o,e,λv z=>by rw[d] at z;cases z⟩
 keep:=λi h h' st k=>st.at λo e=>k it (by simp) o e
 item:=by
  intro X hP hw hK hc i z0 s Y H E I hf st hg;subst hP hw hK;obtain⟨xs,x,hq,hx⟩:=hg;obtain⟨its,rv,p,hz⟩:=I.tuple hq;obtain⟨u,hu,ru⟩:=rv.get hx;obtain⟨f0,f1,f2,f3,f4,f5⟩:=hf it (by simp);refine wpAny_pyNext_tuple_item st (show s.heap.IsTuple a its.toArray from p) (x:=u) (by simpa using hu) λh' st' sb=>?_;have I1:Inv X z0 Y H {s with heap:=h'}:=I.turned (t':=s.toks) (λb o hb e=>(sb.2 b hb).trans e) f0 f1 f3 f4 f5;obtain⟨o,e,c,d⟩:=id st';exact⟨u,rfl,wK (s:={s with heap:=h'}) e c d (by decide) ⟨x,H,I1,ru,⟨rfl,λys hy=>by rw[I.tuple_inj hy hq];exact hx⟩,st',λb hb=>(hf b hb).1⟩⟩
 done:=by
  intro X hP hw hK hc i z0 s Y H E I hf st hg;subst hP hw hK;obtain⟨xs,hq,hx⟩:=hg;obtain⟨its,rv,p,hz⟩:=I.tuple hq;obtain⟨f0,f1,f2,f3,f4,f5⟩:=hf it (by simp);have hl:=rv.length;exact wpAny_pyNext_tuple_end (I.ok.hd hc) st (show s.heap.IsTuple a its.toArray from p) (by simp;omega) λh' eb=>⟨rfl,I.turned (t':=s.toks) (λb o hb e=>eb b o hb e) f0 f1 f3 f4 f5⟩
 self:=λ_ _ _ _ _ st h=>wpAny_pyIter_tupleiter st h
theorem wj{P:Program}{w:World}{K:Zf}{tg:Expr}(it:Addr)(lo:Int)(n:Nat):Turn P w K tg (Itr lo n) [it] it (λi h=>IsRangeIter h it (lo+(i:Nat)*1) ((n:Int)-(i:Nat)) 1) where
 mem:=by simp
 obj:=λi h st b hb=>by
  have e:b=it:=by simpa using hb
  subst e
  exact⟨_,st,λv z=>by
   have z':Data.fields _=Data.cell v:=z
   cases z'⟩
 keep:=λi h h' st k=>k it (by simp) _ st
 item:=by
  intro X hP hw hK hc i z0 s Y H E I hf st hg;subst hP hw hK;obtain⟨f0,f1,f2,f3,f4,f5⟩:=hf it (by simp);have W:=Walks.range (prog:=X.prog) (w:=X.w) (I.ok.hd hc) it lo 1 n;refine W.item i s _ _ hg st λv h' tk hv st' kk=>?_;obtain⟨t,rfl⟩:=hv;have I1:Inv X z0 Y H {s with heap:=h',toks:=tk}:=I.turned (λb o hb e=>kk b o (by simpa using hb) e) f0 f1 f3 f4 f5;refine⟨_,rfl,wK (s:={s with heap:=h',toks:=tk}) (n:="range_iterator") st' rfl rfl (by decide) ⟨.int (lo+i),H,I1,⟨t,?_⟩,⟨rfl,rfl⟩,st',λb hb=>(hf b hb).1⟩⟩;rw[Int.mul_one]
 done:=by
  intro X hP hw hK hc i z0 s Y H E I hf st hg;subst hP hw hK;obtain⟨f0,f1,f2,f3,f4,f5⟩:=hf it (by simp);exact wpAny_pyNext_range_end (I.ok.hd hc) st (by have:n<=i:=hg;omega) λh' eb=>⟨rfl,I.turned (t':=s.toks) (λb o hb e=>eb b o hb e) f0 f1 f3 f4 f5⟩
 self:=λ_ _ _ _ _ st h=>wpAny_pyIter_rangeiter st h
section
variable{X:Cx}{tg:Expr}
def TY(K:Zf)(tl:TE):TI:=λY H R=>tl Y H λx H1=>∃a,x=.ref a/\(∃xs,SqL K H1 a xs)/\R (Itl K a) H1
def WK(K:Zf)(tl:TE):TI:=λY H R=>tl Y H λx H1=>∃a,x=.ref a/\(∃xs,SqT K H1 a xs)/\R (Itt K a) H1
theorem yX{l:Expr}{tl:TE}(hl:PE X l tl):PI X tg l (TY X.K tl):=by
 intro z0 s Y H R I h;refine thn (hl z0 s Y H _ I h) λv s1 ⟨x,H1,I1,r1,q1⟩=>?_;obtain⟨a,e,⟨xs,hq⟩,q⟩:=q1;subst e;cases r1;obtain⟨its,rv,p,hz⟩:=I1.list hq;refine wpAny_pyIter_list p.isList ?_;refine⟨s1.heap.objs.size,[s1.heap.objs.size],_,_,H1,rfl,I1.kept (t':=s1.toks) λb o e=>Heap.get?_push_of_some _ e,xQ a _,⟨_,Heap.get?_push_size _ rfl,rfl,rfl⟩,λb hb=>?_,q⟩
 have e:b=s1.heap.objs.size:=by simpa using hb
 subst e;exact I1.fpOk (X4z _) (I1.hok.fresh (X4z _))
theorem Oh{l:Expr}{tl:TE}(hl:PE X l tl):PI X tg l (WK X.K tl):=by
 intro z0 s Y H R I h;refine thn (hl z0 s Y H _ I h) λv s1 ⟨x,H1,I1,r1,q1⟩=>?_;obtain⟨a,e,⟨xs,hq⟩,q⟩:=q1;subst e;cases r1;obtain⟨its,rv,p,hz⟩:=I1.tuple hq;refine L1z (show s1.heap.IsTuple a its.toArray from p) ?_;refine⟨s1.heap.objs.size,[s1.heap.objs.size],_,_,H1,rfl,I1.kept (t':=s1.toks) λb o e=>Heap.get?_push_of_some _ e,wg a _,⟨_,Heap.get?_push_size _ rfl,rfl,rfl⟩,λb hb=>?_,q⟩
 have e:b=s1.heap.objs.size:=by simpa using hb
 subst e;exact I1.fpOk (X4z _) (I1.hok.fresh (X4z _))
theorem Di{z0:List (Addr×Obj)}{Y:St}{H:Hp}{s:Shared}{R:It->Hp->Prop}{E:Value->Shared->Prop}{lo hi:Int}{t u v:Tok}{tk:Nat}(I:Inv X z0 Y H s)(h1:-(2^62)<=lo)(h2:lo<2^62)(h3:-(2^62)<=hi)(h4:hi<2^62)
  (q:R (Itr lo (hi-lo).toNat) H):wpAny (model X.prog X.w) X.A (pyIter (.ref s.heap.objs.size)) (PIE X z0 Y tg R) E {s with heap:=s.heap.push {cls:=.type "range",data:=.fields #[.int lo t,.int hi u,.int 1 v]},toks:=tk}:=by
 refine wpAny_pyIter_range (IsRange.new ..) (small_one h1 h2 h3 h4) ?_;have I1:Inv X z0 Y H {s with heap:=s.heap.push {cls:=.type "range",data:=.fields #[.int lo t,.int hi u,.int 1 v]},toks:=tk}:=I.kept λb o e=>Heap.get?_push_of_some _ e
 refine⟨(s.heap.push {cls:=.type "range",data:=.fields #[.int lo t,.int hi u,.int 1 v]}).objs.size,[(s.heap.push {cls:=.type "range",data:=.fields #[.int lo t,.int hi u,.int 1 v]}).objs.size],_,_,H,rfl,
  I1.kept (t':=tk) λb o e=>Heap.get?_push_of_some _ e,wj _ lo (hi-lo).toNat,?_,λb hb=>?_,q⟩
 .have e1:lo+((0:Nat):Int)*1=lo:=by simp
  have e2:(((hi-lo).toNat:Nat):Int)-((0:Nat):Int)=Builtin.Range.rangeSize lo hi 1:=by rw[rangeSize_one];split<;>omega
  show IsRangeIter _ _ (lo+((0:Nat):Int)*1) ((((hi-lo).toNat:Nat):Int)-((0:Nat):Int)) 1;rw[e1,e2];exact Heap.get?_push_size _ rfl
 .have e:b=(s.heap.push {cls:=.type "range",data:=.fields #[.int lo t,.int hi u,.int 1 v]}).objs.size:=by simpa using hb
  subst e;exact I1.fpOk (X4z _) (I1.hok.fresh (X4z _))
def TQ(ta:TA):TI:=λY H R=>ta Y H λvs H1=>∃j:Int,vs=[.int j] /\ -(2^62)<=j/\j<2^62/\R (Itr 0 j.toNat) H1
theorem yW{a:Expr}{ta:TA}{p pos:Pos}(hg:Gl X "range")(hm:X.mg "range"=none)(ha:PA X [a] ta)(hs:starEach [a] X.env=[(false,eval a X.env)]:=by rfl):PI X tg (.Call (.Name "range" p) [a] [] pos) (TQ ta):=by
 intro z0 s Y H R I h;refine Call_ (jO I hg hm boot_range (A0z (thn (ha pos z0 s Y H _ I h) λus s1 ⟨vs,H1,I1,r1,q1⟩=>?_) hs rfl));obtain⟨j,e,q1,q2,q⟩:=q1;subst e
 cases r1 with
 | cons r rr =>
  cases rr;obtain⟨t,rfl⟩:=r;exact call_range_1 (Di I1 (by omega) (by omega) q1 q2 (by simpa using q))
def VR(wi:TI)(g:TG)(tb:TS):TS:=λD Y H=>wi Y H λJ H1=>∃W:Nat->Nat->St->Hp->Prop,(∃m,W 0 m Y H1)/\∀i m Y H,W i m Y H ->
 (J.stop i H/\D.nx Y H)\/(J.go i H/\∃N:St->Hp->Prop,(∀Y' H',N Y' H'->∃m',m'<m/\W (i+1) m' Y' H')/\∀x H',J.yld i H x H'->g x Y H' λY2 H2=>tb {D with nx:=N,ct:=N,bk:=D.nx} Y2 H2)
def qm(fp:List Addr)(h:Heap):List (Addr×Obj):=fp.filterMap λb=>(h.get? b).map λo=>(b,o)
theorem gH{fp:List Addr}{h:Heap}{b:Addr}{o:Obj}(hb:b∈fp)(e:h.get? b=some o):(b,o)∈qm fp h:=List.mem_filterMap.mpr ⟨b,hb,by rw[e];rfl⟩
theorem zB{fp:List Addr}{h:Heap}{p:Addr×Obj}(hp:p∈qm fp h):p.1∈fp/\h.get? p.1=some p.2:=by
 obtain⟨b,hb,e⟩:=List.mem_filterMap.mp hp
 cases q:h.get? b with
 | none=>rw[q] at e;cases e
 | some o =>
  rw[q] at e;have e':(b,o)=p:=G3z e;subst e';exact⟨hb,q⟩
theorem Inv.pinned{z0:List (Addr×Obj)}{Y:St}{H:Hp}{s:Shared}{fp:List Addr}(I:Inv X z0 Y H s)(hf:∀b∈fp,vV X z0 H b)(ho:∀b∈fp,∃o,s.heap.get? b=some o/\∀v,o.data≠.cell v):Inv X (z0++qm fp s.heap) Y H s :=
 I.pins_of λp hp=>(List.mem_append.mp hp).elim (λz=>I.pin p (P0z _ z)) λz=>by
  obtain⟨hb,e⟩:=zB z;obtain⟨f0,f1,f2,_⟩:=hf p.1 hb;obtain⟨o,e',d⟩:=ho p.1 hb;rw[e] at e';cases e';exact⟨e,f0,f1,f2,d⟩
theorem Inv.unpinned{z0 pl:List (Addr×Obj)}{Y:St}{H:Hp}{s:Shared}(I:Inv X (z0++pl) Y H s):Inv X z0 Y H s:=I.pins_of λp hp=>I.pin p (P0z _ (V0z _ hp))
theorem GQ{iter:Expr}{body:List Stmt}{wi:TI}{g:TG}{tb:TS}{pos:Pos}(hp:PassesOwn (model X.prog X.w) X.A X.env X.xe)(hc:X.calm=true)(hi:PI X tg iter wi)(hg:PG X tg g)(hb:PSs X body tb)
  (hs:∀x,foldedSetIterable iter X.env x=pure x:=by intro _;rfl):PS X (.For tg iter body [] pos) (VR wi g tb):=by
 intro z0 s Y H D I h;refine wpAny_For (thn (hi z0 s Y H _ I h) λv s1 h1=>thn h1 λitv s2 h2=>?_) hs;obtain⟨it,fp,tn,J,H2,e,I2,T,st2,f2,W,⟨m0,w0⟩,turn⟩:=h2;subst e;have stat:∀{H':Hp},(∀b∈fp,H' b=none)->∀b∈fp,vV X z0 H' b:=λhn b hb=>⟨hn b hb,(f2 b hb).2⟩;refine codeAny_forLoop_any (λn s'=>∃i Y' H',Inv X z0 Y' H' s'/\tn i s'.heap/\(∀b∈fp,H' b=none)/\W i n Y' H') ?_ m0 ⟨0,Y,H2,I2,st2,λb hb=>(f2 b hb).1,w0⟩;rintro n s3 ⟨i,Y3,H3,I3,st3,fr3,w3⟩;rcases turn i n Y3 H3 w3 with⟨stop,qn⟩ | ⟨go,N,hN,step⟩
 .refine H3z hp (thn (T.done X rfl rfl rfl hc i z0 s3 Y3 H3 X.xe I3 (stat fr3) st3 stop) λr s4 ⟨hr,I4⟩=>?_)
  subst hr;exact wpAny_execs_nil ⟨Y3,H3,I4,qn⟩
 .refine H3z hp (thn (T.item X rfl rfl rfl hc i z0 s3 Y3 H3 X.xe I3 (stat fr3) st3 go) λr s4 ⟨u,hr,h4⟩=>?_)
  subst hr;refine H3z hp (thn h4 λ_ s5 ⟨x,H5,I5,r5,y5,st5,fr5⟩=>?_);have I5':=I5.pinned (stat fr5) (T.obj _ _ st5);refine H3z hp (thn (hg _ s5 Y3 H5 x u _ I5' r5 (step x H5 y5)) λ_ s6 ⟨Y6,H6,I6,q6⟩=>?_);refine H3z hp (thn (hb _ s6 Y6 H6 _ I6 q6) λf s7 q7=>?_)
  have again:∀{Y7:St}{H7:Hp},Inv X (z0++qm fp s5.heap) Y7 H7 s7->N Y7 H7->∃m,m<n/\∃i Y' H',Inv X z0 Y' H' s7/\tn i s7.heap/\(∀b∈fp,H' b=none)/\W i m Y' H':=λ{Y7 H7} I7 n7=>by
   obtain⟨m',hm,w7⟩:=hN Y7 H7 n7;refine⟨m',hm,i+1,Y7,H7,I7.unpinned,T.keep _ _ _ st5 λb hb o e=>(I7.pin (b,o) (P0z _ (P0z _ (gH hb e)))).1,λb hb=>?_,w7⟩;obtain⟨o,e,d⟩:=T.obj _ _ st5 b hb;exact(I7.pin (b,o) (P0z _ (P0z _ (gH hb e)))).2.1
  cases f with
  | next=>obtain⟨Y7,H7,I7,n7⟩:=q7;exact again I7 n7
  | cont=>obtain⟨Y7,H7,I7,n7⟩:=q7;exact again I7 n7
  | brk=>obtain⟨Y7,H7,I7,q7⟩:=q7;exact⟨Y7,H7,I7.unpinned,q7⟩
  | ret v=>obtain⟨x7,Y7,H7,I7,r7,q7⟩:=q7;exact⟨x7,Y7,H7,I7.unpinned,r7,q7⟩
end
abbrev R2:=V->V->Hp->VK->Prop
def OpR(X:Cx)(f:Value->Value->Sem Value)(r:R2):Prop :=
  ∀(z0:List (Addr×Obj))(s:Shared)(Y:St)(H:Hp)(x y:V)(v u:Value)(Q:VK), Inv X z0 Y H s->RelV x v->RelV y u->r x y H Q ->
    wpAny (model X.prog X.w) X.A (f v u) (EP X z0 Y Q) X.xe s
def UnR(X:Cx)(f:Value->Sem Value)(r:V->Hp->VK->Prop):Prop :=
  ∀(z0:List (Addr×Obj))(s:Shared)(Y:St)(H:Hp)(x:V)(v:Value)(Q:VK), Inv X z0 Y H s->RelV x v->r x H Q ->
    wpAny (model X.prog X.w) X.A (f v) (EP X z0 Y Q) X.xe s
def cZ(X:Cx)(f:Value)(r:List V->Hp->VK->Prop):Prop :=
  ∀(z0:List (Addr×Obj))(s:Shared)(Y:St)(H:Hp)(xs:List V)(us:List Value)(Q:VK), Inv X z0 Y H s->Vals xs us->r xs H Q ->
    wpAny (model X.prog X.w) X.A (call f us) (EP X z0 Y Q) X.xe s
def tOp(r:R2)(ta tb:TE):TE:=λY H Q=>ta Y H λx H1=>tb Y H1 λy H2=>r x y H2 Q
def tUn(r:V->Hp->VK->Prop)(ta:TE):TE:=λY H Q=>ta Y H λx H1=>r x H1 Q
def rI(C:Int->Int->Prop)(g:Int->Int->V):R2:=λx y H Q=>∃i j,x=.int i/\y=.int j/\C i j/\Q (g i j) H
def rI0(g:Int->Int->V):R2:=λx y H Q=>∃i j,x=.int i/\y=.int j/\Q (g i j) H
def rU(g:Int->V):V->Hp->VK->Prop:=λx H Q=>∃i,x=.int i/\Q (g i) H
section
variable{X:Cx}{a b c:Expr}{ta tb tc:TE}{pos:Pos}
theorem Ur(ha:PE X a ta)(hb:PE X b tb){z0:List (Addr×Obj)}{s:Shared}{Y:St}{H:Hp}{R:V->V->Hp->Prop}(I:Inv X z0 Y H s)
  (h:ta Y H λx H1=>tb Y H1 λy H2=>R x y H2) {Q:Value->Shared->Prop} {f:Value->Value->Sem Value}
  (hf:∀v u s2 x y H2,Inv X z0 Y H2 s2->RelV x v->RelV y u->R x y H2->wpAny (model X.prog X.w) X.A (f v u) Q X.xe s2) :
  wpAny (model X.prog X.w) X.A (eval a X.env) (λv s₁=>wpAny (model X.prog X.w) X.A (eval b X.env) (λu s₂=>wpAny (model X.prog X.w) X.A (f v u) Q X.xe s₂) X.xe s₁) X.xe s:=by
 refine thn (ha z0 s Y H _ I h) λv s1 ⟨x,H1,I1,r1,q1⟩=>?_;refine thn (hb z0 s1 Y H1 _ I1 q1) λu s2 ⟨y,H2,I2,r2,q2⟩=>?_;exact hf v u s2 x y H2 I2 r1 r2 q2
theorem sG{op:Operator}{r:R2}(ho:OpR X (binaryOp op) r)(ha:PE X a ta)(hb:PE X b tb):PE X (.BinOp a op b pos) (tOp r ta tb):=by
 intro z0 s Y H Q I h;exact wpAny_BinOp (Ur ha hb I h λv u s2 x y H2 I2 rx ry q=>ho z0 s2 Y H2 x y v u Q I2 rx ry q)
theorem SQ{op:UnaryOp}{r:V->Hp->VK->Prop}(ho:UnR X (unaryOp op) r)(ha:PE X a ta):PE X (.UnaryOp op a pos) (tUn r ta):=by
 intro z0 s Y H Q I h;exact UnaryOp_ (thn (ha z0 s Y H _ I h) λv s1 ⟨x,H1,I1,r1,q1⟩=>ho z0 s1 Y H1 x v Q I1 r1 q1)
theorem opI{f:Value->Value->Sem Value}{C:Int->Int->Prop}{g:Int->Int->Int}
  (rule:∀(i j:Int)(t u:Tok)(s:Shared)(Q:Value->Shared->Prop)(E:Value->Shared->Prop),C i j->Q (.int (g i j) s.toks) {s with toks:=s.toks+1}->wpAny (model X.prog X.w) X.A (f (.int i t) (.int j u)) Q E s) :
  OpR X f (rI C λi j=>.int (g i j)):=by
 intro z0 s Y H x y v u Q I rx ry h;obtain⟨i,j,rfl,rfl,hc,q⟩:=h;obtain⟨t,rfl⟩:=rx;obtain⟨t',rfl⟩:=ry;exact rule i j t t' s _ _ hc ⟨.int (g i j),H,I.tok _,⟨_,rfl⟩,q⟩
theorem Va{f:Value->Value->Sem Value}{g:Int->Int->Int}
  (rule:∀(i j:Int)(t u:Tok)(s:Shared)(Q:Value->Shared->Prop)(E:Value->Shared->Prop),Q (.int (g i j) s.toks) {s with toks:=s.toks+1}->wpAny (model X.prog X.w) X.A (f (.int i t) (.int j u)) Q E s) :
  OpR X f (rI0 λi j=>.int (g i j)):=by
 intro z0 s Y H x y v u Q I rx ry h;obtain⟨i,j,rfl,rfl,q⟩:=h;obtain⟨t,rfl⟩:=rx;obtain⟨t',rfl⟩:=ry;exact rule i j t t' s _ _ ⟨.int (g i j),H,I.tok _,⟨_,rfl⟩,q⟩
theorem Tf{f:Value->Value->Sem Value}{g:Int->Int->Bool}
  (rule:∀(i j:Int)(t u:Tok)(s:Shared)(Q:Value->Shared->Prop)(E:Value->Shared->Prop),Q (.bool (g i j)) s->wpAny (model X.prog X.w) X.A (f (.int i t) (.int j u)) Q E s) :
  OpR X f (rI0 λi j=>.bl (g i j)):=by
 intro z0 s Y H x y v u Q I rx ry h;obtain⟨i,j,rfl,rfl,q⟩:=h;obtain⟨t,rfl⟩:=rx;obtain⟨t',rfl⟩:=ry;exact rule i j t t' s _ _ ⟨.bl (g i j),H,I,rfl,q⟩
def Xg(i j:Int):Prop:=0<j/\j<1073741824
def UG(i j:Int):Prop:=(-(2^64)<i/\i<2^64)\/(-(2^64)<j/\j<2^64)
theorem UG.ok{i j:Int}(h:UG i j):IntMulOk i j:=by
 rcases h with⟨h1,h2⟩ | ⟨h1,h2⟩
 .exact .of_left (intBits_le_64 h1 h2)
 .exact .of_right (intBits_le_64 h1 h2)
theorem O2:OpR X (binaryOp .Add) (rI0 λi j=>.int (i+j)):=Va λ_ _ _ _ _ _ _ q=>add_int q
theorem Oz:OpR X (binaryOp .Sub) (rI0 λi j=>.int (i-j)):=Va λ_ _ _ _ _ _ _ q=>sub_int q
theorem JR:OpR X (binaryOp .FloorDiv) (rI Xg λi j=>.int (i / j)):=opI λi j _ _ _ _ _ hc q=>by
 have h1:(0:Int)<j:=hc.1;have h2:j<1073741824:=hc.2;exact floordiv_int (by omega) (by rw[Int.fdiv_eq_ediv_of_nonneg i (by omega)];exact q) (.inl (PyProof.noPylong_small (by omega)))
theorem OJ:OpR X (binaryOp .Mod) (rI (λ_ j=>0<j) λi j=>.int (i%j)):=opI λi j _ _ _ _ _ hc q=>by
 have h1:(0:Int)<j:=hc;exact mod_int' (by omega) (by rw[Int.fmod_eq_emod_of_nonneg i (by omega)];exact q)
theorem unI{f:Value->Sem Value}{g:Int->Int}
  (rule:∀(i:Int)(t:Tok)(s:Shared)(Q:Value->Shared->Prop)(E:Value->Shared->Prop),Q (.int (g i) s.toks) {s with toks:=s.toks+1}->wpAny (model X.prog X.w) X.A (f (.int i t)) Q E s) :
  UnR X f (rU λi=>.int (g i)):=by
 intro z0 s Y H x v Q I rx h;obtain⟨i,rfl,q⟩:=h;obtain⟨t,rfl⟩:=rx;exact rule i t s _ _ ⟨.int (g i),H,I.tok _,⟨_,rfl⟩,q⟩
theorem Ng:UnR X (unaryOp .USub) (rU λi=>.int (-i)):=unI λ_ _ _ _ _ q=>neg_int q
end
section
variable{X:Cx}{a b c:Expr}{ta tb tc:TE}{pos:Pos}
theorem Ht{z0:List (Addr×Obj)}{Y:St}{H:Hp}{s:Shared}{Q:VK}{k k':Bool}(I:Inv X z0 Y H s)(q:Q (.bl k) H)(e:k=k'):EP X z0 Y Q (.bool k') s:=by
 subst e;exact⟨.bl k,H,I,rfl,q⟩
theorem Tc:OpR X (compareOp .Lt) (rI0 λi j=>.bl (decide (i<j))):=Tf λ_ _ _ _ _ _ _ q=>lt_int q
theorem Td:OpR X (compareOp .LtE) (rI0 λi j=>.bl (decide (i<=j))):=Tf λ_ _ _ _ _ _ _ q=>le_int q
theorem Te:OpR X (compareOp .Gt) (rI0 λi j=>.bl (decide (j<i))):=Tf λ_ _ _ _ _ _ _ q=>gt_int q
theorem zy:OpR X (compareOp .In) (λx y H Q=>∃i j,x=.str i/\y=.str j/\Q (.bl (!(Builtin.Str.occurrences j i 0 j.length 1).isEmpty)) H):=by
 intro z0 s Y H x y v u Q I rx ry h;obtain⟨i,j,rfl,rfl,q⟩:=h;obtain⟨t,rfl⟩:=rx;obtain⟨t',rfl⟩:=ry;exact in_str (Ht I q rfl)
theorem JN:OpR X (compareOp .IsNot) (λx y H Q=>y=.non/\Q (.bl (!decide (x=.non))) H):=by
 intro z0 s Y H x y v u Q I rx ry h;obtain⟨rfl,q⟩:=h;cases ry;refine isnot_none_gen (Ht I q ?_)
 cases x<;>first
  | (cases rx;rfl)
  | (obtain⟨t,rfl⟩:=rx;rfl)
theorem zj{op:CmpOp}{r:R2}(ho:OpR X (compareOp op) r)(ha:PE X a ta)(hb:PE X b tb)(hm:behindInMarks op b=false):PE X (.Compare a [op] [b] pos) (tOp r ta tb):=by
 intro z0 s Y H Q I h;exact wpAny_Compare1 (Ur ha hb I h λv u s2 x y H2 I2 rx ry q=>ho z0 s2 Y H2 x y v u Q I2 rx ry q) hm
def Nk(t:TE):TT:=λY H Q=>t Y H λx H'=>∃k,x=.bl k/\Q k H'
theorem jC{op:CmpOp}{r:R2}(ho:OpR X (compareOp op) r)(ha:PE X a ta)(hb:PE X b tb)(hm:behindInMarks op b=false):PT X (.Compare a [op] [b] pos) (Nk (tOp r ta tb)):=by
 intro z0 s Y H Q I h
 refine wpAny_isTrue_Compare1 (thn (ha z0 s Y H _ I h) λv s1 ⟨x,H1,I1,r1,q1⟩=>thn (hb z0 s1 Y H1 _ I1 q1) λu s2 ⟨y,H2,I2,r2,q2⟩ =>
  thn (ho z0 s2 Y H2 x y v u _ I2 r1 r2 q2) λc s3 ⟨z,H3,I3,r3,k,e,q3⟩=>?_) hm
 subst e;cases r3;exact A2z ⟨H3,I3,q3⟩
def yj(r r':R2)(ta tb tc:TE):TE:=λY H Q=>ta Y H λx H1=>tb Y H1 λy H2=>r x y H2 λz H3=>∃k,z=.bl k /\
 (if k=true then tc Y H3 λw' H4=>r' y w' H4 Q else Q (.bl false) H3)
theorem Dw{op op':CmpOp}{r r':R2}(ho:OpR X (compareOp op) r)(ho':OpR X (compareOp op') r')(ha:PE X a ta)(hb:PE X b tb)(hc:PE X c tc)
  (hm:lastMarks [op,op'] [b,c]=false:=by with_unfolding_all rfl):PE X (.Compare a [op,op'] [b,c] pos) (yj r r' ta tb tc):=by
 intro z0 s Y H Q I h
 refine Compare_chain (thn (ha z0 s Y H _ I h) λv s1 ⟨x,H1,I1,r1,q1⟩=>chain_link (thn (hb z0 s1 Y H1 _ I1 q1) λu s2 ⟨y,H2,I2,r2,q2⟩ =>
  thn (ho z0 s2 Y H2 x y v u _ I2 r1 r2 q2) λd s3 ⟨z,H3,I3,r3,k,e,q3⟩=>?_)) hm
 subst e;cases r3;refine A2z ?_
 cases k with
 | false=>exact ite_ff ⟨.bl false,H3,I3,rfl,q3⟩
 | true=>exact ite_tt (chain_last (thn (hc z0 s3 Y H3 _ I3 q3) λw' s4 ⟨z',H4,I4,r4,q4⟩=>ho' z0 s4 Y H4 y z' u w' Q I4 r2 r4 q4))
theorem Dj{op op':CmpOp}{r r':R2}(ho:OpR X (compareOp op) r)(ho':OpR X (compareOp op') r')(ha:PE X a ta)(hb:PE X b tb)(hc:PE X c tc)
  (hm:lastMarks [op,op'] [b,c]=false:=by with_unfolding_all rfl):PT X (.Compare a [op,op'] [b,c] pos) (Nk (yj r r' ta tb tc)):=by
 intro z0 s Y H Q I h
 refine isTrue_chain (thn (ha z0 s Y H _ I h) λv s1 ⟨x,H1,I1,r1,q1⟩=>test_link (thn (hb z0 s1 Y H1 _ I1 q1) λu s2 ⟨y,H2,I2,r2,q2⟩ =>
  thn (ho z0 s2 Y H2 x y v u _ I2 r1 r2 q2) λd s3 ⟨z,H3,I3,r3,k,e,q3⟩=>?_)) hm
 subst e;cases r3;refine A2z ?_
 cases k with
 | false =>
  obtain⟨k',e',q'⟩:=q3;cases e';exact ite_ff ⟨H3,I3,q'⟩
 | true =>
  refine ite_tt (test_last (thn (hc z0 s3 Y H3 _ I3 q3) λw' s4 ⟨z',H4,I4,r4,q4⟩=>thn (ho' z0 s4 Y H4 y z' u w' _ I4 r2 r4 q4) λd' s5 ⟨z2,H5,I5,r5,k2,e2,q5⟩=>?_));subst e2;cases r5;exact A2z ⟨H5,I5,q5⟩
theorem qC:(sizeLine:Nat)<2^63:=by rw[Y4z];decide
theorem vals1{x:V}{us:List Value}(r:Vals [x] us):∃u,us=[u]/\RelV x u:=by
 cases r with
 | cons r1 r2=>cases r2;exact⟨_,rfl,r1⟩
theorem vals2{x y:V}{us:List Value}(r:Vals [x,y] us):∃u w',us=[u,w']/\RelV x u/\RelV y w':=by
 cases r with
 | cons r1 r2 =>
  cases r2 with
  | cons r3 r4=>cases r4;exact⟨_,_,rfl,r1,r3⟩
theorem Bt(hc:X.calm=true):cZ X (.builtin "max") (λxs H Q=>∃i j,xs=[.int i,.int j]/\Q (.int (if j>i then j else i)) H):=by
 intro z0 s Y H xs us Q I r h;obtain⟨i,j,rfl,q⟩:=h;obtain⟨u,w',rfl,⟨t,rfl⟩,⟨t',rfl⟩⟩:=vals2 r;refine max_two_ints (I.ok.hd hc) λh' tk k=>⟨_,H,I.kept k,?_,q⟩
 by_cases hj:j>i
 .rw[P5z hj,P5z hj];exact⟨_,rfl⟩
 .rw[Q5z hj,Q5z hj];exact⟨_,rfl⟩
theorem Br(hc:X.calm=true):cZ X (.builtin "min") (λxs H Q=>∃i j,xs=[.int i,.int j]/\Q (.int (if j<i then j else i)) H):=by
 intro z0 s Y H xs us Q I r h;obtain⟨i,j,rfl,q⟩:=h;obtain⟨u,w',rfl,⟨t,rfl⟩,⟨t',rfl⟩⟩:=vals2 r;refine min_two_ints (I.ok.hd hc) λh' tk k=>⟨_,H,I.kept k,?_,q⟩
 by_cases hj:j<i
 .rw[P5z hj,P5z hj];exact⟨_,rfl⟩
 .rw[Q5z hj,Q5z hj];exact⟨_,rfl⟩
end
structure ObjM(h:Heap)(x dx C:Addr)(mA:Str->Option Value):Prop where
 obj:h.get? x=some (W.instObj C dx)
 ns:h.Ns1 dx mA
 ne:dx≠x
theorem zO{h:Heap}{dx:Addr}{mA:Str->Option Value}(n:h.Ns1 dx mA):∃od,h.get? dx=some od/\∀name,W.lookIn name od=some (mA name):=by
 obtain⟨o,es,ep,ho,hd,hk,_,hm⟩:=n;refine⟨o,ho,λname=>?_⟩;have e:=hm name;unfold nsFind findBy at e;rw[<- Array.find?_toList] at e;unfold W.lookIn;rw[hd];dsimp only;split
 .rename_i y q
  rw[q] at e;exact congrArg some e
 .rename_i q
  rw[q] at e
  have a:es.toList.any (·.refKey)=false:=by
   rw[List.any_eq_false];intro y hy;obtain⟨z,t,hkey⟩:=hk y (Array.mem_toList_iff.mp hy);simp[DictEntry.refKey,hkey]
  have a':¬ es.toList.any (·.refKey)=true:=by rw[a];exact M1z
  rw[Q5z a'];exact congrArg some e
theorem ObjM.look{h:Heap}{x dx C:Addr}{mA:Str->Option Value}(I:ObjM h x dx C mA):∃od,W.InstAt h x (W.instObj C dx) C (some od)/\∀name,W.lookIn name od=some (mA name) :=
 let ⟨od,ho,hl⟩:=zO I.ns
 ⟨od,⟨I.obj,rfl,rfl,ho⟩,hl⟩
section
variable{prog:Program}{w:World}{A:Around}{E:Value->Shared->Prop}{s:Shared}{K:Zf}{x dx C f:Addr}{mA:Str->Option Value}{name:Str}{v:Value}
theorem get_map{expr:Bool}{Q:Value->Shared->Prop}(X:K.In s.heap)(I:ObjM s.heap x dx C mA)(hg:W.plainGet K C name=true)(hh:W.hasDictIn K C=true)
  (ha:W.findIn K (.ref C) name=some none) (hv:mA name=some v) (hv':W.handedIn v=true) (h:Q v {s with toks:=s.toks+1}) :
  wpAny (model prog w) A (getAttr (.ref x) name expr) Q E s:=by
 obtain⟨od,J,hl⟩:=I.look;exact W.get_value X J (C1z hg).1 (W.findObj_own hh ha rfl (by rw[hl,hv])) hv' h
theorem Et{pl:Sem Bool}{Q:Value×List Value->Shared->Prop}(X:K.In s.heap)(I:ObjM s.heap x dx C mA)(hg:W.plainGet K C name=true)
  (hf:W.findIn K (.ref C) name=some (some (.ref f))) (ht:W.isFn K (.ref f)=true) (hv:mA name=none) (h:Q (.ref f,[.ref x]) s) :
  wpAny (model prog w) A (getMethod (.ref x) name pl) Q E s:=by
 obtain⟨od,J,hl⟩:=I.look;exact W.method_fn X J (C1z hg).1 (C1z hg).2 hf (beq_iff_eq.mp ht) (by show(W.lookIn name od).map (·.isSome)=some false;rw[hl,hv];rfl) h
theorem IW{ns:List Str}{Q:Unit->Shared->Prop}(X:K.In s.heap)(I:ObjM s.heap x dx C mA)
  (hs:W.findIn K (.ref C) "__setattr__"=some (some (.builtin "object.__setattr__"))) (hp:W.plainOver K C=true) (ht:W.takerIn K C name=some none) (hh:W.hasDictIn K C=true)
  (hw:PySem.Within mA ns) (hsz:ns.length<=sizeLine)
  (h:∀h',ObjM h' x dx C (λy=>if y=name then some v else mA y)->Heap.SameBut dx s.heap h'->Q () {s with heap:=h',toks:=s.toks+2}) :
  wpAny (model prog w) A (setAttr (.ref x) name v) Q E s:=by
 obtain⟨od,J,hl⟩:=I.look;refine W.set_plain X J hs (W.osa_open (s:={s with toks:=s.toks+1}) (r:=none) X J hp ht λb=>?_);obtain⟨cd,hc,hd'⟩:=W.any_some hh;have hx:s.heap.get? x=some ⟨.ref C,some dx,.plain,#[]⟩:=I.obj;refine E5z (F5z (E5z (E5z (wpAny_loadPart hx (E5z (W.Looks.here (s:={s with toks:=s.toks+1}) (W.looks_clsIn X hc) ?_))))));rw[hd'];refine F5z (a:=some dx) (E5z (F5z (E5z ?_)));refine wpAny_nsSet1 (s:={s with toks:=s.toks+1}) I.ns λh' hn2 hs2=>?_;obtain⟨oD,esD,epD,hoD,hdD,hcD⟩:=hn2.count (PySem.Within.cons name v hw);refine E5z (wpAny_lookBehind hoD (by rw[hdD];exact pastItsLine_dict (P4z hcD (by rw[P2z];omega))) ?_);exact F5z (h _ ⟨(hs2.2 _ (N5z I.ne)).trans I.obj,hn2,I.ne⟩ hs2)
theorem Ei{R:Result->Shared->Prop}{vs:List Value}{kw:List (Str×Value)}(X:K.In s.heap)(hm:W.makesIn K C=true)
  (hi:W.findIn K (.ref C) "__init__"=some (some (.ref f))) (hf:W.typeIn K (.ref f)=some (.type "function"))
  (h:codeAny (model prog w) (A.under (.builtin "type.__call__" ⟨.ref C :: vs, kw⟩)) (.call (.ref f) ⟨.ref (s.heap.objs.size + 1) :: vs, kw⟩) (W.InitBack (s.heap.objs.size + 1) R)
   {s with heap:=(s.heap.push W.emptyDict).push (W.instObj C s.heap.objs.size)}) :
  codeAny (model prog w) A (.call (.ref C) ⟨vs,kw⟩) R s:=by
 obtain⟨hh,g,d,t,os⟩:=s;exact W.make_core (W.makes_of X hm) (W0z X hi) (λself=>W.bind_fn X self hf) (.inl rfl) h
end
def oh(f:Str)(v:V):List (Str×V)->List (Str×V)
 | []=>[(f,v)]
 | (g,x)::r=>if g=f then(g,v)::r else(g,x)::oh f v r
theorem lN(f g:Str)(v:V):∀fs:List (Str×V),(oh f v fs).lookup g=if g=f then some v else fs.lookup g
 | []=>by
  show List.lookup g [(f,v)]=_
  by_cases h:g=f
  .have hb:(g==f)=true:=beq_iff_eq.mpr h
   simp only[List.lookup,hb,P5z h]
  .have hb:(g==f)=false:=E1z.mpr h
   simp only[List.lookup,hb,Q5z h]
 | (k,x)::r=>by
  have ih:=lN f g v r;rw[show oh f v ((k,x)::r)=(if k=f then(k,v)::r else(k,x)::oh f v r) from rfl]
  by_cases hk:k=f
  .rw[P5z hk]
   by_cases h:g=k
   .have hb:(g==k)=true:=beq_iff_eq.mpr h
    simp only[List.lookup,hb,P5z (h.trans hk)]
   .have hb:(g==k)=false:=E1z.mpr h
    simp only[List.lookup,hb,Q5z (λe:g=f=>h (e.trans hk.symm))]
  .rw[Q5z hk]
   by_cases h:g=k
   .have hb:(g==k)=true:=beq_iff_eq.mpr h
    simp only[List.lookup,hb,Q5z (λe:g=f=>hk (h.symm.trans e))]
   .have hb:(g==k)=false:=E1z.mpr h
    simp only[List.lookup,hb];exact ih
theorem lQ(f:Str)(v:V):∀fs:List (Str×V),f∈(oh f v fs).map (·.1)/\∀g,g∈fs.map (·.1)->g∈(oh f v fs).map (·.1)
 | []=>⟨by simp[oh],λg h=>by simp at h⟩
 | (k,x)::r=>by
  obtain⟨i1,i2⟩:=lQ f v r;rw[show oh f v ((k,x)::r)=(if k=f then(k,v)::r else(k,x)::oh f v r) from rfl]
  by_cases hk:k=f
  .rw[P5z hk]
   subst hk;exact⟨by simp,λg h=>by simpa using h⟩
  .rw[Q5z hk]
   refine⟨?_,λg h=>?_⟩
   .rw[E4z]
    exact U0z _ i1
   .rw[E4z] at h ⊢
    rcases L4z.mp h with e | e
    .exact L4z.mpr (.inl e)
    .exact U0z _ (i2 g e)
theorem lO(f:Str)(v:V):∀fs:List (Str×V),(oh f v fs).length<=fs.length+1
 | []=>by simp[oh]
 | (k,x)::r=>by
  have ih:=lO f v r;rw[show oh f v ((k,x)::r)=(if k=f then(k,v)::r else(k,x)::oh f v r) from rfl]
  by_cases hk:k=f
  .rw[P5z hk,P2z,P2z];omega
  .rw[Q5z hk,P2z,P2z];omega
theorem nA.some_of{v:V}{o:Option Value}(r:nA (some v) o):∃u,o=some u/\RelV v u:=by
 cases o with
 | none=>exact(show False from r).elim
 | some u=>exact⟨u,rfl,r⟩
theorem nA.none_of{o:Option Value}(r:nA none o):o=none:=by
 cases o with
 | none=>rfl
 | some u=>exact(show False from r).elim
theorem Af{v:V}{u:Value}(r:RelV v u):W.handedIn u=true:=by
 cases v with
 | non=>cases (show u=Value.none from r);rfl
 | bl b=>cases (show u=Value.bool b from r);rfl
 | int i=>obtain⟨t,e⟩:=(show ∃t,u=Value.int i t from r);cases e;rfl
 | str x=>obtain⟨t,e⟩:=(show ∃t,u=Value.str x t from r);cases e;rfl
 | byt b=>obtain⟨t,e⟩:=(show ∃t,u=Value.bytes b t from r);cases e;rfl
 | flt b=>obtain⟨t,e⟩:=(show ∃t,u=Value.float b t from r);cases e;rfl
 | ref a=>cases (show u=Value.ref a from r);rfl
 | ty n=>cases (show u=Value.type n from r);rfl
section
variable{P:Program}{w:World}{H H':Hp}{h h':Heap}{a C dx:Addr}{fs fs':List (Str×V)}
theorem tE(hok:HOk P w H h)(e:H a=some (.ins C dx fs)):∃mA,ObjM h a dx C mA/\(∀f,nA (fs.lookup f) (mA f))/\PySem.Within mA (fs.map (·.1))/\fs.length<=1000/\H dx=some (.own a):=by
 obtain⟨d,z,ne,ob,mA,n,r,q⟩:=(show cQ P w H h a (.ins C dx fs) from hok a _ e);exact⟨mA,⟨ob,n,ne⟩,r,q,z,d⟩
end
structure Cls(K:Zf)(C:Addr):Prop where
 pg:W.plainGet K C Str.empty=true
 hd:W.hasDictIn K C=true
 po:W.plainOver K C=true
 sa:W.findIn K (.ref C) "__setattr__"=some (some (.builtin "object.__setattr__"))
theorem Cls.get{K:Zf}{C:Addr}(c:Cls K C)(f:Str):W.plainGet K C f=true:=c.pg
def jx(K:Zf)(C:Addr)(f:Str):Prop:=W.findIn K (.ref C) f=some none
theorem jx.taker{K:Zf}{C:Addr}{f:Str}(n:jx K C f):W.takerIn K C f=some none:=by
 unfold W.takerIn;rw[show W.findIn K (.ref C) f=some none from n];rfl
structure Meth(K:Zf)(C:Addr)(m:Str)(f:Addr):Prop where
 at_:W.findIn K (.ref C) m=some (some (.ref f))
 fn:W.isFn K (.ref f)=true
 kp:W.keepIn K (.ref f)=true
section
variable{X:Cx}{z0:List (Addr×Obj)}{Y:St}{H:Hp}{s:Shared}{a C dx:Addr}{fs:List (Str×V)}{f:Str}{v:V}{A:Around}{E:Value->Shared->Prop}
theorem wL{b:Bool}{Q:Value->Shared->Prop}(I:Inv X z0 Y H s)(e:H a=some (.ins C dx fs))(c:Cls X.K C)(n:jx X.K C f)(l:fs.lookup f=some v)
  (h:∀u s',Inv X z0 Y H s'->RelV v u->Q u s'):wpAny (model X.prog X.w) A (getAttr (.ref a) f b) Q E s:=by
 obtain⟨mA,O,r,_,_,_⟩:=tE I.hok e;obtain⟨u,hu,ru⟩:=nA.some_of (v:=v) (o:=mA f) (by rw[<- l];exact r f);exact get_map I.kIn O (c.get f) c.hd n hu (Af ru) (h u _ (I.tok _) ru)
theorem m6{m:Str}{g:Addr}{pl:Sem Bool}{Q:Value×List Value->Shared->Prop}(I:Inv X z0 Y H s)(e:H a=some (.ins C dx fs))(c:Cls X.K C)(k:Meth X.K C m g)(l:fs.lookup m=none)
  (h:Q (.ref g,[.ref a]) s):wpAny (model X.prog X.w) A (getMethod (.ref a) m pl) Q E s:=by
 obtain⟨mA,O,r,_,_,_⟩:=tE I.hok e;have hn:mA m=none:=nA.none_of (by rw[<- l];exact r m);exact Et I.kIn O (c.get m) k.at_ k.fn hn h
theorem wA{y:V}{u:Value}{Q:Unit->Shared->Prop}(I:Inv X z0 Y H s)(e:H a=some (.ins C dx fs))(c:Cls X.K C)(n:jx X.K C f)(hl:fs.length<1000)(ry:RelV y u)
  (h:∀s',Inv X z0 Y (upd H a (.ins C dx (oh f y fs))) s'->Q () s'):wpAny (model X.prog X.w) A (setAttr (.ref a) f u) Q E s:=by
 obtain⟨mA,O,r,wi,_,ho⟩:=tE I.hok e
 have hz:(fs.map (·.1)).length<=sizeLine:=by rw[I3z,Y4z];omega
 refine IW I.kIn O c.sa c.po n.taker c.hd wi hz λh' O' sb=>h _ ?_;have hd:∃o,h'.get? dx=some o:=let ⟨o,_,_,e',_⟩:=O'.ns;⟨o,e'⟩;refine I.write (x:=a) (e:=dx) (by rw[e];exact True.intro) (.inr ho) (λb q hb z=>(sb.2 b hb).trans z) hd ?_;refine⟨by rw[aj O.ne];exact ho,?_,O.ne,O'.obj,_,O'.ns,λg=>?_,λg hg=>?_⟩
 .have:=lO f y fs;omega
 .show nA ((oh f y fs).lookup g) (if g=f then some u else mA g)
  rw[lN]
  by_cases q:g=f
  .rw[P5z q,P5z q];exact ry
  .rw[Q5z q,Q5z q];exact r g
 .by_cases q:g=f
  .rw[q];exact(lQ f y fs).1
  .refine(lQ f y fs).2 g (wi g λz=>hg ?_)
   show(if g=f then some u else mA g)=none;rw[Q5z q];exact z
theorem Inv.made(I:Inv X z0 Y H s):Inv X z0 Y (upd (upd H s.heap.objs.size (.own (s.heap.objs.size+1))) (s.heap.objs.size+1) (.ins C s.heap.objs.size []))
  {s with heap:=(s.heap.push W.emptyDict).push (W.instObj C s.heap.objs.size)}:=by
 have e1:(s.heap.push W.emptyDict).get? s.heap.objs.size=some W.emptyDict:=Heap.get?_push_size s.heap rfl
 have e2:((s.heap.push W.emptyDict).push (W.instObj C s.heap.objs.size)).get? (s.heap.objs.size+1)=some (W.instObj C s.heap.objs.size):=by
  have:=Heap.get?_push_size (s.heap.push W.emptyDict) (o:=W.instObj C s.heap.objs.size) rfl
  rwa [X3z] at this
 have e3:(s.heap.push W.emptyDict).Ns s.heap.objs.size (λ_=>none):=⟨W.emptyDict,#[],_,e1,rfl,(λe he=>absurd he (by simp)),λ_=>rfl⟩;have I1:=I.laid (a:=s.heap.objs.size) (o:=.own (s.heap.objs.size+1)) (h':=s.heap.push W.emptyDict) (t':=s.toks) (λb u q=>Heap.get?_push_of_some _ q) (X4z _) ⟨_,e1⟩;refine I1.laid (a:=s.heap.objs.size+1) (o:=.ins C s.heap.objs.size []) (t':=s.toks) (λb u q=>Heap.get?_push_of_some _ q) (Nat.le_of_eq (X3z _ _)) ?_;have ne:s.heap.objs.size≠s.heap.objs.size+1:=O4z (Q2z _);refine⟨by rw[aj ne,aB],Z4z _,ne,e2,λ_=>none,(Heap.Ns1.of_empty e3).at λo q=>Heap.get?_push_of_some _ q,λ_=>True.intro,λy hy=>absurd rfl hy⟩
theorem LR{prog:Program}{w:World}{env:Env}{e:Expr}{f:Str}{pos:Pos}{s:Shared}{Q:Value->Shared->Prop}(hb:attributeBase e f env (eval e env)=eval e env)
  (h:wpAny (model prog w) A (eval e env) (λo s₁=>wpAny (model prog w) A (getAttr o f true) Q E s₁) E s):wpAny (model prog w) A (eval (.Attribute e f pos) env) Q E s :=
 Attribute_any_ h (by rw[arm_eval_Attribute,hb])
end
def V0(K:Zf)(ta:TE)(f:Str):TE:=λY H Q=>ta Y H λx H1=>∃a C dx fs v,x=.ref a/\H1 a=some (.ins C dx fs)/\Cls K C/\jx K C f/\fs.lookup f=some v/\Q v H1
def V8(K:Zf)(ta tv:TE)(f:Str):TS:=λD Y H=>tv Y H λy H1=>ta Y H1 λx H2=>∃a C dx fs,x=.ref a/\H2 a=some (.ins C dx fs)/\Cls K C/\jx K C f/\fs.length<1000 /\
 D.nx Y (upd H2 a (.ins C dx (oh f y fs)))
section
variable{X:Cx}{o e value:Expr}{f:Str}{pos pos' tpos:Pos}{ta tv:TE}
theorem dZ(he:PE X e ta)(hb:attributeBase e f X.env (eval e X.env)=eval e X.env):PE X (.Attribute e f pos) (V0 X.K ta f):=by
 intro z0 s Y H Q I h;refine LR hb (thn (he z0 s Y H _ I h) λu s1 ⟨x,H1,I1,rx,a,C,dx,fs,v,ex,ea,c,n,l,q⟩=>?_);subst ex;obtain rfl:u=Value.ref a:=rx;exact wL I1 ea c n l λu' s2 I2 ru=>⟨v,H1,I2,ru,q⟩
theorem uP(ha:PE X o ta)(hv:PE X value tv)(hs:swapsWith value (some (.Attribute o f pos')) pos.line X.env=pure false):PS X (.Assign [.Attribute o f pos'] value pos) (V8 X.K ta tv f):=by
 intro z0 s Y H D I h;refine plainObj_wpAny_Assign_Attribute (thn (hv z0 s Y H _ I h) λu s1 ⟨y,H1,I1,ry,q⟩=>thn (ha z0 s1 Y H1 _ I1 q) λov s2 ⟨x,H2,I2,rx,a,C,dx,fs,ex,ea,c,n,l,q2⟩=>?_) hs;subst ex;obtain rfl:ov=Value.ref a:=rx;exact wA I2 ea c n l ry λs3 I3=>⟨Y,_,I3,q2⟩
end
section
variable{X:Cx}{z0:List (Addr×Obj)}{Y:St}{H:Hp}{s:Shared}{A:Around}{E:Value->Shared->Prop}{Q:Value->Shared->Prop}{c:Value}{b:Bool}
end
structure Room(k:Nat)(A:Around):Prop where
 hd:A.handled=none
 dp:A.depth+3*k+5<recursionLimit
 un:A.units+16*k+200<cLine
theorem Room.mono{j k:Nat}{A:Around}(r:Room k A)(h:j<=k):Room j A:=⟨r.hd,by have:=r.dp;omega,by have:=r.un;omega⟩
theorem Room.deeper{k:Nat}{A:Around}(r:Room (k+1) A)(env:Env):Room k (A.deeper env) :=
 ⟨r.hd,by have:=r.dp;show A.depth+1+3*k+5<_;omega,by have:=r.un;show A.units+3+16*k+200<_;omega⟩
theorem wI{A:Around}{C:Addr}{us:List Value}{kw:List (Str×Value)}:(A.under (.builtin "type.__call__" ⟨.ref C::us,kw⟩)).depth=A.depth+1:=by
 first | rfl | simp[Around.under,Code.weight,Code.isCreation,Code.isGuard,Code.isCaller,Code.frames,Code.isFrame,guardIds]
theorem wH{A:Around}{C:Addr}{us:List Value}{kw:List (Str×Value)}:(A.under (.builtin "type.__call__" ⟨.ref C::us,kw⟩)).units=A.units+1:=by
 first | rfl | simp[Around.under,Code.cUnits,Code.frames,Code.isFrame]
theorem Room.make{k:Nat}{A:Around}(r:Room (k+1) A)(C:Addr)(us:List Value)(kw:List (Str×Value)):Room k (A.under (.builtin "type.__call__" ⟨.ref C::us,kw⟩)) :=
 ⟨r.hd,by have:=r.dp;rw[wI];omega,by have:=r.un;rw[wH];omega⟩
theorem Room.depth{k:Nat}{A:Around}(r:Room k A):A.depth<recursionLimit:=by have:=r.dp;omega
theorem Room.units{k:Nat}{A:Around}(r:Room k A):A.units+64<cLine:=by have:=r.un;omega
def Nm:TA:=λ_ H Q=>Q [] H
def Io(ta:TE)(tr:TA):TA:=λY H Q=>ta Y H λx H1=>tr Y H1 λxs H2=>Q (x::xs) H2
section
variable{X:Cx}{e:Expr}{es:List Expr}{te:TE}{t:TA}{pos:Pos}
theorem aO:PA X [] Nm:=λ_ _ _ _ H Q I h=>C2z ⟨[],H,I,.nil,h⟩
theorem aA(ha:PE X e te)(hr:PA X es t)(hs:starEach (e::es) X.env=(false,eval e X.env)::starEach es X.env:=by rfl):PA X (e::es) (Io te t):=by
 intro pos z0 s Y H Q I h;rw[hs];show wpAny _ _ (spliced ((false,eval e X.env)::backTo pos (starEach es X.env))) _ _ s;refine N1z (thn (ha z0 s Y H _ I h) λu s1 ⟨x,H1,I1,r1,q1⟩=>?_);exact thn (hr pos z0 s1 Y H1 _ I1 q1) λus s2 ⟨xs,H2,I2,r2,q2⟩=>⟨x::xs,H2,I2,.cons r1 r2,q2⟩
def VB(t:TA):TE:=λY H Q=>t Y H λxs H1=>xs.length<=sizeLine/\∀p,H1 p=none->Q (.ref p) (upd H1 p (.tup xs))
def VL(t:TA):TE:=λY H Q=>t Y H λxs H1=>xs.length<=sizeLine/\∀p,H1 p=none->Q (.ref p) (upd H1 p (.lst xs))
theorem qt{x1}(h:PA X es t):PE X (.Tuple es x1 pos) (VB t):=by
 intro z0 s Y H Q I hq;refine wpAny_Tuple_spliced (thn (h pos z0 s Y H _ I hq) λus s1 ⟨xs,H1,I1,r,z,q⟩=>⟨by rw[<- r.length];exact z,?_⟩);have hf:H1 s1.heap.objs.size=none:=I1.hok.fresh (X4z _);refine⟨.ref s1.heap.objs.size,upd H1 s1.heap.objs.size (.tup xs),I1.laid (t':=s1.toks) (λb u e=>Heap.get?_push_of_some _ e) (X4z _) ?_,rfl,q _ hf⟩;exact⟨z,us,r,⟨_,Heap.get?_push_size _ rfl,rfl,_,rfl⟩⟩
theorem qw(h:PA X es t):PE X (.List es pos) (VL t):=by
 intro z0 s Y H Q I hq;refine wpAny_List_spliced (thn (h pos z0 s Y H _ I hq) λus s1 ⟨xs,H1,I1,r,z,q⟩=>⟨by rw[<- r.length];exact z,?_⟩);have hf:H1 s1.heap.objs.size=none:=I1.hok.fresh (X4z _);refine⟨.ref s1.heap.objs.size,upd H1 s1.heap.objs.size (.lst xs),I1.laid (t':=s1.toks) (λb u e=>Heap.get?_push_of_some _ e) (X4z _) ?_,rfl,q _ hf⟩;exact⟨z,us,0,r,Heap.get?_push_size _ rfl⟩
end
abbrev Sp:=List V->Hp->VK->XK->Prop
abbrev CXT:=List Env->Hp->Shared->XK->Value->Shared->Prop
structure Env0(P:Program)(w:World)(K:Zf)(mg:Str->Option Value)(base:Heap)(A:Around)(outer:List Env)(s:Shared)(H:Hp):Prop where
 frames:A.frames=some outer
 mod:Mod K mg base
 bs:∀b o,base.get? b=some o->s.heap.get? b=some o/\H b=none
 bsz:base.objs.size<=s.heap.objs.size
 funs:s.heap.FunFrames base outer
 frf:∀b∈frs outer,H b=none
 hok:HOk P w H s.heap
 bare:AllBare s.gens
def CE(outer:List Env)(P:Program)(w:World)(H:Hp)(s:Shared)(Q:VK)(u:Value)(s':Shared):Prop :=
 ∃v H',s'.os=s.os/\AllBare s'.gens/\Un (frs outer) [] H H' s.heap s'.heap/\HOk P w H' s'.heap/\RelV v u/\Q v H'
def CR(CX:CXT)(outer:List Env)(P:Program)(w:World)(H:Hp)(s:Shared)(Q:VK)(E:XK)(r:Result)(s':Shared):Prop :=
 match r with
 | .ok (.ret u)=>CE outer P w H s Q u s'
 | .ok _=>False
 | .error e=>CX outer H s E e s'
structure FnOk(P:Program)(w:World)(K:Zf)(mg:Str->Option Value)(base:Heap)(CX:CXT)(k:Nat)(f:Addr)(fd:FuncData)(ps:List Str)(sp:Sp):Prop where
 len:∀vs H Q E,sp vs H Q E->vs.length=ps.length
 run:∀(A:Around)(outer:List Env)(s:Shared)(H:Hp)(args:Args)(us:List Value)(vs:List V)(Q:VK)(E:XK),Room k A->Env0 P w K mg base A outer s H->BindsTo s fd args (ps.zip us)->Vals vs us->sp vs H Q E ->
  codeAny (model P w) A (.call (.ref f) args) (CR CX outer P w H s Q E) s
theorem FnOk.mono{P:Program}{w:World}{K:Zf}{mg:Str->Option Value}{base:Heap}{CX:CXT}{j k:Nat}{f:Addr}{fd:FuncData}{ps:List Str}{sp:Sp}(F:FnOk P w K mg base CX j f fd ps sp)(h:j<=k) :
  FnOk P w K mg base CX k f fd ps sp:=⟨F.len,λA outer s H args us vs Q E hr=>F.run A outer s H args us vs Q E (hr.mono h)⟩
theorem Env0.make{P:Program}{w:World}{K:Zf}{mg:Str->Option Value}{base:Heap}{A:Around}{outer:List Env}{s:Shared}{H:Hp}(e:Env0 P w K mg base A outer s H)(C:Addr)(us:List Value)(kw:List (Str×Value)) :
  Env0 P w K mg base (A.under (.builtin "type.__call__" ⟨.ref C::us,kw⟩)) outer s H:=⟨by first | exact e.frames | (simpa[Around.under,Code.envs,Code.isFrame,pushEnvs] using e.frames),e.mod,e.bs,e.bsz,e.funs,e.frf,e.hok,e.bare⟩
section
variable{X:Cx}{z0:List (Addr×Obj)}{Y:St}{H:Hp}{s s':Shared}
theorem Inv.env0(I:Inv X z0 Y H s):Env0 X.prog X.w X.K X.mg X.base X.A X.stack s H :=
 ⟨I.ok.frames,I.ok.mod,I.bs,P4z I.ok.bsz I.sz,I.stack,I.stkFree,I.hok,I.bare⟩
theorem Inv.after{Q:VK}{u:Value}(I:Inv X z0 Y H s)(h:CE X.stack X.prog X.w H s Q u s'):EP X z0 Y Q u s':=by
 obtain⟨v,H',os,bare,un,hok,r,q⟩:=h;obtain⟨hh,g,d,t,os'⟩:=s';obtain rfl:os'=s.os:=os;exact⟨v,H',I.call (h':=hh) (g':=g) (d':=d) (t':=t) (ch:=[]) un hok bare (λb z=>absurd z (by simp)),r,q⟩
end
def RZ(sp:Sp)(dvs:List V)(E:XK)(t:TA):TE:=λY H Q=>t Y H λvs H1=>sp (vs++dvs) H1 Q E
def Nq(C:Addr)(m:Str)(sp:Sp)(dvs:List V)(E:XK)(ta:TE)(t:TA):TE:=λY H Q=>ta Y H λx H1=>∃a dx fs,x=.ref a/\H1 a=some (.ins C dx fs)/\fs.lookup m=none /\
 t Y H1 λvs H2=>sp (x::(vs++dvs)) H2 Q E
def RT(C:Addr)(sp:Sp)(dvs:List V)(E:XK)(t:TA):TE:=λY H Q=>t Y H λvs H1=>∀x dx,H1 x=none->H1 dx=none->dx≠x ->
 sp (.ref x::(vs++dvs)) (upd (upd H1 dx (.own x)) x (.ins C dx [])) (λv H2=>v=.non/\Q (.ref x) H2) E
def Binds(K:Zf)(fd:FuncData)(ps:List Str)(ds:List Value):Prop :=
 ∀(s:Shared)(us:List Value),K.In s.heap->(us++ds).length=ps.length->BindsTo s fd ⟨us,[]⟩ (ps.zip (us++ds))
theorem Binds.all{K:Zf}{fd:FuncData}{ps:List Str}(h:∀us:List Value,us.length=ps.length->bindArgs fd ⟨us,[]⟩=pure (ps.zip us)):Binds K fd ps []:=λs us _ hl=>by
 rw[J3z] at hl ⊢;exact .of_eq (h us hl)
def Passes(CX:CXT)(X:Cx)(E:XK):Prop:=∀(z0:List (Addr×Obj))(Y:St)(H:Hp)(s:Shared)(e:Value)(s':Shared),Inv X z0 Y H s->CX X.stack H s E e s'->X.xe e s'
section
variable{X:Cx}{CX:CXT}{k:Nat}{f C:Addr}{fd:FuncData}{ps:List Str}{sp:Sp}{dvs:List V}{ds:List Value}{E:XK}{x m:Str}{p pos apos:Pos}{e o:Expr}{es:List Expr}{ta:TE}{t:TA}
theorem yL{z0:List (Addr×Obj)}{Y:St}{H:Hp}{s:Shared}{Q:VK}{us:List Value}{vs:List V}(F:FnOk X.prog X.w X.K X.mg X.base CX k f fd ps sp)(hr:Room k X.A)(hb:Binds X.K fd ps ds)(hd:Vals dvs ds)(hx:Passes CX X E)
  (I:Inv X z0 Y H s) (r:Vals vs us) (h:sp (vs++dvs) H Q E):wpAny (model X.prog X.w) X.A (call (.ref f) us) (EP X z0 Y Q) X.xe s:=by
 have r2:Vals (vs++dvs) (us++ds):=r.append hd
 have hl:(us++ds).length=ps.length:=by rw[<- r2.length];exact F.len _ _ _ _ h
 refine wpAny_call (S4z (F.run X.A X.stack s H ⟨us,[]⟩ (us++ds) (vs++dvs) Q E hr I.env0 (hb s us I.kIn hl) r2 h) λr s' hq=>?_)
 cases r with
 | error e=>exact hx z0 Y H s e s' I hq
 | ok fl =>
  cases fl with
  | ret u=>exact I.after hq
  | next=>exact False.elim hq
  | brk=>exact False.elim hq
  | cont=>exact False.elim hq
theorem dR(F:FnOk X.prog X.w X.K X.mg X.base CX k f fd ps sp)(hr:Room k X.A)(hg:Gl X x)(hm:X.mg x=some (.ref f))(hk:W.keepIn X.K (.ref f)=true)(hb:Binds X.K fd ps ds)(hd:Vals dvs ds)(hx:Passes CX X E)
  (ha:PA X (e::es) t) (hdb:(x==("__debug__":Str))=false:=by decide) (he:starEach (e::es) X.env=(false,eval e X.env)::starEach es X.env:=by rfl) (hpl:(backTo pos (starEach es X.env)).any (·.1)=false:=by rfl) :
  PE X (.Call (.Name x p) (e::es) [] pos) (RZ sp dvs E t):=by
 intro z0 s Y H Q I h;refine O1z (f9 I hg hm ?_ hdb);refine P1z (h₀:=X.base) I.ok.mod.kin hk (thn (ha pos z0 s Y H _ I h) λus s1 ⟨vs,H1,I1,r,q⟩=>⟨I1.kIn,?_⟩) he hpl;exact yL F hr hb hd hx I1 r q
theorem cU{pl:Sem Bool}(he:PE X o ta)(c:Cls X.K C)(hm:Meth X.K C m f)(F:FnOk X.prog X.w X.K X.mg X.base CX k f fd ps sp)(hr:Room k X.A)(hb:Binds X.K fd ps ds)(hd:Vals dvs ds)(hx:Passes CX X E)(ha:PA X (e::es) t)
  (hst:starEach (e::es) X.env=(false,eval e X.env)::starEach es X.env:=by rfl) (hpl:(backTo pos (starEach es X.env)).any (·.1)=false:=by rfl)
  (ht:eval (.Call (.Attribute o m apos) (e::es) [] pos) X.env=(do
   let ov <- eval o X.env
   standAt apos.atName
   let (f,first) <- holding [ov] (getMethod ov m pl)
   callWith pos f first (backTo pos (starEach (e::es) X.env)) (backToKw pos (keywordEach [] X.env))):=by rfl) :
  PE X (.Call (.Attribute o m apos) (e::es) [] pos) (Nq C m sp dvs E ta t):=by
 intro z0 s Y H Q I h;refine W.methodCall_KW (pl:=pl) (thn (he z0 s Y H _ I h) λu s1 ⟨x,H1,I1,rx,a,dx,fs,ex,ea,l,q⟩=>?_) ht;subst ex;obtain rfl:u=Value.ref a:=rx;refine m6 I1 ea c hm l ?_;refine P1z (first:=[.ref a]) (h₀:=X.base) I.ok.mod.kin hm.kp (thn (ha pos z0 s1 Y H1 _ I1 q) λus s2 ⟨vs,H2,I2,r,q2⟩=>⟨I2.kIn,?_⟩) hst hpl;exact yL (us:=.ref a::us) (vs:=.ref a::vs) F hr hb hd hx I2 (.cons rfl r) q2
theorem Dp{pl:Sem Bool}(he:PE X o ta)(c:Cls X.K C)(hm:Meth X.K C m f)(F:FnOk X.prog X.w X.K X.mg X.base CX k f fd ps sp)(hr:Room k X.A)(hb:Binds X.K fd ps ds)(hd:Vals dvs ds)(hx:Passes CX X E)
  (ht:eval (.Call (.Attribute o m apos) [] [] pos) X.env=(do
   let ov <- eval o X.env
   standAt apos.atName
   let (f,first) <- holding [ov] (getMethod ov m pl)
   callWith pos f first (backTo pos (starEach [] X.env)) (backToKw pos (keywordEach [] X.env))):=by rfl) :
  PE X (.Call (.Attribute o m apos) [] [] pos) (Nq C m sp dvs E ta Nm):=by
 intro z0 s Y H Q I h;refine W.methodCall_KW (pl:=pl) (thn (he z0 s Y H _ I h) λu s1 ⟨x,H1,I1,rx,a,dx,fs,ex,ea,l,q⟩=>?_) ht;subst ex;obtain rfl:u=Value.ref a:=rx;refine m6 I1 ea c hm l ?_;exact W.callWith_K0 (first:=[.ref a]) I1.kIn hm.kp (yL (us:=[.ref a]) (vs:=[.ref a]) F hr hb hd hx I1 (.cons rfl .nil) q)
structure Mk(K:Zf)(C f:Addr):Prop where
 makes:W.makesIn K C=true
 init:W.findIn K (.ref C) "__init__"=some (some (.ref f))
 fn:W.isFn K (.ref f)=true
 kp:W.keepIn K (.ref C)=true
theorem Dc{z0:List (Addr×Obj)}{Y:St}{H:Hp}{s:Shared}{Q:VK}{us:List Value}{vs:List V}(M:Mk X.K C f)(F:FnOk X.prog X.w X.K X.mg X.base CX k f fd ps sp)(hr:Room (k+1) X.A)(hb:Binds X.K fd ps ds)(hd:Vals dvs ds)
  (hx:Passes CX X E) (I:Inv X z0 Y H s) (r:Vals vs us)
  (h:∀x dx,H x=none->H dx=none->dx≠x->sp (.ref x::(vs++dvs)) (upd (upd H dx (.own x)) x (.ins C dx [])) (λv H2=>v=.non/\Q (.ref x) H2) E) :
  wpAny (model X.prog X.w) X.A (call (.ref C) us) (EP X z0 Y Q) X.xe s:=by
 have hq:=h (s.heap.objs.size+1) s.heap.objs.size (I.hok.fresh (Nat.le_succ _)) (I.hok.fresh (X4z _)) (O4z (Q2z _));have I2:=Inv.made (C:=C) I;have r2:Vals (V.ref (s.heap.objs.size+1)::(vs++dvs)) (Value.ref (s.heap.objs.size+1)::(us++ds)):=.cons rfl (r.append hd)
 have hl:(Value.ref (s.heap.objs.size+1)::us++ds).length=ps.length:=by
  have e:=r2.length;rw[F.len _ _ _ _ hq] at e;exact e.symm
 refine wpAny_call (Ei (f:=f) I.kIn M.makes M.init (beq_iff_eq.mp M.fn) (S4z (F.run _ X.stack _ _ ⟨Value.ref (s.heap.objs.size+1)::us,[]⟩ (Value.ref (s.heap.objs.size+1)::(us++ds)) _ _ E (hr.make C us [])
  (I2.env0.make C us []) (hb _ (Value.ref (s.heap.objs.size+1)::us) I2.kIn hl) r2 hq) λr s' hq'=>?_))
 cases r with
 | error e=>exact hx z0 Y _ _ e s' I2 hq'
 | ok fl =>
  cases fl with
  | ret u =>
   obtain⟨v,H',I3,rv,ev,q3⟩:=I2.after hq';subst ev;exact⟨rv,⟨V.ref (s.heap.objs.size+1),H',I3,rfl,q3⟩⟩
  | next=>exact False.elim hq'
  | brk=>exact False.elim hq'
  | cont=>exact False.elim hq'
theorem Dq(M:Mk X.K C f)(F:FnOk X.prog X.w X.K X.mg X.base CX k f fd ps sp)(hr:Room (k+1) X.A)(hg:Gl X x)(hm:X.mg x=some (.ref C))(hb:Binds X.K fd ps ds)(hd:Vals dvs ds)(hx:Passes CX X E)
  (hdb:(x==("__debug__":Str))=false:=by decide):PE X (.Call (.Name x p) [] [] pos) (RT C sp dvs E Nm):=by
 intro z0 s Y H Q I h;refine O1z (f9 I hg hm ?_ hdb);exact W.callWith_K0 I.kIn M.kp (Dc (us:=[]) M F hr hb hd hx I .nil h)
end
section
variable{X:Cx}{CX:CXT}{k:Nat}{f C:Addr}{fd:FuncData}{ps ks:List Str}{sp:Sp}{E:XK}{x m:Str}{p pos apos kpos:Pos}{e o:Expr}{es:List Expr}{kws:List Keyword}{te ta:TE}{t tk:TA}{nm:Option Str}
variable{g:List Value->List Value->List Value}{gV:List V->List V->List V}
end
structure FnScope(N P:List Str)(sc:Scope):Prop where
 kind:sc.kind=.function
 co:sc.isCoroutine=false
 gen:sc.isGenerator=false
 nd:N.Nodup
 pre:N.take P.length=P
 par:∀x∈P,sc.names.lookup x=some .local\/sc.names.lookup x=some .cell
 nofree:∀y∈sc.names,y.2≠.free
theorem rE{kindOf:Str->Option NameKind}{x:Str}:∀{binds:List (Str×Value)}{m:Str->Option Value},(∀v,(x,v)∉binds)->bindL kindOf binds m x=m x
 | [],_,_=>rfl
 | (n,v)::r,m,h=>by
  unfold bindL;rw[rE λw hw=>h w (U0z _ hw)];split
  .have:x≠n:=by rintro rfl;exact h v K1z
   simp[this]
  .rfl
theorem rG{kindOf:Str->Option NameKind}{x:Str}:∀{binds:List (Str×Value)}{m:Str->Option Value},(∀v,(x,v)∉binds)->bindC kindOf binds m x=m x
 | [],_,_=>rfl
 | (n,v)::r,m,h=>by
  unfold bindC;rw[rG λw hw=>h w (U0z _ hw)];split
  .rfl
  .have:x≠n:=by rintro rfl;exact h v K1z
   simp[this]
theorem rF{kindOf:Str->Option NameKind}{x:Str}{v:Value}:∀{P:List Str}{vs:List Value}{i:Nat}{m:Str->Option Value},P.Nodup->P[i]?=some x->vs[i]?=some v->kindOf x=some .local ->
  bindL kindOf (P.zip vs) m x=some v
 | [],_,_,_,_,h,_,_=>by simp at h
 | _::_,[],_,_,_,_,h,_=>by simp at h
 | p::P,w::vs,0,m,nd,h1,h2,hk=>by
  simp at h1 h2;subst h1;subst h2
  show bindL kindOf ((p,w)::P.zip vs) m p=_;unfold bindL;rw[rE λv hv=>(L3z.mp nd).1 (K3z hv).1,P5z hk];simp
 | p::P,w::vs,i+1,m,nd,h1,h2,hk=>by
  show bindL kindOf ((p,w)::P.zip vs) m x=_;unfold bindL;exact rF (i:=i) (L3z.mp nd).2 (by simpa using h1) (by simpa using h2) hk
theorem rH{kindOf:Str->Option NameKind}{x:Str}{v:Value}:∀{P:List Str}{vs:List Value}{i:Nat}{m:Str->Option Value},P.Nodup->P[i]?=some x->vs[i]?=some v->kindOf x≠some .local ->
  bindC kindOf (P.zip vs) m x=some v
 | [],_,_,_,_,h,_,_=>by simp at h
 | _::_,[],_,_,_,_,h,_=>by simp at h
 | p::P,w::vs,0,m,nd,h1,h2,hk=>by
  simp at h1 h2;subst h1;subst h2
  show bindC kindOf ((p,w)::P.zip vs) m p=_;unfold bindC;rw[rG λv hv=>(L3z.mp nd).1 (K3z hv).1,Q5z hk];simp
 | p::P,w::vs,i+1,m,nd,h1,h2,hk=>by
  show bindC kindOf ((p,w)::P.zip vs) m x=_;unfold bindC;exact rH (i:=i) (L3z.mp nd).2 (by simpa using h1) (by simpa using h2) hk
def start(N:List Str)(vs:List V):St:=vs.map some++List.replicate (N.length-vs.length) none
def eO(CX:CXT)(P:Program)(w:World)(K:Zf)(mg:Str->Option Value)(base:Heap)(N:List Str)(qual:Str)(scope:Scope)(f:Addr)(cd:Value)(A:Around)(outer:List Env)(s:Shared)(H:Hp)(E:XK):Cx where
 prog:=P
 w:=w
 K:=K
 mg:=mg
 base:=base
 A:=A.deeper (envOfC qual scope s.heap.objs.size f cd)
 N:=N
 s₀:=s
 H₀:=H
 env:=envOfC qual scope s.heap.objs.size f cd
 outer:=outer
 stack:=envOfC qual scope s.heap.objs.size f cd::outer
 ex:=[]
 calm:=true
 fn:=λ_=>true
 pn:=[]
 xe:=λe s'=>wpAny (model P w) (A.deeper (envOfC qual scope s.heap.objs.size f cd)) (leaving (envOfC qual scope s.heap.objs.size f cd) e) (λ_ s''=>CX outer H s E e s'') (λe' s''=>CX outer H s E e' s'') s'
theorem vG{sc:Scope}{n:Nat}{x:Str}(h:sc.names.lookup x=some .cell):∃c,(cellsFrom n sc.names []).lookup x=some c:=by
 have q:=L0z sc.names n [] (.inl h);exact Option.isSome_iff_exists.mp q
theorem mZ{c:Bool}{CX:CXT}{P:Program}{w:World}{K:Zf}{mg:Str->Option Value}{base:Heap}{N ps:List Str}{qual:Str}{scope:Scope}{f:Addr}{cd:Value}{A:Around}{outer:List Env}{s s1:Shared}{H:Hp}{E:XK}{us:List Value}{vs:List V}
  (S:FnScope N ps scope) (hd:c=true->A.handled=none) (e0:Env0 P w K mg base A outer s H) (hl:vs.length=ps.length) (r:Vals vs us)
  (x:InCallC s s.heap.objs.size (bindL (envOfC qual scope s.heap.objs.size f cd).kindOf (ps.zip us) λ_=>none) (cellsFrom (s.heap.objs.size+1) scope.names []) (bindC (envOfC qual scope s.heap.objs.size f cd).kindOf (ps.zip us) λ_=>none) s1) :
  Inv {eO CX P w K mg base N qual scope f cd A outer s H E with calm:=c} [] (start N vs) H s1:=by
 have hpl:ps.length<=N.length:=by have:=congrArg List.length S.pre;rw[R2z] at this;omega
 obtain⟨h1,tk,rfl,hk⟩:=x.done;have noA:∀b:Addr,b∉({eO CX P w K mg base N qual scope f cd A outer s H E with calm:=c}:Cx).ex:=λb z=>absurd (show b∈([]:List Addr) from z) (by simp)
 refine⟨⟨e0.mod,S.kind,rfl,rfl,X4z _,λy z c h1 h2=>?_,λy hy=>?_,λy c _ h=>?_,hd,Around.frames_deeper e0.frames,.inr ⟨rfl,rfl⟩,λb z=>absurd z (noA b),e0.bs,e0.bsz,λb _ _=>noA b,λb z=>absurd z (noA b),e0.funs,e0.frf⟩,
  rfl,e0.bare,Un.kept hk,⟨_,x.toInCall.ns,λi y v h1 h2 h3=>?_⟩,λy c h=>⟨_,x.cell y c h⟩,e0.hok.fresh (X4z _),λy c h=>?_,λp hp=>absurd (show p∈([]:List (Addr×Obj)) from hp) (by simp),e0.hok.kept hk,?_⟩
 .exact name_of_addr x.apart (D1z h1) (D1z h2)
 .have hy:scope.names.lookup y=some .cell\/scope.names.lookup y=some .free:=hy
  rcases hy with hy | hy
  .exact vG hy
  .exact absurd rfl (S.nofree _ (D1z hy))
 .exact Q4z (x.above y c (D1z h))
 .have hi:i<vs.length:=by
   unfold start at h2
   by_cases hi:i<vs.length
   .exact hi
   .rw[List.getElem?_append_right (by simpa using hi)] at h2
    rw[List.getElem?_replicate] at h2
    split at h2<;>cases h2
  have ha:vs[i]?=some v:=by
   unfold start at h2;rw[List.getElem?_append_left (by simpa using hi),List.getElem?_map] at h2
   cases e:vs[i]? with
   | none=>rw[e] at h2;cases h2
   | some a=>rw[e] at h2;cases h2;rfl
  obtain⟨u,hu,rv⟩:=r.get ha
  have hp:ps[i]?=some y:=by
   rw[<- S.pre,List.getElem?_take_of_lt (by omega)];exact h1
  have ndP:ps.Nodup:=by rw[<- S.pre];exact S.nd.sublist (List.take_sublist _ _)
  refine⟨u,rv,?_⟩;rcases S.par y (List.mem_of_getElem? hp) with k | k
  .exact .inl ⟨k,rF ndP hp hu k⟩
  .obtain⟨c,e⟩:=vG (n:=s.heap.objs.size+1) k
   refine .inr ⟨.inl k,c,e,?_⟩;have q:=x.cell y c e;rw[rH ndP hp hu (by show scope.names.lookup y≠_;rw[k];decide)] at q;exact q
 .exact e0.hok.fresh (Q4z (x.above y c (D1z h)))
 .unfold start
  show _=N.length;rw[Q1z,I3z,List.length_replicate];omega
theorem KJ{CX:CXT}{P:Program}{w:World}{K:Zf}{mg:Str->Option Value}{base:Heap}{k:Nat}{f:Addr}{name qual:Str}{params:Arguments}{body:List Stmt}{scope:Scope}{dV kV doc pm cdv ct oc:Value}{an od:Option Addr}
  {osl:Array (Option Value)} {N ps:List Str} {sp:Sp} (lk:K.lookup f=some ⟨oc,od,.func (W.fnOf name qual params body scope dV kV doc pm an cdv ct),osl⟩) (hcd:W.codeIn K cdv qual=true) (S:FnScope N ps scope)
  (len:∀vs H Q E,sp vs H Q E->vs.length=ps.length)
  (hbody:∀(A:Around)(outer:List Env)(s:Shared)(H:Hp)(vs:List V)(Q:VK)(E:XK), Room k (A.deeper (envOfC qual scope s.heap.objs.size f cdv))->sp vs H Q E ->
   ∃t,PSs (eO CX P w K mg base N qual scope f cdv A outer s H E) body t/\t {nx:=λ_ H'=>Q .non H',rt:=Q} (start N vs) H) :
  FnOk P w K mg base CX (k+1) f (W.fnOf name qual params body scope dV kV doc pm an cdv ct) ps sp:=by
 refine⟨len,λA outer s H args us vs Q E hr e0 hb r hsp=>?_⟩;have hl:=len _ _ _ _ hsp;have KX:K.In s.heap:=e0.mod.kin.keeps λb o e=>(e0.bs b o e).1;have lim:s.heap.NoLimit:=e0.mod.nolimit.keeps λb o e=>(e0.bs b o e).1
 have hkind:∀y∈ps.zip us,scope.names.lookup y.1=some .local\/(scope.names.lookup y.1=some .cell/\((cellsFrom (s.heap.objs.size+1) scope.names []).lookup y.1).isSome=true):=λ⟨n,v⟩ hy=>by
  rcases S.par n (K3z hy).1 with q | q
  .exact .inl q
  .exact .inr ⟨q,L0z _ _ _ (.inl q)⟩
 refine codeAny_call_function hr.depth (KX _ _ lk) rfl S.co S.gen rfl (W.codeRec_of KX hcd) (hb _ _ _ _ ?_);refine wpAny_newFunctionEnv_cells S.kind hkind λenv he s1 x=>?_;subst he;refine⟨lim.keeps x.toInCall.keep,codeAny_func ?_⟩;obtain⟨t,ht,hq⟩:=hbody A outer s H vs Q E (hr.deeper _) hsp;have I:Inv (eO CX P w K mg base N qual scope f cdv A outer s H E) [] (start N vs) H s1:=mZ (c:=true) S (λ_=>hr.hd) e0 hl r x;refine D5z (ht [] s1 (start N vs) H _ I hq) (λfl s' hs=>?_) λe s' hs=>hs
 have fin:∀{Y':St}{H':Hp}{v:V}{u:Value},Inv (eO CX P w K mg base N qual scope f cdv A outer s H E) [] Y' H' s'->RelV v u->Q v H'->CE outer P w H s Q u s' :=
  λ{Y' H' v u} J rv q=>⟨v,H',J.os,J.bare,J.base,J.hok,rv,q⟩
 cases fl with
 | ret u =>
  obtain⟨v,Y',H',J,rv,q⟩:=hs;exact fin J rv q
 | next =>
  obtain⟨Y',H',J,q⟩:=hs;exact fin (v:=V.non) (u:=Value.none) J rfl q
 | brk =>
  obtain⟨_,_,_,q⟩:=hs;exact False.elim q
 | cont =>
  obtain⟨_,_,_,q⟩:=hs;exact False.elim q
section
variable{X:Cx}{x:Str}{p pos:Pos}{e:Expr}{es:List Expr}{t:TA}{id T:String}{r:List V->Hp->VK->Prop}
def tCB(r:List V->Hp->VK->Prop)(t:TA):TE:=λY H Q=>t Y H λvs H1=>r vs H1 Q
theorem bU(hc:cZ X (.builtin id) r)(hg:Gl X x)(hm:X.mg x=none)(hv:bootBuiltins x=some (.builtin id))(ha:PA X (e::es) t)(hn:x≠"__name__":=by decide)(hdb:(x==("__debug__":Str))=false:=by decide)
  (he:starEach (e::es) X.env=(false,eval e X.env)::starEach es X.env:=by rfl) (hpl:(backTo pos (starEach es X.env)).any (·.1)=false:=by rfl):PE X (.Call (.Name x p) (e::es) [] pos) (tCB r t):=by
 intro z0 s Y H Q I h;refine O1z (jO I hg hm hv ?_ hn hdb);exact PyProof.Rows.callWith_builtin1 (thn (ha pos z0 s Y H _ I h) λus s1 ⟨vs,H1,I1,r1,q1⟩=>hc z0 s1 Y H1 vs us Q I1 r1 q1) he hpl
theorem eU(hc:cZ X (.type T) r)(hg:Gl X x)(hm:X.mg x=none)(hv:bootBuiltins x=some (.type T))(ha:PA X (e::es) t)(hn:x≠"__name__":=by decide)(hdb:(x==("__debug__":Str))=false:=by decide)
  (he:starEach (e::es) X.env=(false,eval e X.env)::starEach es X.env:=by rfl) (hpl:(backTo pos (starEach es X.env)).any (·.1)=false:=by rfl):PE X (.Call (.Name x p) (e::es) [] pos) (tCB r t):=by
 intro z0 s Y H Q I h;refine O1z (jO I hg hm hv ?_ hn hdb);exact A0z (thn (ha pos z0 s Y H _ I h) λus s1 ⟨vs,H1,I1,r1,q1⟩=>hc z0 s1 Y H1 vs us Q I1 r1 q1) he hpl
end
end L2
namespace HT
open PySem PyProof.Rows
section
open PySem.SeqAt
open PySem.MeetsSeq PySem.MeetsSeq2 PySem.MeetsSeq3
end
section
variable{prog:Program}{w:World}{A:Around}{E:Value->Shared->Prop}{s:Shared}
theorem Lp{t b:Addr}{vs ws:List Value}{Q:Value->Shared->Prop}(ht:IsTup s.heap t vs.toArray)(hb:IsTup s.heap b ws.toArray)(hv:vs≠[])
  (h1:ws=[]->Q (.ref t) s) (h2:ws≠[]->Q (.ref s.heap.objs.size) {s with heap:=s.heap.push {cls:=.type "tuple",data:=.seq (vs++ws).toArray} })
  (hsz:vs.length+ws.length<=sizeLine):wpAny (model prog w) A (binaryOp .Add (.ref t) (.ref b)) Q E s:=by
 obtain⟨⟨cls,dd,data,sl⟩,ho,hc,n,hd⟩:=id ht;obtain⟨⟨cls2,dd2,data2,sl2⟩,ho2,hc2,n2,hd2⟩:=id hb;simp only at hc hd hc2 hd2;subst hc hd hc2 hd2
 have e:vs.toArray++ws.toArray=(vs++ws).toArray:=by simp
 by_cases hw:ws=[]
 .exact concat_meets ⟨_,ho,rfl⟩ ⟨_,ho2,rfl⟩ noFill_tuple_add seq_tuple_add M0z F0z (C0z _ _)
   (tuple_addW1 t b vs.toArray ws.toArray n n2 dd dd2 sl sl2 (by simpa using hv) (by simp[hw])) ⟨ho,ho2,h1 hw⟩
 .refine concat_meets ⟨_,ho,rfl⟩ ⟨_,ho2,rfl⟩ noFill_tuple_add seq_tuple_add M0z F0z (C0z _ _)
   (tuple_addW2 t b vs.toArray ws.toArray n n2 dd dd2 sl sl2 (by simpa using hv) (by simpa using hw) (by rw[D2z,D2z];exact hsz)) ⟨ho,ho2,?_⟩
  rw[e];exact h2 hw
def sIx(n d:Nat):Option Int->Nat
 | none=>d
 | some v=>if v<0 then(v+(n:Int)).toNat else min v.toNat n
end
end HT
namespace L2
open PySem PySem.Spec PyProof.Rows
abbrev TO:=St->Hp->(Option Int->Hp->Prop)->Prop
def PO(X:Cx)(e:Option Expr)(t:TO):Prop :=
  ∀(z0:List (Addr×Obj))(s:Shared)(Y:St)(H:Hp)(Q:Option Int->Hp->Prop), Inv X z0 Y H s->t Y H Q ->
    wpAny (model X.prog X.w) X.A (evalPart e X.env) (λu s'=>∃o H',Inv X z0 Y H' s'/\IsPart u o/\Q o H') X.xe s
def Il:TO:=λ_ H Q=>Q none H
def RP(t:TE):TO:=λY H Q=>t Y H λx H1=>∃i,x=.int i/\Q (some i) H1
theorem intsAre_of{ns:List Int}:∀{us:List Value},Vals (ns.map V.int) us->IntsAre us ns:=by
 induction ns with
 | nil=>intro us r;rw[T4z] at r;cases r;exact .nil
 | cons n ns ih =>
  intro us r;rw[E4z] at r
  cases r with
  | cons r1 r2 =>
   obtain⟨t,e⟩:=r1;subst e;exact .cons n t (ih r2)
section
variable{X:Cx}{e:Expr}{te:TE}{lo hi:Option Expr}{tl th:TO}{pos p2:Pos}
theorem Jz:PO X none Il:=by
 intro z0 s Y H Q I h;rw[evalPart_none];exact F5z ⟨none,H,I,.none,h⟩
theorem Jy(h:PE X e te):PO X (some e) (RP te):=by
 intro z0 s Y H Q I hw;rw[evalPart_some];refine thn (h z0 s Y H _ I hw) λu s1 ⟨x,H1,I1,r1,q1⟩=>?_;obtain⟨i,rfl,q⟩:=q1;obtain⟨t,rfl⟩:=r1;exact⟨some i,H1,I1,.int i t,q⟩
def SlR(X:Cx)(r:V->Option Int->Option Int->Hp->VK->Prop):Prop :=
  ∀(z0:List (Addr×Obj))(s:Shared)(Y:St)(H:Hp)(x:V)(v vl vu:Value)(lo hi:Option Int)(sl:Addr)(Q:VK), Inv X z0 Y H s->RelV x v->s.heap.IsSliceOf sl vl vu .none->IsPart vl lo->IsPart vu hi->r x lo hi H Q ->
    ∃T id,typeLookup (.type T) "__getitem__"=pure (some (.builtin id))/\s.TypeIs v T/\wpAny (model X.prog X.w) X.A (getItem v (.ref sl)) (EP X z0 Y Q) X.xe s
def tSl(r:V->Option Int->Option Int->Hp->VK->Prop)(te:TE)(tl th:TO):TE:=λY H Q=>te Y H λx H1=>tl Y H1 λl H2=>th Y H2 λu H3=>r x l u H3 Q
theorem Dn{r:V->Option Int->Option Int->Hp->VK->Prop}(hr:SlR X r)(he:PE X e te)(hl:PO X lo tl)(hu:PO X hi th):PE X (.Subscript e (.Slice lo hi none p2) pos) (tSl r te tl th):=by
 intro z0 s Y H Q I h;refine Subscript_ (thn (he z0 s Y H _ I h) λv s1 ⟨x,H1,I1,r1,q1⟩=>?_);refine wpAny_Slice (thn (hl z0 s1 Y H1 _ I1 q1) λvl s2 ⟨l,H2,I2,pl,q2⟩=>thn (hu z0 s2 Y H2 _ I2 q2) λvu s3 ⟨u,H3,I3,pu,q3⟩=>?_);rw[evalPart_none];refine F5z ?_;have I4:Inv X z0 Y H3 {s3 with heap:=s3.heap.push {cls:=.type "slice",data:=.fields #[vl,vu,.none]} }:=I3.kept (t':=s3.toks) λb ob q=>Heap.get?_push_of_some _ q;obtain⟨T,id,hT,ht,hg⟩:=hr z0 {s3 with heap:=s3.heap.push {cls:=.type "slice",data:=.fields #[vl,vu,.none]} } Y H3 x v vl vu l u s3.heap.objs.size Q I4 r1 (Heap.IsSliceOf.new ..) pl pu q3;show wpAny (model X.prog X.w) X.A (subscriptTail e (.Slice lo hi none p2) v (.ref s3.heap.objs.size)) (EP X z0 Y Q) X.xe {s3 with heap:=s3.heap.push {cls:=.type "slice",data:=.fields #[vl,vu,.none]} };exact tail_any (ops:=[.ref s3.heap.objs.size,v]) ht hT hg (by with_unfolding_all rfl)
def MN(xs:List V)(lo hi:Option Int):List V:=(xs.drop (HT.sIx xs.length 0 lo)).take (HT.sIx xs.length xs.length hi-HT.sIx xs.length 0 lo)
theorem uc(xs:List V)(lo hi:Option Int):(MN xs lo hi).length<=xs.length:=by
 unfold MN;rw[R2z,List.length_drop];omega
def SJ(K:Zf):R2:=λx y H Q=>∃a b xs ys,x=.ref a/\y=.ref b/\SqT K H a xs/\SqT K H b ys/\xs≠[]/\xs.length+ys.length<=sizeLine /\
 (ys=[]->Q (.ref a) H)/\(ys≠[]->∀p,H p=none->Q (.ref p) (upd H p (.tup (xs++ys))))
theorem Vals.nil_iff{xs:List V}{us:List Value}(r:Vals xs us):us=[]↔xs=[]:=by
 cases r with
 | nil=>simp
 | cons _ _=>simp
theorem JT:OpR X (binaryOp .Add) (SJ X.K):=by
 intro z0 s Y H x y v u Q I rx ry h;obtain⟨a,b,xs,ys,rfl,rfl,ha,hb,hx,hz,q1,q2⟩:=h;cases rx;cases ry;obtain⟨its,r1,p1,_⟩:=I.tuple ha;obtain⟨its2,r2,p2,_⟩:=I.tuple hb;refine HT.Lp p1 p2 (λz=>hx (r1.nil_iff.mp z)) (λz=>⟨.ref a,H,I,rfl,q1 (r2.nil_iff.mp z)⟩) (λz=>?_) (by rw[<- r1.length,<- r2.length];exact hz);refine⟨.ref s.heap.objs.size,_,I.laid (t':=s.toks) (o:=.tup (xs++ys)) (λb ob q=>Heap.get?_push_of_some _ q) (X4z _) ?_,rfl,q2 (λw=>z (r2.nil_iff.mpr w)) _ (I.hok.fresh (X4z _))⟩;exact⟨by rw[Q1z];exact hz,_,r1.append r2,IsTup.new _ _⟩
end
def ixN(n:Nat)(i:Int):Option Nat:=if 0<=i then(if i<n then some i.toNat else none) else if -(n:Int)<=i then some (i+n).toNat else none
def atI{α:Type}(xs:List α)(i:Int):Option α:=(ixN xs.length i).bind λj=>xs[j]?
theorem Kq{n:Nat}{i:Int}{j:Nat}(h:ixN n i=some j):seqIndex? i n=some j/\j<n /\ -(n:Int)<=i/\i<n:=by
 unfold ixN at h
 by_cases h0:0<=i
 .rw[P5z h0] at h
  by_cases h1:i<n
  .rw[P5z h1] at h
   have e:i.toNat=j:=G3z h;exact⟨by rw[seqIndex_of h0 h1,e],by omega,by omega,h1⟩
  .rw[Q5z h1] at h;cases h
 .rw[Q5z h0] at h
  by_cases h1:-(n:Int)<=i
  .rw[P5z h1] at h
   have e:(i+n).toNat=j:=G3z h;exact⟨by rw[seqIndex_neg (by omega) h1,e],by omega,h1,by omega⟩
  .rw[Q5z h1] at h;cases h
theorem BZ{α:Type}{xs:List α}{i:Int}{v:α}(h:atI xs i=some v):∃j,seqIndex? i xs.length=some j/\xs[j]?=some v/\j<xs.length /\ -(xs.length:Int)<=i/\i<xs.length:=by
 unfold atI at h
 cases e:ixN xs.length i with
 | none=>rw[e] at h;cases h
 | some j =>
  rw[e] at h;obtain⟨h1,h2,h3,h4⟩:=Kq e;exact⟨j,h1,h,h2,h3,h4⟩
def Cm(b:Expr):Prop:=∀o i,subscripted b false o i=operate [o,i] (getItem o i)
def IxR(X:Cx)(r:R2):Prop :=
  ∀(value slice:Expr)(z0:List (Addr×Obj))(s:Shared)(Y:St)(H:Hp)(x y:V)(v u:Value)(Q:VK), Inv X z0 Y H s->RelV x v->RelV y u->r x y H Q ->
    subscripted slice false v u=operate [v,u] (getItem v u)->wpAny (model X.prog X.w) X.A (subscriptTail value slice v u) (EP X z0 Y Q) X.xe s
def MtR(X:Cx)(id:String)(r:V->List V->Hp->VK->Prop):Prop :=
  ∀(z0:List (Addr×Obj))(s:Shared)(Y:St)(H:Hp)(x:V)(xs:List V)(v:Value)(us:List Value)(Q:VK), Inv X z0 Y H s->RelV x v->Vals xs us->r x xs H Q ->
    wpAny (model X.prog X.w) X.A (call (.builtin id) (v::us)) (EP X z0 Y Q) X.xe s
section
variable{X:Cx}{a b:Expr}{ta tb:TE}{pos:Pos}
theorem yZ{r:R2}(hr:IxR X r)(ha:PE X a ta)(hb:PE X b tb)(hs:Cm b):PE X (.Subscript a b pos) (tOp r ta tb):=by
 intro z0 s Y H Q I h;exact Subscript_ (Ur ha hb I h λv u s2 x y H2 I2 rx ry q=>hr a b z0 s2 Y H2 x y v u Q I2 rx ry q (hs _ _))
def Wg(K:Zf):R2:=λx y H Q=>∃p xs i v,x=.ref p/\y=.int i/\SqL K H p xs/\atI xs i=some v/\Q v H
def Wd(K:Zf):R2:=λx y H Q=>∃p xs i v,x=.ref p/\y=.int i/\SqT K H p xs/\atI xs i=some v/\Q v H
theorem Kp:IxR X (Wg X.K):=by
 intro value slice z0 s Y H x y v u Q I rx ry h hs;obtain⟨p,xs,i,z,rfl,rfl,hq,he,q⟩:=h;cases rx;obtain⟨t,rfl⟩:=ry;obtain⟨its,r,pl,hz⟩:=I.list hq;obtain⟨j,h1,h2,h3,h4,h5⟩:=BZ he;obtain⟨w,ew,rw'⟩:=r.get h2;have hl:=r.length;have hn:=qC;have fin:EP X z0 Y Q w s:=⟨z,H,I,rw',q⟩
 by_cases h0:0<=i
 .have hj:i.toNat=j:=by
   rw[seqIndex_of h0 h5] at h1;exact G3z h1
  exact item_listR pl.isList h0 (by omega) (by rw[hj];simpa using ew) fin hs
 .have hj:(i+(its.toArray.size:Int)).toNat=j:=by
   rw[seqIndex_neg (by omega) h4] at h1;rw[D2z,<- hl];exact G3z h1
  exact subscriptTail_builtinR (x:=w) pl.isList.typeIs slot_list_getitem.lookup
   (wpAny_getItem_list_neg (Q:=λr s'=>r=w/\EP X z0 Y Q r s') pl.isList (by omega) (by rw[D2z]<;>omega) (by omega) (by rw[hj];simpa using ew) ⟨rfl,fin⟩) hs
theorem u5:IxR X (Wd X.K):=by
 intro value slice z0 s Y H x y v u Q I rx ry h hs;obtain⟨p,xs,i,z,rfl,rfl,hq,he,q⟩:=h;cases rx;obtain⟨t,rfl⟩:=ry;obtain⟨its,r,pl,hz⟩:=I.tuple hq;obtain⟨j,h1,h2,h3,h4,h5⟩:=BZ he;obtain⟨w,ew,rw'⟩:=r.get h2;have hl:=r.length;have hn:=qC;have fin:EP X z0 Y Q w s:=⟨z,H,I,rw',q⟩
 exact subscriptTail_builtinR (x:=w) pl.typeIs slot_tuple_getitem.lookup
  (getItem_tuple (j:=j) (Q:=λr s'=>r=w/\EP X z0 Y Q r s') pl (by omega) (by omega) (by rw[D2z,<- hl];exact h1) (by simpa using ew) ⟨rfl,fin⟩) hs
theorem pX(lo hi:Option Int)(n:Nat):(sliceBounds lo hi none n).1=((HT.sIx n 0 lo:Nat):Int)/\(sliceBounds lo hi none n).2.1=((HT.sIx n n hi:Nat):Int)/\(sliceBounds lo hi none n).2.2=1:=by
 refine⟨?_,?_,rfl⟩
 .cases lo with
  | none=>simp[sliceBounds,HT.sIx]
  | some i =>
   simp only[sliceBounds,HT.sIx,Option.getD_none,show(1:Int)>0 by decide,O5z]
   by_cases h:i<0
   .simp only[h,O5z]<;>omega
   .simp only[h,M5z]<;>omega
 .cases hi with
  | none=>simp[sliceBounds,HT.sIx]
  | some i =>
   simp only[sliceBounds,HT.sIx,Option.getD_none,show(1:Int)>0 by decide,O5z]
   by_cases h:i<0
   .simp only[h,O5z]<;>omega
   .simp only[h,M5z]<;>omega
theorem nQ(its:List Value)(lo hi:Option Int):slicePick its.toArray lo hi none=((its.drop (HT.sIx its.length 0 lo)).take (HT.sIx its.length its.length hi-HT.sIx its.length 0 lo)).toArray:=by
 obtain⟨h1,h2,h3⟩:=pX lo hi its.toArray.size;unfold slicePick;rw[h1,h2,h3]
 simp only[sliceRange_one,pick_run,D2z]<;>rfl
def Wa(K:Zf):V->Option Int->Option Int->Hp->VK->Prop:=λx lo hi H Q=>∃a xs,x=.ref a/\SqL K H a xs/\∀p,H p=none->Q (.ref p) (upd H p (.lst (MN xs lo hi)))
theorem IV:SlR X (Wa X.K):=by
 intro z0 s Y H x v vl vu lo hi sl Q I rx hs pl pu h;obtain⟨a,xs,rfl,hx,q⟩:=h;cases rx;obtain⟨its,r,ht,hz⟩:=I.list hx;have hlen:=r.length;refine⟨"list",_,slot_list_getitem.lookup,ht.isList.typeIs,?_⟩;refine wpAny_getItem_list_slice ht.isList hs pl pu .none (by simp) ?_ (by rw[D2z]<;>omega);rw[nQ,<- hlen];refine⟨.ref s.heap.objs.size,_,I.laid (t':=s.toks) (o:=.lst (MN xs lo hi)) (λb ob q=>Heap.get?_push_of_some _ q) (X4z _) ?_,rfl,q _ (I.hok.fresh (X4z _))⟩;exact⟨P4z (uc xs lo hi) hz,_,0,(r.drop (HT.sIx xs.length 0 lo)).take (HT.sIx xs.length xs.length hi-HT.sIx xs.length 0 lo),Heap.get?_push_size _ rfl⟩
theorem eF:cZ X (.builtin "len") (λxs H Q=>∃p ys,xs=[.ref p]/\(SqL X.K H p ys\/SqT X.K H p ys)/\Q (.int ys.length) H):=by
 intro z0 s Y H xs us Q I r h;obtain⟨p,ys,rfl,hq,q⟩:=h;obtain⟨u,rfl,rx⟩:=vals1 r;cases rx;have hn:=qC;rcases hq with hq | hq
 .obtain⟨its,r',pl,hz⟩:=I.list hq
  have hlen:=r'.length;exact Calls.call_len_list pl.isList (by simp only[D2z]<;>omega) ⟨.int ys.length,H,I.tok _,⟨s.toks+1,by rw[D2z,hlen]⟩,q⟩
 .obtain⟨its,r',pl,hz⟩:=I.tuple hq
  have hlen:=r'.length;exact len_tuple pl (by simp only[D2z]<;>omega) ⟨.int ys.length,H,I.tok _,⟨s.toks+1,by rw[D2z,hlen]⟩,q⟩
theorem qZ:cZ X (.builtin "len") (λxs H Q=>∃z,xs=[.str z]/\z.length<=sizeLine/\Q (.int z.length) H):=by
 intro z0 s Y H xs us Q I r h;obtain⟨z,rfl,hz,q⟩:=h;obtain⟨u,rfl,t,rfl⟩:=vals1 r;have hn:=qC;exact len_str (by omega) ⟨.int z.length,H,I.tok _,⟨_,rfl⟩,q⟩
theorem qY:cZ X (.type "list") (λxs H Q=>∃p ys,xs=[.ref p]/\(SqL X.K H p ys\/SqT X.K H p ys)/\∀l,H l=none->Q (.ref l) (upd H l (.lst ys))):=by
 intro z0 s Y H xs us Q I r h;obtain⟨p,ys,rfl,hq,q⟩:=h;obtain⟨u,rfl,rx⟩:=vals1 r;cases rx
 have fin:∀(its:List Value),Vals ys its->ys.length<=sizeLine->∀(h':Heap)(c':Nat),(∀b o',s.heap.get? b=some o'->h'.get? b=some o') ->
   h'.get? s.heap.objs.size=some {cls:=.type "list",dict:=none,data:=.seq its.toArray c',slots := #[]}->EP X z0 Y Q (.ref s.heap.objs.size) {s with heap:=h'}:=λits r' hz h' c' kp e =>
  ⟨.ref s.heap.objs.size,_,I.laid (t':=s.toks) kp (X4z _) (show cQ X.prog X.w _ h' _ (.lst ys) from⟨hz,its,c',r',e⟩),rfl,q _ (I.hok.fresh (X4z _))⟩
 rcases hq with hq | hq
 .obtain⟨its,r',pl,hz⟩:=I.list hq
  have hlen:=r'.length;obtain⟨o,ho,hc,n,hd⟩:=pl.isList;exact call_list_seq p (.inl rfl) ho hc hd (λh' c' kp e=>fin its r' hz h' c' kp e) (by simp only[D2z]<;>omega)
 .obtain⟨its,r',pl,hz⟩:=I.tuple hq
  have hlen:=r'.length;obtain⟨o,ho,hc,n,hd⟩:=pl;exact call_list_seq p (.inr rfl) ho hc hd (λh' c' kp e=>fin its r' hz h' c' kp e) (by simp only[D2z]<;>omega)
theorem pB:cZ X (.type "tuple") (λxs H Q=>∃p ys,xs=[.ref p]/\((SqL X.K H p ys/\∀l,H l=none->Q (.ref l) (upd H l (.tup ys)))\/(SqT X.K H p ys/\Q (.ref p) H))):=by
 intro z0 s Y H xs us Q I r h;obtain⟨p,ys,rfl,h⟩:=h;obtain⟨u,rfl,rx⟩:=vals1 r;cases rx;rcases h with⟨hq,q⟩ | ⟨hq,q⟩
 .obtain⟨its,r',pl,hz⟩:=I.list hq
  have hlen:=r'.length;refine call_tuple_list pl.isList (λh' kp=>?_) (by simp only[D2z]<;>omega);have I1:Inv X z0 Y H {s with heap:=h'}:=I.kept (t':=s.toks) kp
  have I2:Inv X z0 Y (upd H h'.objs.size (.tup ys)) {s with heap:=h'.push {cls:=.type "tuple",data:=.seq its.toArray} } :=
   I1.laid (t':=s.toks) (λb o e=>Heap.get?_push_of_some _ e) (X4z _) (show cQ X.prog X.w _ _ _ (.tup ys) from⟨hz,its,r',IsTup.new _ _⟩)
  exact⟨.ref h'.objs.size,_,I2,rfl,q _ (I1.hok.fresh (X4z _))⟩
 .obtain⟨its,r',pl,hz⟩:=I.tuple hq
  exact call_tuple_same pl ⟨.ref p,H,I,rfl,q⟩
def tyV(K:Zf)(T:String)(x:V)(H:Hp):Prop:=match x with
 | .str _=>T="str"
 | .int _=>T="int"
 | .ref p=>(T="list"/\∃xs, SqL K H p xs) \/ (T="tuple"/\∃o, K.lookup p=some o/\o.cls=.type "tuple"/\o.dict=none) \/
   (T="dict"/\((∃kvs,H p=some (.dK kvs))\/∃kvs,H p=some (.dT kvs)))\/(T="set"/\∃S n,H p=some (.set S n))
 | _=>False
theorem Gh{z0:List (Addr×Obj)}{Y:St}{H:Hp}{s:Shared}{T:String}{x:V}{v:Value}(I:Inv X z0 Y H s)(r:RelV x v)(ty:tyV X.K T x H) :
  s.TypeIs v T/\∀a,v=.ref a->∃ob,s.heap.get? a=some ob/\ob.dict=none:=by
 cases x with
 | str z =>
  obtain⟨t,rfl⟩:=r;cases (show T="str" from ty);exact⟨typeIs_str s z t,λ_ e=>nomatch e⟩
 | int i =>
  obtain⟨t,rfl⟩:=r;cases (show T="int" from ty);exact⟨typeIs_int s i t,λ_ e=>nomatch e⟩
 | ref p =>
  cases r;rcases ty with⟨rfl,xs,hq⟩ | ⟨rfl,o,hk,hc,hd⟩ | ⟨rfl,hk⟩ | ⟨rfl,S,n,hk⟩
  .obtain⟨its,_,pl,_⟩:=I.list hq
   refine⟨pl.isList.typeIs,λa e=>?_⟩;cases e;obtain⟨o,n,e,c,hd,_⟩:=pl;exact⟨o,e,hd⟩
  .refine⟨⟨o,I.kIn p o hk,hc⟩,λa e=>?_⟩
   cases e;exact⟨o,I.kIn _ o hk,hd⟩
  .have z:∃o,s.heap.get? p=some o/\o.ExactDict:=by
    rcases hk with⟨kvs,hk⟩ | ⟨kvs,hk⟩
    .obtain⟨_,_,_,_,o,_,_,e,ex,_⟩:=I.hok p _ hk
     exact⟨o,e,ex⟩
    .obtain⟨_,_,_,_,o,_,_,e,ex,_⟩:=I.hok p _ hk
     exact⟨o,e,ex⟩
   obtain⟨o,e,ex⟩:=z;refine⟨⟨o,e,ex.1⟩,λa e2=>?_⟩;cases e2;exact⟨o,e,ex.2.1⟩
  .obtain⟨o,_,_,_,e,ex,_⟩:=I.hok p _ hk
   refine⟨⟨o,e,ex.1⟩,λa e2=>?_⟩;cases e2;exact⟨o,e,ex.2.1⟩
 | _=>exact False.elim ty
def V3(K:Zf)(T:String)(r:V->List V->Hp->VK->Prop)(to:TE):TE:=λY H Q=>to Y H λx H1=>tyV K T x H1/\r x [] H1 Q
def tBM(K:Zf)(T:String)(r:V->List V->Hp->VK->Prop)(to:TE)(t:TA):TE:=λY H Q=>to Y H λx H1=>tyV K T x H1/\t Y H1 λxs H2=>r x xs H2 Q
variable{o e:Expr}{es:List Expr}{to:TE}{t:TA}{name:Str}{apos cpos:Pos}{T id:String}{r:V->List V->Hp->VK->Prop}
theorem Ot(pa:PlainAttrs T)(slot:Slot T name id)(hty:typeOf (.builtin id)=pure (.type "method_descriptor"))(hm:MtR X id r)(ho:PE X o to)
  (hbase:attributeBase o name X.env (eval o X.env)=eval o X.env:=by rfl) (hline:(apos.endLine==cpos.line)=true:=by rfl):PE X (.Call (.Attribute o name apos) [] [] cpos) (V3 X.K T r to):=by
 intro z0 s Y H Q I h;refine wpAny_Call_method0_late hbase hline (thn (ho z0 s Y H _ I h) λv s1 ⟨x,H1,I1,r1,ty,q1⟩=>?_);obtain⟨h1,h2⟩:=Gh I1 r1 ty;exact⟨T,id,pa,slot,hty,h1,h2,N0z rfl (PySem.evalArgs_none (hm z0 s1 Y H1 x [] v [] Q I1 r1 .nil q1))⟩
theorem wF(pa:PlainAttrs T)(slot:Slot T name id)(hty:typeOf (.builtin id)=pure (.type "method_descriptor"))(hm:MtR X id r)(ho:PE X o to)(ha:PA X (e::es) t)
  (hbase:attributeBase o name X.env (eval o X.env)=eval o X.env:=by rfl)
  (hfew:((backTo cpos (starEach (e :: es) X.env)).all (λx => !x.1) && (backToKw cpos (keywordEach [] X.env)).all (λx=>x.1.isSome)
   && decide ((e::es).length+([]:List Keyword).length+(if([]:List Keyword).isEmpty then 0 else 1)<30))=true:=by rfl)
  (hline:(apos.endLine==cpos.line)=true:=by rfl) (hs:starEach (e::es) X.env=(false,eval e X.env)::starEach es X.env:=by rfl) (hplain:(backTo cpos (starEach es X.env)).any (·.1)=false:=by rfl) :
  PE X (.Call (.Attribute o name apos) (e::es) [] cpos) (tBM X.K T r to t):=by
 intro z0 s Y H Q I h;refine wpAny_Call_method_late hbase hfew hline rfl (thn (ho z0 s Y H _ I h) λv s1 ⟨x,H1,I1,r1,ty,q1⟩=>?_);obtain⟨h1,h2⟩:=Gh I1 r1 ty;refine⟨T,id,pa,slot,hty,h1,h2,?_⟩;have hA:=ha cpos z0 s1 Y H1 _ I1 q1;rw[hs] at hA ⊢;refine N0z (by show(false||(backTo cpos (starEach es X.env)).any (·.1))=false;rw[hplain]<;>rfl) (X0z ?_);exact thn hA λus s2 ⟨vs,H2,I2,r2,q2⟩=>hm z0 s2 Y H2 x vs v us Q I2 r1 r2 q2
end
def MtM(X:Cx)(id:String)(r:V->List V->Hp->VK->Prop):Prop :=
  ∀(z0:List (Addr×Obj))(s:Shared)(Y:St)(H:Hp)(x:V)(xs:List V)(v:Value)(us:List Value)(Q:VK), Inv X z0 Y H s->RelV x v->Vals xs us->r x xs H Q ->
    wpAny (model X.prog X.w) X.A (call (.builtin id) (v::us)) (EP X z0 Y Q) X.xe s
theorem Vals.one:∀{x:V}{us:List Value},Vals [x] us->∃u,us=[u]/\RelV x u
 | _,_,.cons r .nil=>⟨_,rfl,r⟩
theorem Vals.zero:∀{us:List Value},Vals [] us->us=[]
 | _,.nil=>rfl
theorem Vals.dropLast{xs:List V}{us:List Value}(h:Vals xs us):Vals xs.dropLast us.dropLast:=by
 induction h with
 | nil=>exact .nil
 | cons r t ih =>
  cases t with
  | nil=>exact .nil
  | cons q t'=>exact .cons r ih
theorem Vals.reverse{xs:List V}{us:List Value}(h:Vals xs us):Vals xs.reverse us.reverse:=by
 induction h with
 | nil=>exact .nil
 | cons r t ih=>rw[E2z,E2z];exact Vals.append ih (.cons r .nil)
theorem wO{α:Type}(l:List α):l.eraseIdx (l.length-1)=l.dropLast:=by
 induction l with
 | nil=>rfl
 | cons a r ih =>
  cases r with
  | nil=>rfl
  | cons b r =>
   have e:(a::b::r).length-1=((b::r).length-1)+1:=by
    have h1:(a::b::r).length=r.length+2:=rfl;have h2:(b::r).length=r.length+1:=rfl;omega
   rw[e,List.eraseIdx_cons_succ,ih]
   all_goals rfl
section
variable{X:Cx}{z0:List (Addr×Obj)}{Y:St}{H:Hp}{s:Shared}{l b:Addr}{xs ys zs:List V}
theorem Inv.lset{its its':List Value}{n:Nat}{f:Array Value->Array Value}{t':Nat}(I:Inv X z0 Y H s)(hH:H l=some (.lst xs))
  (e:s.heap.get? l=some {cls:=.type "list",data:=.seq its.toArray n}) (hf:f its.toArray=its'.toArray) (hv:Vals ys its') (hz:ys.length<=sizeLine) :
  Inv X z0 Y (upd H l (.lst ys)) {s with heap:=s.heap.update l (Obj.mapSeq f),toks:=t'}:=by
 have q:=PySem.IsL.update e f;rw[hf] at q;refine I.write (x:=l) (e:=l) (by rw[hH];exact trivial) (.inl rfl) (λb' u hb hu=>(Heap.get?_update_other s.heap (Obj.mapSeq f) (N5z hb)).trans hu) ⟨_,q⟩ ?_;exact⟨hz,its',_,hv,q⟩
theorem Inv.lnew{its:List Value}{t':Nat}(I:Inv X z0 Y H s)(hv:Vals ys its)(hz:ys.length<=sizeLine) :
  Inv X z0 Y (upd H s.heap.objs.size (.lst ys)) {s with heap:=s.heap.push {cls:=.type "list",data:=.seq its.toArray},toks:=t'} :=
 I.laid (λ_ _ q=>Heap.get?_push_of_some _ q) (X4z _) ⟨hz,its,0,hv,Heap.get?_push_size _ rfl⟩
theorem Inv.fresh(I:Inv X z0 Y H s):H s.heap.objs.size=none:=I.hok.fresh (X4z _)
theorem Inv.lstM(I:Inv X z0 Y H s)(hH:H l=some (.lst xs)):xs.length<=sizeLine/\∃(its:List Value)(n:Nat),Vals xs its/\xs.length=its.length/\s.heap.get? l=some {cls:=.type "list",data:=.seq its.toArray n}:=by
 obtain⟨z,its,n,r,e⟩:=I.hok l _ hH;exact⟨z,its,n,r,r.length,e⟩
theorem DQ{n:Nat}(h:n<=sizeLine):Builtin.List.listTooLong n=false:=by
 unfold Builtin.List.listTooLong;exact F3z (by omega)
end
section
variable{X:Cx}
def Jr:V->List V->Hp->VK->Prop:=λx vs H Q=>∃l xs y,x=.ref l/\vs=[y]/\H l=some (.lst xs)/\xs.length<sizeLine/\Q .non (upd H l (.lst (xs++[y])))
theorem jc:MtM X "list.append" Jr:=by
 intro z0 s Y H x vs v us Q I rx rv h;obtain⟨l,xs,y,rfl,rfl,hH,hz,q⟩:=h;cases rx;obtain⟨u,rfl,ru⟩:=rv.one;obtain⟨z,its,n,r,hl,e⟩:=I.lstM hH;refine H5z F.slot_list_append ⟨_,e,rfl⟩ F.entry_list_append (F.args_list_append_2 _ _) (PySem.list_append l its.toArray n u (by rw[D2z];omega)) ⟨e,?_⟩;refine⟨.non,_,I.lset (its':=its++[u]) hH e (by simp) (r.append (.cons ru .nil)) ?_,rfl,q⟩;rw[Q1z,List.length_singleton];omega
def Wb:V->List V->Hp->VK->Prop:=λx vs H Q=>∃l xs y,x=.ref l/\vs=[]/\H l=some (.lst xs)/\xs[xs.length-1]?=some y/\Q y (upd H l (.lst xs.dropLast))
theorem Py:MtM X "list.pop" Wb:=by
 intro z0 s Y H x vs v us Q I rx rv h;obtain⟨l,xs,y,rfl,rfl,hH,hy,q⟩:=h;cases rx;have hus:=rv.zero;subst hus;obtain⟨z,its,n,r,hl,e⟩:=I.lstM hH;obtain⟨u,hu,ru⟩:=r.get hy
 have hy':its.toArray[its.toArray.size-1]?=some u:=by
  show its.toArray[its.length-1]?=some u;rw[<- Array.getElem?_toList,<- hl];exact hu
 refine H5z F.slot_list_pop ⟨_,e,rfl⟩ F.entry_list_pop (F.args_list_pop_1 _) (MeetsSeq.list_pop_last l its.toArray n u hy' (by rw[D2z];omega)) ⟨e,?_⟩
 refine⟨y,_,I.lset (its':=its.dropLast) hH e ?_ r.dropLast ?_,ru,q⟩
 .show its.toArray.eraseIdxIfInBounds (its.toArray.size-1)=its.dropLast.toArray
  rw[D2z,List.eraseIdxIfInBounds_toArray,wO]
 .rw[List.length_dropLast]
  omega
end
section
variable{prog:Program}{w:World}{A:Around}{E:Value->Shared->Prop}{s:Shared}
set_option maxRecDepth 100000 in
end
section
variable{X:Cx}
end
end L2
namespace Att
open PySem PySem.W PySem.Calls PyProof.Rows
theorem lV{P:Params}{h:Heap}:∀(ns:List Int)(vs:List Value),WellAll P h vs (ns.map WData.int)->IntsAre vs ns:=by
 intro ns
 induction ns with
 | nil =>
  intro vs w;rw[T4z] at w;cases w;exact .nil
 | cons n ns ih =>
  intro vs w;rw[E4z] at w
  cases w with
  | cons a b =>
   cases a;exact .cons _ _ (ih _ b)
theorem yF{l:OpenLaw}{n:Nat}(hn:l.most=some n){P:Params}{h:Heap}{args:List WData}{vals:List Value}
  (hpre:l.row.toRowW.claim.pre args=true) (hwl:WellAll P h vals args) :
  ∃a vs ns,vals=[Value.ref a]/\args=[WData.list (ns.map WData.int)]/\h.get? a=some {cls:=.type "list",data:=.seq vs.toArray}/\IntsAre vs ns/\ns.length<=n:=by
 have hsh:WShape.hasAll [] args [.list .int]=true:=(pre_splitW hpre).1;have hc:l.pre.holds [] {args:=args}=true:=(pre_splitW hpre).2;obtain⟨d,r,rfl,h1,h2⟩:=hasAllW_cons hsh;obtain rfl:=hasAllW_nil h2;obtain⟨xs,rfl,h3⟩:=hasW_list h1;obtain⟨ns,rfl⟩:=items_int h3
 have hlen:ns.length<=n:=by
  unfold OpenLaw.pre at hc
  have h4:(WTm.not (.lt (.lit (.int n)) (.len (.arg 0)))).holds [] {args:=[.list (ns.map .int)]}=true:=by
   have h4:=(holds_andW hc).1;rw[hn] at h4;exact h4
  have h5:=condW_of h4 (w_not (w_lt w_lit (w_len_list (w_arg rfl))));rw[I3z] at h5;refine Nat.le_of_not_lt λq=>?_
  have q':(n:Int)<((ns.length:Nat):Int):=by omega
  first
   | (rw[Y3z q'] at h5;exact absurd h5 (by decide))
   | (simp at h5;omega)
 cases hwl with
 | cons w1 w2 =>
  cases w2
  cases w1 with
  | list ho hall=>exact⟨_,_,ns,rfl,rfl,ho,lV ns _ hall,hlen⟩
theorem yU(l:OpenLaw)(args:List WData):l.row.toRowW.claim.post args (.bool true) args=true :=
 postW_of (r:=l.row.toRowW) (X:=(true==true))
  (show WShape.has [] (.bool true) .bool=true by first | rfl | decide | simp[WShape.has,WShape.arms,WShape.armsAll])
  (show(WTm.eq .res (.lit (.bool true))).value [] {args:=args,res:=some (.bool true),after:=args}=some (.bool (true==true)) from w_eq_bool (w_res rfl) w_lit) rfl
theorem ur{l:OpenLaw}{n:Nat}{q:Program}{loose:List Str}{XP:(Str->Option Value)->Heap->Prop}{YP:World->Heap->Prop}{d:DefRec}
  (hn:l.most=some n) (hdf:d.params.defaults=[])
  (call:∀(w:World)(s₀ s₁:Shared)(mg mb:Str->Option Value)(fa:Addr)(o:Obj)(pm cd doc:Value)(a:Addr)(vs:List Value)(ns:List Int),
   Ground q loose [] XP w s₀ mg mb s₁.heap->YP w s₁.heap ->
   s₁.heap.get? fa=some o->o.data=.func (docDef d.name d.params d.body d.scope pm cd doc)->s₁.heap.CodeRec cd d.name->mg d.name=some (.ref fa) ->
   s₁.heap.get? a=some {cls:=.type "list",data:=.seq vs.toArray}->IntsAre vs ns->ns.length<=n->s₁.gens = #[] ->
   codeAny (model l.prog w) callerA (.call (.ref fa) ⟨[.ref a],[]⟩) (λr s'=>r=.ok (.ret (.bool true))/\OldK s₁.heap s'.heap/\s'.os=s₁.os/\AllBare s'.gens) s₁) :
  WalkO q loose XP YP l.row.toRowW d [] (λf vs=>PySem.call f vs):=by
 intro w s₀ s₁ mg mb G Y fa o pm cd doc dV kV ho hd hcd hD hmg hg args vals as hpre hlay hrd hwl hlo;obtain rfl:dV=.none:=Dflts.none hD hdf;obtain rfl:kV=.none:=Dflts.noKw hD;obtain⟨a,vs,ns,rfl,rfl,hobj,hints,hlen⟩:=yF hn hpre hwl;refine enter_call (S4z (call w s₀ s₁ mg mb fa o pm cd doc a vs ns G Y ho (fd_plain hd) hcd hmg hobj hints hlen hg) λr s' hq=>?_);obtain⟨rfl,h2,h3,h4⟩:=hq;exact⟨.inl ⟨.bool true,.bool true,[],rfl,λ_=>rfl,.bool true,yU l _,λ_=>⟨List.Pairwise.nil,λ_ hm=>(nomatch hm)⟩⟩,h2,h3,h4⟩
section
variable{prog:Program}{w:World}{A:Around}{E:Value->Shared->Prop}{s:Shared}{K:Frag}
def ledger(h:Heap)(L d:Addr):List (Addr×Obj):=(List.range h.objs.size).filterMap λa=>if a=L\/a=d then none else(h.get? a).map λo=>(a,o)
end
end Att
namespace L2
open PySem PySem.Spec PyProof.Rows
theorem pN:∀{vs:List Value}{ns:List Int},IntsAre vs ns->Vals (ns.map V.int) vs
 | _,_,.nil=>.nil
 | _,_,.cons n t h=>.cons ⟨t,rfl⟩ (pN h)
def Only(H:Hp):Prop:=∀b,H b=none\/∃o xs,H b=some (.frz o (.lst xs))
def inClass(s:Stmt)(j:Nat):Stmt:=match s with
 | .ClassDef _ _ _ body _ _ _ _ _ _ _=>body.getD j (.Pass ⟨0,0,0,0⟩)
 | _=>.Pass ⟨0,0,0,0⟩
def bQ(s:Stmt):Arguments:=match s with
 | .FunctionDef _ a _ _ _ _ _ _ _ _=>a
 | _=>{posonlyargs:=[],args:=[],vararg:=none,kwonlyargs:=[],kw_defaults:=[],kwarg:=none,defaults:=[]}
def aM(s:Stmt):List Stmt:=match s with
 | .FunctionDef _ _ b _ _ _ _ _ _ _=>b
 | _=>[]
def ao(s:Stmt):Scope:=match s with
 | .FunctionDef _ _ _ _ _ _ sc _ _ _=>sc
 | _=>{kind:=.function,names:=[],isGenerator:=false,isCoroutine:=false}
abbrev CX0:CXT:=λ_ _ _ _ _ _=>False
abbrev E0:XK:=λ_ _ _=>False
structure Fun(K:Zf)(x qual:Str)(st:Stmt)(f:Addr)(fd:FuncData):Prop where
 ex:∃(oc:Value)(od:Option Addr)(kV doc pm:Value)(an:Option Addr)(cdv ct:Value)(osl:Array (Option Value)),
  fd=W.fnOf x qual (bQ st) (aM st) (ao st) .none kV doc pm an cdv ct/\K.lookup f=some ⟨oc,od,.func fd,osl⟩/\W.codeIn K cdv qual=true
 kp:W.keepIn K (.ref f)=true
section
variable{P:Program}{w:World}{K:Zf}{mg:Str->Option Value}{base:Heap}
theorem Fun.binds{x qual:Str}{st:Stmt}{f:Addr}{fd:FuncData}{ps:List Str}(F:Fun K x qual st f fd)
  (h:∀(kV doc pm:Value)(an:Option Addr)(cdv ct:Value)(us:List Value),us.length=ps.length->bindArgs (W.fnOf x qual (bQ st) (aM st) (ao st) .none kV doc pm an cdv ct) ⟨us,[]⟩=pure (ps.zip us)):Binds K fd ps []:=by
 obtain⟨oc,od,kV,doc,pm,an,cdv,ct,osl,rfl,lk,hcd⟩:=F.ex;exact .all (h kV doc pm an cdv ct)
theorem fun_mk{x qual:Str}{st:Stmt}{f:Addr}{oc:Value}{od an:Option Addr}{osl:Array (Option Value)}{kV doc pm cdv ct:Value}(l:K.lookup f=some ⟨oc,od,.func (W.fnOf x qual (bQ st) (aM st) (ao st) .none kV doc pm an cdv ct),osl⟩)
  (c:W.codeIn K cdv qual=true) (k:W.keepIn K (.ref f)=true):Fun K x qual st f (W.fnOf x qual (bQ st) (aM st) (ao st) .none kV doc pm an cdv ct):=⟨⟨oc,od,kV,doc,pm,an,cdv,ct,osl,rfl,l,c⟩,k⟩
end
theorem Es{A:Around}{k:Nat}(hr:Room k A):A.units+1<cLine:=R1z (Nat.add_le_add_left (by decide:1<=64) _) hr.units
section
variable{X:Cx}
theorem pv(i:Nat){x:Str}{pos:Pos}(hN:X.N[i]?=some x:=by rfl)(hv:Vis X.env.scope x:=by first | exact Or.inl rfl | exact Or.inr (Or.inl rfl) | exact Or.inr (Or.inr rfl))(hd:(x==("__debug__":Str))=false:=by decide)
  (hcd:(x==("__classdict__":Str))=false:=by decide):PE X (.Name x pos) (RM i):=mU hN hv hd hcd
end
theorem mH{A B:Prop}(h:B):if false=true then A else B:=by
 rw[Q5z M1z];exact h
theorem oJ{A B:Prop}(h:A):if true=true then A else B:=by
 rw[P5z rfl];exact h
def Same(H H':Hp):Prop:=∀b o,H b=some o->H' b=some o
theorem Same.refl(H:Hp):Same H H:=λ_ _ h=>h
theorem Same.trans{H H1 H2:Hp}(a:Same H H1)(b:Same H1 H2):Same H H2:=λc o h=>b c o (a c o h)
theorem Same.free{H H':Hp}(e:Same H H'){l:Addr}(h:H' l=Option.none):H l=Option.none:=by
 cases q:H l with
 | none=>rfl
 | some o =>
  rw[e l o q] at h;cases h
theorem Same.seq{K:Zf}{H H':Hp}{a:Addr}{xs:List V}(e:Same H H')(h:SqL K H a xs):SqL K H' a xs:=by
 rcases h with(h | ⟨o,h⟩) | h
 .exact .inl (.inl (e _ _ h))
 .exact .inl (.inr ⟨o,e _ _ h⟩)
 .exact .inr h
def jq(cells:List (Str×Addr)):List (Str×NameKind)->List (Str×Addr)->List (Str×Addr)
 | [],acc=>acc
 | (x,k)::r,acc=>if k==.free then jq cells r ((x,(cells.lookup x).getD 0)::acc) else jq cells r acc
theorem oO{env:Env}(f:Str×NameKind->List (Str×Addr)->Sem (ForInStep (List (Str×Addr))))
  (hf:∀name kind cs,f (name,kind) cs=if kind==.free then(do let a <- cellOf env name;pure (.yield ((name,a)::cs))) else pure (.yield cs)) :
  ∀(l:List (Str×NameKind))(acc:List (Str×Addr)),(∀x,(x,NameKind.free)∈l->∃c,env.cells.lookup x=some c)->(forIn l acc f:Sem (List (Str×Addr)))=pure (jq env.cells l acc)
 | [],acc,_=>by rw[List.forIn_nil];rfl
 | (x,k)::r,acc,h=>by
  rw[List.forIn_cons,hf];unfold jq
  cases hk:k==NameKind.free with
  | false =>
   simp only[S1z,M5z];show(forIn r acc f:Sem _)=_;exact oO f hf r acc λy hy=>h y (U0z _ hy)
  | true =>
   simp only[O5z]
   have ek:k=.free:=by simpa using hk
   obtain⟨c,hc⟩:=h x (by rw[ek];exact K1z)
   have e1:cellOf env x=pure c:=by unfold cellOf;rw[hc]
   rw[e1,hc];show(forIn r ((x,c)::acc) f:Sem _)=_;exact oO f hf r _ λy hy=>h y (U0z _ hy)
theorem gq{env:Env}{scope:Scope}(h:∀x,(x,NameKind.free)∈scope.names->∃c,env.cells.lookup x=some c):closureFor scope env=pure (jq env.cells scope.names []):=by
 simp only[closureFor];rw[oO (env:=env) _ (λname kind cs=>by cases hk:kind==NameKind.free<;>simp[hk]) scope.names [] h];rfl
theorem sO{M:Model}{A:Around}{E:Value->Shared->Prop}{s:Shared}{scope:Scope}{globals:Addr}{closure:List (Str×Addr)}{qual:Str}{outer:Env}{Q:Env->Shared->Prop}
  (hQ:Q (newEnv scope s.heap.objs.size globals (cellsFrom (s.heap.objs.size+1) scope.names closure) qual none .none (some outer) builtinsNs) {s with heap:=pushCells (s.heap.push {cls:=.type "dict",data:=.dict #[]}) scope.names}) :
  wpAny M A (newFunctionEnv scope globals closure [] qual none .none (some outer)) Q E s:=by
 simp only[newFunctionEnv,Option.isSome_some,O5z];refine E5z (wpAny_alloc ?_);refine E5z (wpAny_layCells _ (λname kind cells=>by cases hkc:kind==NameKind.cell<;>simp[hkc]) _ _ _ _ ?_);rw[show({s with heap:=s.heap.push {cls:=.type "dict",data:=.dict #[]} }:Shared).heap.objs.size=s.heap.objs.size+1 from X3z ..];rw[List.forIn_nil];exact E5z (F5z (F5z hQ))
theorem je{α:Type}:∀{l:List (Str×α)}{x:Str}{c:α},(x,c)∈l->∃d,l.lookup x=some d
 | (y,d)::r,x,c,h=>by
  rw[S2z]
  cases hb:x==y with
  | true=>exact⟨d,rfl⟩
  | false =>
   rcases L4z.mp h with e | h
   .cases e;simp at hb
   .exact je h
theorem cG{α:Type}:∀{l:List (Str×α)}{x:Str}{c:α},(l.map (·.1)).Nodup->(x,c)∈l->l.lookup x=some c
 | (y,d)::r,x,c,hn,h=>by
  rw[E4z,L3z] at hn;rw[S2z];rcases L4z.mp h with e | h'
  .cases e;simp
  .have hne:(x==y)=false:=by
    rw[E1z];intro exy;exact hn.1 (List.mem_map.mpr ⟨(x,c),h',exy⟩)
   rw[hne];exact cG hn.2 h'
theorem dD{x:Str}{c:Addr}:∀(names:List (Str×NameKind))(n:Nat)(acc:List (Str×Addr)),(cellsFrom n names acc).lookup x=some c ->
  ((x,NameKind.cell)∈names/\n<=c)\/((x,NameKind.cell)∉names/\acc.lookup x=some c)
 | [],_,_,h=>.inr ⟨by simp,h⟩
 | (y,k)::r,n,acc,h=>by
  unfold cellsFrom at h
  cases hk:k==NameKind.cell with
  | true =>
   have ek:k=.cell:=by simpa using hk
   subst ek;rw[P5z (show(NameKind.cell==NameKind.cell)=true from rfl)] at h;rcases dD r _ _ h with⟨h1,h2⟩ | ⟨h1,h2⟩
   .exact .inl ⟨U0z _ h1,by omega⟩
   .rw[S2z] at h2
    cases hb:x==y with
    | true =>
     rw[hb] at h2;cases h2
     have:x=y:=by simpa using hb
     subst this;exact .inl ⟨K1z,X4z _⟩
    | false =>
     rw[hb] at h2;refine .inr ⟨λhm=>?_,h2⟩;rcases L4z.mp hm with e | hm
     .cases e;simp at hb
     .exact h1 hm
  | false =>
   rw[hk] at h;simp only[S1z,M5z] at h;rcases dD r _ _ h with⟨h1,h2⟩ | ⟨h1,h2⟩
   .exact .inl ⟨U0z _ h1,h2⟩
   .refine .inr ⟨λhm=>?_,h2⟩
    rcases L4z.mp hm with e | hm
    .cases e;simp at hk
    .exact h1 hm
theorem dX:∀(names:List (Str×NameKind))(n:Nat)(acc:List (Str×Addr)),(acc.Pairwise λx y=>x.2≠y.2)->(∀p∈acc,p.2<n)->(cellsFrom n names acc).Pairwise λx y=>x.2≠y.2
 | [],_,_,h,_=>h
 | (y,k)::r,n,acc,h,hl=>by
  unfold cellsFrom;split
  .refine dX r _ _ (List.pairwise_cons.mpr ⟨λp hp e=>?_,h⟩) λp hp=>?_
   .have e':n=p.2:=e
    have q:=hl p hp;rw[<- e'] at q;exact C4z _ q
   .rcases L4z.mp hp with e | hp
    .subst e;exact Q2z _
    .exact F2z (hl p hp)
  .exact dX r _ _ h hl
theorem pq{cells:List (Str×Addr)}(inj:∀x y c,cells.lookup x=some c->cells.lookup y=some c->x=y):∀(names:List (Str×NameKind))(acc:List (Str×Addr)),(names.map (·.1)).Nodup->(∀x,(x,NameKind.free)∈names->∃c,cells.lookup x=some c) ->
  (acc.Pairwise λx y=>x.2≠y.2)->(∀p∈acc,cells.lookup p.1=some p.2/\p.1∉names.map (·.1))->((jq cells names acc).Pairwise λx y=>x.2≠y.2)/\∀p∈jq cells names acc,cells.lookup p.1=some p.2
 | [],acc,_,_,h1,h2=>⟨h1,λp hp=>(h2 p hp).1⟩
 | (y,k)::r,acc,hn,hf,h1,h2=>by
  rw[E4z,L3z] at hn;have hf':∀x,(x,NameKind.free)∈r->∃c,cells.lookup x=some c:=λx hx=>hf x (U0z _ hx);unfold jq;split
  .rename_i hk
   have ek:k=.free:=by simpa using hk
   subst ek;obtain⟨c,hc⟩:=hf y K1z;rw[hc];refine pq inj r _ hn.2 hf' (List.pairwise_cons.mpr ⟨λp hp e=>?_,h1⟩) λp hp=>?_
   .have e':c=p.2:=e
    obtain⟨a1,a2⟩:=h2 p hp;rw[<- e'] at a1;have:=inj _ _ _ a1 hc;exact a2 (by rw[this];simp)
   .rcases L4z.mp hp with e | hp
    .subst e;exact⟨hc,hn.1⟩
    .exact⟨(h2 p hp).1,λz=>(h2 p hp).2 (U0z _ z)⟩
  .exact pq inj r _ hn.2 hf' h1 λp hp=>⟨(h2 p hp).1,λz=>(h2 p hp).2 (U0z _ z)⟩
theorem pA{cells:List (Str×Addr)}{p:Str×Addr}:∀(names:List (Str×NameKind))(acc:List (Str×Addr)),p∈acc->p∈jq cells names acc
 | [],_,h=>h
 | (y,k)::r,acc,h=>by
  unfold jq;split
  .exact pA r _ (U0z _ h)
  .exact pA r _ h
theorem kh{cells:List (Str×Addr)}{x:Str}:∀(names:List (Str×NameKind))(acc:List (Str×Addr)),(x,NameKind.free)∈names->∃c,(x,c)∈jq cells names acc
 | (y,k)::r,acc,h=>by
  unfold jq;rcases L4z.mp h with e | h
  .cases e
   rw[P5z (show(NameKind.free==NameKind.free)=true from rfl)];exact⟨_,pA r _ K1z⟩
  .split
   .exact kh r _ h
   .exact kh r _ h
theorem eG{env:Env}{x:Str}:∀(names:List (Str×NameKind)),
  (names.map λ(n, k)=>if (k==NameKind.free && env.scope.kind==.function && env.kindOf n==some .cell) then (n, NameKind.cell) else (n, k)).lookup x =
   (names.lookup x).map λk=>if(k==NameKind.free&&env.scope.kind==.function&&env.kindOf x==some .cell) then NameKind.cell else k
 | []=>rfl
 | (y,k)::r=>by
  have ih:=eG (x:=x) (env:=env) r
  by_cases hx:x=y
  .subst hx
   cases hc:(k==NameKind.free&&env.scope.kind==.function&&env.kindOf x==some .cell)<;>simp only[E4z,hc,S2z,T2z,M3z,O5z,M5z,S1z]
  .have hb:(x==y)=false:=by simpa using hx
   cases hc:(k==NameKind.free&&env.scope.kind==.function&&env.kindOf y==some .cell)<;>simp only[E4z,hc,S2z,hb,O5z,M5z,S1z]<;>exact ih
def uJ(N:List Str)(Y:St)(x:Str):Option V:=match N.idxOf? x with
 | some j=>(Y[j]?).getD none
 | none=>none
def zK(N:List Str)(names:List (Str×NameKind))(Y:St):St:=names.map λp=>if p.2==.free then uJ N Y p.1 else none
def vB(scope:Scope)(cells:List (Str×Addr))(C:Addr)(env:Env):Env :=
 {scope:=relabel scope env,locals:=C,globals:=env.globals,cells:=cells,qual:=env.qual,func:=none,code:=env.code,frame:=env.frame,builtins:=env.builtins}
structure CompOf(X:Cx)(scope:Scope)(Xc:Cx):Prop where
 prog:Xc.prog=X.prog
 w:Xc.w=X.w
 K:Xc.K=X.K
 mg:Xc.mg=X.mg
 base:Xc.base=X.base
 A:Xc.A=X.A
 N:Xc.N=scope.names.map (·.1)
 sc:Xc.env.scope=relabel scope X.env
 calm:Xc.calm=true
 fn:Xc.fn=λx=>scope.names.lookup x==some .cell
 xe:Xc.xe=λ_ _=>False
def qP(X:Cx)(scope:Scope)(cells:List (Str×Addr))(C:Addr)(s:Shared)(H:Hp)(fp:List Addr):Cx where
 prog:=X.prog
 w:=X.w
 K:=X.K
 mg:=X.mg
 base:=X.base
 A:=X.A
 N:=scope.names.map (·.1)
 s₀:=s
 H₀:=H
 env:=vB scope cells C X.env
 outer:=X.stack
 stack:=X.stack
 ex:=fp
 fn:=λx=>scope.names.lookup x==some .cell
 calm:=true
 pn:=[]
 xe:=λ_ _=>False
def Gd(X:Cx)(ifs:List Expr)(t:TT):Prop :=
  ∀(z0:List (Addr×Obj))(s:Shared)(Y:St)(H:Hp)(Q:Bool->Hp->Prop), Inv X z0 Y H s->t Y H Q ->
    wpAny (model X.prog X.w) X.A (forIn ifs true λc r=>if r=true then do let ok <- isTrue c X.env (eval c X.env);pure (ForInStep.yield ok) else pure (ForInStep.yield r)) (TP X z0 Y Q) X.xe s
theorem Dl{X:Cx}:Gd X [] (λ_ H Q=>Q true H):=λ_ _ _ H _ I h=>wpAny_tests_nil ⟨H,I,h⟩
theorem Dk{X:Cx}{c:Expr}{t:TT}(h:PT X c t):Gd X [c] t:=λz0 s Y H Q I hw=>wpAny_tests_one (h z0 s Y H Q I hw)
def CT(X:Cx)(scope:Scope)(wi:TI)(mk:St->St)(g:Cx->TG)(tc:Cx->TT)(te:Cx->TE):TE:=λY H Q=>wi Y H λJ H1=>∀acc,H1 acc=none->∀Xc,CompOf X scope Xc ->
  ∃W:Nat->Nat->St->Hp->Prop, (∃m, W 0 m (mk Y) (upd H1 acc (.lst [])))/\∀i m Yc H, W i m Yc H ->
    (J.stop i H/\Q (.ref acc) H)\/(J.go i H/\∃N:St->Hp->Prop,(∀Y' H',N Y' H'->∃m',m'<m/\W (i+1) m' Y' H')/\∀x H',J.yld i H x H' ->
      g Xc x Yc H' λY2 H2=>tc Xc Y2 H2 λb H3=>if b=true then te Xc Y2 H3 λv H4=>∃ys,H4 acc=some (.lst ys)/\ys.length<sizeLine/\N Y2 (upd H4 acc (.lst (ys++[v]))) else N Y2 H3)
theorem gW{prog:Program}{w:World}{A:Around}{R:Result->Shared->Prop}{s:Shared}{elt target iter:Expr}{ifs:List Expr}{scope:Scope}{pos:Pos}{it acc:Value}{env:Env}(I:Nat->Shared->Prop)
  (turn:∀n s,I n s->wpAny (model prog w) A (pyNext it) (λr s₁=>match r with
   | none=>R (.ok .next) s₁
   | some v=>wpAny (model prog w) A (letOwnedTupleGo target it v) (λ_ s₁'=>wpAny (model prog w) A (assign target env v) (λ_ s₂ =>
     wpAny (model prog w) A (forIn ifs true λc r=>if r=true then do let ok <- isTrue c env (eval c env);pure (ForInStep.yield ok) else pure (ForInStep.yield r)) (λok s₃ =>
      if ok=true then wpAny (model prog w) A (eval elt env) (λx s₄ =>
       wpAny (model prog w) A (call (.builtin "list.append") [acc,x]) (λ_ s₅=>∃m,m<n/\I m s₅) (λ_ _=>False) s₄) (λ_ _=>False) s₃
      else ∃m,m<n/\I m s₃) (λ_ _=>False) s₂) (λ_ _=>False) s₁') (λ_ _=>False) s₁) (λ_ _=>False) s)
  (n:Nat) (h:I n s) :
  codeAny (model prog w) A (.compLoop (.ListComp elt [⟨target,iter,ifs,0⟩] scope pos) 0 it acc env) R s:=by
 refine codeAny_loop rfl I (λn s hI=>?_) n h;show wpAny _ A ((compTurn (.ListComp elt [⟨target,iter,ifs,0⟩] scope pos) 0 it acc env).onRaise (λx=>do noteFrame x env;theTreesLotGoes x)) _ _ s;refine wpAny_noted ?_;rw[compTurn_list];refine E5z (D4z (E5z (D5z (turn n s hI) (λr s₁ h₁=>?_) λ_ _ h'=>h'.elim)))
 cases r with
 | none=>exact F5z h₁
 | some v =>
  refine E5z (D5z h₁ (λ_ s₁' h₁'=>?_) λ_ _ h'=>h'.elim);refine E5z (D5z h₁' (λ_ s₂ h₂=>E5z (D5z h₂ (λok s₃ h₃=>?_) λ_ _ h'=>h'.elim)) λ_ _ h'=>h'.elim)
  cases ok with
  | false=>exact F5z ⟨rfl,h₃⟩
  | true =>
   exact E5z (E5z (D5z h₃ (λx s₄ h₄=>E5z (D5z h₄ (λ_ s₅ h₅=>F5z (F5z ⟨rfl,h₅⟩)) λ_ _ h'=>h'.elim)) λ_ _ h'=>h'.elim))
section
variable{X:Cx}
theorem ni{z0:List (Addr×Obj)}{Y:St}{H:Hp}{s:Shared}{scope:Scope}(I:Inv X z0 Y H s)(hnd:(scope.names.map (·.1)).Nodup)
  (hcap:∀x,(x,NameKind.free)∈scope.names->X.env.kindOf x=some .cell\/X.env.kindOf x=some .free) :
  (∀x,(x,NameKind.free)∈scope.names->∃c,X.env.cells.lookup x=some c) /\
  ((cellsFrom (s.heap.objs.size+1) scope.names (jq X.env.cells scope.names [])).Pairwise λx y=>x.2≠y.2) /\
  (∀x c,(cellsFrom (s.heap.objs.size+1) scope.names (jq X.env.cells scope.names [])).lookup x=some c->((x,NameKind.cell)∈scope.names/\s.heap.objs.size+1<=c)\/((x,NameKind.cell)∉scope.names/\X.env.cells.lookup x=some c/\c<s.heap.objs.size)) /\
  (∀x,(x,NameKind.free)∈scope.names->(cellsFrom (s.heap.objs.size+1) scope.names (jq X.env.cells scope.names [])).lookup x=X.env.cells.lookup x):=by
 have hf:∀x,(x,NameKind.free)∈scope.names->∃c,X.env.cells.lookup x=some c:=λx hx=>I.ok.has x (hcap x hx);have ok:=pq I.ok.inj scope.names [] hnd hf List.Pairwise.nil (λp hp=>absurd hp (by simp))
 have small:∀x c,X.env.cells.lookup x=some c->c<s.heap.objs.size:=λx c e=>by
  obtain⟨v,z⟩:=I.cell x c e;exact z.lt
 refine⟨hf,dX _ _ _ ok.1 λp hp=>F2z (small p.1 p.2 (ok.2 p hp)),λx c e=>?_,λx hx=>?_⟩
 .rcases dD _ _ _ e with h | ⟨h1,h2⟩
  .exact .inl h
  .have h3:=ok.2 _ (D1z h2)
   exact .inr ⟨h1,h3,small _ _ h3⟩
 .obtain⟨c,hc⟩:=hf x hx
  have nc:(x,NameKind.cell)∉scope.names:=λz=>by
   have e1:=cG hnd z;rw[cG hnd hx] at e1;cases e1
  obtain⟨d,hd⟩:=kh (cells:=X.env.cells) scope.names [] hx;obtain⟨d',hd'⟩:=je hd;have hs:((cellsFrom (s.heap.objs.size+1) scope.names (jq X.env.cells scope.names [])).lookup x).isSome=true:=L0z _ _ _ (.inr (by rw[hd'];rfl));obtain⟨c',hc'⟩:=Option.isSome_iff_exists.mp hs;rcases dD _ _ _ hc' with⟨h,_⟩ | ⟨_,h2⟩
  .exact absurd h nc
  .rw[hc',ok.2 _ (D1z h2)]
theorem JL:∀(names:List (Str×NameKind))(h:Heap)(acc:List (Str×Addr)){x:Str}{c:Addr},(cellsFrom h.objs.size names acc).lookup x=some c->(x,NameKind.cell)∈names->(pushCells h names).IsCell c none:=by
 intro names
 induction names with
 | nil=>intro h acc x c e hx;cases hx
 | cons p r ih =>
  obtain⟨y,k⟩:=p;intro h acc x c e hx;unfold cellsFrom at e;unfold pushCells
  by_cases hin:(x,NameKind.cell)∈r
  .split at e
   .rename_i hk
    rw[P5z hk];refine ih (h.push {cls:=.type "cell",data:=.cell none}) ((y,h.objs.size)::acc) ?_ hin;rw[X3z];exact e
   .rename_i hk
    rw[Q5z hk];exact ih h acc e hin
  .rcases L4z.mp hx with ex | hx
   .cases ex
    rw[P5z (show(NameKind.cell==NameKind.cell)=true from rfl)] at e ⊢;rcases dD _ _ _ e with⟨h1,_⟩ | ⟨_,h2⟩
    .exact absurd h1 hin
    .rw[S2z] at h2
     simp at h2;subst h2;exact⟨_,N3z _ _ _ _ (Heap.get?_push_size _ rfl),rfl⟩
   .exact absurd hx hin
theorem FQ{z0:List (Addr×Obj)}{Y:St}{H:Hp}{s:Shared}{scope:Scope}{fp:List Addr}(I:Inv X z0 Y H s)(hc:X.calm=true)(hk:scope.kind=.function)(hnd:(scope.names.map (·.1)).Nodup)
  (hcap:∀x,(x,NameKind.free)∈scope.names->X.env.kindOf x=some .cell\/X.env.kindOf x=some .free) (hfp:∀b∈fp,vV X z0 H b) (hlt:∀b∈fp,b<s.heap.objs.size) :
  Inv (qP X scope (cellsFrom (s.heap.objs.size+1) scope.names (jq X.env.cells scope.names [])) s.heap.objs.size s H fp) [] (zK X.N scope.names Y) H {s with heap:=pushCells (s.heap.push {cls:=.type "dict",data:=.dict #[]}) scope.names}:=by
 obtain⟨hf,apart,look,same⟩:=ni I hnd hcap;have keep:∀b o,s.heap.get? b=some o->(pushCells (s.heap.push {cls:=.type "dict",data:=.dict #[]}) scope.names).get? b=some o:=λb o e=>N3z _ _ b o (Heap.get?_push_of_some _ e);have ckd:=cellsFrom_ok scope.names (s.heap.push {cls:=.type "dict",data:=.dict #[]}) (s.heap.objs.size+1) [] ⟨λ_ _ hm=>(nomatch hm),List.Pairwise.nil⟩ (by rw[X3z];exact X4z _);rw[X3z] at ckd;have own:∀x c,(cellsFrom (s.heap.objs.size+1) scope.names (jq X.env.cells scope.names [])).lookup x=some c->(x,NameKind.cell)∈scope.names->(pushCells (s.heap.push {cls:=.type "dict",data:=.dict #[]}) scope.names).IsCell c none:=λx c e hx=>JL scope.names (s.heap.push {cls:=.type "dict",data:=.dict #[]}) _ (by rw[X3z];exact e) hx;have kinds:∀x,(qP X scope (cellsFrom (s.heap.objs.size+1) scope.names (jq X.env.cells scope.names [])) s.heap.objs.size s H fp).env.kindOf x=(scope.names.lookup x).map λk=>if(k==NameKind.free&&X.env.scope.kind==.function&&X.env.kindOf x==some .cell) then NameKind.cell else k:=λx=>eG scope.names;have fresh:∀{b:Addr},s.heap.objs.size<=b->H b=none:=λhb=>I.hok.fresh hb
 refine⟨⟨I.ok.mod,hk,I.ok.glob,I.ok.blt,X4z _,λx y c e1 e2=>name_of_addr apart (D1z e1) (D1z e2),λx hx=>?_,λx c hx e=>?_,λ_=>I.ok.hd hc,I.ok.frames,.inl rfl,λb hb=>⟨O4z (hlt b hb),λx c e=>?_⟩,I.bs,P4z I.ok.bsz I.sz,λb o e hb=>?_,λb hb z=>?_,I.stack,I.stkFree⟩,
  rfl,I.bare,Un.kept keep,⟨λ_=>none,?_,λi x v e1 e2 e3=>?_⟩,λx c e=>?_,fresh (X4z _),λx c e=>?_,λp hp=>absurd (show p∈([]:List (Addr×Obj)) from hp) (by simp),I.hok.kept keep,?_⟩
 ·
  rw[kinds x] at hx
  cases hl:scope.names.lookup x with
  | none=>rw[hl] at hx;rcases hx with h | h<;>cases h
  | some k =>
   rw[hl] at hx;have hm:=D1z hl
   cases k with
   | cell=>exact Option.isSome_iff_exists.mp (L0z _ _ _ (.inl hl))
   | free =>
    obtain⟨c,h⟩:=hf x hm;exact⟨c,(same x hm).trans h⟩
   | _=>simp at hx
 .have hm:(x,NameKind.cell)∈scope.names:=D1z (by simpa[qP] using hx)
  rcases look x c e with⟨_,h⟩ | ⟨h,_⟩
  .exact G2z h
  .exact absurd hm h
 .rcases look x c e with⟨_,h⟩ | ⟨_,h,_⟩
  .exact R4z (I1z (hlt b hb) (G2z h))
  .exact(hfp b hb).2.2.2.2.1 x c h
 .rcases(hfp b hb).2.2.2.1 with z | z
  .exact I.ok.noex b o e z
  .exact absurd (I1z (N4z e) (P4z I.ok.bsz z)) (C4z _)
 .rcases L4z.mp (I.stkSub b z) with h | h
  .exact(hfp b hb).2.1 h
  .exact(hfp b hb).2.2.1 h
 .exact(Heap.Ns.new s.heap (.type "dict")).keeps (N3z _ _)
 ·
  have e1':(scope.names.map (·.1))[i]?=some x:=e1;rw[List.getElem?_map] at e1';unfold zK at e2;rw[List.getElem?_map] at e2
  cases hp:scope.names[i]? with
  | none=>rw[hp] at e2;cases e2
  | some p =>
   rw[hp] at e1' e2;have ex:p.1=x:=G3z e1';have e2':(if p.2==.free then uJ X.N Y p.1 else none)=some v:=G3z e2
   cases hk2:p.2==NameKind.free with
   | false=>rw[hk2] at e2';simp at e2'
   | true =>
    rw[hk2] at e2';simp only[O5z] at e2'
    have ek:p.2=.free:=by simpa using hk2
    have hm:(x,NameKind.free)∈scope.names:=by
     have:=List.mem_of_getElem? hp;rw[<- ex,<- ek];exact this
    unfold uJ at e2';rw[ex] at e2'
    cases hj:X.N.idxOf? x with
    | none=>rw[hj] at e2';cases e2'
    | some j =>
     rw[hj] at e2';have e3:(Y[j]?).getD none=some v:=e2'
     have hY:Y[j]?=some (some v):=by
      cases q:Y[j]? with
      | none=>rw[q] at e3;simp at e3
      | some o=>rw[q] at e3;simp at e3;rw[e3]
     have hN:X.N[j]?=some x:=by
      rw[List.idxOf?,List.findIdx?_eq_some_iff_getElem] at hj;obtain⟨h1,h2,_⟩:=hj;rw[List.getElem?_eq_getElem h1];simpa using h2
     obtain⟨m,hn,hl⟩:=I.loc;have kx:=hcap x hm;obtain⟨u,r,l⟩:=hl j x v hN hY (by rcases kx with k | k;exact .inr (.inl k);exact .inr (.inr k));refine⟨u,r,.inr ⟨?_,?_⟩⟩
     .rw[kinds x,cG hnd hm]
      simp only[M3z];split
      .exact .inl rfl
      .exact .inr rfl
     .rcases l with⟨k,_⟩ | ⟨_,c,hc',z⟩
      .rcases kx with k' | k'<;>(rw[k'] at k;cases k)
      .exact⟨c,(same x hm).trans hc',z.keeps keep⟩
 .rcases look x c e with⟨h,_⟩ | ⟨_,h,_⟩
  .exact⟨_,own x c e h⟩
  .obtain⟨v,z⟩:=I.cell x c h
   exact⟨v,z.keeps keep⟩
 .rcases look x c e with⟨_,h⟩ | ⟨_,h,_⟩
  .exact fresh (G2z h)
  .exact I.freeC x c h
 .show(zK X.N scope.names Y).length=(scope.names.map (·.1)).length
  unfold zK;rw[I3z,I3z]
structure Blk(X:Cx)(z0:List (Addr×Obj))(H:Hp)(s:Shared)(C:Addr):Prop where
 ns:∃m,s.heap.Ns C m
 free:H C=none
 loc:C≠X.env.locals
 abv:X.s₀.heap.objs.size<=C
 cel:∀x c,X.env.cells.lookup x=some c->c≠C
 pin:∀p∈X.pn++z0,p.1≠C
theorem Bl{elt tg iter:Expr}{ifs:List Expr}{scope:Scope}{pos:Pos}{wi:TI}{g:Cx->TG}{tc:Cx->TT}{te:Cx->TE}(hc:X.calm=true)(hk:scope.kind=.function)(hnd:(scope.names.map (·.1)).Nodup)
  (hcap:∀x,(x,NameKind.free)∈scope.names->X.env.kindOf x=some .cell\/X.env.kindOf x=some .free) (hi:PI X tg iter wi)
  (hin:∀Xc:Cx,CompOf X scope Xc->PG Xc tg (g Xc)/\Gd Xc ifs (tc Xc)/\PE Xc elt (te Xc)) {z0:List (Addr×Obj)} {s:Shared} {Y:St} {H:Hp} {Q:VK} (I:Inv X z0 Y H s) (h:CT X scope wi (zK X.N scope.names) g tc te Y H Q) {R:Value->Addr->Result->Shared->Prop}
  (fin:∀acc C H' s',Inv X z0 Y H' s'->Blk X z0 H' s' C->Q (.ref acc) H'->R (.ref acc) C (.ok .next) s') :
  wpAny (model X.prog X.w) X.A (eval iter X.env) (λx s₁=>wpAny (model X.prog X.w) X.A (pyIter x) (λit s₂=>wpAny (model X.prog X.w) X.A (newList []) (λacc s₃ =>
   wpAny (model X.prog X.w) X.A (newFunctionEnv scope X.env.globals (jq X.env.cells scope.names []) [] X.env.qual none .none (some X.env)) (λcenv s₄ =>
    codeAny (model X.prog X.w) X.A (.compStart (.ListComp elt [⟨tg,iter,ifs,0⟩] scope pos) 0 it acc {cenv with scope:=relabel scope X.env}) (R acc cenv.locals) s₄) X.xe s₃) X.xe s₂) X.xe s₁) X.xe s:=by
 refine thn (hi z0 s Y H _ I h) λv s1 h1=>thn h1 λitv s2 h2=>?_;obtain⟨it,fp,tn,J,H2,rfl,I2,T,st2,f2,q2⟩:=h2;refine B2z ?_;have hf:H2 s2.heap.objs.size=none:=I2.hok.fresh (X4z _);have I3:=I2.lnew (ys:=[]) (its:=[]) (t':=s2.toks) .nil (Z4z _);generalize hs3:({s2 with heap:=s2.heap.push {cls:=.type "list",data:=.seq ([]:List Value).toArray},toks:=s2.toks}:Shared)=s3 at I3
 have lt2:∀b∈fp,b<s2.heap.objs.size:=λb hb=>by
  obtain⟨o,e,_⟩:=T.obj _ _ st2 b hb;exact N4z e
 have f3:∀b∈fp,vV X z0 (upd H2 s2.heap.objs.size (.lst [])) b:=λb hb=>⟨by rw[aj (O4z (lt2 b hb))];exact(f2 b hb).1,(f2 b hb).2⟩
 have sz3:s3.heap.objs.size=s2.heap.objs.size+1:=by rw[<- hs3];exact X3z ..
 have lt3:∀b∈fp,b<s3.heap.objs.size:=λb hb=>by rw[sz3];exact F2z (lt2 b hb)
 have st3:tn 0 s3.heap:=T.keep _ _ _ st2 λb hb o e=>by rw[<- hs3];exact Heap.get?_push_of_some _ e
 have J0:=FQ I3 hc hk hnd hcap f3 lt3;have cO:CompOf X scope (qP X scope (cellsFrom (s3.heap.objs.size+1) scope.names (jq X.env.cells scope.names [])) s3.heap.objs.size s3 (upd H2 s2.heap.objs.size (.lst [])) fp):=⟨rfl,rfl,rfl,rfl,rfl,rfl,rfl,rfl,rfl,rfl,rfl⟩;obtain⟨hg,hif,he⟩:=hin _ cO;obtain⟨W,⟨m0,w0⟩,turn⟩:=q2 s2.heap.objs.size hf _ cO;refine sO ?_;have st4:tn 0 (pushCells (s3.heap.push {cls:=.type "dict",data:=.dict #[]}) scope.names):=T.keep _ _ _ st3 λb _ o e=>N3z _ _ b o (Heap.get?_push_of_some _ e);generalize hXc:qP X scope (cellsFrom (s3.heap.objs.size+1) scope.names (jq X.env.cells scope.names [])) s3.heap.objs.size s3 (upd H2 s2.heap.objs.size (.lst [])) fp=Xc at J0 hg hif he turn
 have hprog:Xc.prog=X.prog:=by rw[<- hXc];rfl
 have hw:Xc.w=X.w:=by rw[<- hXc];rfl
 have hK:Xc.K=X.K:=by rw[<- hXc];rfl
 have hA:Xc.A=X.A:=by rw[<- hXc];rfl
 have hcm:Xc.calm=true:=by rw[<- hXc];rfl
 have hxe:Xc.xe=λ_ _=>False:=by rw[<- hXc];rfl
 have hen:Xc.env=vB scope (cellsFrom (s3.heap.objs.size+1) scope.names (jq X.env.cells scope.names [])) s3.heap.objs.size X.env:=by rw[<- hXc];rfl
 have hex:Xc.ex=fp:=by rw[<- hXc];rfl
 have hfs:Xc.fs=frs X.stack:=by rw[<- hXc];rfl
 have hs0:Xc.s₀=s3:=by rw[<- hXc];rfl
 have hH0:Xc.H₀=upd H2 s2.heap.objs.size (.lst []):=by rw[<- hXc];rfl
 have hpn:Xc.pn=[]:=by rw[<- hXc];rfl
 have stat:∀{H':Hp},(∀b∈fp,H' b=none)->∀b∈fp,vV Xc [] H' b:=λ{H'} hn b hb=>by
  refine⟨hn b hb,(J0.ok.exf b (by rw[hex];exact hb)).1,λz=>J0.ok.exfs b (by rw[hex];exact hb) z,.inl (by rw[hex];exact hb),(J0.ok.exf b (by rw[hex];exact hb)).2,λp hp=>?_⟩
  rw[hpn] at hp;exact absurd hp (by simp)
 have loop:codeAny (model X.prog X.w) X.A (.compLoop (.ListComp elt [⟨tg,iter,ifs,0⟩] scope pos) 0 (.ref it) (.ref s2.heap.objs.size) Xc.env)
   (R (.ref s2.heap.objs.size) s3.heap.objs.size) {s3 with heap:=pushCells (s3.heap.push {cls:=.type "dict",data:=.dict #[]}) scope.names}:=by
  refine gW (λn s'=>∃i Y' H',Inv Xc [] Y' H' s'/\tn i s'.heap/\(∀b∈fp,H' b=none)/\W i n Y' H') ?_ m0 ⟨0,_,_,J0,st4,λb hb=>(f3 b hb).1,w0⟩;rintro n s5 ⟨i,Y5,H5,I5,st5,fr5,w5⟩;rcases turn i n Y5 H5 w5 with⟨stop,qn⟩ | ⟨go,N,hN,step⟩
  .have q:=T.done Xc hprog hw hK hcm i [] s5 Y5 H5 (λ_ _=>False) I5 (stat fr5) st5 stop
   rw[hA] at q;refine thn q λr s6 ⟨hr,I6⟩=>?_;subst hr
   have hL:Xc.env.locals=s3.heap.objs.size:=by rw[hen];rfl
   have ub:=I6.base;rw[hfs,hex,hH0,hs0] at ub
   have IX:Inv X z0 Y H5 s6:=by
    refine I3.call' (ch:=fp) ?_ ub ?_ I6.bare λb hb=>⟨(f3 b hb).2.2.2.1,(f3 b hb).2.1,(f3 b hb).2.2.2.2.1,(f3 b hb).2.2.2.2.2⟩
    .have:=I6.os
     rw[hs0] at this;exact this
    .have hok:=I6.hok
     rw[hprog,hw] at hok;exact hok
   refine fin _ _ _ _ IX ⟨?_,?_,R4z I3.lt,I3.sz,λx c e=>?_,λp hp=>?_⟩ qn
   .obtain⟨m,hn,_⟩:=I6.loc
    rw[hL] at hn;exact⟨m,hn⟩
   .have:=I6.free
    rw[hL] at this;exact this
   .obtain⟨v,z⟩:=I3.cell x c e
    exact O4z z.lt
   .exact O4z (N4z (I3.pin p hp).1)
  .have q:=T.item Xc hprog hw hK hcm i [] s5 Y5 H5 (λ_ _=>False) I5 (stat fr5) st5 go
   rw[hA] at q;refine thn q λr s6 ⟨u,hr,h6⟩=>?_;subst hr;refine thn h6 λ_ s7 ⟨x,H7,I7,r7,y7,st7,fr7⟩=>?_;have I7':=I7.pinned (stat fr7) (T.obj _ _ st7);have q8:=hg _ s7 Y5 H7 x u _ I7' r7 (step x H7 y7);rw[hprog,hw,hA,hxe] at q8;refine thn q8 λ_ s8 ⟨Y8,H8,I8,z8⟩=>?_;have q9:=hif _ s8 Y8 H8 _ I8 z8;rw[hprog,hw,hA,hxe] at q9;refine thn q9 λok s9 ⟨H9,I9,z9⟩=>?_
   have again:∀{s':Shared}{Y':St}{H':Hp},Inv Xc ([]++qm fp s7.heap) Y' H' s'->N Y' H'->∃m,m<n/\∃i Y' H',Inv Xc [] Y' H' s'/\tn i s'.heap/\(∀b∈fp,H' b=none)/\W i m Y' H':=λ{s' Y' H'} I' n'=>by
    obtain⟨m',hm,w'⟩:=hN Y' H' n';refine⟨m',hm,i+1,Y',H',I'.unpinned,T.keep _ _ _ st7 λb hb o e=>(I'.pin (b,o) (P0z _ (P0z _ (gH hb e)))).1,λb hb=>?_,w'⟩;obtain⟨o,e,d⟩:=T.obj _ _ st7 b hb;exact(I'.pin (b,o) (P0z _ (P0z _ (gH hb e)))).2.1
   cases ok with
   | false =>
    rw[Q5z M1z] at z9 ⊢;exact again I9 z9
   | true =>
    rw[P5z rfl] at z9 ⊢;have q10:=he _ s9 Y8 H9 _ I9 z9;rw[hprog,hw,hA,hxe] at q10;refine thn q10 λuv s10 ⟨v,H10,I10,r10,ys,hy,hz,z10⟩=>?_;have q11:=jc (X:=Xc) _ s10 Y8 H10 (.ref s2.heap.objs.size) [v] (.ref s2.heap.objs.size) [uv] (λ_ H'=>N Y8 H') I10 rfl (.cons r10 .nil) ⟨_,ys,v,rfl,rfl,hy,hz,z10⟩;rw[hprog,hw,hA,hxe] at q11;exact thn q11 λ_ s11 ⟨_,H11,I11,_,z11⟩=>again I11 z11
 have eenv:({ (newEnv scope s3.heap.objs.size X.env.globals (cellsFrom (s3.heap.objs.size+1) scope.names (jq X.env.cells scope.names [])) X.env.qual none .none (some X.env) builtinsNs) with scope:=relabel scope X.env}:Env)=Xc.env:=by rw[hen];rfl
 rw[eenv];exact codeAny_compStart_list loop (T.self X.A 0 _ _ _ st4 loop)
theorem Blk.gone{z0:List (Addr×Obj)}{Y:St}{H:Hp}{s:Shared}{C:Addr}{h':Heap}(b:Blk X z0 H s C)(I:Inv X z0 Y H s)(hs:Heap.SameBut C s.heap h'):Inv X z0 Y H {s with heap:=h'} :=
 I.turned (t':=s.toks) (λc o hc e=>(hs.2 c hc).trans e) b.free b.loc (.inr b.abv) b.cel b.pin
theorem zc{elt tg iter:Expr}{ifs:List Expr}{scope:Scope}{pos:Pos}{wi:TI}{g:Cx->TG}{tc:Cx->TT}{te:Cx->TE}(hc:X.calm=true)(hk:scope.kind=.function)(hnd:(scope.names.map (·.1)).Nodup)
  (hcap:∀x,(x,NameKind.free)∈scope.names->X.env.kindOf x=some .cell\/X.env.kindOf x=some .free) (hi:PI X tg iter wi)
  (hin:∀Xc:Cx,CompOf X scope Xc->PG Xc tg (g Xc)/\Gd Xc ifs (tc Xc)/\PE Xc elt (te Xc)) (hs:∀x,foldedSetIterable iter X.env x=pure x) :
  PE X (.ListComp elt [⟨tg,iter,ifs,0⟩] scope pos) (CT X scope wi (zK X.N scope.names) g tc te):=by
 intro z0 s Y H Q I h;rw[eval_ListComp];refine wpAny_comprehension_free (use:=none) (cl:=jq X.env.cells scope.names []) rfl hs (gq (ni I hnd hcap).1) hk (λx hx hl=>cG hnd (by rw[<- hl];exact hx)) ?_;refine Bl hc hk hnd hcap hi hin I h λacc C H' s' I' b q=>?_;obtain⟨m,hn⟩:=b.ns;exact⟨m,hn,λh' hsb=>⟨.ref acc,H',b.gone I' hsb,rfl,q⟩⟩
end
def Its(x:Str):It:=⟨λi _=>i<x.cps.size,λi H v H'=>H'=H/\∃c,x.cps[i]?=some c/\v=.str ⟨#[c]⟩,λi _=>x.cps.size<=i⟩
theorem CG{P:Program}{w:World}{K:Zf}{tg:Expr}(it:Addr)(x:Str)(t:Tok):Turn P w K tg (Its x) [it] it (λi h=>h.IsStrIter it "str_ascii_iterator" x t i) where
 mem:=by simp
 obj:=λi h st b hb=>by
  have e:b=it:=by simpa using hb
  subst e;obtain⟨o,e,c,d⟩:=st;exact⟨o,e,λv z=>by rw[d] at z;cases z⟩
 keep:=λi h h' st k=>let ⟨o,ho,r⟩:=st;⟨o,k it (by simp) o ho,r⟩
 item:=by
  intro X hP hw hK hc i z0 s Y H E I hf st hg;subst hP hw hK;obtain⟨f0,f1,f2,f3,f4,f5⟩:=hf it (by simp);have hg':i<x.cps.size:=hg;refine wpAny_pyNext_ascii_item st (c:=x.cps[i]) (by simp[hg']) λh' st' sb=>?_;have I1:Inv X z0 Y H {s with heap:=h',toks:=s.toks+1}:=I.turned (λb o hb e=>(sb.2 b hb).trans e) f0 f1 f3 f4 f5;obtain⟨o,e,c,d⟩:=id st';exact⟨_,rfl,wK (s:={s with heap:=h',toks:=s.toks+1}) e c d (by decide) ⟨.str ⟨#[x.cps[i]]⟩,H,I1,⟨_,rfl⟩,⟨rfl,x.cps[i],by simp[hg'],rfl⟩,st',λb hb=>(hf b hb).1⟩⟩
 done:=by
  intro X hP hw hK hc i z0 s Y H E I hf st hg;subst hP hw hK;obtain⟨f0,f1,f2,f3,f4,f5⟩:=hf it (by simp);exact wpAny_pyNext_ascii_end (I.ok.hd hc) st (by have:x.cps.size<=i:=hg;simp[this]) λh' eb=>⟨rfl,I.turned (t':=s.toks) (λb o hb e=>eb b o hb e) f0 f1 f3 f4 f5⟩
 self:=λ_ _ _ _ _ st h=>wpAny_pyIter_striter_ascii st h
section
variable{X:Cx}{tg:Expr}
def WL(tl:TE):TI:=λY H R=>tl Y H λv H1=>∃x,v=.str x/\x.cps.all (· < 128)=true/\R (Its x) H1
theorem Oi{l:Expr}{tl:TE}(hl:PE X l tl):PI X tg l (WL tl):=by
 intro z0 s Y H R I h;refine thn (hl z0 s Y H _ I h) λv s1 ⟨x,H1,I1,r1,q1⟩=>?_;obtain⟨y,e,ha,q⟩:=q1;subst e;obtain⟨t,rfl⟩:=r1;refine wpAny_pyIter_ascii ha ?_;refine⟨s1.heap.objs.size,[s1.heap.objs.size],_,_,H1,rfl,I1.kept (t':=s1.toks) λb o e=>Heap.get?_push_of_some _ e,CG _ y t,⟨_,Heap.get?_push_size _ rfl,rfl,rfl⟩,λb hb=>?_,q⟩
 have e:b=s1.heap.objs.size:=by simpa using hb
 subst e;exact I1.fpOk (X4z _) (I1.hok.fresh (X4z _))
end
section
variable{prog:Program}{w:World}{A:Around}{E:Value->Shared->Prop}{s:Shared}
theorem Qu{it t:Addr}{i:Nat}{its:Array Value}{Q:Value->Shared->Prop}(hh:A.handled=none)(hit:s.heap.IsTupleIter it t i)(ht:s.heap.IsTuple t its)
  (hs:∀x h',its[i]?=some x->h'.IsTupleIter it t (i+1)->Heap.SameBut it s.heap h'->Q x {s with heap:=h'})
  (he:∀h' e,its[i]?=none->Heap.ExtBut it s.heap h'->(∃o,h'.get? e=some o/\o.cls=.type "StopIteration")->E (.ref e) {s with heap:=h'}) :
  wpAny (model prog w) A (Builtin.SmallTypes.nextOf (.ref it)) Q E s:=by
 obtain⟨oi,hoi,hci,hdi⟩:=id hit;obtain⟨ot,hot,_,nt,hdt⟩:=ht;unfold Builtin.SmallTypes.nextOf;refine E5z (wpAny_callSpecial?_slot (name:=Str.ofString "__next__") hit.typeIs F.slot_tuple_iterator_next (U2z F.slot_tuple_iterator_next hit.typeIs F.entry_tuple_iterator_next ?_ (F.args_tuple_iterator_next_1 _)));show wpAny _ _ (field (.ref it) 0 >>=_) _ _ s;refine E5z (A5z hoi hdi (x:=.ref t) rfl ?_);have nn:¬ ((Value.ref t==Value.none)=true):=M1z;show wpAny _ _ (if(Value.ref t==Value.none)=true then _ else _) _ _ s;rw[Q5z nn];show wpAny _ _ (field (.ref it) 1 >>=_) _ _ s;refine E5z (A5z hoi hdi (x:=.int i 0) rfl ?_);show wpAny _ _ (seqItems? (.ref t) >>=_) _ _ s;refine E5z (Z3z hot hdt ?_)
 cases hx:its[i]? with
 | some x =>
  simp only[Int.toNat_natCast,hx];have fin:(s.heap.update it λo=>o.mapFields (·.setIfInBounds 1 (rawInt ((i:Int)+1)))).IsTupleIter it t (i+1):=⟨_,Heap.get?_update_self _ hoi (Obj.isFreed_of_fields (Obj.data_mapFields hdi _)),(Obj.cls_mapFields ..).trans hci,by rw[Obj.data_mapFields hdi];simp[rawInt]⟩;exact E5z (wpAny_setField hoi hdi (by simp) (F5z ⟨x,rfl,F5z (hs x _ hx fin (Heap.SameBut.update ..))⟩))
 | none =>
  simp only[Int.toNat_natCast,hx];refine E5z (G5z (E5z (wpAny_setField hoi hdi (by simp) (E5z (m:=newExc (.type "StopIteration") []) ?_))));simp only[newExc,newTuple];refine E5z (B2z (E5z (m:=firstArgMember _ _) (B5z (a:=Value.none) (by first | rfl | (simp only[firstArgMember];rfl)) (B2z ?_ (by size_fits)))) (by size_fits));simp only[raiseNew];refine E5z (wpAny_handled ?_)
  first | rw[show A.in1.handled=none from hh] | rw[hh]
  exact E5z (F5z (wpAny_throw (he _ _ hx (((Heap.SameBut.update ..).extBut.push _).push _) ⟨_,Heap.get?_push_size _ rfl,rfl⟩)))
structure ZT(h:Heap)(z ti to i1 i2 t1 t2:Addr)(k:Nat)(f:Value):Prop where
 hz:IsZip h z ti to f
 hi:IsPair h ti (.ref i1) (.ref i2)
 ho:∃a b,IsPair h to a b
 h1:h.IsTupleIter i1 t1 k
 h2:h.IsTupleIter i2 t2 k
theorem ZT.keep{h h':Heap}{z ti to i1 i2 t1 t2:Addr}{k:Nat}{f:Value}(x:ZT h z ti to i1 i2 t1 t2 k f)(kp:∀b∈[z,ti,to,i1,i2],∀o,h.get? b=some o->h'.get? b=some o):ZT h' z ti to i1 i2 t1 t2 k f :=
 ⟨kp z (by simp) _ x.hz,kp ti (by simp) _ x.hi,let ⟨a,b,e⟩:=x.ho;⟨a,b,kp to (by simp) _ e⟩,x.h1.at λo e=>kp i1 (by simp) o e,x.h2.at λo e=>kp i2 (by simp) o e⟩
theorem xq{z ti to i1 i2 t1 t2:Addr}{k:Nat}{xs ys:Array Value}{Q:Fin->Shared->Prop}(hh:A.handled=none)(D:ZipApart z ti to i1 i2 t1 t2)(hZ:ZT s.heap z ti to i1 i2 t1 t2 k .none)
  (ht1:s.heap.IsTuple t1 xs) (ht2:s.heap.IsTuple t2 ys)
  (hs:∀x y h', xs[k]?=some x->ys[k]?=some y->ZT h' z ti to i1 i2 t1 t2 (k + 1) (rawInt s.heap.objs.size)->IsPair h' s.heap.objs.size x y->h'.objs.size=s.heap.objs.size + 1 ->
   (∀c o,c∉[z,to,i1,i2]->s.heap.get? c=some o->h'.get? c=some o)->Q (.done (.ret (.ref s.heap.objs.size))) {s with heap:=h'})
  (he:∀h' e,(xs[k]?=none\/ys[k]?=none)->(∀c o,c∉[z,to,i1,i2]->s.heap.get? c=some o->h'.get? c=some o)->(∃o,h'.get? e=some o/\o.cls=.type "StopIteration")->E (.ref e) {s with heap:=h'}) :
  wpAny (model prog w) A (Builtin.«zip.__next__» ⟨[.ref z],[]⟩) Q E s:=by
 obtain⟨hz,hi,⟨a,b,ho⟩,h1,h2⟩:=hZ;show wpAny _ _ (field (.ref z) 2 >>=_) _ _ _;refine E5z (A5z hz rfl (x:=.bool false) rfl ?_);show wpAny _ _ (field (.ref z) 3 >>=_) _ _ _;refine E5z (A5z hz rfl (x:=.ref ti) rfl (E5z (Z3z hi rfl ?_)));show wpAny _ _ (Builtin.SmallTypes.ownedTupleIsFree (.ref z) >>=_) _ _ _;unfold Builtin.SmallTypes.ownedTupleIsFree;refine E5z (E5z (A5z hz rfl (x:=.none) rfl (F5z ?_)));simp only[O5z];refine E5z (G5z (E5z (A5z hz rfl (x:=.ref to) rfl (E5z (T1z hz (by simp) λha za sa=>?_)))))
 replace za:IsZip ha z ti to .ellipsis:=za
 refine E5z ?_;simp only[List.zipIdx_cons,List.zipIdx_nil,List.forIn_cons,List.forIn_nil];refine E5z (E5z (wpAny_onRaise ?_))
 have ne4:∀{c:Addr},c∉[z,to,i1,i2]->c≠z/\c≠to/\c≠i1/\c≠i2:=λhc=>by simpa using hc
 show wpAny _ _ (Builtin.SmallTypes.nextOf (.ref i1) >>=_) _ _ _;refine E5z (Qu hh (h1.extBut sa.extBut D.i1z) (ht1.extBut sa.extBut D.l1z) (λx hb hx itb sb=>F5z ?_) λhb e hx eb ⟨oe,oe1,oe2⟩=>?_)
 .have tob:IsPair hb to a b:=sb.extBut _ _ D.TOi1 (sa.extBut _ _ D.TOz ho)
  refine E5z (Z3z tob rfl (E5z (wpAny_updateSeq_pair tob λhc toc sc=>E5z (wpAny_letGo (F5z ?_)))))
  replace toc:IsPair hc to x b:=toc
  refine E5z (E5z (wpAny_onRaise ?_));have h2c:hc.IsTupleIter i2 t2 k:=((h2.extBut sa.extBut D.i2z).extBut sb.extBut D.i12.symm).extBut sc.extBut D.TOi2.symm;have t2c:hc.IsTuple t2 ys:=((ht2.extBut sa.extBut D.l2z).extBut sb.extBut D.l2i1).extBut sc.extBut D.l2TO;show wpAny _ _ (Builtin.SmallTypes.nextOf (.ref i2) >>=_) _ _ _;refine E5z (Qu hh h2c t2c (λy hd hy itd sd=>F5z ?_) λhd e hy ed ⟨oe,oe1,oe2⟩=>?_)
  .have tod:IsPair hd to x b:=sd.extBut _ _ D.TOi2 toc
   refine E5z (Z3z tod rfl (E5z (wpAny_updateSeq_pair tod λhf tof sf=>E5z (wpAny_letGo (F5z (F5z ?_))))))
   replace tof:IsPair hf to x y:=tof
   refine E5z (Z3z tof rfl (E5z (wpAny_newTuple ?_)))
   have szf:hf.objs.size=s.heap.objs.size:=by rw[sf.1,sd.1,sc.1,sb.1,sa.1]
   have zf:IsZip hf z ti to .ellipsis:=sf.extBut _ _ D.TOz.symm (sd.extBut _ _ D.i2z.symm (sc.extBut _ _ D.TOz.symm (sb.extBut _ _ D.i1z.symm za)))
   have kf:∀c o,c∉[z,to,i1,i2]->s.heap.get? c=some o->hf.get? c=some o:=λc o hc' e=>by
    obtain⟨c1,c2,c3,c4⟩:=ne4 hc';exact sf.extBut _ _ c2 (sd.extBut _ _ c4 (sc.extBut _ _ c2 (sb.extBut _ _ c3 (sa.extBut _ _ c1 e))))
   have i1f:hf.IsTupleIter i1 t1 (k+1):=((itb.extBut sc.extBut D.TOi1.symm).extBut sd.extBut D.i12).extBut sf.extBut D.TOi1.symm;have i2f:hf.IsTupleIter i2 t2 (k+1):=itd.extBut sf.extBut D.TOi2.symm;have tif:IsPair hf ti (.ref i1) (.ref i2):=sf.extBut _ _ D.TITO (sd.extBut _ _ D.TIi2 (sc.extBut _ _ D.TITO (sb.extBut _ _ D.TIi1 (sa.extBut _ _ D.TIz hi))));have zlt:z<hf.objs.size:=N4z zf;show wpAny _ _ (Builtin.SmallTypes.ownedTupleHandOut (.ref z) (.ref hf.objs.size) >>=_) _ _ _;unfold Builtin.SmallTypes.ownedTupleHandOut;have zg:IsZip (hf.push {cls:=.type "tuple",data:=.seq #[x,y]}) z ti to .ellipsis:=Heap.get?_push_of_some _ zf;refine E5z (E5z (T1z zg (by simp) λhk zk sk=>T1z (show IsZip hk z ti to (rawInt hf.objs.size) from zk) (by simp) λhm zm sm=>F5z ?_))
   replace zm:IsZip hm z ti to (rawInt hf.objs.size):=zm
   have up:∀c o,c≠z->hf.get? c=some o->hm.get? c=some o:=λc o c1 e=>sm.extBut _ _ c1 (sk.extBut _ _ c1 (Heap.get?_push_of_some _ e));have new:IsPair hm hf.objs.size x y:=sm.extBut _ _ (R4z zlt) (sk.extBut _ _ (R4z zlt) (Heap.get?_push_size _ rfl))
   have szm:hm.objs.size=hf.objs.size+1:=by rw[sm.1,sk.1,X3z]
   have q:=hs x y hm hx hy ⟨by rw[<- szf];exact zm,up _ _ D.TIz tif,⟨x,y,up _ _ D.TOz tof⟩,i1f.at λo e=>up _ o D.i1z e,i2f.at λo e=>up _ o D.i2z e⟩ (by rw[<- szf];exact new) (by rw[szm,szf]) λc o hc' e=>up c o (ne4 hc').1 (kf c o hc' e)
   rw[<- szf] at q;exact q
  .have zd:IsZip hd z ti to .ellipsis:=ed _ _ D.i2z.symm (sc.extBut _ _ D.TOz.symm (sb.extBut _ _ D.i1z.symm za))
   have ez:e≠z:=λq=>by subst q;rw[zd] at oe1;cases oe1;simp at oe2
   refine T1z zd (by simp) λhf _ sf=>he hf e (.inr hy) (λc o hc' q=>?_) ⟨oe,sf.extBut _ _ ez oe1,oe2⟩;obtain⟨c1,c2,c3,c4⟩:=ne4 hc';exact sf.extBut _ _ c1 (ed _ _ c4 (sc.extBut _ _ c2 (sb.extBut _ _ c3 (sa.extBut _ _ c1 q))))
 .have zb:IsZip hb z ti to .ellipsis:=eb _ _ D.i1z.symm za
  have ez:e≠z:=λq=>by subst q;rw[zb] at oe1;cases oe1;simp at oe2
  refine T1z zb (by simp) λhf _ sf=>he hf e (.inl hx) (λc o hc' q=>?_) ⟨oe,sf.extBut _ _ ez oe1,oe2⟩;obtain⟨c1,c2,c3,c4⟩:=ne4 hc';exact sf.extBut _ _ c1 (eb _ _ c3 (sa.extBut _ _ c1 q))
theorem lB{z ti to i1 i2 t1 t2:Addr}{k:Nat}{xs ys:Array Value}{Q:Option Value->Shared->Prop}(hh:A.handled=none)(D:ZipApart z ti to i1 i2 t1 t2)(hZ:ZT s.heap z ti to i1 i2 t1 t2 k .none)
  (ht1:s.heap.IsTuple t1 xs) (ht2:s.heap.IsTuple t2 ys)
  (hs:∀x y h', xs[k]?=some x->ys[k]?=some y->ZT h' z ti to i1 i2 t1 t2 (k + 1) (rawInt s.heap.objs.size)->IsPair h' s.heap.objs.size x y->h'.objs.size=s.heap.objs.size + 1 ->
   (∀c o,c∉[z,to,i1,i2]->s.heap.get? c=some o->h'.get? c=some o)->Q (some (.ref s.heap.objs.size)) {s with heap:=h'})
  (he:∀h',(xs[k]?=none\/ys[k]?=none)->(∀c o,c∉[z,to,i1,i2]->s.heap.get? c=some o->h'.get? c=some o)->Q none {s with heap:=h'}) :
  wpAny (model prog w) A (pyNext (.ref z)) Q E s:=by
 have hT:s.TypeIs (.ref z) "zip":=⟨_,hZ.hz,rfl⟩;unfold pyNext
 refine E5z (F4z (wpAny_callSpecial?_slot (name:=Str.ofString "__next__") hT F.slot_zip_next (U2z F.slot_zip_next hT F.entry_zip_next
  (xq hh D hZ ht1 ht2 (λx y h' a1 a2 a3 a4 a5 a6=>⟨_,rfl,F5z (hs x y h' a1 a2 a3 a4 a5 a6)⟩) λh' e a1 a2 ⟨o,e1,e2⟩=>?_) (F.args_zip_next_1 _))))
 exact E5z (wpAny_isInstance (T:="StopIteration") (b:=true) ⟨o,e1,e2⟩ isSubtype_stop (F5z (he h' a1 a2)))
abbrev itT(t:Addr):Obj:={cls:=.type "tuple_iterator",data:=.fields #[.ref t,.int 0 0]}
theorem Ib(hp H1 H2 H3 H4 H5:Heap)(t1 t2:Addr)(e1:H1=hp.push (itT t1))(e2:H2=H1.push (itT t2))(e3:H3=H2.push {cls:=.type "tuple",data:=.seq #[.ref hp.objs.size,.ref H1.objs.size]})(e4:H4=H3.push {cls:=.type "tuple",data:=.seq #[.none,.none]})
  (e5:H5=H4.push {cls:=.type "zip",data:=.fields #[.none,.bool false,.bool false,.ref H2.objs.size,.ref H3.objs.size]}) :
  H4.objs.size=hp.objs.size+4/\H5.objs.size=hp.objs.size+5/\(∀c o,hp.get? c=some o->H5.get? c=some o)/\ZT H5 (hp.objs.size+4) (hp.objs.size+2) (hp.objs.size+3) hp.objs.size (hp.objs.size+1) t1 t2 0 .none:=by
 have z1:H1.objs.size=hp.objs.size+1:=by rw[e1,X3z]
 have z2:H2.objs.size=hp.objs.size+2:=by rw[e2,X3z,z1]
 have z3:H3.objs.size=hp.objs.size+3:=by rw[e3,X3z,z2]
 have z4:H4.objs.size=hp.objs.size+4:=by rw[e4,X3z,z3]
 have z5:H5.objs.size=hp.objs.size+5:=by rw[e5,X3z,z4]
 have k5:∀c o,H4.get? c=some o->H5.get? c=some o:=λc o e=>by rw[e5];exact Heap.get?_push_of_some _ e
 have k4:∀c o,H3.get? c=some o->H5.get? c=some o:=λc o e=>k5 c o (by rw[e4];exact Heap.get?_push_of_some _ e)
 have k3:∀c o,H2.get? c=some o->H5.get? c=some o:=λc o e=>k4 c o (by rw[e3];exact Heap.get?_push_of_some _ e)
 have k2:∀c o,H1.get? c=some o->H5.get? c=some o:=λc o e=>k3 c o (by rw[e2];exact Heap.get?_push_of_some _ e)
 have k1:∀c o,hp.get? c=some o->H5.get? c=some o:=λc o e=>k2 c o (by rw[e1];exact Heap.get?_push_of_some _ e)
 refine⟨z4,z5,k1,?_,?_,⟨.none,.none,?_⟩,⟨_,k2 _ _ (by rw[e1];exact Heap.get?_push_size _ rfl),rfl,rfl⟩,⟨_,k3 _ _ (by rw[e2,<- z1];exact Heap.get?_push_size _ rfl),rfl,rfl⟩⟩
 .have q:H5.get? H4.objs.size=some {cls:=.type "zip",data:=.fields #[.none,.bool false,.bool false,.ref H2.objs.size,.ref H3.objs.size]}:=by rw[e5];exact Heap.get?_push_size _ rfl
  rw[z2,z3,z4] at q;exact q
 .have q:H5.get? H2.objs.size=some {cls:=.type "tuple",data:=.seq #[.ref hp.objs.size,.ref H1.objs.size]}:=k4 _ _ (by rw[e3];exact Heap.get?_push_size _ rfl)
  rw[z1,z2] at q;exact q
 .have q:H5.get? H3.objs.size=some {cls:=.type "tuple",data:=.seq #[.none,.none]}:=k5 _ _ (by rw[e4];exact Heap.get?_push_size _ rfl)
  rw[z3] at q;exact q
theorem Cv(t1 t2:Addr)(xs ys:Array Value) :
    Meets (Builtin.«zip.__new__» ⟨[.type "zip",.ref t1,.ref t2],[]⟩) (λ_ R s=>s.heap.IsTuple t1 xs/\s.heap.IsTuple t2 ys /\
      ∀h', (∀c o, s.heap.get? c=some o->h'.get? c=some o)->h'.objs.size=s.heap.objs.size + 5->ZT h' (s.heap.objs.size + 4) (s.heap.objs.size + 2) (s.heap.objs.size + 3) s.heap.objs.size (s.heap.objs.size + 1) t1 t2 0 .none ->
        R (.ok (.ret (.ref (s.heap.objs.size+4)))) {s with heap:=h'}) :=
  .of_wp λprog w A R s h=>by
    obtain⟨hp,g,d,tk,os⟩:=s;obtain⟨hl1,hl2,h⟩:=h
    have hsub:=sub_zip
    have hL1:Heap.IsTuple (Shared.heap ⟨hp,g,d,tk,os⟩) t1 xs:=hl1
    have hL2:Heap.IsTuple (Shared.heap ⟨hp.push (itT t1),g,d,tk,os⟩) t2 ys:=let ⟨o,e,r⟩:=hl2;⟨o,Heap.get?_push_of_some _ e,r⟩
    wp_walk using L1z hL1,L1z hL2
    refine⟨_,rfl,?_⟩
    obtain⟨z4,z5,kp,Z⟩:=Ib hp _ _ _ _ _ t1 t2 rfl rfl rfl rfl rfl
    have q:=h _ kp z5 Z
    rw[<- z4] at q
    exact q
theorem Bp{t1 t2:Addr}{xs ys:Array Value}{Q:Value->Shared->Prop}(hl1:s.heap.IsTuple t1 xs)(hl2:s.heap.IsTuple t2 ys)
  (h:∀h', (∀c o, s.heap.get? c=some o->h'.get? c=some o)->h'.objs.size=s.heap.objs.size + 5->ZT h' (s.heap.objs.size + 4) (s.heap.objs.size + 2) (s.heap.objs.size + 3) s.heap.objs.size (s.heap.objs.size + 1) t1 t2 0 .none ->
   Q (.ref (s.heap.objs.size+4)) {s with heap:=h'}):wpAny (model prog w) A (call (.type "zip") [.ref t1,.ref t2]) Q E s:=by
 refine callType_new F.called_zip (by decide) (F.typeCall_zip_2 _ _) (F.newCall_zip_2 _ _) (λobj=>F.args_object_init_3 obj _ _) F.entry_zip_new (Cv t1 t2 xs ys) ⟨hl1,hl2,λh' kp z5 Z=>?_⟩;exact⟨⟨_,Z.hz,rfl⟩,h h' kp z5 Z⟩
end
namespace RF
theorem slot_next:Slot "reversed" "__next__" "reversed.__next__":=.of (owner:="reversed") (n:="__next__") (by rw[O3z,Q0z];rfl') (by decide +kernel) (by decide +kernel) (by decide +kernel) (by first | exact .inl (by decide +kernel) | exact .inr (by decide +kernel)) (by rw[A4z];rfl')
theorem pW:Slot "reversed" "__iter__" "reversed.__iter__":=.of (owner:="reversed") (n:="__iter__") (by rw[O3z,Q0z];rfl') (by decide +kernel) (by decide +kernel) (by decide +kernel) (by first | exact .inl (by decide +kernel) | exact .inr (by decide +kernel)) (by rw[A4z];rfl')
theorem yE:Slot "reversed" "__init__" "object.__init__":=.of (owner:="object") (n:="__init__") (by rw[O3z,Q0z];rfl') (by decide +kernel) (by decide +kernel) (by decide +kernel) (by first | exact .inl (by decide +kernel) | exact .inr (by decide +kernel)) (by rw[A4z];rfl')
theorem lA:Slot "reversed" "__length_hint__" "reversed.__length_hint__":=.of (owner:="reversed") (n:="__length_hint__") (by rw[O3z,Q0z];rfl') (by decide +kernel) (by decide +kernel) (by decide +kernel) (by first | exact .inl (by decide +kernel) | exact .inr (by decide +kernel)) (by rw[A4z];rfl')
theorem Pk:typeLookup (.type "reversed") "__len__"=pure none:=by rw[O3z,Q0z];rfl'
theorem entry_next:entryFor table "reversed.__next__"=some Builtin.«reversed.__next__» :=V2z (by rfl')
theorem wR:entryFor table "reversed.__length_hint__"=some Builtin.«reversed.__length_hint__» :=V2z (by rfl')
theorem Aw:entryFor table "reversed.__new__"=some Builtin.«reversed.__new__» :=V2z (by rfl')
theorem wQ:entryFor table "reversed.__iter__"=some Builtin.«dict_keyiterator.__iter__» :=entryFor_alias (id':="dict_keyiterator.__iter__") (by rfl') (by first | rfl | decide +kernel | (unfold String.splitOn;simp +decide [String.splitOnAux])) (by decide +kernel) (by rfl')
theorem owner:Manifest.owners.lookup (String.ofList ['d','e','s','r','e','v','e','r'].reverse)=some Manifest.sig_reversed:=by rfl'
theorem args_next(a:Value):argsOk "reversed.__next__" ⟨[a],[]⟩:=by unfold argsOk;rw[signature?_of (id:="reversed.__next__") (n:=['_','_','t','x','e','n','_','_']) (o:=['d','e','s','r','e','v','e','r']) (by rfl') owner];rfl'
theorem Cd(a:Value):argsOk "reversed.__iter__" ⟨[a],[]⟩:=by unfold argsOk;rw[signature?_of (id:="reversed.__iter__") (n:=['_','_','r','e','t','i','_','_']) (o:=['d','e','s','r','e','v','e','r']) (by rfl') owner];rfl'
theorem Ce(a:Value):argsOk "reversed.__length_hint__" ⟨[a],[]⟩:=by unfold argsOk;rw[signature?_of (id:="reversed.__length_hint__") (n:=['_','_','t','n','i','h','_','h','t','g','n','e','l','_','_']) (o:=['d','e','s','r','e','v','e','r']) (by rfl') owner];rfl'
theorem mro:mroOf (.type "reversed")=pure [.type "reversed",.type "object"]:=by rw[mroOf_type];rfl'
theorem Ej:typeLookup (.type "reversed") "__new__"=pure (some (.builtin "reversed.__new__")):=by rw[O3z,Q0z];rfl'
theorem called:TypeCalled "reversed" "reversed.__new__" "object.__init__":=⟨by decide +kernel,by decide +kernel,⟨_,_,mro⟩,madeBy_type mro Ej (by decide +kernel),by decide +kernel,by rw[A4z];rfl',yE⟩
theorem RL(a:Value):checkTypeCall "reversed" ⟨[a],[]⟩=pure ():=by rfl'
theorem Tp(a:Value):checkBuiltinCall "reversed.__new__" ⟨[.type "reversed",a],[]⟩=pure ():=by rfl'
theorem sub_self:isSubtype (.type "reversed") (.type "reversed")=pure true:=by rw[A4z];rfl'
theorem xU:typeLookup (.type "tuple") "__reversed__"=pure none:=by rw[O3z,Q0z];rfl'
end RF
theorem Pq(a:Value):Builtin.SmallTypes.newClass "reversed" ⟨[.type "reversed",a],[]⟩=pure (.type "reversed",[a]):=by
 unfold Builtin.SmallTypes.newClass;simp only[isType,RF.sub_self,pure_bind,Bool.not_true,S1z,M5z]
abbrev Dh(t:Addr)(i:Int):Obj:={cls:=.type "reversed",data:=.fields #[.ref t,rawInt i]}
theorem Df(t:Addr)(its:Array Value) :
    Meets (Builtin.«reversed.__new__» ⟨[.type "reversed",.ref t],[]⟩) (λ_ R s=>IsTup s.heap t its/\its.size<=sizeLine/\∀tk,R (.ok (.ret (.ref s.heap.objs.size))) {s with heap:=s.heap.push (Dh t ((its.size:Int)-1)),toks:=tk}) :=
  .of_wp λprog w A R s h=>by
    obtain⟨ht,hz,h⟩:=h
    have hT:s.TypeIs (.ref t) "tuple":=Heap.IsTuple.typeIs (show s.heap.IsTuple t its from ht)
    unfold Builtin.«reversed.__new__»
    refine E5z (B5z (Pq _) ?_)
    try dsimp only
    refine E5z (B5z (a:=()) (by first | rfl | rfl') (E5z (B5z (a:=()) (by first | rfl | rfl') ?_)))
    try dsimp only
    refine E5z (P3z hT RF.xU ?_)
    try dsimp only
    have lk:typeLookup (.type "tuple") "__getitem__"=pure (some (.builtin "tuple.__getitem__")):=by rw[O3z,Q0z];rfl'
    have sd:isSubtype (.type "tuple") (.type "dict")=pure false:=by rw[A4z];rfl'
    have fit : (its.size : Int) < 2 ^ 63 := by have : sizeLine < 2 ^ 63 := by (rw [Y4z]; decide)
                                               omega
    wp_walk using P3z hT lk,B5z sd,PyProof.Rows.len_tuple ht fit
    exact⟨_,rfl,h _⟩
section
variable{prog:Program}{w:World}{A:Around}{E:Value->Shared->Prop}{s:Shared}
theorem qX{t:Addr}{its:Array Value}{Q:Value->Shared->Prop}(ht:IsTup s.heap t its)(hz:its.size<=sizeLine)(h:∀tk,Q (.ref s.heap.objs.size) {s with heap:=s.heap.push (Dh t ((its.size:Int)-1)),toks:=tk}) :
  wpAny (model prog w) A (call (.type "reversed") [.ref t]) Q E s :=
 callType_new RF.called (by decide) (RF.RL _) (RF.Tp _) (λobj=>F.args_object_init_2 obj _) RF.Aw (Df t its) ⟨ht,hz,λtk=>⟨⟨_,Heap.get?_push_size _ rfl,rfl⟩,h tk⟩⟩
abbrev dY(h:Heap)(r t:Addr)(i:Int):Prop:=h.get? r=some (Dh t i)
theorem yO{r t:Addr}{i:Nat}{its:Array Value}{x:Value}{Q:Fin->Shared->Prop}(hr:dY s.heap r t (i:Int))(ht:IsTup s.heap t its)(hx:its[i]?=some x)(hz:its.size<=sizeLine)
    (hQ:∀h' tk,dY h' r t ((i:Int)-1)->Heap.SameBut r s.heap h'->Q (.done (.ret x)) {s with heap:=h',toks:=tk}):wpAny (model prog w) A (Builtin.«reversed.__next__» ⟨[.ref r],[]⟩) Q E s:=by
  have hT:s.TypeIs (.ref t) "tuple":=Heap.IsTuple.typeIs (show s.heap.IsTuple t its from ht)
  have lk:typeLookup (.type "tuple") "__getitem__"=pure (some (.builtin "tuple.__getitem__")):=by rw[O3z,Q0z];rfl'
  unfold Builtin.«reversed.__next__»
  refine E5z (B5z (a:=(Value.ref r,[])) rfl ?_)
  refine E5z (A5z hr rfl (x:=.ref t) rfl (E5z (A5z hr rfl (x:=rawInt (i:Int)) rfl ?_)))
  show wpAny _ _ (if(i:Int)<0 then _ else _) _ _ s
  rw[Q5z (by omega)]
  have hi:i<its.size:=(Array.getElem?_eq_some_iff.mp hx).1
  have fit : (its.size : Int) < 2 ^ 63 := by have : sizeLine < 2 ^ 63 := by (rw [Y4z]; decide)
                                             omega
  have sq:seqIndex? (i:Int) its.size=some i:=by
    unfold seqIndex?
    simp
    omega
  refine E5z (P3z hT lk ?_)
  show wpAny _ _ (mkInt (i:Int) >>=_) Q E s
  refine E5z (wpAny_mkInt ?_)
  refine E5z (F4z (PyProof.Rows.getItem_tuple (s:={s with toks:=s.toks+1}) ht (by omega) (by omega) sq hx ?_))
  refine E5z (A5z (s:={s with toks:=s.toks+1}) hr rfl (x:=rawInt (i:Int)) rfl ?_)
  refine E5z (T1z (s:={s with toks:=s.toks+1}) hr (by simp) λh' hr' hs'=>F5z (hQ h' _ ?_ hs'))
  exact hr'
theorem Dg{r t:Addr}{Q:Fin->Shared->Prop}(hh:A.handled=none)(hr:dY s.heap r t (-1))
  (hE:∀h' e,Heap.ExtBut r s.heap h'->(∃o,h'.get? e=some o/\o.cls=.type "StopIteration")->E (.ref e) {s with heap:=h'}):wpAny (model prog w) A (Builtin.«reversed.__next__» ⟨[.ref r],[]⟩) Q E s:=by
 unfold Builtin.«reversed.__next__»;refine E5z (B5z (a:=(Value.ref r,[])) rfl ?_);refine E5z (A5z hr rfl (x:=.ref t) rfl (E5z (A5z hr rfl (x:=rawInt (-1)) rfl ?_)));show wpAny _ _ (if(-1:Int)<0 then _ else _) _ _ s;rw[P5z (by decide)]
 wp_walk using T1z hr (by simp)
 intro h1 e1 s1;refine T1z e1 (by simp) λh2 e2 s2=>?_;refine E5z ?_;unfold Builtin.SmallTypes.stopIteration;refine E5z ?_;simp only[newExc,newTuple];refine E5z (B2z (E5z (m:=firstArgMember _ _) (B5z (a:=Value.none) (by first | rfl | (simp only[firstArgMember];rfl)) (B2z ?_ (by size_fits)))) (by size_fits));simp only[raiseNew];refine E5z (wpAny_handled ?_)
 first | rw[show A.in1.handled=none from hh] | rw[hh]
 exact E5z (F5z (wpAny_throw (hE _ _ (((s1.trans s2).extBut.push _).push _) ⟨_,Heap.get?_push_size _ rfl,rfl⟩)))
theorem lC{r t:Addr}{i:Nat}{its:Array Value}{x:Value}{Q:Option Value->Shared->Prop}(hr:dY s.heap r t (i:Int))(ht:IsTup s.heap t its)(hx:its[i]?=some x)(hz:its.size<=sizeLine)
  (hQ:∀h' tk,dY h' r t ((i:Int)-1)->Heap.SameBut r s.heap h'->Q (some x) {s with heap:=h',toks:=tk}):wpAny (model prog w) A (pyNext (.ref r)) Q E s:=by
 have hT:s.TypeIs (.ref r) "reversed":=⟨_,hr,rfl⟩;unfold pyNext
 exact E5z (F4z (wpAny_callSpecial?_slot (name:=Str.ofString "__next__") hT RF.slot_next (U2z RF.slot_next hT RF.entry_next
  (yO hr ht hx hz λh' tk a b=>⟨_,rfl,F5z (hQ h' tk a b)⟩) (RF.args_next _))))
theorem fV{r t:Addr}{Q:Option Value->Shared->Prop}(hh:A.handled=none)(hr:dY s.heap r t (-1))(hQ:∀h',Heap.ExtBut r s.heap h'->Q none {s with heap:=h'}):wpAny (model prog w) A (pyNext (.ref r)) Q E s:=by
 have hT:s.TypeIs (.ref r) "reversed":=⟨_,hr,rfl⟩;unfold pyNext
 refine E5z (F4z (wpAny_callSpecial?_slot (name:=Str.ofString "__next__") hT RF.slot_next (U2z RF.slot_next hT RF.entry_next
  (Dg hh hr λh' e a ⟨o,e1,e2⟩=>E5z (wpAny_isInstance (T:="StopIteration") (b:=true) ⟨o,e1,e2⟩ isSubtype_stop (F5z (hQ h' a)))) (RF.args_next _))))
theorem eZ{r t:Addr}{i:Int}{Q:Value->Shared->Prop}(hr:dY s.heap r t i)(h:Q (.ref r) s):wpAny (model prog w) A (pyIter (.ref r)) Q E s:=by
 have hT:s.TypeIs (.ref r) "reversed":=⟨_,hr,rfl⟩;refine wpAny_pyIter_slot hT RF.pW (U2z RF.pW hT RF.wQ (show wpAny _ _ (ret (.ref r)) _ _ s from F5z ⟨_,rfl,"reversed",_,hT,RF.slot_next.lookup,h⟩) (RF.Cd _))
theorem Ae{r t:Addr}{i:Int}{its:Array Value}{Q:Value->Shared->Prop}(hr:dY s.heap r t i)(ht:IsTup s.heap t its)(hz:its.size<=sizeLine)(hi:i+1<=its.size)
    (hQ:∀tk tk',s.toks<=tk'->Q (.int (i+1) tk) {s with toks:=tk'}):wpAny (model prog w) A (call (.builtin "reversed.__length_hint__") [.ref r]) Q E s:=by
  have hT:s.TypeIs (.ref r) "reversed":=⟨_,hr,rfl⟩
  have fit : (its.size : Int) < 2 ^ 63 := by have : sizeLine < 2 ^ 63 := by (rw [Y4z]; decide)
                                             omega
  refine U2z RF.lA hT RF.wR ?_ (RF.Ce _)
  unfold Builtin.«reversed.__length_hint__»
  refine E5z (B5z (a:=Value.ref r) rfl ?_)
  refine E5z (A5z hr rfl (x:=.ref t) rfl ?_)
  have nn:¬ ((Value.ref t==Value.none)=true):=M1z
  show wpAny _ _ (if(Value.ref t==Value.none)=true then _ else _) _ _ s;rw[Q5z nn]
  refine E5z (PyProof.Rows.len_tuple ht fit (E5z (B5z (a:=some (its.size:Int)) rfl ?_)))
  refine E5z (A5z (s:={s with toks:=s.toks+1+1}) hr rfl (x:=rawInt i) rfl ?_)
  show wpAny _ _ (if(its.size:Int)<i+1 then _ else _) _ _ _
  rw[Q5z (by omega)]
  exact E5z (wpAny_mkInt (F5z ⟨_,rfl,hQ _ _ (by show s.toks<=s.toks+1+1+1;omega)⟩))
theorem xH(hh:A.handled=none)(r t:Addr)(hne:t≠r)(its:Array Value)(hz:its.size<=sizeLine) :
  Walks prog w A r [r,t] [r] its.size (λi v=>its[its.size-1-i]?=some v) (λi h=>i<=its.size/\dY h r t ((its.size:Int)-1-(i:Int))/\IsTup h t its) where
 sub:=λb hb=>by simp at hb;simp[hb]
 frame:=λ_ _ _ x hk=>⟨x.1,hk r (by simp) _ x.2.1,let ⟨o,e,q⟩:=x.2.2;⟨o,hk t (by simp) o e,q⟩⟩
 item:=λi s Q E hi x hQ=>by
  have e1:(its.size:Int)-1-(i:Int)=((its.size-1-i:Nat):Int):=by omega
  have hr:=x.2.1;rw[e1] at hr;have hx:its[its.size-1-i]?=some (its[its.size-1-i]'(by omega)):=Array.getElem?_eq_getElem (by omega);refine lC hr x.2.2 hx hz λh' tk hr' hs'=>?_
  have e2:((its.size-1-i:Nat):Int)-1=(its.size:Int)-1-((i+1:Nat):Int):=by omega
  rw[e2] at hr';exact hQ _ h' tk hx ⟨hi,hr',let ⟨o,e,q⟩:=x.2.2;⟨o,(hs'.2 t hne).trans e,q⟩⟩ λb o hb eo=>hs'.extBut b o (λh=>hb (by simp[h])) eo
 done:=λs Q E x hQ=>by
  have e1:(its.size:Int)-1-(its.size:Int)=-1:=by omega
  have hr:=x.2.1;rw[e1] at hr;exact fV hh hr λh' he'=>hQ h' s.toks λb o hb eo=>he' b o (λh=>hb (by simp[h])) eo
 self:=λ_ _ _ _ x hQ=>eZ x.2.1 hQ
theorem qT{r t:Addr}{its:Array Value}{Q:List Value->Shared->Prop}(hh:A.handled=none)(hr:dY s.heap r t ((its.size:Int)-1))(ht:IsTup s.heap t its)(hz:its.size<=sizeLine)
  (hQ:∀s' acc,Moved [r] (λa b=>b=a) s s'->ItemsOf (λi v=>its[its.size-1-i]?=some v) acc its.size->Q acc.toList s'):wpAny (model prog w) A (collect (.ref r)) Q E s:=by
 have hne:t≠r:=λe=>by
  obtain⟨o,e1,e2,_⟩:=ht;rw[e,hr] at e1;have e3:=congrArg Obj.cls (G3z e1);have e4:Value.type "reversed"=Value.type "tuple":=e3.trans e2;exact absurd e4 (by decide)
 have W:=(xH (prog:=prog) (w:=w) (A:=A.in1.in1) hh r t hne its hz).toS
 have fresh:∀b∈[r,t],b<s.heap.objs.size:=λb hb=>by
  simp at hb;rcases hb with rfl | rfl
  .exact N4z hr
  .exact ht.lt
 have nf:s.heap.objs.size∉[r,t]:=λhm=>C4z _ (fresh _ hm);have nr:s.heap.objs.size≠r:=λe=>nf (by simp[e]);have hT:s.TypeIs (.ref r) "reversed":=⟨_,hr,rfl⟩;unfold collect;refine E5z (wpAny_runValue (Q3z F.entry_proto_collect ?_));rw[Y0z F.plain_proto_collect _];show wpAny _ A.in1 (newList [] >>=λl=>again (.builtin "list.__iadd__" ⟨[l,.ref r],[]⟩)) _ _ s;refine E5z (B2z (F5z ⟨G4z F.plain_list_iadd _,Q3z F.entry_list_iadd ?_⟩));rw[Y0z F.plain_list_iadd _];have hS₁:(s.heap.push {cls:=.type "list",data:=.seq ([]:List Value).toArray}).get? s.heap.objs.size=some {cls:=.type "list",data:=.seq ([]:List Value).toArray}:=Heap.get?_push_size _ rfl;have hr₁:dY (s.heap.push {cls:=.type "list",data:=.seq ([]:List Value).toArray}) r t ((its.size:Int)-1):=Heap.get?_push_of_some _ hr;have ht₁:IsTup (s.heap.push {cls:=.type "list",data:=.seq ([]:List Value).toArray}) t its:=let ⟨o,e,q⟩:=ht;⟨o,Heap.get?_push_of_some _ e,q⟩;show wpAny _ A.in1 (Builtin.List.listExtendWith (.ref s.heap.objs.size) (.ref r) (.ref s.heap.objs.size)) _ _ _;have hT₁:({s with heap:=s.heap.push {cls:=.type "list",data:=.seq ([]:List Value).toArray} }:Shared).TypeIs (.ref r) "reversed":=⟨_,hr₁,rfl⟩
 have h1:Builtin.List.listSameRef (.ref s.heap.objs.size) (.ref r)=false:=by simp[Builtin.List.listSameRef,nr]
 unfold Builtin.List.listExtendWith;refine E5z (U4z hT₁ ?_);rw[Q5z (by rw[h1];decide)];refine E5z (eZ hr₁ ?_);refine E5z (H4z ?_);unfold Builtin.List.listLengthHint;refine E5z (P3z hT₁ RF.Pk ?_);refine E5z (m:=specialOf (Value.ref r) (Str.ofString "__length_hint__")) (P3z hT₁ RF.lA.lookup ?_)
 have sp:splitId "reversed.__length_hint__"=some ("reversed","__length_hint__"):=by decide +kernel
 dsimp only;rw[sp];dsimp only;refine E5z (wpAny_isInstance (b:=true) hT₁ RF.sub_self ?_);rw[Q5z (by decide),Q5z (by decide +kernel)];refine E5z (G5z (E5z (B5z (RF.lA.bind _) ?_)));dsimp only;refine E5z (F4z (Ae hr₁ ht₁ hz (by omega) λtk tk' htk=>?_));dsimp only;refine E5z (B5z (a:=some (((its.size:Int)-1)+1)) rfl ?_);dsimp only
 have fit:sizeLine<2^62:=by rw[Y4z];decide
 have f1:Builtin.List.listFitsIndex ((its.size:Int)-1+1)=true:=by
  unfold Builtin.List.listFitsIndex;simp;omega
 have f2:Builtin.List.listTooLong ((its.size:Int)-1+1).toNat=false:=by
  unfold Builtin.List.listTooLong;simp;omega
 rw[Q5z (by rw[f1];decide),Q5z (by omega),Q5z (by rw[f2];decide)]
 refine F5z ?_
 have loop:∀h':Heap,(∀b o,b≠s.heap.objs.size->(s.heap.push {cls:=.type "list",data:=.seq ([]:List Value).toArray}).get? b=some o->h'.get? b=some o)->(∃c,h'.get? s.heap.objs.size=some {cls:=.type "list",dict:=none,data:=.seq #[] c,slots := #[]}) ->
   ∀tk,s.toks<=tk->codeAny (model prog w) A (.builtin "list.extend.loop" ⟨[.ref s.heap.objs.size,.ref r,.ref s.heap.objs.size],[]⟩) (λr s'=>match r with
    | .ok (.ret v)=>wpAny (model prog w) A (match v with | .ref a=>do (match (<- load a).data with | .seq xs _=>pure xs.toList | _=>unsupported "internal:collect") | _=>unsupported "internal:collect") Q E s'
    | .ok _=>False
    | .error e=>E e s') {s with heap:=h',toks:=tk}:=by
  intro h' kp ⟨c,hS⟩ tk htk;have kp':∀b o,s.heap.get? b=some o->h'.get? b=some o:=λb o e=>kp b o (O4z (N4z e)) (Heap.get?_push_of_some _ e);refine codeAny_extend_loopS W.of_in1 hz _ nf _ its.size 0 _ #[] c rfl (Z4z _) ⟨Z4z _,by simpa using kp' _ _ hr,let ⟨o,e,q⟩:=ht;⟨o,kp' _ o e,q⟩⟩ hS (ItemsOf.nil _) λs' acc' c' hm hS' hacc=>?_;show wpAny _ A (load s.heap.objs.size >>=_) _ _ s';refine E5z (wpAny_load hS' (F5z (hQ s' acc' ⟨λb o hb e=>?_,hm.gens,hm.drawn,hm.os,P4z htk hm.toks⟩ hacc)));exact hm.heap b o (by simp at hb ⊢;exact⟨O4z (N4z e),hb⟩) (kp' b o e)
 refine wpAny_ite_split (λ_=>?_) (λ_=>F5z ⟨G4z F.plain_extend_loop _,loop _ (λb o _ e=>e) ⟨_,hS₁⟩ tk' htk⟩);refine E5z (G5z (E5z ?_));show wpAny _ A.in1 (updateSeq s.heap.objs.size (·.push .none) >>=λ_=>updateSeq s.heap.objs.size (·.pop)) _ _ _;refine E5z (wpAny_updateSeq (s:={s with heap:=s.heap.push {cls:=.type "list",data:=.seq ([]:List Value).toArray},toks:=tk'}) hS₁ rfl ?_);have hS₂:=Heap.get?_update_self (Obj.mapSeq (·.push Value.none)) hS₁ rfl;refine wpAny_updateSeq hS₂ rfl (F5z ⟨G4z F.plain_extend_loop _,loop _ (λb o hb e=>?_) ⟨_,Heap.get?_update_self (Obj.mapSeq (·.pop)) hS₂ rfl⟩ tk' htk⟩);exact(Heap.get?_update_other _ _ (N5z hb)).trans ((Heap.get?_update_other _ _ (N5z hb)).trans e)
theorem mj{r t:Addr}{its:Array Value}{Q:Value->Shared->Prop}(hh:A.handled=none)(hr:dY s.heap r t ((its.size:Int)-1))(ht:IsTup s.heap t its)(hz:its.size<=sizeLine)
  (hQ:∀s' acc,Moved [r] (λa b=>b=a) s s'->ItemsOf (λi v=>its[its.size-1-i]?=some v) acc its.size->Q (.ref s'.heap.objs.size) {s' with heap:=s'.heap.push {cls:=.type "tuple",data:=.seq acc} }) :
  wpAny (model prog w) A (call (.type "tuple") [.ref r]) Q E s:=by
 have hT:s.TypeIs (.ref r) "reversed":=⟨_,hr,rfl⟩
 refine callType_codes (Q₁:=λobj s₁=>s₁.TypeIs obj "tuple"/\Q obj s₁) F.called_tuple (F.typeCall_tuple_1 _) F.entry_object_init (codeAny_of_tree ?_) λobj s₁ h₁ =>
  ⟨h₁.1,F.args_object_init_2 obj _,object_init_meets F.called_tuple.init.lookup F.called_tuple.made (by decide) prog w A.in1 _ s₁ ⟨h₁.1,rfl,h₁.2⟩⟩
 show wpAny _ A.in1.in1 (do checkBuiltinCall "tuple.__new__" ⟨[.type "tuple",.ref r],[]⟩;again (.builtin "tuple.__new__" ⟨[.type "tuple",.ref r],[]⟩)) _ _ s
 refine E5z (B5z (F.newCall_tuple_1 _) (F5z ⟨G4z F.plain_tuple_new _,Q3z F.entry_tuple_new ?_⟩));rw[Y0z F.plain_tuple_new _];have hsub:=sub_tuple_self;have hinit:=init_tuple_lookup;have hmh:=madeHere_tuple
 wp_walk using U4z hT,qT (A:=A.in1.in1) hh hr ht hz
 intro s' acc hm hacc;show wpAny _ _ (Builtin.Tuple.tupleExact acc.toList.toArray >>=λv=>ret v) _ _ _;unfold Builtin.Tuple.tupleExact
 have e:acc.toList.toArray=acc:=by simp
 rw[e];exact E5z (B2z (F5z ⟨⟨_,Heap.get?_push_size _ rfl,rfl⟩,hQ s' acc hm hacc⟩) (by show acc.size<=sizeLine;rw[hacc.1];exact hz))
end
end L2
namespace L2
open PySem PySem.Spec PyProof.Rows PySem.SeqAt
section
variable{prog:Program}{w:World}{A:Around}{E:Value->Shared->Prop}{s:Shared}
end
end L2
namespace L2
open PySem PySem.Spec PyProof.Rows
def Itv(K:Zf)(t:Addr)(n:Nat):It :=
 ⟨λi H=>∃ys,SqT K H t ys/\ys.length=n/\i<n,λi H x H'=>H'=H/\∀ys,SqT K H t ys->ys[n-1-i]?=some x,λi _=>i=n⟩
theorem CJ{P:Program}{w:World}{K:Zf}{tg:Expr}(t r:Addr)(n:Nat)(hz:n<=sizeLine):Turn P w K tg (Itv K t n) [r] r (λi h=>dY h r t ((n:Int)-1-(i:Int))) where
 mem:=by simp
 obj:=λi h st b hb=>by
  have e:b=r:=by simpa using hb
  subst e
  exact⟨_,st,λv z=>by
   have z':Data.fields _=Data.cell v:=z
   cases z'⟩
 keep:=λi h h' st k=>k r (by simp) _ st
 item:=by
  intro X hP hw hK hc i z0 s Y H E I hf st hg;subst hP hw hK;obtain⟨ys,hq,hl,hi⟩:=hg;obtain⟨its,rv,p,hz'⟩:=I.tuple hq
  have hn:its.length=n:=by rw[<- rv.length,hl]
  obtain⟨f0,f1,f2,f3,f4,f5⟩:=hf r (by simp)
  have e1:(n:Int)-1-(i:Int)=((n-1-i:Nat):Int):=by omega
  have st':=st;rw[e1] at st'
  have hlt:n-1-i<its.length:=by omega
  obtain⟨x,hx,rx⟩:∃x,ys[n-1-i]?=some x/\RelV x its[n-1-i]:=by
   have hly:n-1-i<ys.length:=by omega
   obtain⟨u,hu,ru⟩:=rv.get (i:=n-1-i) (x:=ys[n-1-i]) (by simp);rw[List.getElem?_eq_getElem hlt] at hu;cases hu;exact⟨_,by simp,ru⟩
  refine lC st' p (x:=its[n-1-i]) (by simp[hlt]) (by simp;omega) λh' tk st2 sb=>?_
  have I1:Inv X z0 Y H {s with heap:=h',toks:=tk}:=I.turned (λb o hb e=>(sb.2 b hb).trans e) f0 f1 f3 f4 f5
  have e2:((n-1-i:Nat):Int)-1=(n:Int)-1-((i+1:Nat):Int):=by omega
  rw[e2] at st2;exact⟨_,rfl,wK (s:={s with heap:=h',toks:=tk}) (n:="reversed") st2 rfl rfl (by decide) ⟨x,H,I1,rx,⟨rfl,λzs hy=>by rw[I.tuple_inj hy hq];exact hx⟩,st2,λb hb=>(hf b hb).1⟩⟩
 done:=by
  intro X hP hw hK hc i z0 s Y H E I hf st hg;subst hP hw hK;obtain⟨f0,f1,f2,f3,f4,f5⟩:=hf r (by simp);have hg':i=n:=hg
  have e1:(n:Int)-1-(i:Int)=-1:=by omega
  rw[e1] at st;exact fV (I.ok.hd hc) st λh' eb=>⟨rfl,I.turned (t':=s.toks) (λb o hb e=>eb b o hb e) f0 f1 f3 f4 f5⟩
 self:=λ_ _ _ _ _ st h=>eZ st h
def Itz(K:Zf)(t1 t2:Addr):It :=
  ⟨λi H=>∃xs ys x y,SqT K H t1 xs/\SqT K H t2 ys/\xs[i]?=some x/\ys[i]?=some y,
   λi H v H'=>∃p,H p=none/\v=.ref p/\∀xs ys x y,SqT K H t1 xs->SqT K H t2 ys->xs[i]?=some x->ys[i]?=some y->H'=upd H p (.tup [x,y]),
   λi H=>∃xs ys,SqT K H t1 xs/\SqT K H t2 ys/\(xs.length<=i\/ys.length<=i)⟩
theorem Inv.turnedNew{X:Cx}{z0:List (Addr×Obj)}{Y:St}{H:Hp}{s:Shared}{h':Heap}{ch:List Addr}{o:HO}{t':Nat}(I:Inv X z0 Y H s)(hf:∀b∈ch,vV X z0 H b)(k:∀b u,b∉ch->s.heap.get? b=some u->h'.get? b=some u)
  (new:cQ X.prog X.w (upd H s.heap.objs.size o) h' s.heap.objs.size o):Inv X z0 Y (upd H s.heap.objs.size o) {s with heap:=h',toks:=t'}:=by
 have hn:H s.heap.objs.size=none:=I.hok.fresh (X4z _);refine I.call' (s':={s with heap:=h',toks:=t'}) (ch:=ch) rfl ?_ ?_ I.bare λb hb=>⟨(hf b hb).2.2.2.1,(hf b hb).2.1,(hf b hb).2.2.2.2.1,(hf b hb).2.2.2.2.2⟩
 .refine⟨λb u e _ _ hc=>k b u hc e,λb u e _ _ hc=>⟨u.slots,k b u hc e⟩,λb u e n hc=>?_,λb u e hc=>⟨u,k b u hc e⟩,λb xs e=>?_,λb u xs e=>?_,λb ps e=>⟨#[],?_⟩⟩
  .rw[aj (O4z (N4z e))];exact n
  .rw[aj (ak e hn)];exact e
  .rw[aj (ak e hn)];exact e
  .rw[aj (ak e hn),e];simp
 .intro b u e
  by_cases hb:b=s.heap.objs.size
  .subst hb;rw[aB] at e;cases e;exact new
  .rw[aj hb] at e
   refine(I.hok b u e).stay (λc v hc q=>k c v (λz=>?_) q) (λc q=>by rw[aj (ak q hn)];exact q) λc xs q=>by rw[aj (ak q hn)];exact q
   have zn:=(hf c z).1;rcases hc with rfl | hc
   .rw[zn] at e;cases e
   .rw[zn] at hc;cases hc
theorem Inv.turnedAll{X:Cx}{z0:List (Addr×Obj)}{Y:St}{H:Hp}{s:Shared}{h':Heap}{ch:List Addr}{t':Nat}(I:Inv X z0 Y H s)(hf:∀b∈ch,vV X z0 H b)(k:∀b u,b∉ch->s.heap.get? b=some u->h'.get? b=some u) :
  Inv X z0 Y H {s with heap:=h',toks:=t'}:=by
 refine I.call' (s':={s with heap:=h',toks:=t'}) (ch:=ch) rfl ?_ ?_ I.bare λb hb=>⟨(hf b hb).2.2.2.1,(hf b hb).2.1,(hf b hb).2.2.2.2.1,(hf b hb).2.2.2.2.2⟩
 .exact⟨λb u e _ _ hc=>k b u hc e,λb u e _ _ hc=>⟨u.slots,k b u hc e⟩,λb u e n hc=>n,λb u e hc=>⟨u,k b u hc e⟩,λb xs e=>e,λb u xs e=>e,λb ps e=>⟨#[],by rw[e];simp⟩⟩
 .intro b u e
  refine(I.hok b u e).stay (λc v hc q=>k c v (λz=>?_) q) (λc q=>q) λc xs q=>q;have zn:=(hf c z).1;rcases hc with rfl | hc
  .rw[zn] at e;cases e
  .rw[zn] at hc;cases hc
theorem Cz{P:Program}{w:World}{K:Zf}{es:List Expr}{kt:Nat}{pt:Pos}{z ti to i1 i2 t1 t2:Addr}(D:ZipApart z ti to i1 i2 t1 t2) :
    Turn P w K (.Tuple es kt pt) (Itz K t1 t2) [z,ti,to,i1,i2] z (λi h=>ZT h z ti to i1 i2 t1 t2 i .none) where
  mem:=by simp
  obj:=λi h st b hb=>by
    simp at hb
    rcases hb with rfl | rfl | rfl | rfl | rfl
    . exact⟨_,st.hz,λv q=>by have q':Data.fields _=Data.cell v:=q;cases q'⟩
    . exact⟨_,st.hi,λv q=>by have q':Data.seq _ _=Data.cell v:=q;cases q'⟩
    . obtain⟨a,c,e⟩:=st.ho
      exact⟨_,e,λv q=>by have q':Data.seq _ _=Data.cell v:=q;cases q'⟩
    . obtain⟨o,e,_,d⟩:=st.h1
      exact⟨o,e,λv q=>by rw[d] at q;cases q⟩
    . obtain⟨o,e,_,d⟩:=st.h2
      exact⟨o,e,λv q=>by rw[d] at q;cases q⟩
  keep:=λi h h' st k=>st.keep k
  item:=by
    intro X hP hw hK hc i z0 s Y H E I hf st hg
    subst hP hw hK
    obtain⟨xs,ys,x,y,hq1,hq2,hx,hy⟩:=hg
    obtain⟨its1,rv1,p1,_⟩:=I.tuple hq1
    obtain⟨its2,rv2,p2,_⟩:=I.tuple hq2
    obtain⟨u1,hu1,ru1⟩:=rv1.get hx
    obtain⟨u2,hu2,ru2⟩:=rv2.get hy
    refine lB (I.ok.hd hc) D st (show s.heap.IsTuple t1 its1.toArray from p1) (show s.heap.IsTuple t2 its2.toArray from p2) (λa b h' ha hb Z pr sz kp=>?_) λh' hn _=>?_
    . have ea : a = u1 := by have : its1[i]? = some a := by simpa using ha
                             rw[hu1] at this;exact(G3z this).symm
      have eb : b = u2 := by have : its2[i]? = some b := by simpa using hb
                             rw[hu2] at this;exact(G3z this).symm
      subst ea eb
      have szl:2<=sizeLine:=by decide
      have hf4:∀c∈[z,to,i1,i2],vV X z0 H c:=λc hc'=>hf c (by simp at hc' ⊢;rcases hc' with h | h | h | h<;>simp[h])
      have I1:Inv X z0 Y (upd H s.heap.objs.size (.tup [x,y])) {s with heap:=h',toks:=s.toks}:=I.turnedNew hf4 kp ⟨szl,[a,b],.cons ru1 (.cons ru2 .nil),⟨_,pr,rfl,_,rfl⟩⟩
      have fresh:H s.heap.objs.size=none:=I.hok.fresh (X4z _)
      have ltf:∀c∈[z,ti,to,i1,i2],c≠s.heap.objs.size:=λc hc' e=>by
        have:H c=none:=(hf c hc').1
        simp at hc'
        have lt:c<s.heap.objs.size:=by
          rcases hc' with rfl | rfl | rfl | rfl | rfl
          . exact N4z st.hz
          . exact N4z st.hi
          . obtain⟨_,_,e'⟩:=st.ho;exact N4z e'
          . obtain⟨o,e',_⟩:=st.h1;exact N4z e'
          . obtain⟨o,e',_⟩:=st.h2;exact N4z e'
        exact O4z lt e
      refine⟨_,rfl,wpAny_letOwnedTupleGo_zip (s:={s with heap:=h'}) Z.hz λh2 z2 sb=>?_⟩
      have fz:=hf z (by simp)
      have I2:Inv X z0 Y (upd H s.heap.objs.size (.tup [x,y])) {s with heap:=h2}:=I1.turned (t':=s.toks) (λc o hc' e=>(sb.2 c hc').trans e) (by rw[aj (ltf z (by simp))];exact fz.1) fz.2.1 fz.2.2.2.1 fz.2.2.2.2.1 fz.2.2.2.2.2
      refine⟨.ref s.heap.objs.size,_,I2,rfl,⟨_,fresh,rfl,λxs' ys' x' y' a1 a2 a3 a4=>?_⟩,?_,λc hc'=>by rw[aj (ltf c hc')];exact(hf c hc').1⟩
      . have e1:=I.tuple_inj a1 hq1
        have e2:=I.tuple_inj a2 hq2
        subst e1 e2
        rw[hx] at a3;rw[hy] at a4
        cases a3;cases a4
        rfl
      . obtain⟨a',b',e'⟩:=Z.ho
        exact⟨z2,(sb.2 ti D.TIz).trans Z.hi,⟨a',b',(sb.2 to D.TOz).trans e'⟩,Z.h1.at λo e=>(sb.2 i1 D.i1z).trans e,Z.h2.at λo e=>(sb.2 i2 D.i2z).trans e⟩
    . rcases hn with hn | hn
      . have:its1[i]?=none:=by simpa using hn
        rw[hu1] at this;cases this
      . have:its2[i]?=none:=by simpa using hn
        rw[hu2] at this;cases this
  done:=by
    intro X hP hw hK hc i z0 s Y H E I hf st hg
    subst hP hw hK
    obtain⟨xs,ys,hq1,hq2,hl⟩:=hg
    obtain⟨its1,rv1,p1,_⟩:=I.tuple hq1
    obtain⟨its2,rv2,p2,_⟩:=I.tuple hq2
    have l1:=rv1.length
    have l2:=rv2.length
    refine lB (I.ok.hd hc) D st (show s.heap.IsTuple t1 its1.toArray from p1) (show s.heap.IsTuple t2 its2.toArray from p2) (λa b h' ha hb Z pr sz kp=>?_) λh' _ kp=>⟨rfl,?_⟩
    . exfalso
      have h1 : i < its1.length := by have : its1[i]? = some a := by simpa using ha
                                      exact(List.getElem?_eq_some_iff.mp this).1
      have h2 : i < its2.length := by have : its2[i]? = some b := by simpa using hb
                                      exact(List.getElem?_eq_some_iff.mp this).1
      omega
    . have hf4:∀c∈[z,to,i1,i2],vV X z0 H c:=λc hc'=>hf c (by simp at hc' ⊢;rcases hc' with h | h | h | h<;>simp[h])
      exact I.turnedAll (t':=s.toks) hf4 kp
  self:=λ_ _ _ _ _ st h=>wpAny_pyIter_zip st.hz h
section
variable{X:Cx}
def WD(K:Zf)(ta:TA):TI:=λY H R=>ta Y H λvs H1=>∃a b,vs=[.ref a,.ref b]/\(∃xs,SqT K H1 a xs)/\(∃ys,SqT K H1 b ys)/\R (Itz K a b) H1
theorem Og{a b:Expr}{ta:TA}{p pos pt:Pos}{es:List Expr}{kt:Nat}(hg:Gl X "zip")(hm:X.mg "zip"=none)(ha:PA X [a,b] ta)(hs:starEach [a,b] X.env=[(false,eval a X.env),(false,eval b X.env)])(hs2:starEach [b] X.env=[(false,eval b X.env)]) :
  PI X (.Tuple es kt pt) (.Call (.Name "zip" p) [a,b] [] pos) (WD X.K ta):=by
 intro z0 s Y H R I h;refine Call_ (jO I hg hm boot_zip (A0z (thn (ha pos z0 s Y H _ I h) λus s1 ⟨vs,H1,I1,r1,q1⟩=>?_) (by rw[hs,hs2]) (by rw[hs2];rfl)));obtain⟨a1,b1,e,⟨xs,hx⟩,⟨ys,hy⟩,q⟩:=q1;subst e
 cases r1 with
 | cons r rr =>
  cases rr with
  | cons r' rr =>
   cases rr;cases (show _=Value.ref a1 from r);cases (show _=Value.ref b1 from r');obtain⟨its1,_,p1,_⟩:=I1.tuple hx;obtain⟨its2,_,p2,_⟩:=I1.tuple hy;refine Bp (show s1.heap.IsTuple a1 its1.toArray from p1) (show s1.heap.IsTuple b1 its2.toArray from p2) λh' kp sz Z=>?_;refine wpAny_pyIter_zip (s:={s1 with heap:=h'}) Z.hz ?_;have I2:Inv X z0 Y H1 {s1 with heap:=h'}:=I1.kept (t':=s1.toks) kp;refine⟨s1.heap.objs.size+4,_,_,_,H1,rfl,I2,Cz (zipApart_new p1.lt p2.lt),Z,λc hc=>?_,q⟩
   have hc':s1.heap.objs.size<=c:=by
    simp at hc
    rcases hc with h | h | h | h | h<;>rw[h]<;>first | exact X4z _ | exact W2z _ _
   exact I1.fpOk hc' (I1.hok.fresh hc')
def WM(K:Zf)(ta:TA):TI:=λY H R=>ta Y H λvs H1=>∃a xs,vs=[.ref a]/\SqT K H1 a xs/\R (Itv K a xs.length) H1
theorem Oj{a:Expr}{ta:TA}{p pos:Pos}{tg:Expr}(hg:Gl X "reversed")(hm:X.mg "reversed"=none)(ha:PA X [a] ta)(hs:starEach [a] X.env=[(false,eval a X.env)]) :
  PI X tg (.Call (.Name "reversed" p) [a] [] pos) (WM X.K ta):=by
 intro z0 s Y H R I h;refine Call_ (jO I hg hm boot_reversed (A0z (thn (ha pos z0 s Y H _ I h) λus s1 ⟨vs,H1,I1,r1,q1⟩=>?_) hs rfl));obtain⟨a1,xs,e,hx,q⟩:=q1;subst e
 cases r1 with
 | cons r rr =>
  cases rr;cases (show _=Value.ref a1 from r);obtain⟨its1,rv,p1,hz⟩:=I1.tuple hx;have hl:=rv.length;refine qX p1 (by simp;omega) λtk=>?_
  have st:dY (s1.heap.push (Dh a1 ((its1.toArray.size:Int)-1))) s1.heap.objs.size a1 ((xs.length:Int)-1-((0:Nat):Int)):=by
   have e0:((xs.length:Int)-1-((0:Nat):Int))=(its1.toArray.size:Int)-1:=by rw[D2z];omega
   rw[e0];exact Heap.get?_push_size _ rfl
  refine eZ (s:={s1 with heap:=s1.heap.push (Dh a1 ((its1.toArray.size:Int)-1)),toks:=tk}) st ?_;refine⟨s1.heap.objs.size,_,_,_,H1,rfl,I1.kept (t':=tk) λb o e=>Heap.get?_push_of_some _ e,CJ a1 _ xs.length hz,st,λc hc=>?_,q⟩
  have hc':c=s1.heap.objs.size:=by simpa using hc
  subst hc';exact I1.fpOk (X4z _) (I1.hok.fresh (X4z _))
end
section
variable{X:Cx}
end
section
variable{X:Cx}{tg:Expr}
end
section
variable{prog:Program}{w:World}{A:Around}{E:Value->Shared->Prop}{s:Shared}
end
section
variable{X:Cx}
end
section
variable{X:Cx}
end
section
variable{prog:Program}{w:World}{A:Around}{E:Value->Shared->Prop}{s:Shared}
end
section
variable{X:Cx}
end
section
variable{prog:Program}{w:World}{A:Around}{E:Value->Shared->Prop}{s:Shared}
end
section
variable{X:Cx}
end
section
variable{X:Cx}
end
end L2
namespace L2
open PySem PySem.Spec PyProof.Rows PySem.SeqAt
section
variable{X:Cx}
def SM(K:Zf):R2:=λx y H Q=>∃l b us zs,x=.ref l/\y=.ref b/\SqL K H l us/\SqL K H b zs/\us.length+zs.length<=sizeLine/\∀p,H p=none->Q (.ref p) (upd H p (.lst (us++zs)))
theorem JV:OpR X (binaryOp .Add) (SM X.K):=by
 intro z0 s Y H x y v u Q I rx ry h;obtain⟨l,b,us,zs,rfl,rfl,hH,hB,hz,q⟩:=h;cases (show v=Value.ref l from rx);cases (show u=Value.ref b from ry);obtain⟨its,r,pl,z1⟩:=I.list hH;obtain⟨its2,r2,pl2,z2⟩:=I.list hB;have e1:=r.length;have e2:=r2.length;obtain⟨⟨c1,d1,w1,t1⟩,n1,o1,hc1,hd1,hs1⟩:=pl;obtain⟨⟨c2,d2,w2,t2⟩,n2,o2,hc2,hd2,hs2⟩:=pl2;simp only at hc1 hs1 hc2 hs2;subst hc1 hs1 hc2 hs2;refine concat_meets ⟨_,o1,rfl⟩ ⟨_,o2,rfl⟩ noFill_list_add seq_list_add PySem.F.slot_list_add PySem.F.entry_list_add (PySem.F.args_list_add_2 _ _) (list_addW l b its.toArray its2.toArray n1 n2 d1 d2 t1 t2 (by rw[D2z,D2z];omega)) ⟨o1,o2,?_⟩;rw[show its.toArray++its2.toArray=(its++its2).toArray by simp];exact⟨.ref _,_,I.lnew (t':=s.toks) (r.append r2) (by rw[Q1z];omega),rfl,q _ I.fresh⟩
end
section
variable{X:Cx}
end
section
variable{prog:Program}{w:World}{A:Around}{E:Value->Shared->Prop}{s:Shared}
theorem wY(n:Nat):Builtin.Slice.sliceAdjust none none (-1) (n:Int)=((n:Int)-1,-1):=by
 unfold Builtin.Slice.sliceAdjust;simp
theorem wD(n:Nat):Builtin.Slice.slicePlaces ((n:Int)-1) (-1) (-1)=n:=by
 unfold Builtin.Slice.slicePlaces
 have h1:¬ ((-1:Int)>0):=by omega
 simp only[h1,M5z];split
 .rw[show(- -1:Int)=1 from rfl,Int.ediv_one];omega
 .omega
theorem jV{sl:Addr}{n:Nat}{u:Tok}{Q:Int×Int×Nat->Shared->Prop}(hs:s.heap.IsSliceOf sl .none .none (.int (-1) u))(h:Q ((n:Int)-1,-1,n) s) :
  wpAny (model prog w) A (Builtin.Slice.sliceApplied (.ref sl) (pure (n:Int))) Q E s:=by
 obtain⟨os,hos,hcs,hds⟩:=id hs;unfold Builtin.Slice.sliceApplied Builtin.Slice.sliceFields;refine E5z (E5z (A5z hos hds (x:=.none) rfl (E5z (A5z hos hds (x:=.none) rfl (E5z (A5z hos hds (x:=.int (-1) u) rfl (F5z ?_)))))));refine E5z (slicePart_int ?_);show wpAny _ _ (if((-1:Int)==0)=true then _ else _) _ _ s;rw[Q5z (by decide)];refine E5z (slicePart_none (E5z (slicePart_none (E5z (F5z ?_)))));show wpAny _ _ (match Builtin.Slice.sliceAdjust none none (-1) (n:Int) with | (lo,hi)=>pure (lo,(-1:Int),Builtin.Slice.slicePlaces lo hi (-1))) _ _ s;rw[wY n];show wpAny _ _ (pure ((n:Int)-1,(-1:Int),Builtin.Slice.slicePlaces ((n:Int)-1) (-1) (-1))) _ _ s;rw[wD n];exact F5z h
theorem yV(its:List Value):((List.range its.length).filterMap λ(k:Nat)=>its.toArray[(((its.length:Int)-1)+(k:Int)*(-1)).toNat]?).toArray=its.reverse.toArray:=by
 congr 1
 have e3:(List.range its.length).map (λ(k:Nat)=>its.toArray[(((its.length:Int)-1)+(k:Int)*(-1)).toNat]?)=its.reverse.map some:=by
  apply List.ext_getElem?;intro i
  by_cases h:i<its.length
  .rw[List.getElem?_map,List.getElem?_range h,List.getElem?_map,List.getElem?_reverse h,M3z,List.getElem?_toArray,show(((its.length:Int)-1)+(i:Int)*(-1)).toNat=its.length-1-i by omega,List.getElem?_eq_getElem (by omega),M3z]
  .rw[List.getElem?_eq_none (by simp;omega),List.getElem?_eq_none (by simp;omega)]
 have e4:(List.range its.length).filterMap (λ(k:Nat)=>its.toArray[(((its.length:Int)-1)+(k:Int)*(-1)).toNat]?)=((List.range its.length).map (λ(k:Nat)=>its.toArray[(((its.length:Int)-1)+(k:Int)*(-1)).toNat]?)).filterMap id:=by
  rw[List.filterMap_map];rfl
 rw[e4,e3,List.filterMap_map];simp
theorem jE{t sl:Addr}{its:List Value}{u:Tok}{Q:Value->Shared->Prop}(ht:IsTup s.heap t its.toArray)(hs:s.heap.IsSliceOf sl .none .none (.int (-1) u))
  (h:Q (.ref s.heap.objs.size) {s with heap:=s.heap.push {cls:=.type "tuple",data:=.seq its.reverse.toArray} })
  (hsz:its.length<=sizeLine):wpAny (model prog w) A (getItem (.ref t) (.ref sl)) Q E s:=by
 have hrev:sizeOk (.seq its.reverse.toArray):=by
  show its.reverse.toArray.size<=sizeLine;rw[D2z,F1z];exact hsz
 obtain⟨os,hos,hcs,hds⟩:=id hs;have hTs:s.TypeIs (.ref sl) "slice":=⟨os,hos,hcs⟩;unfold getItem
 try with_reducible refine H4z ?_
 first | refine E5z (F5z ?_) | skip
 refine E5z (wpAny_sequenceKey ht.typeIs (by decide) ?_)
 refine E5z (wpAny_callSpecial?_slot (name:=Str.ofString "__getitem__") ht.typeIs slot_tuple_getitem
  (U2z slot_tuple_getitem ht.typeIs entry_tuple_getitem ?_ (args_tuple_getitem _ _)))
 show wpAny _ _ (Builtin.Tuple.tupleItemsOf (.ref t) >>=_) _ _ s;refine E5z (tupleItemsOf_ ht ?_);refine E5z (U4z hTs ?_);rw[P5z (by decide)];refine E5z (jV (n:=its.toArray.size) hs ?_)
 have hno:¬ ((((its.toArray.size:Nat):Int)-1==0&&(-1:Int)==1&&its.toArray.size==its.toArray.size)=true):=by
  rw[show((-1:Int)==1)=false from rfl];simp
 show wpAny _ _ (if(((its.toArray.size:Nat):Int)-1==0&&(-1:Int)==1&&its.toArray.size==its.toArray.size)=true then _ else _) _ _ s;rw[Q5z hno,D2z,yV]
 first
  | exact E5z (m:=Builtin.Tuple.tupleExact _) (B2z (F5z ⟨_,rfl,F5z h⟩) hrev)
  | exact E5z (m:=Builtin.Tuple.tupleExact _) (B2z (E5z (F5z (F5z ⟨_,rfl,F5z h⟩))) hrev)
  | exact E5z (E5z (m:=Builtin.Tuple.tupleExact _) (B2z (F5z (F5z ⟨_,rfl,F5z h⟩)) hrev))
  | exact E5z (E5z (m:=Builtin.Tuple.tupleExact _) (B2z (F5z ⟨_,rfl,F5z h⟩) hrev))
end
section
variable{X:Cx}
theorem JG{e c:Expr}{te tc:TE}{p2 pos:Pos}(he:PE X e te)(hc:PE X c tc) :
  PE X (.Subscript e (.Slice none none (some c) p2) pos) (λY H Q=>te Y H λx H1=>tc Y H1 λy H2=>∃p us,x=.ref p/\y=.int (-1)/\SqT X.K H2 p us/\∀q,H2 q=none->Q (.ref q) (upd H2 q (.tup us.reverse))):=by
 intro z0 s Y H Q I h;refine Subscript_ (thn (he z0 s Y H _ I h) λv s1 ⟨x,H1,I1,r1,q1⟩=>?_);refine wpAny_Slice ?_;rw[evalPart_none,evalPart_some];refine F5z (F5z (thn (hc z0 s1 Y H1 _ I1 q1) λu s2 ⟨y,H2,I2,r2,q2⟩=>?_));obtain⟨p,us,rfl,rfl,hq,q⟩:=q2;cases (show v=Value.ref p from r1);obtain⟨t,rfl⟩:=r2;have I3:Inv X z0 Y H2 {s2 with heap:=s2.heap.push {cls:=.type "slice",data:=.fields #[.none,.none,.int (-1) t]} }:=I2.kept (t':=s2.toks) λb ob q=>Heap.get?_push_of_some _ q;obtain⟨its,r,pt,hz⟩:=I3.tuple hq;have hl:=r.length
 have hg:=jE (prog:=X.prog) (w:=X.w) (A:=X.A) (E:=X.xe) (Q:=EP X z0 Y Q) (u:=t) pt (Heap.IsSliceOf.new ..) (by
  refine⟨.ref _,_,I3.laid (t':=s2.toks) (o:=.tup us.reverse) (λb ob q=>Heap.get?_push_of_some _ q) (X4z _) ?_,rfl,q _ (I3.hok.fresh (X4z _))⟩
  exact⟨by rw[F1z];exact hz,its.reverse,r.reverse,IsTup.new _ _⟩) (by omega)
 show wpAny (model X.prog X.w) X.A (subscriptTail e (.Slice none none (some c) p2) (.ref p) (.ref s2.heap.objs.size)) (EP X z0 Y Q) X.xe {s2 with heap:=s2.heap.push {cls:=.type "slice",data:=.fields #[.none,.none,.int (-1) t]} };exact tail_any (ops:=[.ref p,.ref s2.heap.objs.size]) pt.typeIs slot_tuple_getitem.lookup hg (by with_unfolding_all rfl)
end
end L2
namespace HT
open PySem PySem.Spec PyProof.Rows PySem.SeqAt L2
section
variable{prog:Program}{w:World}{A:Around}{E:Value->Shared->Prop}{s:Shared}
end
end HT
namespace L2
open PySem PyProof.Rows
section
variable{X:Cx}
end
end L2
namespace DE
open PySem
inductive D where
 | non | bl (b:Bool) | int (i:Int) | str (x:Str) | tup (xs:List D) | lst (xs:List D)
 | exc (c:Str)
 | dic (ks:List (Sum Int Str)) (xs:List D)
 | obj (a:Nat)
 deriving Inhabited
inductive Sl where
 | no | sh (d:D) | ow (ds:List D) | oo (dss:List (List D))
 deriving Inhabited
noncomputable abbrev Rho:=List (Str×Sl)
inductive Fl where
 | nxt (U:Rho) | ret (d:D)
 deriving Inhabited
def b2i(b:Bool):Int:=if b then 1 else 0
mutual
def deq:D->D->Bool
 | .non,.non=>true
 | .bl a,.bl b=>a==b
 | .bl a,.int j=>b2i a==j
 | .int i,.bl b=>i==b2i b
 | .int i,.int j=>i==j
 | .str x,.str y=>x==y
 | .tup xs,.tup ys=>qO xs ys
 | .lst xs,.lst ys=>qO xs ys
 | _,_=>false
def qO:List D->List D->Bool
 | [],[]=>true
 | x::xs,y::ys=>deq x y&&qO xs ys
 | _,_=>false
end
mutual
def dep:D->Nat
 | .tup xs=>deps xs+1
 | .lst xs=>deps xs+1
 | .exc _=>1000
 | .dic _ _=>1000
 | .obj _=>1000
 | _=>0
def deps:List D->Nat
 | []=>0
 | x::xs=>max (dep x) (deps xs)
end
mutual
def fO:D->D->Bool
 | .bl _,.bl _=>true
 | .int _,.int _=>true
 | .str _,.str _=>true
 | .tup _,.str _=>true
 | .str _,.bl _=>true
 | .str _,.tup _=>true
 | .tup xs,.tup ys=>o8 xs ys
 | .lst xs,.lst ys=>o8 xs ys
 | _,_=>false
def o8:List D->List D->Bool
 | x::xs,y::ys=>fO x y&&o8 xs ys
 | _,_=>true
end
def asB:D->Option Bool
 | .bl b=>some b
 | _=>none
def asI:D->Option Int
 | .int i=>some i
 | _=>none
def items:D->Option (List D)
 | .tup xs=>some xs
 | .lst xs=>some xs
 | _=>none
def tupI:D->Option (List D)
 | .tup xs=>some xs
 | _=>none
def rK:List D->Option (List Int)
 | []=>some []
 | .int i::r=>(rK r).map (i::·)
 | _=>none
def rN:List D->Option (List Bool)
 | []=>some []
 | .bl i::r=>(rN r).map (i::·)
 | _=>none
def small(i:Int):Bool:=decide (-(2^64)<i)&&decide (i<2^64)
def mid(i:Int):Bool:=decide (i.natAbs.log2<10000)
def szl(n:Nat):Bool:=decide (n<=100000)
def binop:Operator->D->D->Option D
 | .Add,.int i,.int j=>some (.int (i+j))
 | .Add,.tup xs,.tup ys=>if szl (xs.length+ys.length) then some (.tup (xs++ys)) else none
 | .Add,.lst xs,.lst ys=>if szl (xs.length+ys.length) then some (.lst (xs++ys)) else none
 | .Sub,.int i,.int j=>some (.int (i-j))
 | .Mult,.int i,.int j=>if small i||small j||(mid i&&mid j) then some (.int (i*j)) else none
 | .FloorDiv,.int i,.int j=>if decide (0<j)&&decide (j<1073741824) then some (.int (i / j)) else none
 | .Mod,.int i,.int j=>if decide (0<j) then some (.int (i%j)) else none
 | _,_,_=>none
def uw:List D->Option (List Str)
 | []=>some []
 | .str i::r=>(uw r).map (i::·)
 | _=>none
def inT(x:D)(ys:List D):Option Bool:=(uw ys).bind λss=>if decide (dep x<=50)&&fO (.str "") x then some (ss.any λt=>deq (.str t) x) else none
def Rm:D->Option (Sum Int Str)
 | .int i=>some (.inl i)
 | .str x=>some (.inr x)
 | _=>none
def putD(l:List (Sum Int Str×D))(k:Sum Int Str)(d:D):List (Sum Int Str×D):=if(l.any λq=>decide (q.1=k))=true then l.map (λq=>if q.1=k then(q.1,d) else q) else l++[(k,d)]
def kO(ks:List (Sum Int Str))(ds:List D)(k:Sum Int Str):Option D:=((ks.zip ds).find? λq=>decide (q.1=k)).map (·.2)
def tW(l:List (Sum Int Str×D)):D:=.dic (l.map (·.1)) (l.map (·.2))
def Mw(l:List (Sum Int Str×D)):List (Sum Int Str×D):=l.foldl (λa q=>putD a q.1 q.2) []
def Kr:D->Bool
 | .non=>true
 | _=>false
def cmpop:CmpOp->D->D->Option D
 | .Eq,x,y=>if decide (dep x<=50)&&decide (dep y<=50)&&fO x y then some (.bl (deq x y)) else none
 | .NotEq,x,y=>if decide (dep x<=50)&&decide (dep y<=50)&&fO x y then some (.bl (!deq x y)) else none
 | .Lt,.int i,.int j=>some (.bl (decide (i<j)))
 | .LtE,.int i,.int j=>some (.bl (decide (i<=j)))
 | .Gt,.int i,.int j=>some (.bl (decide (j<i)))
 | .IsNot,x,.non=>some (.bl (!Kr x))
 | .NotIn,x,.tup ys=>(inT x ys).map λb=>.bl (!b)
 | .In,.str x,.str y=>some (.bl (!(Builtin.Str.occurrences y x 0 y.length 1).isEmpty))
 | .In,.str x,.dic ks ds=>some (.bl (kO ks ds (.inr x)).isSome)
 | .NotIn,.str x,.dic ks ds=>some (.bl (!(kO ks ds (.inr x)).isSome))
 | _,_,_=>none
def ixD(n:Nat)(i:Int):Option Nat:=if 0<=i then(if i<n then some i.toNat else none) else if -(n:Int)<=i then some (i+n).toNat else none
def atD(xs:List D)(i:Int):Option D:=(ixD xs.length i).bind λj=>xs[j]?
def N5(n d:Nat):Option Int->Nat
 | none=>d
 | some v=>if v<0 then(v+(n:Int)).toNat else min v.toNat n
def Bj(xs:List D)(lo hi:Option Int):List D:=(xs.drop (N5 xs.length 0 lo)).take (N5 xs.length xs.length hi-N5 xs.length 0 lo)
def Ms:D->D->Option D
 | .tup xs,.int i=>atD xs i
 | .lst xs,.int i=>atD xs i
 | .dic ks ds,y=>(Rm y).bind (kO ks ds)
 | _,_=>none
def scD:D->Bool
 | .non=>true
 | .bl _=>true
 | .int _=>true
 | .str _=>true
 | _=>false
mutual
def Ui:D->Bool
 | .non=>true
 | .bl _=>true
 | .int _=>true
 | .str _=>true
 | .tup ds=>Ho ds
 | _=>false
def Ho:List D->Bool
 | []=>true
 | d::r=>Ui d&&Ho r
end
def Ro:String->D->Bool
 | "int",.int _=>true
 | "int",.bl _=>true
 | "bool",.bl _=>true
 | "tuple",.tup _=>true
 | "list",.lst _=>true
 | "str",.str _=>true
 | _,_=>false
def iY:List D->Option (List (Sum Int Str×D))
 | []=>some []
 | .tup [.str k,d]::r=>(iY r).map ((.inr k,d)::·)
 | _::_=>none
def yt:List (Sum Int Str)->Option (List Str)
 | []=>some []
 | .inr k::r=>(yt r).map (k::·)
 | .inl _::_=>none
def ins(a:Str):List Str->List (List Str)
 | []=>[[a]]
 | b::r=>(a::b::r)::(ins a r).map (b::·)
def perms:List Str->List (List Str)
 | []=>[[]]
 | a::r=>(perms r).flatMap (ins a)
def Gs(l:List Str):Option (List Str):=match (perms l).filter PyProof.Rows.sortedS with
 | [x]=>some x
 | _=>none
def blt:String->List D->Option D
 | "len",[.str x]=>if szl x.length then some (.int x.length) else none
 | "len",[d]=>do let l <- items d;some (.int l.length)
 | "all",[.lst xs]=>do let bs <- rN xs;some (.bl (bs.all id))
 | "sum",[.lst xs]=>do let is <- rK xs;some (.int is.sum)
 | "tuple",[d]=>do let l <- items d;some (.tup l)
 | "list",[d]=>do let l <- items d;some (.lst l)
 | "min",[.int i,.int j]=>some (.int (if j<i then j else i))
 | "max",[.int i,.int j]=>some (.int (if j>i then j else i))
 | "dict",[.lst xs]=>(iY xs).map λl=>tW (Mw l)
 | "sorted",[.dic ks _]=>((yt ks).bind λl=>if decide (l.length<64) then Gs l else none).map λl=>.lst (l.map .str)
 | _,_=>none
set_option genInjectivity false in
structure Cxt where
 cst:List (Str×D)
 blt:List (Str×String)
 fns:List Str
 exs:List Str
 top:Str
 rs:Bool
 call:Str->List D->Option D
 callx:Str->List D->Option Str
def isExc:D->Bool
 | .exc _=>true
 | .dic _ _=>true
 | .obj _=>true
 | _=>false
def xr(top c c':Str):Bool:=c==c'||c'==top
noncomputable def qg(scope sc:Scope):Scope :=
 {scope with names:=scope.names.map λ(n,k)=>if(k==.free&&sc.kind==.function&&sc.names.lookup n==some .cell) then(n,.cell) else(n,k)}
def Mt:Option Sl->Sl
 | some (.sh d)=>.sh d
 | _=>.no
def cI(scope:Scope)(U:Rho):Rho:=scope.names.map λp=>(p.1,if p.2==.free then Mt (U.lookup p.1) else .no)
def lH:List Str->Bool
 | []=>true
 | x::r => !r.contains x&&lH r
def jl(sc scope:Scope):Bool :=
 scope.kind==.function&&lH (scope.names.map (·.1))&&scope.names.all λp=>p.2 !=.free||sc.names.lookup p.1==some .cell||sc.names.lookup p.1==some .free
def gQ:Rho->Str->Sl->Rho
 | [],_,_=>[]
 | (y,s)::r,x,v=>if x==y then(y,v)::r else(y,s)::gQ r x v
def aK(x:Str):Bool:=x !="__debug__"&&x !="__classdict__"
def ownIn(scope:Scope)(x:Str):Bool:=scope.names.lookup x==some .local||scope.names.lookup x==some .cell
def bindNames(scope:Scope):List Expr->List D->Rho->Option Rho
 | [],[],U=>some U
 | .Name x _::es,d::ds,U=>if ownIn scope x&&(U.map (·.1)).contains x then bindNames scope es ds (gQ U x (.sh d)) else none
 | _,_,_=>none
def fH(scope:Scope):Expr->D->Rho->Option Rho
 | .Name x _,d,U=>if ownIn scope x&&(U.map (·.1)).contains x then some (gQ U x (.sh d)) else none
 | .Tuple es _ _,.tup ds,U=>bindNames scope es ds U
 | _,_,_=>none
def rQ(cx:Cxt)(sc:Scope)(x:Str):Bool:=sc.names.lookup x==some .globalImplicit
def bZ(cx:Cxt)(sc:Scope)(x:Str):Option String:=if rQ cx sc x then cx.blt.lookup x else none
def bR(f:D->Option (Option D)):List D->Option (List D)
 | []=>some []
 | x::r=>do
  match <- f x with
  | some v=>(bR f r).map (v::·)
  | none=>bR f r
def gY(lo hi:Int):List D:=(List.range (hi-lo).toNat).map λ(k:Nat)=>.int (lo+(k:Int))
def jX(f:Expr->Option D):List Expr->Option (List D)
 | []=>some []
 | e::r=>do let d <- f e;let ds <- jX f r;some (d::ds)
def cT(op:BoolOp)(f:Expr->Option D):List Expr->Option D
 | []=>none
 | [e]=>f e
 | e::e'::r=>do
  let d <- f e
  let b <- asB d
  match op with
  | .And=>if b then cT op f (e'::r) else some (.bl false)
  | .Or=>if b then some (.bl true) else cT op f (e'::r)
def pZ(i:Int):Bool:=decide (-(2^62)<=i)&&decide (i<2^62)
def eY:Expr->Bool
 | .Tuple .. =>true
 | _=>false
inductive Wk where
 | r1 (a:Expr) | zp (a b:Expr) | rv (a:Expr) | sq
def v7(cx:Cxt)(sc:Scope):Expr->Wk
 | .Call (.Name x _) args [] _=>(match bZ cx sc x with
  | some "range"=>(match args with | [a]=>.r1 a | _=>.sq)
  | some "zip"=>(match args with | [a,b]=>.zp a b | _=>.sq)
  | some "reversed"=>(match args with | [a]=>.rv a | _=>.sq)
  | _=>.sq)
 | _=>.sq
def Q0:D->D->Option (List D)
 | .tup xs,.tup ys=>some ((xs.zip ys).map λq=>.tup [q.1,q.2])
 | _,_=>none
def kD:Sum Int Str->D
 | .inl i=>.int i
 | .inr x=>.str x
def mY:D->Option (List D)
 | .dic ks _=>some (ks.map kD)
 | .str x=>if x.cps.all (· < 128) then some (x.cps.toList.map λc=>.str ⟨#[c]⟩) else none
 | d=>items d
theorem z7{d:D}{l:List D}(h:items d=some l):mY d=some l:=by cases d<;>first | exact h | simp[items] at h
def evI(cx:Cxt)(tup:Bool)(f:Expr->Option D)(sc:Scope)(e:Expr):Option (List D):=match v7 cx sc e with
 | .r1 a=>do let j <- (f a).bind asI;if pZ j then some (gY 0 j) else none
 | .zp a b=>do let x <- f a;let y <- f b;if tup then Q0 x y else none
 | .rv a=>do let xs <- (f a).bind tupI;some xs.reverse
 | .sq=>(f e).bind mY
inductive Wc where
 | tv (a:Expr) | li (a:Expr) | al
def Vg:Expr->Option Expr
 | .Call (.Attribute (.Name y py) m ap) [] [] p=>if m=="items"&&ap.endLine==p.line then some (.Name y py) else none
 | _=>none
def TJ:D->Option D
 | .dic ks ds=>if decide (ks.length<=1000) then some (.lst ((ks.zip ds).map λq=>.tup [kD q.1,q.2])) else none
 | _=>none
def Cy(cx:Cxt)(sc:Scope)(b:String)(args:List Expr):Wc:=match args with
 | [e]=>(match b,v7 cx sc e with
  | "tuple",.rv a=>.tv a
  | "list",.sq=>(match Vg e with | some a=>.li a | none=>.al)
  | _,_=>.al)
 | _=>.al
def kW:String->Bool
 | "int"=>true
 | "bool"=>true
 | "tuple"=>true
 | "list"=>true
 | "str"=>true
 | _=>false
def tyOf(cx:Cxt)(sc:Scope):Expr->Option String
 | .Name x _=>bZ cx sc x
 | _=>none
def xOf(cx:Cxt)(sc:Scope):Expr->Option Str
 | .Name x _=>if rQ cx sc x&&(cx.exs.contains x||x==cx.top)&&aK x then some x else none
 | _=>none
def cntB(b:Bool)(bs:List Bool):Nat:=(bs.filter (· ==b)).length
def mJ(f:Expr->Option D):List Expr->Option Bool
 | []=>some true
 | [c]=>(f c).bind asB
 | _=>none
def sV(m:Str):D->D->Option D
 | .lst xs,.bl b=>do
  let bs <- rN xs
  if m=="count" then some (.int (cntB b bs)) else if m=="index"&&bs.contains b then some (.int (bs.idxOf b)) else none
 | _,_=>none
def aH:Expr->Bool
 | .Starred .. =>false
 | .Set .. =>false
 | .Slice .. =>false
 | _=>true
def Rc:D->Option Expr->Option Expr->Option Int->Option D
 | .tup xs,none,none,some i=>if i == -1 then some (.tup xs.reverse) else none
 | _,_,_,_=>none
def ev(cx:Cxt):Nat->Scope->Rho->Expr->Option D
 | 0,_,_,_=>none
 | n+1,sc,U,e=>match e with
  | .Name x _=>if aK x then(match sc.names.lookup x with
    | some .local=>(match U.lookup x with | some (.sh d)=>some d | _=>none)
    | some .cell=>(match U.lookup x with | some (.sh d)=>some d | _=>none)
    | some .free=>(match U.lookup x with | some (.sh d)=>some d | _=>none)
    | some .globalImplicit=>cx.cst.lookup x
    | _=>none) else none
  | .Constant c _ _=>(match c with
    | .none=>some .non
    | .bool b=>some (.bl b)
    | .int i=>some (.int i)
    | .str x=>some (.str x)
    | _=>none)
  | .BinOp a op b _=>do let x <- ev cx n sc U a;let y <- ev cx n sc U b;binop op x y
  | .UnaryOp op a _=>do
    let x <- ev cx n sc U a
    match op with
    | .USub=>(asI x).map λi=>.int (-i)
    | .Not=>(asB x).map λb=>.bl (!b)
    | _=>none
  | .Dict ks vs _=>if ks.isEmpty&&vs.isEmpty then some (.dic [] []) else none
  | .BoolOp op es _=>cT op (ev cx n sc U) es
  | .Compare a ops bs _=>(match ops,bs with
    | [op],[b]=>do let x <- ev cx n sc U a;let y <- ev cx n sc U b;cmpop op x y
    | [op,op'],[b,c]=>if !aH c then none else do
     let x <- ev cx n sc U a
     let y <- ev cx n sc U b
     let k <- (cmpop op x y).bind asB
     if k then do let z <- ev cx n sc U c;cmpop op' y z else some (.bl false)
    | _,_=>none)
  | .IfExp c a b _=>do
    let k <- (ev cx n sc U c).bind asB
    if k then ev cx n sc U a else ev cx n sc U b
  | .Tuple es _ _=>do let ds <- jX (ev cx n sc U) es;if szl ds.length then some (.tup ds) else none
  | .List es _=>do let ds <- jX (ev cx n sc U) es;if szl ds.length then some (.lst ds) else none
  | .Subscript a b _=>do
    let x <- ev cx n sc U a
    match b with
    | .Slice lo hi st _=>(match st with
     | none=>do
      let l <- (match lo with | none=>some none | some e=>(ev cx n sc U e).bind λd=>(asI d).map some)
      let h <- (match hi with | none=>some none | some e=>(ev cx n sc U e).bind λd=>(asI d).map some)
      match x with
      | .lst xs=>some (.lst (Bj xs l h))
      | _=>none
     | some c=>Rc x lo hi ((ev cx n sc U c).bind asI))
    | b=>do
     let y <- ev cx n sc U b
     Ms x y
  | .Call f args kws p=>(match f,kws with
    | .Name x _,[] =>
     if rQ cx sc x then
      match cx.blt.lookup x with
      | some "isinstance"=>(match args with
       | [a,t]=>do
        let d <- ev cx n sc U a
        match xOf cx sc t with
        | some c'=>(match d with | .exc c=>if cx.exs.contains c then some (.bl (xr cx.top c c')) else none | _=>none)
        | none=>do
         let ty <- tyOf cx sc t
         match d with
         | .exc c=>if cx.exs.contains c&&ty=="ValueError" then some (.bl true) else none
         | .dic _ _=>none
         | .obj _=>none
         | d=>if kW ty then some (.bl (Ro ty d)) else none
       | _=>none)
      | some b=>(match Cy cx sc b args with
       | .tv a=>do let xs <- (ev cx n sc U a).bind tupI;some (.tup xs.reverse)
       | .li a=>(ev cx n sc U a).bind TJ
       | .al=>if args.isEmpty then none else do let ds <- jX (ev cx n sc U) args;blt b ds)
      | none=>if cx.fns.contains x && !args.isEmpty then do let ds <- jX (ev cx n sc U) args;cx.call x ds else none
     else none
    | _,_=>none)
  | .ListComp elt gens scope _=>(match gens with
    | [⟨tg,iter,ifs,a⟩]=>if a==0&&jl sc scope then do
      let l <- evI cx (eY tg) (ev cx n sc U) sc iter
      if szl l.length then do
       let out <- bR (λd=>do
        let U1 <- fH scope tg d (cI scope U)
        let b <- mJ (ev cx n (qg scope sc) U1) ifs
        if b then(ev cx n (qg scope sc) U1 elt).map some else some none) l
       some (.lst out)
      else none
     else none
    | _=>none)
  | _=>none
def wW(f:Expr->Option D)(g:Expr->Option Str):List Expr->Option Str
 | []=>none
 | e::r=>match f e with
  | some _=>wW f g r
  | none=>g e
def evx(cx:Cxt):Nat->Scope->Rho->Expr->Option Str
 | 0,_,_,_=>none
 | n+1,sc,U,e=>match e with
  | .Call (.Name x _) args [] _=>if rQ cx sc x && !args.isEmpty&&args.all aH&&cx.fns.contains x then
    (match jX (ev cx n sc U) args with
    | some ds=>cx.callx x ds
    | none=>wW (ev cx n sc U) (evx cx n sc U) args)
   else none
  | _=>none
def fY:Nat->Str->Expr->Bool
 | 0,_,_=>true
 | n+1,x,e=>match e with
  | .Name y _=>x==y
  | .Constant .. =>false
  | .BinOp a _ b _=>fY n x a||fY n x b
  | .UnaryOp _ a _=>fY n x a
  | .BoolOp _ es _=>es.any (fY n x)
  | .Compare a _ bs _=>fY n x a||bs.any (fY n x)
  | .IfExp c a b _=>fY n x c||fY n x a||fY n x b
  | .Tuple es _ _=>es.any (fY n x)
  | .List es _=>es.any (fY n x)
  | .Subscript a b _=>fY n x a||fY n x b
  | .Slice lo hi st _=>(lo.map (fY n x)).getD false||(hi.map (fY n x)).getD false||(st.map (fY n x)).getD false
  | .Call f args kws _=>fY n x f||args.any (fY n x) || !kws.isEmpty
  | .ListComp elt gens _ _=>fY n x elt||gens.any λg=>fY n x g.iter||g.ifs.any (fY n x)
  | _=>true
def frz(n:Nat)(e:Expr)(U:Rho):Rho:=U.map λp=>match p.2 with
 | .ow ds=>if fY n p.1 e then(p.1,.sh (.lst ds)) else p
 | .oo dss=>if fY n p.1 e then(p.1,.sh (.lst (dss.map .lst))) else p
 | _=>p
def isL:Expr->Bool
 | .List .. =>true
 | _=>false
def bW:Expr->Bool
 | .List .. =>true
 | .ListComp .. =>true
 | _=>false
def Uo:Sl->Bool
 | .no=>true
 | .sh _=>true
 | _=>false
def Rq:Sl->Bool
 | .oo _=>true
 | _=>false
def DG(_:Rho)(_:Str):Bool:=true
def pG(U:Rho)(x:Str):Bool:=U.all λp=>p.1==x || !Rq p.2
def Wy(cx:Cxt)(sc:Scope):Expr->Bool
 | .Name y _=>aK y&&sc.names.lookup y==some .local
 | .Call (.Name f _) _ [] _=>rQ cx sc f&&(cx.blt.lookup f).isNone
 | _=>false
def Mz(cx:Cxt)(sc:Scope):Expr->Bool
 | .Call (.Name l _) [y] [] _=>bZ cx sc l==some "list"&&Wy cx sc y
 | _=>false
def ooE(_:Cxt)(_:Scope):Expr->Bool
 | .ListComp .. =>true
 | _=>false
def nR(e:Expr)(d:D):Sl:=match d with
 | .lst ds=>if bW e then .ow ds else .sh (.lst ds)
 | d=>.sh d
def nc0:Expr->Bool
 | .Call .. =>true
 | .Name x _=>x !="__debug__"
 | .IfExp .. =>true
 | .ListComp .. =>true
 | .Compare .. =>true
 | _=>false
def nc1:Expr->Bool
 | .Subscript v _ _=>nc0 v
 | e=>nc0 e
def nc:Expr->Bool
 | .Subscript v i _=>nc0 v||nc0 i
 | .BinOp l _ r _=>nc1 l||nc1 r
 | e=>nc0 e
def swp(sc:Scope)(ts:List Expr)(value:Expr):Option Bool:=match value with
 | .Tuple vs _ _=>(match ts,vs with
  | [.Name x px,.Name y py],[a,b] =>
   if sc.names.lookup x==some .local&&sc.names.lookup y==some .local then
    (if px.line==py.line&&x !=y&&(nc a||nc b)&&aH a&&aH b then some true else none)
   else none
  | _,_=>none)
 | _=>some false
def rdA:Expr->Bool
 | .Call (.Name _ _) [.Subscript _ _ _,.Subscript _ _ _] [] _=>true
 | _=>false
def fG(f:D->Rho->Option Fl):List D->Rho->Option Fl
 | [],U=>some (.nxt U)
 | x::r,U=>do
  match <- f x U with
  | .ret d=>some (.ret d)
  | .nxt U'=>fG f r U'
def iT(f:Rho->Stmt->Option Fl):List Stmt->Rho->Option Fl
 | [],U=>some (.nxt U)
 | s::r,U=>do
  match <- f U s with
  | .ret d=>some (.ret d)
  | .nxt U'=>iT f r U'
def lq(f:Rho->Stmt->Option Fl)(g:Rho->Stmt->Option (Str×Rho)):List Stmt->Rho->Option (Str×Rho)
 | [],_=>none
 | s::r,U=>match f U s with
  | some (.nxt U')=>lq f g r U'
  | some (.ret _)=>none
  | none=>g U s
mutual
def st(cx:Cxt)(F:Nat):Nat->Scope->Rho->Stmt->Option Fl
 | 0,_,_,_=>none
 | n+1,sc,U,s=>match s with
  | .Pass _=>some (.nxt U)
  | .Return v _=>(match v with
    | none=>some (.ret .non)
    | some e=>(ev cx F sc (frz F e U) e).map .ret)
  | .Assign tgs e _=>(match tgs with
    | [.Name x _]=>if ownIn sc x&&(U.map (·.1)).contains x then
      (if ooE cx sc e&&DG (frz F e U) x then none
      else if Mz cx sc e&&pG (frz F e U) x then none
      else if bW e && !pG (frz F e U) x then none
      else if rdA e then none
      else(ev cx F sc (frz F e U) e).map λd=>.nxt (gQ (frz F e U) x (nR e d))) else none
    | [.Tuple es _ _]=>if(swp sc es e).isSome||false then do
      let d <- ev cx F sc (frz F e U) e
      let l <- tupI d
      (bindNames sc es l (frz F e U)).map .nxt
     else none
    | _=>none)
  | .Expr v _=>(match v with
    | .Call (.Attribute (.Name x _) m ap) [e] [] cp=>(match (frz F e U).lookup x with
      | some (.ow ds)=>if ownIn sc x&&aK x&&ap.endLine==cp.line then
        if m=="append"&&szl (ds.length+1) then(ev cx F sc (frz F e U) e).map λd=>.nxt (gQ (frz F e U) x (.ow (ds++[d])))
        else if m=="extend" then do
         let d <- ev cx F sc (frz F e U) e
         (match d with
         | .tup zs=>if szl (ds.length+zs.length) then some (.nxt (gQ (frz F e U) x (.ow (ds++zs)))) else none
         | _=>none)
        else none
       else none
      | _=>none)
    | .ListComp .. =>none
    | .Constant .. =>none
    | e=>(ev cx F sc (frz F e U) e).map λ_=>.nxt (frz F e U))
  | .If c a b _=>do
    let k <- (ev cx F sc (frz F c U) c).bind asB
    if k then iT (λU s=>st cx F n sc U s) a U else iT (λU s=>st cx F n sc U s) b U
  | .For tg iter body orelse _=>(match orelse with
    | []=>do
     let l <- evI cx (eY tg) (ev cx F sc (frz F iter U)) sc iter
     fG (λd U=>do let U1 <- fH sc tg d U;iT (λU s=>st cx F n sc U s) body U1) l (frz F iter U)
    | _=>none)
  | .While c body orelse _=>(match orelse with
    | []=>if true then none else none
    | _=>none)
  | _=>none
def stx(cx:Cxt)(F:Nat):Nat->Scope->Rho->Stmt->Option (Str×Rho)
 | 0,_,_,_=>none
 | n+1,sc,U,s=>match s with
  | .Raise (some (.Call (.Name c _) [.Constant (.str _) _ _] [] _)) none _=>if cx.rs&&rQ cx sc c&&cx.exs.contains c&&aK c then some (c,U) else none
  | .Expr e _=>if bW e then none else(evx cx F sc (frz F e U) e).map λc=>(c,frz F e U)
  | .Return (some e) _=>(evx cx F sc (frz F e U) e).map λc=>(c,frz F e U)
  | .If c a b _=>(match (ev cx F sc (frz F c U) c).bind asB with
    | some k=>lq (λU s=>st cx F n sc U s) (λU s=>stx cx F n sc U s) (if k then a else b) (frz F c U)
    | none=>none)
  | _=>none
end
structure Fd where
 ps:List Str
 N:List Str
 sc:Scope
 body:List Stmt
def bH(fd:Fd)(ds:List D):Rho:=(fd.ps.zip (ds.map Sl.sh))++(fd.N.drop fd.ps.length).map λx=>(x,.no)
structure Pg where
 cst:List (Str×D)
 blt:List (Str×String)
 defs:List (Str×Fd)
 exs:List Str:=[]
 top:Str:="MinorError"
inductive Rs where
 | val (d:D) | exc (c:Str)
def Rs.val?:Option Rs->Option D
 | some (.val d)=>some d
 | _=>none
def Rs.exc?:Option Rs->Option Str
 | some (.exc c)=>some c
 | _=>none
def Pg.cx(P:Pg)(c:Str->List D->Option Rs):Cxt:=⟨P.cst,P.blt,P.defs.map (·.1),P.exs,P.top,true,λf ds=>Rs.val? (c f ds),λf ds=>Rs.exc? (c f ds)⟩
def rz(cx:Cxt)(F:Nat)(sc:Scope)(body:List Stmt)(U:Rho):Option Rs:=match iT (λU s=>st cx F F sc U s) body U with
 | some (.ret d)=>some (.val d)
 | some (.nxt _)=>some (.val .non)
 | none=>(match lq (λU s=>st cx F F sc U s) (λU s=>stx cx F F sc U s) body U with
  | some (c,_)=>some (.exc c)
  | none=>none)
@[irreducible] def aW(P:Pg)(F:Nat):Nat->Str->List D->Option Rs
 | 0,_,_=>none
 | k+1,f,ds=>match P.defs.lookup f with
  | none=>none
  | some fd=>if ds.length==fd.ps.length then rz (P.cx (aW P F k)) F fd.sc fd.body (bH fd ds) else none
theorem uh{P:Pg}{F:Nat}{f:Str}{ds:List D}:aW P F 0 f ds=none:=by with_unfolding_all rfl
theorem mq{P:Pg}{F k:Nat}{f:Str}{ds:List D}:aW P F (k+1) f ds=(match P.defs.lookup f with
  | none=>none
  | some fd=>if ds.length==fd.ps.length then rz (P.cx (aW P F k)) F fd.sc fd.body (bH fd ds) else none):=by with_unfolding_all rfl
@[irreducible] def aV(P:Pg)(F k:Nat)(f:Str)(ds:List D):Option D:=Rs.val? (aW P F k f ds)
theorem gP{P:Pg}{F k:Nat}{f:Str}{ds:List D}:aV P F k f ds=Rs.val? (aW P F k f ds):=by with_unfolding_all rfl
@[irreducible] def jt(P:Pg)(F k:Nat)(f:Str)(ds:List D):Option Str:=Rs.exc? (aW P F k f ds)
theorem kj{P:Pg}{F k:Nat}{f:Str}{ds:List D}:jt P F k f ds=Rs.exc? (aW P F k f ds):=by with_unfolding_all rfl
end DE
namespace L2
open PySem PySem.Spec PyProof.Rows PySem.SeqAt
section
variable{prog:Program}{w:World}{A:Around}{I:Addr}{fp wr:List Addr}{n:Nat}{P:Nat->Value->Prop}{St:Nat->Heap->Prop}
end
end L2
namespace L2
open PySem PySem.Spec PyProof.Rows
section
variable(P:Program)(w:World)
end
section
variable{P:Program}{w:World}{H H':Hp}{h h':Heap}{a:Addr}{o:HO}
end
section
variable{P:Program}{w:World}{H:Hp}{h h':Heap}{x e:Addr}{o':HO}
end
section
variable{fs fs' ex ex':List Addr}{H H1 H2:Hp}{h h1 h2 h':Heap}{a x e:Addr}{o:HO}
end
section
variable{X:Cx}{z0:List (Addr×Obj)}{Y:List (Option V)}{H H':Hp}{s:Shared}{h':Heap}
end
section
variable{X:Cx}
variable{a b:Expr}{ta tb:TE}{pos:Pos}
variable{tA tB':TT}{rest:List Expr}
end
section
variable{X:Cx}{z0:List (Addr×Obj)}{Y:St}{H:Hp}{s:Shared}{a:Addr}{xs ys:List V}
end
section
variable{X:Cx}{z0:List (Addr×Obj)}{Y:St}{H:Hp}{s:Shared}{E:Value->Shared->Prop}
end
section
variable{X:Cx}{st:Stmt}{rest:List Stmt}{t u:TS}{e:Expr}{te:TE}{pos:Pos}
end
section
variable{X:Cx}{pos:Pos}
end
section
variable{X:Cx}{pos:Pos}
end
section
variable{X:Cx}{tg:Expr}
end
section
variable{X:Cx}{a b c:Expr}{ta tb tc:TE}{pos:Pos}
end
section
variable{X:Cx}{a b c:Expr}{ta tb tc:TE}{pos:Pos}
end
section
variable{prog:Program}{w:World}{A:Around}{E:Value->Shared->Prop}{s:Shared}{K:Zf}{x dx C f:Addr}{mA:Str->Option Value}{name:Str}{v:Value}
end
section
variable{P:Program}{w:World}{H H':Hp}{h h':Heap}{a C dx:Addr}{fs fs':List (Str×V)}
end
section
variable{X:Cx}{z0:List (Addr×Obj)}{Y:St}{H:Hp}{s:Shared}{a C dx:Addr}{fs:List (Str×V)}{f:Str}{v:V}{A:Around}{E:Value->Shared->Prop}
end
section
variable{X:Cx}{o e value:Expr}{f:Str}{pos pos' tpos:Pos}{ta tv:TE}
end
section
variable{X:Cx}{z0:List (Addr×Obj)}{Y:St}{H:Hp}{s:Shared}{A:Around}{E:Value->Shared->Prop}{Q:Value->Shared->Prop}{c:Value}{b:Bool}
end
section
variable{X:Cx}{e:Expr}{es:List Expr}{te:TE}{t:TA}{pos:Pos}
end
section
variable{X:Cx}{z0:List (Addr×Obj)}{Y:St}{H:Hp}{s s':Shared}
end
section
variable{X:Cx}{CX:CXT}{k:Nat}{f C:Addr}{fd:FuncData}{ps:List Str}{sp:Sp}{dvs:List V}{ds:List Value}{E:XK}{x m:Str}{p pos apos:Pos}{e o:Expr}{es:List Expr}{ta:TE}{t:TA}
end
section
variable{X:Cx}{CX:CXT}{k:Nat}{f C:Addr}{fd:FuncData}{ps ks:List Str}{sp:Sp}{E:XK}{x m:Str}{p pos apos kpos:Pos}{e o:Expr}{es:List Expr}{kws:List Keyword}{te ta:TE}{t tk:TA}{nm:Option Str}
variable{g:List Value->List Value->List Value}{gV:List V->List V->List V}
end
section
variable{X:Cx}{x:Str}{p pos:Pos}{e:Expr}{es:List Expr}{t:TA}{id T:String}{r:List V->Hp->VK->Prop}
end
section
variable{κ:Type}[DecidableEq κ]
def jB(kvs:List (κ×V))(k:κ):Option V:=(kvs.find? λkv=>decide (kv.1=k)).map (·.2)
def putK(kvs:List (κ×V))(k:κ)(v:V):List (κ×V) :=
 if(kvs.any λkv=>decide (kv.1=k))=true then kvs.map (λkv=>if kv.1=k then(kv.1,v) else kv) else kvs++[(k,v)]
def tQ(kvs:List (κ×V))(k:κ):List (κ×V):=kvs.filter λkv=>decide (kv.1≠k)
theorem iJ{p:κ×V}{r:List (κ×V)}{k:κ}(e:p.1=k):jB (p::r) k=some p.2:=by simp[jB,List.find?_cons,e]
theorem iK{p:κ×V}{r:List (κ×V)}{k:κ}(e:¬ p.1=k):jB (p::r) k=jB r k:=by simp[jB,List.find?_cons,e]
theorem uz(k:κ):∀kvs:List (κ×V),(kvs.any λkv=>decide (kv.1=k))=(jB kvs k).isSome
 | []=>rfl
 | p::r=>by
  rw[I4z]
  by_cases e:p.1=k
  .simp only[iJ e,Y3z e,Bool.true_or,Option.isSome_some]
  .rw[iK e,F3z e,Bool.false_or];exact uz k r
theorem iB(kvs:List (κ×V))(k:κ)(v:V):(putK kvs k v).length<=kvs.length+1:=by
 unfold putK;split
 .rw[I3z];omega
 .rw[Q1z,P2z,List.length_nil];omega
theorem nA.isSome_eq{o:Option V}{u:Option Value}(r:nA o u):o.isSome=u.isSome:=by
 cases o with
 | none=>cases u with
  | none=>rfl
  | some _=>exact(show False from r).elim
 | some _=>cases u with
  | none=>exact(show False from r).elim
  | some _=>rfl
theorem nA.getD{o:Option V}{u:Option Value}{d:V}{d':Value}(r:nA o u)(rd:RelV d d'):RelV (o.getD d) (u.getD d'):=by
 cases o with
 | none=>cases u with
  | none=>exact rd
  | some _=>exact(show False from r).elim
 | some _=>cases u with
  | none=>exact(show False from r).elim
  | some _=>exact r
theorem KV.val{kvs:List (κ×V)}{vs:List (κ×Value)}(r:KV kvs vs)(k:κ):nA (jB kvs k) (valueAt vs k):=by
 unfold KV at r
 induction r with
 | nil=>exact True.intro
 | @cons p q ps qs h t ih =>
  obtain⟨h1,h2⟩:=h
  by_cases e:p.1=k
  .have e':q.1=k:=h1.symm.trans e
   have b:valueAt (q::qs) k=some q.2:=by simp[valueAt,List.find?_cons,e']
   rw[iJ e,b];exact h2
  .have e':¬ q.1=k:=λz=>e (h1.trans z)
   have b:valueAt (q::qs) k=valueAt qs k:=by simp[valueAt,List.find?_cons,e']
   rw[iK e,b];exact ih
theorem KV.any{kvs:List (κ×V)}{vs:List (κ×Value)}(r:KV kvs vs)(k:κ):(kvs.any λkv=>decide (kv.1=k))=vs.any λkv=>decide (kv.1=k):=by
 unfold KV at r
 induction r with
 | nil=>rfl
 | cons h t ih=>rw[I4z,I4z,ih,h.1]
theorem KV.repl{kvs:List (κ×V)}{vs:List (κ×Value)}(r:KV kvs vs)(k:κ){y:V}{u:Value}(ry:RelV y u) :
  KV (kvs.map λkv=>if kv.1=k then(kv.1,y) else kv) (vs.map λkv=>if kv.1=k then(kv.1,u) else kv):=by
 unfold KV at r ⊢
 induction r with
 | nil=>exact .nil
 | @cons p q ps qs h t ih =>
  rw[E4z,E4z];refine .cons ?_ ih;obtain⟨h1,h2⟩:=h
  by_cases e:p.1=k
  .rw[P5z e,P5z (h1.symm.trans e)];exact⟨h1,ry⟩
  .rw[Q5z e,Q5z (λz=>e (h1.trans z))];exact⟨h1,h2⟩
theorem KV.put{kvs:List (κ×V)}{vs:List (κ×Value)}(r:KV kvs vs)(k:κ){y:V}{u:Value}(ry:RelV y u):KV (putK kvs k y) (stored vs k u):=by
 unfold putK stored;rw[r.any k]
 by_cases e:(vs.any λkv=>decide (kv.1=k))=true
 .rw[P5z e,P5z e];exact r.repl k ry
 .rw[Q5z e,Q5z e];exact Paired.snoc r ⟨rfl,ry⟩
theorem KV.drop{kvs:List (κ×V)}{vs:List (κ×Value)}(r:KV kvs vs)(k:κ):KV (tQ kvs k) (without vs k):=by
 unfold KV at r ⊢;unfold tQ without
 induction r with
 | nil=>exact .nil
 | @cons p q ps qs h t ih =>
  obtain⟨h1,h2⟩:=h;rw[X2z,X2z]
  by_cases e:p.1=k
  .have a:¬ decide (p.1≠k)=true:=by simp[e]
   have b:¬ decide (q.1≠k)=true:=by simp[h1.symm.trans e]
   rw[Q5z a,Q5z b];exact ih
  .have e':¬ q.1=k:=λz=>e (h1.trans z)
   have a:decide (p.1≠k)=true:=by simp[e]
   have b:decide (q.1≠k)=true:=by simp[e']
   rw[P5z a,P5z b];exact .cons ⟨h1,h2⟩ ih
theorem KV.length{kvs:List (κ×V)}{vs:List (κ×Value)}(r:KV kvs vs):kvs.length=vs.length:=Paired.length r
theorem Fx(kvs:List (κ×V))(k:κ):(tQ kvs k).length<=kvs.length:=List.length_filter_le _ _
end
theorem lR{P:Program}{w:World}{k:Key}{u:Value}(r:RelV (kV k) u):(aR P w).is k u=true:=by
 cases k with
 | inl i=>obtain⟨t,e⟩:=(show ∃t,u=Value.int i t from r);subst e;exact sU P w i t
 | inr x=>obtain⟨t,e⟩:=(show ∃t,u=Value.str x t from r);subst e;exact sS P w x t
theorem qF{P:Program}{w:World}:∀{ks:List Key}{us:List Value},Vals (ks.map kV) us->ItemsAre (aR P w) ks us
 | [],_,r=>by rw[T4z] at r;cases r;exact .nil
 | k::ks,_,r=>by
  rw[E4z] at r
  cases r with
  | cons h t=>exact .cons (lR h) (qF t)
abbrev KT(H:Hp):List (List Key×V)->List (List Key×Addr×Value)->Prop:=Paired λp q=>p.1=q.1/\H q.2.1=some (.tup (p.1.map kV))/\RelV p.2 q.2.2
theorem KT.val{H:Hp}{kvs:List (List Key×V)}{xs:List (List Key×Addr×Value)}(r:KT H kvs xs)(k:List Key):nA (jB kvs k) ((atKey xs k).map (·.2)):=by
 induction r with
 | nil=>exact True.intro
 | @cons p q ps qs h t ih =>
  obtain⟨h1,_,h2⟩:=h
  by_cases e:p.1=k
  .have e':q.1=k:=h1.symm.trans e
   have b:atKey (q::qs) k=some q.2:=by simp[atKey,List.find?_cons,e']
   rw[iJ e,b];exact h2
  .have e':¬ q.1=k:=λz=>e (h1.trans z)
   have b:atKey (q::qs) k=atKey qs k:=by simp[atKey,List.find?_cons,e']
   rw[iK e,b];exact ih
theorem KT.repl{H:Hp}{kvs:List (List Key×V)}{xs:List (List Key×Addr×Value)}(r:KT H kvs xs)(k:List Key){y:V}{u:Value}(ry:RelV y u) :
  KT H (kvs.map λkv=>if kv.1=k then(kv.1,y) else kv) (xs.map (putAt k u)):=by
 induction r with
 | nil=>exact .nil
 | @cons p q ps qs h t ih =>
  rw[E4z,E4z];refine .cons ?_ ih;obtain⟨h1,h2,h3⟩:=h;unfold putAt
  by_cases e:p.1=k
  .rw[P5z e,P5z (h1.symm.trans e)];exact⟨h1,h2,ry⟩
  .rw[Q5z e,Q5z (λz=>e (h1.trans z))];exact⟨h1,h2,h3⟩
theorem KT.put{H:Hp}{kvs:List (List Key×V)}{xs:List (List Key×Addr×Value)}(r:KT H kvs xs)(k:List Key){b:Addr}{y:V}{u:Value}(hb:H b=some (.tup (k.map kV)))(ry:RelV y u) :
  KT H (putK kvs k y) (storedH xs k b u):=by
 have e:(kvs.any λkv=>decide (kv.1=k))=(atKey xs k).isSome:=by
  rw[uz,(r.val k).isSome_eq,H2z]
 unfold putK storedH;rw[e]
 by_cases q:(atKey xs k).isSome=true
 .rw[P5z q,P5z q];exact r.repl k ry
 .rw[Q5z q,Q5z q];exact Paired.snoc r ⟨rfl,hb,ry⟩
theorem KT.keeps{H H':Hp}{kvs:List (List Key×V)}{xs:List (List Key×Addr×Value)}(r:KT H kvs xs)(ht:∀b ys,H b=some (.tup ys)->H' b=some (.tup ys)):KT H' kvs xs :=
 Paired.mapP r λ_ _ z=>⟨z.1,ht _ _ z.2.1,z.2.2⟩
section
variable{P:Program}{w:World}{H:Hp}{h:Heap}{a:Addr}
theorem Ob{u:HO}(ok:HOk P w H h)(e:Rd H a u):cQ P w H h a u:=e.ok ok
theorem tR{kvs:List (Key×V)}(ok:HOk P w H h)(e:Rd H a (.dK kvs)):kvs.length<=sizeLine/\(a==sysModules)=false/\∃vs,KV kvs vs/\h.DictOf (aR P w) a vs :=
 show cQ P w H h a (.dK kvs) from Ob ok e
theorem Qv{kvs:List (Key×V)}(ok:HOk P w H h)(e:H a=some (.dK kvs)):kvs.length<=sizeLine/\(a==sysModules)=false/\∃vs,KV kvs vs/\h.DictOf (aR P w) a vs:=tR ok (.inl e)
theorem mX{ks:List Key}(ok:HOk P w H h)(e:H a=some (.tup (ks.map kV))):(tupleKind (aR P w)).is h ks a:=by
 obtain⟨_,its,r,o,h1,h2,n,h3⟩:=(show cQ P w H h a (.tup (ks.map kV)) from ok a _ e);exact⟨o,its.toArray,n,h1,h2,h3,by simpa using qF r⟩
theorem tM{kvs:List (List Key×V)}(ok:HOk P w H h)(e:Rd H a (.dT kvs)):kvs.length<=sizeLine/\(a==sysModules)=false /\
  ∃xs,KT H kvs xs/\h.DictOfH (tupleKind (aR P w)) a xs:=by
 obtain⟨z,y,xs,r,o,es,ep,h1,h2,h3,h4,h5⟩:=(show cQ P w H h a (.dT kvs) from Ob ok e);refine⟨z,y,xs,r,o,es,ep,h1,h2,h3,h4,λx hx=>?_,h5⟩
 have all:∀{l:List (List Key×V)}{m:List (List Key×Addr×Value)},KT H l m->∀x∈m,(tupleKind (aR P w)).is h x.1 x.2.1:=by
  intro l m q
  induction q with
  | nil=>intro x hx;exact nomatch hx
  | @cons p q ps qs hq t ih =>
   intro x hx;rcases L4z.mp hx with e | hx
   .subst e
    exact mX ok (by rw[<- hq.1];exact hq.2.1)
   .exact ih x hx
 exact all r x hx
theorem Uj{kvs:List (List Key×V)}(ok:HOk P w H h)(e:H a=some (.dT kvs)):kvs.length<=sizeLine/\(a==sysModules)=false /\
  ∃xs,KT H kvs xs/\h.DictOfH (tupleKind (aR P w)) a xs:=tM ok (.inl e)
end
def uy(H:Hp)(a:Addr)(y:V)(r:Option V):Prop :=
 (∃kvs k,Rd H a (.dK kvs)/\y=kV k/\r=jB kvs k)\/∃kvs k b,Rd H a (.dT kvs)/\y=.ref b/\H b=some (.tup (k.map kV))/\r=jB kvs k
def QX(H:Hp)(a:Addr)(y v:V)(H':Hp):Prop :=
 (∃kvs k,H a=some (.dK kvs)/\y=kV k/\kvs.length<sizeLine/\H'=upd H a (.dK (putK kvs k v))) \/
 ∃kvs k b,H a=some (.dT kvs)/\y=.ref b/\H b=some (.tup (k.map kV))/\kvs.length<sizeLine/\H'=upd H a (.dT (putK kvs k v))
theorem uy.k{H:Hp}{a:Addr}{kvs:List (Key×V)}{k:Key}(e:H a=some (.dK kvs)):uy H a (kV k) (jB kvs k):=.inl ⟨kvs,k,.inl e,rfl,rfl⟩
theorem QX.k{H:Hp}{a:Addr}{kvs:List (Key×V)}{k:Key}{v:V}(e:H a=some (.dK kvs))(hl:kvs.length<sizeLine):QX H a (kV k) v (upd H a (.dK (putK kvs k v))):=.inl ⟨kvs,k,e,rfl,hl,rfl⟩
section
variable{X:Cx}{z0:List (Addr×Obj)}{Y:St}{H:Hp}{s:Shared}{a:Addr}{y v:V}{u r:Value}{o:Option V}{A:Around}{E:Value->Shared->Prop}
theorem Inv.big(I:Inv X z0 Y H s):sysModules<s.heap.objs.size:=by
 have h:mainGlobals<s.heap.objs.size:=(I.mod.glob.keeps I.bk).lt;exact Nat.lt_trans (by decide) h
theorem Bg{Q:Value->Shared->Prop}(hu:A.units+1<cLine)(I:Inv X z0 Y H s)(g:uy H a y (some v))(ry:RelV y u)(h:∀w' s',Inv X z0 Y H s'->RelV v w'->Q w' s') :
  wpAny (model X.prog X.w) A (getItem (.ref a) u) Q E s:=by
 rcases g with⟨kvs,k,e,ey,l⟩ | ⟨kvs,k,b,e,ey,eb,l⟩
 .subst ey
  obtain⟨z,hd,vs,rel,dd⟩:=tR I.hok e;obtain⟨w',hw,rw'⟩:=nA.some_of (v:=v) (o:=valueAt vs k) (by rw[l];exact rel.val k);exact wpAny_getItem_of (lR ry) dd.mapOf hw (h w' _ (I.tok _) rw')
 .subst ey
  cases (show u=Value.ref b from ry);obtain⟨z,hd,xs,rel,dd⟩:=tM I.hok e;obtain⟨w',hw,rw'⟩:=nA.some_of (v:=v) (o:=(atKey xs k).map (·.2)) (by rw[l];exact rel.val k);obtain⟨p,hp,hp2⟩:=O0z.mp hw;refine wpAny_getItem_heap (U1z hu) (mX I.hok eb) dd hp ?_;rw[hp2];exact h w' _ (I.tok _) rw'
theorem W3{Q:Value->Shared->Prop}(hu:A.units+1<cLine)(I:Inv X z0 Y H s)(g:uy H a y o)(ry:RelV y u)(h:∀s',Inv X z0 Y H s'->Q (.bool o.isSome) s') :
  wpAny (model X.prog X.w) A (compareOp .In u (.ref a)) Q E s:=by
 rcases g with⟨kvs,k,e,ey,l⟩ | ⟨kvs,k,b,e,ey,eb,l⟩
 .subst ey
  obtain⟨z,hd,vs,rel,dd⟩:=tR I.hok e;refine wpAny_in_of (lR ry) hd dd.mapOf ?_;rw[<- (rel.val k).isSome_eq,<- l];exact h _ (I.tok _)
 .subst ey
  cases (show u=Value.ref b from ry);obtain⟨z,hd,xs,rel,dd⟩:=tM I.hok e;refine wpAny_in_heap (U1z hu) (mX I.hok eb) hd dd ?_;have q:=(rel.val k).isSome_eq;rw[H2z] at q;rw[<- q,<- l];exact h _ (I.tok _)
theorem Li{Q:Value->Shared->Prop}(hu:A.units+1<cLine)(I:Inv X z0 Y H s)(g:uy H a y o)(ry:RelV y u)(h:∀s',Inv X z0 Y H s'->Q (.bool (!o.isSome)) s') :
  wpAny (model X.prog X.w) A (compareOp .NotIn u (.ref a)) Q E s:=by
 rcases g with⟨kvs,k,e,ey,l⟩ | ⟨kvs,k,b,e,ey,eb,l⟩
 .subst ey
  obtain⟨z,hd,vs,rel,dd⟩:=tR I.hok e;refine wpAny_notIn_of (lR ry) hd dd.mapOf ?_;rw[<- (rel.val k).isSome_eq,<- l];exact h _ (I.tok _)
 .subst ey
  cases (show u=Value.ref b from ry);obtain⟨z,hd,xs,rel,dd⟩:=tM I.hok e;refine wpAny_notIn_heap (U1z hu) (mX I.hok eb) hd dd ?_;have q:=(rel.val k).isSome_eq;rw[H2z] at q;rw[<- q,<- l];exact h _ (I.tok _)
theorem tZ{h':Heap}{t':Nat}{ob:HO}(I:Inv X z0 Y H s)(mu:Mut (H a))(hs:Heap.SameBut a s.heap h')(he:∃q,h'.get? a=some q)(new:cQ X.prog X.w (upd H a ob) h' a ob) :
  Inv X z0 Y (upd H a ob) {s with heap:=h',toks:=t'} :=
 I.write (x:=a) (e:=a) mu (.inl rfl) (λb q hb z=>(hs.2 b hb).trans z) he new
theorem Bc{P:Program}{w:World}{H':Hp}{h':Heap}{kvs:List (Key×V)}{vs:List (Key×Value)}(z:kvs.length<=sizeLine)(hd:(a==sysModules)=false)(rel:KV kvs vs)(dd:h'.DictOf (aR P w) a vs) :
  cQ P w H' h' a (.dK kvs):=⟨z,hd,vs,rel,dd⟩
theorem Bf{H':Hp}{Q:Unit->Shared->Prop}(hu:A.units+1<cLine)(I:Inv X z0 Y H s)(g:QX H a y v H')(ry:RelV y u)(rv:RelV v r)(h:∀s',Inv X z0 Y H' s'->Q () s') :
  wpAny (model X.prog X.w) A (setItem (.ref a) u r) Q E s:=by
 rcases g with⟨kvs,k,e,ey,l,eH⟩ | ⟨kvs,k,b,e,ey,eb,l,eH⟩
 .subst ey eH
  obtain⟨z,hd,vs,rel,dd⟩:=Qv I.hok e
  have hz:vs.length<=sizeLine:=by rw[<- rel.length];exact z
  have hl:(putK kvs k v).length<=sizeLine:=by have:=iB kvs k v;omega
  refine wpAny_setItem_pairs (hsz:=hz) (lR ry) dd λh' dd' hs=>h _ ?_;have he:∃q,h'.get? a=some q:=let ⟨q,_,_,hq,_⟩:=dd';⟨q,hq⟩;exact tZ I (by rw[e];exact True.intro) hs he (Bc hl hd (rel.put k rv) dd')
 .subst ey eH
  cases (show u=Value.ref b from ry);obtain⟨z,hd,xs,rel,dd⟩:=Uj I.hok e
  have hz:xs.length<=sizeLine:=by rw[<- Paired.length rel];exact z
  have hl:(putK kvs k v).length<=sizeLine:=by have:=iB kvs k v;omega
  refine wpAny_setItem_heap (hsz:=hz) (U1z hu) (mX I.hok eb) dd λh' dd' hs=>h _ ?_;obtain⟨q,es,ep,hq,h2,h3,h4,_,h5⟩:=dd';refine tZ I (by rw[e];exact True.intro) hs ⟨q,hq⟩ ⟨hl,hd,_,(rel.put k eb rv).keeps λc ys ec=>?_,q,es,ep,hq,h2,h3,h4,h5⟩;rw[aj (oG ec e (λz=>nomatch z))];exact ec
end
section
variable{X:Cx}{z0:List (Addr×Obj)}{Y:St}{H:Hp}{s:Shared}{a:Addr}{kvs:List (Key×V)}{k:Key}{u:Value}{A:Around}{E:Value->Shared->Prop}
theorem Ul{v:V}{more:List Value}{Q:Value->Shared->Prop}(I:Inv X z0 Y H s)(e:H a=some (.dK kvs))(ry:RelV (kV k) u)(l:jB kvs k=some v)(hm:more=[]\/∃x,more=[x])
  (h:∀w' s',Inv X z0 Y (upd H a (.dK (tQ kvs k))) s'->RelV v w'->Q w' s'):wpAny (model X.prog X.w) A (call (.builtin "dict.pop") (.ref a::u::more)) Q E s:=by
 obtain⟨z,hd,vs,rel,dd⟩:=Qv I.hok e;obtain⟨w',hw,rw'⟩:=nA.some_of (v:=v) (o:=valueAt vs k) (by rw[<- l];exact rel.val k)
 have hp:(keyPart u).isSome=true:=by
  cases k with
  | inl i=>obtain⟨t,q⟩:=(show ∃t,u=Value.int i t from ry);subst q;rfl
  | inr x=>obtain⟨t,q⟩:=(show ∃t,u=Value.str x t from ry);subst q;rfl
 have ha:argsOk "dict.pop" ⟨.ref a::u::more,[]⟩:=by
  rcases hm with q | ⟨x,q⟩
  .subst q;exact PySem.F.args_dict_pop_2 _ _
  .subst q;exact PySem.F.args_dict_pop_3 _ _ _
 refine call_meetsIn PySem.F.slot_dict_pop dd.typeIs PySem.F.entry_dict_pop ha (meets_dict_pop_there (aR X.prog X.w) a (lR ry) more hm hp)
  ⟨vs,w',dd,by rw[<- rel.length];exact z,hw,λh' dd' hs=>h w' _ ?_ rw'⟩
 have he:∃q,h'.get? a=some q:=let ⟨q,_,_,hq,_⟩:=dd';⟨q,hq⟩
 exact tZ I (by rw[e];exact True.intro) hs he (Bc (P4z (Fx kvs k) z) hd (rel.drop k) dd')
end
def Uz(i:Expr):Prop:=∀ov iv,subscripted i false ov iv=operate [ov,iv] (getItem ov iv)
theorem yq{prog:Program}{w:World}{A:Around}{E:Value->Shared->Prop}{s:Shared}{env:Env}{value slice:Expr}{pos:Pos}{T id:String}{Q:Value->Shared->Prop}
  (hl:typeLookup (.type T) "__getitem__"=pure (some (.builtin id))) (hs:Uz slice)
  (h:wpAny (model prog w) A (eval value env) (λo s₁=>wpAny (model prog w) A (eval slice env) (λi s₂=>s₂.TypeIs o T/\wpAny (model prog w) A (getItem o i) Q E s₂) E s₁) E s) :
  wpAny (model prog w) A (eval (.Subscript value slice pos) env) Q E s:=by
 refine Subscript_ (D5z h (λo s₁ h₁=>D5z h₁ (λi s₂ h₂=>?_) λ_ _ x=>x) λ_ _ x=>x);obtain⟨hT,h₂⟩:=h₂;unfold subscriptTail;refine E5z ?_;rw[getitemInPython_of_ne hT.not_modules];refine E5z (P3z hT hl ?_)
 have fin:wpAny (model prog w) A (subscripted slice false o i) (λr s₃=>wpAny (model prog w) A (letTemporaryGo value o r >>=λ_=>pure r) Q E s₃) E s₂:=by
  rw[hs o i];exact wpAny_operating (D5z h₂ (λr s₃ h₃=>E5z (wpAny_letTemporaryGo (F5z h₃))) λ_ _ x=>x)
 first
  | exact F5z (E5z fin)
  | exact E5z (F5z (E5z fin))
  | exact E5z fin
theorem tU{X:Cx}{z0:List (Addr×Obj)}{Y:St}{H:Hp}{s:Shared}{a:Addr}{y:V}{o:Option V}(I:Inv X z0 Y H s)(g:uy H a y o):s.TypeIs (.ref a) "dict":=by
 rcases g with⟨kvs,k,e,_,_⟩ | ⟨kvs,k,b,e,_,_,_⟩
 .obtain⟨_,_,vs,_,dd⟩:=tR I.hok e
  exact dd.typeIs
 .obtain⟨_,_,xs,_,dd⟩:=tM I.hok e
  exact dd.typeIs
def RX(td ty:TE):TE:=λY H Q=>td Y H λx H1=>ty Y H1 λy H2=>∃a v,x=.ref a/\uy H2 a y (some v)/\Q v H2
def V2(ty td:TE):TE:=λY H Q=>ty Y H λy H1=>td Y H1 λx H2=>∃a o,x=.ref a/\uy H2 a y o/\Q (.bl o.isSome) H2
def Im(ty td:TE):TE:=λY H Q=>ty Y H λy H1=>td Y H1 λx H2=>∃a o,x=.ref a/\uy H2 a y o/\Q (.bl (!o.isSome)) H2
def Sg(td ty tv:TE):TS:=λD Y H=>tv Y H λv H1=>td Y H1 λx H2=>ty Y H2 λy H3=>∃a H4,x=.ref a/\QX H3 a y v H4/\D.nx Y H4
section
variable{X:Cx}{o i e value:Expr}{pos pos' tpos:Pos}{td ty tv:TE}
theorem JK(hu:X.A.units+1<cLine)(ho:PE X o td)(hi:PE X i ty)(hs:Uz i):PE X (.Subscript o i pos) (RX td ty):=by
 intro z0 s Y H Q I h;refine yq PySem.F.slot_dict_getitem.lookup hs (thn (ho z0 s Y H _ I h) λu s1 ⟨x,H1,I1,rx,q1⟩=>thn (hi z0 s1 Y H1 _ I1 q1) λiv s2 ⟨y,H2,I2,ry,a,v,ex,g,q2⟩=>?_);subst ex;obtain rfl:u=Value.ref a:=rx;exact⟨tU I2 g,Bg hu I2 g ry λw' s3 I3 rw'=>⟨v,H2,I3,rw',q2⟩⟩
theorem Ox(hu:X.A.units+1<cLine)(hi:PE X i ty)(ho:PE X o td):PC X .In i o (V2 ty td):=by
 intro z0 s Y H Q I h;refine thn (hi z0 s Y H _ I h) λiv s1 ⟨y,H1,I1,ry,q1⟩=>thn (ho z0 s1 Y H1 _ I1 q1) λu s2 ⟨x,H2,I2,rx,a,ov,ex,g,q2⟩=>?_;subst ex;obtain rfl:u=Value.ref a:=rx;exact W3 hu I2 g ry λs3 I3=>⟨.bl ov.isSome,H2,I3,rfl,q2⟩
theorem zq(hu:X.A.units+1<cLine)(hi:PE X i ty)(ho:PE X o td):PC X .NotIn i o (Im ty td):=by
 intro z0 s Y H Q I h;refine thn (hi z0 s Y H _ I h) λiv s1 ⟨y,H1,I1,ry,q1⟩=>thn (ho z0 s1 Y H1 _ I1 q1) λu s2 ⟨x,H2,I2,rx,a,ov,ex,g,q2⟩=>?_;subst ex;obtain rfl:u=Value.ref a:=rx;exact Li hu I2 g ry λs3 I3=>⟨.bl (!ov.isSome),H2,I3,rfl,q2⟩
theorem Jx(hu:X.A.units+1<cLine)(ho:PE X o td)(hi:PE X i ty)(hv:PE X value tv)(hs:swapsWith value (some (.Subscript o i pos')) pos.line X.env=pure false) :
  PS X (.Assign [.Subscript o i pos'] value pos) (Sg td ty tv):=by
 intro z0 s Y H D I h;refine wpAny_Assign_Subscript (thn (hv z0 s Y H _ I h) λr s1 ⟨v,H1,I1,rv,q1⟩=>thn (ho z0 s1 Y H1 _ I1 q1) λu s2 ⟨x,H2,I2,rx,q2⟩=>thn (hi z0 s2 Y H2 _ I2 q2) λiv s3 ⟨y,H3,I3,ry,a,H4,ex,g,q3⟩=>?_) hs;subst ex;obtain rfl:u=Value.ref a:=rx;exact Bf hu I3 g ry rv λs4 I4=>⟨Y,H4,I4,q3⟩
end
theorem vo{P:Program}{w:World}{H:Hp}(h:Heap)(hb:sysModules<h.objs.size):cQ P w H (h.push {cls:=.type "dict",data:=.dict #[]}) h.objs.size (.dK []) :=
 ⟨Z4z _,E1z.mpr (N5z (O4z hb)),[],.nil,Heap.DictOf.new h⟩
def Nu:TE:=λ_ H Q=>∀p,H p=none->Q (.ref p) (upd H p (.dK []))
section
variable{X:Cx}{pos:Pos}
theorem Dt:PE X (.Dict [] [] pos) Nu:=λz0 s Y H Q I h =>
 wpAny_Dict_empty ⟨.ref s.heap.objs.size,_,I.laid (a:=s.heap.objs.size) (o:=.dK []) (t':=s.toks) (λ_ _ q=>Heap.get?_push_of_some _ q) (X4z _) (vo s.heap I.big),rfl,h _ (I.hok.fresh (X4z _))⟩
end
def gZ(kvs more:List (Key×V)):List (Key×V):=more.foldl (λacc kv=>putK acc kv.1 kv.2) kvs
theorem KV.merge:∀{more:List (Key×V)}{rs:List (Key×Value)}{kvs:List (Key×V)}{vs:List (Key×Value)},KV more rs->KV kvs vs->KV (gZ kvs more) (merged vs rs):=by
 intro more rs kvs vs r;unfold KV at r
 induction r generalizing kvs vs with
 | nil=>intro q;exact q
 | @cons p q ps qs h t ih =>
  intro r0
  have e:KV (putK kvs p.1 p.2) (stored vs q.1 q.2):=by
   have:=r0.put p.1 h.2;rw[<- h.1];exact this
  exact ih e
theorem jf:∀(more kvs:List (Key×V)),(gZ kvs more).length<=kvs.length+more.length
 | [],kvs=>by show kvs.length<=kvs.length+0;omega
 | p::r,kvs=>by
  have h1:=jf r (putK kvs p.1 p.2);have h2:=iB kvs p.1 p.2;show(gZ (putK kvs p.1 p.2) r).length<=_;rw[P2z];omega
structure M1(X:Cx)(o:Expr)(m:Str)(apos:Pos)(e:Expr)(cpos:Pos):Prop where
 base:attributeBase o m X.env (eval o X.env)=eval o X.env
 few:((backTo cpos (starEach [e] X.env)).all (λx => !x.1)&&(backToKw cpos (keywordEach [] X.env)).all (λx=>x.1.isSome)
  && decide (([e]:List Expr).length+([]:List Keyword).length+(if([]:List Keyword).isEmpty then 0 else 1)<30))=true
 line:(apos.endLine==cpos.line)=true
 trees:backTo cpos (starEach [e] X.env)=[(false,eval e X.env)]
structure M2(X:Cx)(o:Expr)(m:Str)(apos:Pos)(e f:Expr)(cpos:Pos):Prop where
 base:attributeBase o m X.env (eval o X.env)=eval o X.env
 few:((backTo cpos (starEach [e,f] X.env)).all (λx => !x.1)&&(backToKw cpos (keywordEach [] X.env)).all (λx=>x.1.isSome)
  && decide (([e,f]:List Expr).length+([]:List Keyword).length+(if([]:List Keyword).isEmpty then 0 else 1)<30))=true
 line:(apos.endLine==cpos.line)=true
 trees:backTo cpos (starEach [e,f] X.env)=[(false,eval e X.env),(false,eval f X.env)]
def IsD(H:Hp)(a:Addr):Prop:=(∃kvs,Rd H a (.dK kvs))\/∃kvs,Rd H a (.dT kvs)
theorem Hg{X:Cx}{z0:List (Addr×Obj)}{Y:St}{H:Hp}{s:Shared}{a:Addr}(I:Inv X z0 Y H s)(d:IsD H a) :
  s.TypeIs (.ref a) "dict"/\(∀b,Value.ref a=.ref b->∃ob,s.heap.get? b=some ob/\ob.dict=none)/\(a==sysModules)=false:=by
 rcases d with⟨kvs,e⟩ | ⟨kvs,e⟩
 .obtain⟨_,hd,vs,_,dd⟩:=tR I.hok e
  refine⟨dd.typeIs,λb q=>?_,hd⟩;cases q;obtain⟨ob,_,_,h1,h2,_⟩:=dd;exact⟨ob,h1,h2.2.1⟩
 .obtain⟨_,hd,xs,_,dd⟩:=tM I.hok e
  refine⟨dd.typeIs,λb q=>?_,hd⟩;cases q;obtain⟨ob,_,_,h1,h2,_⟩:=dd;exact⟨ob,h1,h2.2.1⟩
section
variable{X:Cx}{z0:List (Addr×Obj)}{Y:St}{H:Hp}{s:Shared}{a:Addr}{y d:V}{u r:Value}{o:Option V}{A:Around}{E:Value->Shared->Prop}
theorem Qz{Q:Value->Shared->Prop}(hu:A.units+1<cLine)(I:Inv X z0 Y H s)(g:uy H a y o)(ry:RelV y u)(h:∀w' s',Inv X z0 Y H s'->RelV (o.getD .non) w'->Q w' s') :
  wpAny (model X.prog X.w) A (call (.builtin "dict.get") [.ref a,u]) Q E s:=by
 rcases g with⟨kvs,k,e,ey,l⟩ | ⟨kvs,k,b,e,ey,eb,l⟩
 .subst ey
  obtain⟨z,hd,vs,rel,dd⟩:=tR I.hok e;refine call_meetsIn R0z dd.typeIs PySem.F.entry_dict_get (PySem.F.args_dict_get_2 _ _) (meets_dict_get (aR X.prog X.w) a (lR ry) hd) ⟨_,dd.mapOf,h _ _ (I.tok _) ?_⟩;rw[l];exact(rel.val k).getD rfl
 .subst ey
  cases (show u=Value.ref b from ry);obtain⟨z,hd,xs,rel,dd⟩:=tM I.hok e;refine call_meetsIn R0z dd.typeIs PySem.F.entry_dict_get (PySem.F.args_dict_get_2 _ _) (meetsH_dict_get (tupleKind (aR X.prog X.w)) a b hd) ⟨U1z hu,k,xs,mX I.hok eb,dd,h _ _ (I.tok _) ?_⟩;rw[l];exact(rel.val k).getD rfl
end
def Ny(td ty:TE):TE:=λY H Q=>td Y H λx H1=>∃a,x=.ref a/\IsD H1 a/\ty Y H1 λy H2=>∃o,uy H2 a y o/\Q (o.getD .non) H2
def Nt(td ty:TE):TE:=λY H Q=>td Y H λx H1=>∃a,x=.ref a/\IsD H1 a/\ty Y H1 λy H2=>∃kvs k v,H2 a=some (.dK kvs)/\y=kV k/\jB kvs k=some v/\Q v (upd H2 a (.dK (tQ kvs k)))
section
variable{X:Cx}{o e f:Expr}{apos cpos:Pos}{td ty tx:TE}
theorem Dv(hu:X.A.units+1<cLine)(ho:PE X o td)(he:PE X e ty)(m:M1 X o "get" apos e cpos):PE X (.Call (.Attribute o "get" apos) [e] [] cpos) (Ny td ty):=by
 intro z0 s Y H Q I h;refine wpAny_Call_method m.base m.few m.line G0z R0z PySem.F.type_dict_get (thn (ho z0 s Y H _ I h) λu s1 ⟨x,H1,I1,rx,a,ex,d,q1⟩=>?_);subst ex;obtain rfl:u=Value.ref a:=rx;obtain⟨t1,t2,_⟩:=Hg I1 d;refine⟨t1,t2,?_⟩;rw[m.trees];refine N0z rfl (X0z (N1z (thn (he z0 s1 Y H1 _ I1 q1) λiv s2 ⟨y,H2,I2,ry,ov,g,q2⟩=>C2z ?_)));exact Qz hu I2 g ry λw' s3 I3 rw'=>⟨_,H2,I3,rw',q2⟩
theorem Ds(ho:PE X o td)(he:PE X e ty)(m:M1 X o "pop" apos e cpos):PE X (.Call (.Attribute o "pop" apos) [e] [] cpos) (Nt td ty):=by
 intro z0 s Y H Q I h;refine wpAny_Call_method m.base m.few m.line G0z PySem.F.slot_dict_pop PySem.F.type_dict_pop (thn (ho z0 s Y H _ I h) λu s1 ⟨x,H1,I1,rx,a,ex,d,q1⟩=>?_);subst ex;obtain rfl:u=Value.ref a:=rx;obtain⟨t1,t2,_⟩:=Hg I1 d;refine⟨t1,t2,?_⟩;rw[m.trees];refine N0z rfl (X0z (N1z (thn (he z0 s1 Y H1 _ I1 q1) λiv s2 ⟨y,H2,I2,ry,kvs,k,v,ea,ey,l,q2⟩=>C2z ?_)));subst ey;exact Ul I2 ea ry l (.inl rfl) λw' s3 I3 rw'=>⟨v,_,I3,rw',q2⟩
end
section
variable{X:Cx}{z0:List (Addr×Obj)}{Y:St}{H:Hp}{s:Shared}{a:Addr}{kvs:List (Key×V)}{A:Around}{E:Value->Shared->Prop}
end
section
variable{X:Cx}{z0:List (Addr×Obj)}{Y:St}{H:Hp}{s:Shared}{a:Addr}{y:V}{u:Value}{A:Around}{E:Value->Shared->Prop}
end
end L2
namespace Att
open PySem PySem.W PySem.Calls PyProof.Rows
section
variable{prog:Program}{w:World}{A:Around}{E:Value->Shared->Prop}{s:Shared}{K:Frag}
end
end Att
namespace L2
open PySem PySem.Spec PyProof.Rows
section
variable{P:Program}{w:World}{K:Zf}{mg:Str->Option Value}{base:Heap}
end
section
variable{X:Cx}
end
section
variable{κ:Type}[DecidableEq κ]
end
def KDc(K:Zf)(a:Addr)(kvs:List (Key×V)):Prop:=∃(o:Obj)(es:Array DictEntry)(n:Nat),K.lookup a=some o/\o.ExactDict/\o.data=.dict es n/\(a==sysModules)=false/\(kvs.map (·.1)).Nodup/\Paired (λ(p:Key×V)(e:DictEntry)=>(∃x t,p.1=.inr x/\e.key=.str x t)/\RelV p.2 e.val) kvs es.toList
def hsO(o:Obj):List Int:=match o.data with | .dict es _=>es.toList.map (·.hash) | _=>[]
def hsX(w:World)(o:Obj):List Int:=match o.data with | .dict es _=>es.toList.map (λe=>match e.key with | .str x _=>hashStr w x | _=>e.hash) | _=>[]
def KnW(K:Zf)(w:World):Prop:=K.map (λp=>hsO p.2)=K.map (λp=>hsX w p.2)
theorem lookup_mem{α:Type}:∀{l:List (Addr×α)}{a:Addr}{o:α},l.lookup a=some o->(a,o)∈l
 | (b,u)::r,a,o,h=>by
  rw[S2z] at h
  cases hb:a==b with
  | true =>
   rw[hb] at h
   have e1:a=b:=by simpa using hb
   cases h;subst e1;exact K1z
  | false =>
   rw[hb] at h;exact U0z _ (lookup_mem h)
theorem KnW.at{K:Zf}{w:World}{a:Addr}{o:Obj}{es:Array DictEntry}{n:Nat}(kw:KnW K w)(h:K.lookup a=some o)(hd:o.data=.dict es n):∀e∈es.toList,∀x t,e.key=.str x t->e.hash=hashStr w x:=by
 have:=List.map_inj_left.mp kw (a,o) (lookup_mem h);simp only[hsO,hsX,hd] at this;intro e he x t hk;have q:=List.map_inj_left.mp this e he;rw[hk] at q;exact q
theorem qD{P:Program}{w:World}{kvs:List (Key×V)}{es:List DictEntry}(p:Paired (λ(p:Key×V)(e:DictEntry)=>(∃x t,p.1=.inr x/\e.key=.str x t)/\RelV p.2 e.val) kvs es)(hh:∀e∈es,∀x t,e.key=.str x t->e.hash=hashStr w x) :
  ∃vs:List (Key×Value),KV kvs vs/\Pairs (aR P w) es vs/\vs.map (·.1)=kvs.map (·.1)/\∀e∈es,∃k,(aR P w).is k e.key=true/\e.hash=(aR P w).hash k:=by
 induction p with
 | nil=>exact⟨[],.nil,.nil,rfl,λe he=>nomatch he⟩
 | @cons q e kvs es h t ih =>
  obtain⟨vs,h1,h2,h3,h4⟩:=ih λe he=>hh e (U0z _ he);obtain⟨⟨x,tk,g1,g2⟩,g3⟩:=h
  have gi:(aR P w).is q.1 e.key=true:=by
   rw[g1,g2];show Value.isStrOf x (.str x tk)=true;simp[Value.isStrOf]
  refine⟨(q.1,e.val)::vs,.cons ⟨rfl,g3⟩ h1,.cons gi rfl h2,by simp[h3],λe' he=>?_⟩;rcases L4z.mp he with r | r
  .subst r
   refine⟨q.1,gi,?_⟩;rw[hh _ K1z x tk g2,g1];rfl
  .exact h4 e' r
def DAt(K:Zf)(H:Hp)(a:Addr)(kvs:List (Key×V)):Prop:=(∃o,H a=some (.frz o (.dK kvs)))\/KDc K a kvs
section
variable{X:Cx}{z0:List (Addr×Obj)}{Y:St}{H:Hp}{s:Shared}{a:Addr}{kvs:List (Key×V)}{k:Key}{v d:V}{u r:Value}{A:Around}{E:Value->Shared->Prop}{o i e f:Expr}{td ty tx:TE}{pos apos cpos:Pos}
theorem eE(I:Inv X z0 Y H s)(kw:KnW X.K X.w)(g:DAt X.K H a kvs):(a==sysModules)=false/\∃vs,KV kvs vs/\s.heap.DictOf (aR X.prog X.w) a vs:=by
 rcases g with⟨o,g⟩ | ⟨o,es,n,h1,h2,h3,h4,h5,h6⟩
 .exact(I.hok a _ g).2.2
 .obtain⟨vs,g1,g2,g3,g4⟩:=qD (P:=X.prog) h6 (kw.at h1 h3)
  exact⟨h4,vs,g1,o,es,n,I.kIn a o h1,h2,h3,λe he=>g4 e (by simpa using he),g2,by rw[g3];exact h5⟩
theorem zY{Q:Value->Shared->Prop}(I:Inv X z0 Y H s)(kw:KnW X.K X.w)(g:DAt X.K H a kvs)(l:some v=jB kvs k)(ry:RelV (kV k) u)(h:∀w' s',Inv X z0 Y H s'->RelV v w'->Q w' s') :
  s.TypeIs (.ref a) "dict"/\wpAny (model X.prog X.w) A (getItem (.ref a) u) Q E s:=by
 obtain⟨hd,vs,rel,dd⟩:=eE I kw g;obtain⟨w',hw,rw'⟩:=nA.some_of (v:=v) (o:=valueAt vs k) (by rw[l];exact rel.val k);exact⟨dd.typeIs,wpAny_getItem_of (lR ry) dd.mapOf hw (h w' _ (I.tok _) rw')⟩
def RV(K:Zf)(td ty:TE):TE:=λY H Q=>td Y H λx H1=>ty Y H1 λy H2=>∃a v kvs k,x=.ref a/\DAt K H2 a kvs/\y=kV k/\some v=jB kvs k/\Q v H2
theorem JH(kw:KnW X.K X.w)(ho:PE X o td)(hi:PE X i ty)(hs:Uz i):PE X (.Subscript o i pos) (RV X.K td ty):=by
 intro z0 s Y H Q I h;refine yq PySem.F.slot_dict_getitem.lookup hs (thn (ho z0 s Y H _ I h) λu s1 ⟨x,H1,I1,rx,q1⟩=>thn (hi z0 s1 Y H1 _ I1 q1) λiv s2 ⟨y,H2,I2,ry,a,v,kvs,k,ex,g,ey,l,q2⟩=>?_);subst ex;subst ey;obtain rfl:u=Value.ref a:=rx;exact zY I2 kw g l ry λw' s3 I3 rw'=>⟨v,H2,I3,rw',q2⟩
end
end L2
namespace L2
open PySem PySem.Spec PySem.Calls PyProof.Rows
theorem DP{P:Program}{w:World}{H:Hp}{h:Heap}{a:Addr}{o:HO}(x:cQ P w H h a o):∃u,h.get? a=some u:=by
 cases o with
 | lst xs=>obtain⟨_,_,_,_,e⟩:=x;exact⟨_,e⟩
 | tup xs=>obtain⟨_,_,_,p⟩:=x;obtain⟨o,e,_⟩:=p;exact⟨_,e⟩
 | dK kvs=>obtain⟨_,_,_,_,o,_,_,e,_⟩:=x;exact⟨_,e⟩
 | dT kvs=>obtain⟨_,_,_,_,o,_,_,e,_⟩:=x;exact⟨_,e⟩
 | set S n=>obtain⟨o,_,_,_,e,_⟩:=x;exact⟨_,e⟩
 | ins C dx fs=>obtain⟨_,_,_,e,_⟩:=x;exact⟨_,e⟩
 | own y=>obtain⟨_,e⟩:=x;exact⟨_,e⟩
 | xd fs=>obtain⟨_,⟨_,_,_,e,_⟩,_⟩:=x;exact⟨_,e⟩
 | rng lo hi=>obtain⟨_,_,_,e⟩:=x;exact⟨_,e⟩
 | frz ob u=>obtain⟨e,_⟩:=x;exact⟨_,e⟩
 | tbl ps=>exact⟨_,x⟩
 | met f y=>exact⟨_,x⟩
 | ext φ=>obtain⟨_,⟨_,e⟩,_⟩:=x;exact⟨_,e⟩
theorem Inv.laidAt{X:Cx}{z0:List (Addr×Obj)}{Y:St}{H:Hp}{s:Shared}{h':Heap}{a:Addr}{o:HO}{t':Nat}(I:Inv X z0 Y H s)(k:∀b u,s.heap.get? b=some u->h'.get? b=some u)(hn:s.heap.get? a=none)(new:cQ X.prog X.w (upd H a o) h' a o) :
  H a=none/\Inv X z0 Y (upd H a o) {s with heap:=h',toks:=t'}:=by
 have hH:H a=none:=by
  cases q:H a with
  | none=>rfl
  | some u =>
   obtain⟨z,e⟩:=DP (I.hok a u q);rw[hn] at e;cases e
 refine⟨hH,I.un ⟨λb u q _ _ _=>k b u q,λb u q _ _ _=>⟨u.slots,k b u q⟩,λb u q n _=>?_,λb u q _=>⟨u,k b u q⟩,λb xs q=>by rw[aj (ak q hH)];exact q,λb u xs q=>by rw[aj (ak q hH)];exact q,λb ps q=>⟨#[],by rw[aj (ak q hH),q];simp⟩⟩ λb u e=>?_⟩
 .rw[aj (λz=>by rw[z,hn] at q;cases q)];exact n
 .by_cases hb:b=a
  .subst hb;rw[aB] at e;cases e;exact new
  .rw[aj hb] at e
   exact(I.hok b u e).stay (λc v _ q=>k c v q) (λc q=>by rw[aj (ak q hH)];exact q) λc xs q=>by rw[aj (ak q hH)];exact q
section
variable{X:Cx}
theorem yr:∀(l:List Value)(ks:List Str),l.length=ks.length->(∀(i:Nat)(x:Value),l[i]?=some x->∃k t,ks[i]?=some k/\x=.str k t)->StrsAre l ks
 | [],[],_,_=>.nil
 | x::l,k::ks,h,f=>by
  obtain⟨k',t,e1,rfl⟩:=f 0 x rfl;cases (show k=k' by simpa using e1);exact .cons k t (yr l ks (by simpa using h) λi y e=>f (i+1) y e)
 | [],_::_,h,_=>by simp at h
 | _::_,[],h,_=>by simp at h
theorem pU:∀{l:List Value}{ks:List Str},StrsAre l ks->Vals (ks.map V.str) l
 | _,_,.nil=>.nil
 | _,_,.cons k t r=>.cons ⟨t,rfl⟩ (pU r)
theorem zV{κ:Type}:∀{kvs:List (κ×V)}{ws:List (κ×Value)},KV kvs ws->ws.map (·.1)=kvs.map (·.1)
 | _,_,.nil=>rfl
 | _,_,.cons h r=>by rw[E4z,E4z,zV r,h.1]
theorem jQ(hc:X.calm=true):cZ X (.builtin "sorted") (λxs H Q=>∃(d:Addr)(kvs:List (Key×V))(ks:List Str),xs=[.ref d]/\(∀z0 Y s,Inv X z0 Y H s->(d==sysModules)=false/\∃vs,KV kvs vs/\s.heap.DictOf (aR X.prog X.w) d vs)/\kvs.map (·.1)=ks.map Sum.inr/\ks.length<64/\∀a ss,H a=none->ss.Perm ks->sortedS ss=true->Q (.ref a) (upd H a (.lst (ss.map V.str)))):=by
 intro z0 s Y H vs us Q I r h;obtain⟨d,kvs,ks,rfl,hd,hks,h64,q⟩:=h
 obtain⟨u,rfl,rfl⟩:∃u,us=[u]/\u=Value.ref d:=by
  cases r with
  | cons r1 r2=>cases r2;exact⟨_,rfl,r1⟩
 obtain⟨lo,ws,kv,hD⟩:=hd _ _ _ I;obtain⟨ep,hat⟩:=hD.dictAt;have hkw:ws.map (·.1)=ks.map Sum.inr:=(zV kv).trans hks
 have hlw:ws.length=ks.length:=by simpa using congrArg List.length hkw
 have h64s:(64:Nat)<=sizeLine:=by decide
 refine call_function_entry kind_sorted plain_sorted entry_sorted (args_sorted1 _) ?_;unfold Builtin.«sorted»;refine E5z (m:=checkCount "sorted" 1 1 _) (F5z ?_);refine E5z (W.kdu_collect (A:=X.A.in1) (W.kdl_dict (knd:=aR X.prog X.w) (kvs:=ws) (ep:=ep) lo) (I.ok.hd hc) hat (by show ws.length<=sizeLine;omega) λh' tk acc hk hacc=>?_)
 have hl:acc.toList.length=ks.length:=by rw[B1z,<- hlw];exact hacc.1
 have hS:StrsAre acc.toList ks:=yr _ _ hl λi x e=>by
  obtain⟨k',y,e1,e2⟩:=hacc.2 i x (by rw[<- Array.getElem?_toList];exact e)
  have e3:(ws.map (·.1))[i]?=some k':=by rw[List.getElem?_map,e1];rfl
  rw[hkw,List.getElem?_map,O0z] at e3;obtain⟨k,e3,rfl⟩:=e3;rw[mW] at e2;rcases bK e2 with⟨i,t,e4,_⟩ | ⟨z,t,e4,e5⟩
  .cases e4
  .cases e4;exact⟨_,t,e3,e5⟩
 generalize acc.toList=al at hl hS;refine E5z (wpAny_newList ?_ (by show al.toArray.size<=sizeLine;rw[D2z];omega));have hoL:(h'.push {cls:=.type "list",data:=.seq al.toArray}).get? h'.objs.size=some (seqObj "list" al.toArray 0):=Heap.get?_push_size _ rfl;refine E5z (H4z (U2z slot_list_sort ⟨_,hoL,rfl⟩ entry_list_sort ?body (args_list_sort _)))
 case body =>
  refine list_sort_treeK (s:={s with heap:=h'.push {cls:=.type "list",data:=.seq al.toArray},toks:=tk}) strKind_oneLt hoL hS.keysOf (λv1 v2 rest e=>keyKind_strs (by rw[<- e];exact hS)) (by omega) λst' hp hs=>?_
  obtain⟨ss,g1,g2,g3⟩:=sorted_out_str hS hp hs;generalize (arrOf st').map (·.2)=out at g1;refine⟨_,rfl,F5z ⟨_,rfl,?_⟩⟩
  have hn:s.heap.get? h'.objs.size=none:=by
   cases e:s.heap.get? h'.objs.size with
   | none=>rfl
   | some o=>exact absurd (N4z (hk _ _ e)) (C4z _)
  obtain⟨ep',hat'⟩:=sortedHeap_at (out:=out) hoL
  obtain⟨hH,J⟩:=I.laidAt (a:=h'.objs.size) (o:=.lst (ss.map V.str)) (t':=tk) (h':=sortedHeap (h'.push {cls:=.type "list",data:=.seq al.toArray}) h'.objs.size al out) (λb u e=>by
   have e':=hk b u e;have hb:b≠h'.objs.size:=O4z (N4z e');rw[sortedHeap_old hb (by rw[X3z];exact F2z (N4z e'))]
   exact Heap.get?_push_of_some _ e') hn ⟨by show(ss.map V.str).length<=sizeLine;rw[I3z,g2.length_eq];omega,out.toList,ep',pU g1,hat'⟩
  exact⟨V.ref h'.objs.size,_,J,rfl,q _ _ hH g2 g3⟩
theorem qW(hc:X.calm=true):cZ X (.builtin "sorted") (λxs H Q=>∃(d:Addr)(kvs:List (Key×V))(ks:List Str),xs=[.ref d]/\H d=some (.dK kvs)/\kvs.map (·.1)=ks.map Sum.inr/\ks.length<64/\∀a ss,H a=none->ss.Perm ks->sortedS ss=true->Q (.ref a) (upd H a (.lst (ss.map V.str)))):=by
 intro z0 s Y H vs us Q I r h;obtain⟨d,kvs,ks,e,hd,h⟩:=h;exact jQ hc z0 s Y H vs us Q I r ⟨d,kvs,ks,e,λ_ _ _ I=>(I.hok d _ hd).2,h⟩
end
end L2
namespace L2
open PySem PySem.Spec PyProof.Rows
section
variable{P:Program}{w:World}{H H':Hp}{h h':Heap}{a:Addr}{o:HO}
theorem cQ.there(x:cQ P w H h a o):∃ob,h.get? a=some ob:=by
 cases o with
 | lst xs=>obtain⟨_,_,_,_,e⟩:=x;exact⟨_,e⟩
 | tup xs=>obtain⟨_,_,_,ob,e,_⟩:=x;exact⟨_,e⟩
 | dK kvs=>obtain⟨_,_,_,_,o,_,_,e,_⟩:=x;exact⟨_,e⟩
 | dT kvs=>obtain⟨_,_,_,_,o,_,_,e,_⟩:=x;exact⟨_,e⟩
 | set S n=>obtain⟨o,_,_,_,e,_⟩:=x;exact⟨_,e⟩
 | ins C dx fs=>obtain⟨_,_,_,e,_⟩:=x;exact⟨_,e⟩
 | own y=>exact x
 | xd fs=>obtain⟨_,⟨_,_,_,e,_⟩,_⟩:=x;exact⟨_,e⟩
 | rng lo hi=>obtain⟨_,_,_,e⟩:=x;exact⟨_,e⟩
 | frz ob u=>obtain⟨e,_⟩:=x;exact⟨_,e⟩
 | tbl ps=>exact⟨_,(show h.get? a=some _ from x)⟩
 | met f y=>exact⟨_,(show h.get? a=some _ from x)⟩
 | ext φ=>exact x.2.1
theorem HOk.none_of(x:HOk P w H h)(e:h.get? a=none):H a=none:=by
 cases q:H a with
 | none=>rfl
 | some u =>
  obtain⟨ob,r⟩:=(x a u q).there;rw[e] at r;cases r
theorem HOk.part{B:Heap}(x:HOk P w H h)(k:∀b u ob,H b=some u->h.get? b=some ob->B.get? b=some ob):HOk P w H B:=λb u e=>by
 refine(x b u e).stay (λc v hc q=>?_) (λ_ q=>q) λ_ _ q=>q;rcases hc with rfl | hc
 .exact k _ _ _ e q
 .exact k _ _ _ hc q
end
section
variable{fs fs' ex:List Addr}{H H':Hp}{h h1 h2 B:Heap}
theorem Un.fly(U:Un fs [] H H' h h1)(kB:∀b o,h.get? b=some o->H b=none->b∉fs->B.get? b=some o)(tB:∀b o,h.get? b=some o->b∉fs->∃o',B.get? b=some o')(st:B.StaysIn h2)
  (nf:∀b∈fs,∀o,h1.get? b=some o->∀vs,o.data≠.fields vs) (up:h1.UpToSlots h2):Un fs [] H H' h h2 where
 keep:=λb o q n hb _=>st b o (kB b o q n hb)
 slot:=λb o q n hb hx=>by
  obtain⟨sl,e⟩:=U.slot b o q n hb hx;obtain⟨sl',e'⟩:=up b _ e (nf b hb _ e);exact⟨sl',e'⟩
 free:=U.free
 there:=λb o q hx=>by
  by_cases hb:b∈fs
  .obtain⟨o',e⟩:=U.there b o q hx
   obtain⟨sl,e'⟩:=up b _ e (nf b hb _ e);exact⟨_,e'⟩
  .obtain⟨o',e⟩:=tB b o q hb
   exact⟨o',st b o' e⟩
 tups:=U.tups
 frzs:=U.frzs
 tbls:=U.tbls
theorem Un.restrict(U:Un fs' ex H H' h h1)(hs:∀b o,b∈fs'->h.get? b=some o->b∈fs):Un fs ex H H' h h1 where
 keep:=λb o q n hb hx=>U.keep b o q n (λz=>hb (hs b o z q)) hx
 slot:=λb o q n _ hx=>U.any q n hx
 free:=U.free
 there:=U.there
 tups:=U.tups
 frzs:=U.frzs
 tbls:=U.tbls
end
structure Fly(P:Program)(w:World)(outer:List Env)(H:Hp)(s:Shared)(H':Hp)(ea:Addr)(cls:Value)(s':Shared):Prop where
 os:s'.os=s.os
 bare:AllBare s'.gens
 un:Un (frs outer) [] H H' s.heap s'.heap
 fly:∃B a0,Heap.FlyingW B outer ea cls a0 s'.heap/\HOk P w H' B/\(∀b o,s.heap.get? b=some o->H b=none->b∉frs outer->B.get? b=some o)/\(∀b o,s.heap.get? b=some o->b∉frs outer->∃o',B.get? b=some o')
 fresh:s.heap.get? ea=none
def CX1(P:Program)(w:World):CXT:=λouter H s E e s'=>∃ea cls H',e=.ref ea/\Fly P w outer H s H' ea cls s'/\H' ea=none/\E cls none H'
theorem oA{P:Program}{w:World}{X:Cx}:Passes (CX1 P w) X E0:=λ_ _ _ _ _ _ _ h=>by obtain⟨_,_,_,_,_,_,z⟩:=h;exact z.elim
theorem zH{B h:Heap}{l:List Env}(f:h.FunFrames B l):∀b∈frs l,∀o,h.get? b=some o->∀vs,o.data≠.fields vs:=λb hb o e=>by
 obtain⟨_,o',e',hd⟩:=f.mem hb;rw[e] at e';cases e';exact hd
section
variable{P:Program}{w:World}{K:Zf}{mg:Str->Option Value}{base:Heap}{N:List Str}{qual:Str}{scope:Scope}{f:Addr}{cd:Value}{A:Around}{outer:List Env}{s:Shared}{H:Hp}{E:XK}
theorem oN{env:Env}{L:Addr}(hf:env.frame=some L):frs (env::outer)=L::frs outer:=by
 unfold frs;rw[A1z,hf]
theorem aP:Passes (CX1 P w) (eO (CX1 P w) P w K mg base N qual scope f cd A outer s H E) E:=by
 intro z0 Y H1 s1 e s' I h;obtain⟨ea,cls,H',rfl,Fl,hn,hE⟩:=h;obtain⟨B,a0,fl,hokB,kB,tB⟩:=Fl.fly;have hfr:frs (eO (CX1 P w) P w K mg base N qual scope f cd A outer s H E).stack=s.heap.objs.size::frs outer:=oN rfl;have nL:∀b o,s.heap.get? b=some o->b≠s.heap.objs.size:=λb o q=>O4z (N4z q)
 have nin:∀b o,s.heap.get? b=some o->b∉frs outer->b∉frs (eO (CX1 P w) P w K mg base N qual scope f cd A outer s H E).stack:=λb o q hb z=>by
  rw[hfr] at z;rcases L4z.mp z with z | z
  .exact nL b o q z
  .exact hb z
 have noex:∀b:Addr,b∉(eO (CX1 P w) P w K mg base N qual scope f cd A outer s H E).ex:=λb z=>absurd (show b∈([]:List Addr) from z) (by simp);show wpAny _ _ (leaving _ (.ref ea)) _ _ _;refine wpAny_leaves_onW I.ok.frames rfl fl λh2 fl2 up=>?_;refine⟨ea,cls,H',rfl,⟨Fl.os.trans I.os,Fl.bare,?_,⟨B,a0,fl2,hokB,λb o q n hb=>?_,λb o q hb=>?_⟩,?_⟩,hn,hE⟩
 .have U1:=Un.fly Fl.un kB tB fl2.1 (zH fl.2.2.1) up
  have U0:Un (frs (eO (CX1 P w) P w K mg base N qual scope f cd A outer s H E).stack) [] H H1 s.heap s1.heap:=I.base.mono (λb hb=>by rw[hfr];exact U0z _ hb) (λb hb=>hb)
  exact(U0.trans U1).restrict λb o hb q=>by
   rw[hfr] at hb;rcases L4z.mp hb with z | z
   .exact absurd z (nL b o q)
   .exact z
 .exact kB b o (I.base.keep b o q n hb (noex b)) (I.base.free b o q n (noex b)) (nin b o q hb)
 .obtain⟨o1,q1⟩:=I.base.there b o q (noex b)
  exact tB b o1 q1 (nin b o q hb)
 .cases q:s.heap.get? ea with
  | none=>rfl
  | some o =>
   obtain⟨o1,q1⟩:=I.base.there ea o q (noex ea);rw[Fl.fresh] at q1;cases q1
theorem mR{z0:List (Addr×Obj)}{Y:St}{H1:Hp}{s1:Shared}{C e:Addr}{h':Heap}{args:List Value}(I:Inv (eO (CX1 P w) P w K mg base N qual scope f cd A outer s H E) z0 Y H1 s1)(hx:Heap.MadeExcOf s1.heap h' e (.ref C) args)(hE:E (.ref C) none H1) :
  (eO (CX1 P w) P w K mg base N qual scope f cd A outer s H E).xe (.ref e) {s1 with heap:=h'}:=by
 have hfr:frs (eO (CX1 P w) P w K mg base N qual scope f cd A outer s H E).stack=s.heap.objs.size::frs outer:=oN rfl;have nL:∀b o,s.heap.get? b=some o->b≠s.heap.objs.size:=λb o q=>O4z (N4z q)
 have nin:∀b o,s.heap.get? b=some o->b∉frs outer->b∉frs (eO (CX1 P w) P w K mg base N qual scope f cd A outer s H E).stack:=λb o q hb z=>by
  rw[hfr] at z;rcases L4z.mp z with z | z
  .exact nL b o q z
  .exact hb z
 have noex:∀b:Addr,b∉(eO (CX1 P w) P w K mg base N qual scope f cd A outer s H E).ex:=λb z=>absurd (show b∈([]:List Addr) from z) (by simp);have hin:∀env∈(eO (CX1 P w) P w K mg base N qual scope f cd A outer s H E).stack,∀b,env.frame=some b->b∈frs (eO (CX1 P w) P w K mg base N qual scope f cd A outer s H E).stack:=λenv he b hb=>List.mem_filterMap.mpr ⟨env,he,hb⟩;show wpAny _ _ (leaving _ (.ref e)) _ _ _;have kB:∀b o,s1.heap.get? b=some o->b∉frs (eO (CX1 P w) P w K mg base N qual scope f cd A outer s H E).stack->(W.hideAll s1.heap (frs (eO (CX1 P w) P w K mg base N qual scope f cd A outer s H E).stack)).get? b=some o:=λb o q hb=>Z0z _ q hb;refine wpAny_leaves_madeW I.ok.frames rfl (λb o q=>J1z _ q) (W.funFrames_hide I.stack hin) hx λh2 t x1 x2 x3 x4=>?_;have up:s1.heap.UpToSlots h2:=(Heap.UpToSlots.of_keeps hx.keeps).trans x4
 have hok:HOk P w H1 (W.hideAll s1.heap (frs (eO (CX1 P w) P w K mg base N qual scope f cd A outer s H E).stack)):=HOk.part I.hok λb u ob hu q=>kB b ob q λz=>by
  rw[I.stkFree b z] at hu;cases hu
 have hn:H1 e=none:=HOk.none_of I.hok hx.new;refine⟨e,.ref C,H1,rfl,⟨I.os,I.bare,?_,⟨_,_,x1,hok,λb o q n hb=>?_,λb o q hb=>?_⟩,?_⟩,hn,hE⟩
 .have U1:Un (frs (eO (CX1 P w) P w K mg base N qual scope f cd A outer s H E).stack) [] H1 H1 s1.heap h2:=Un.fly Un.refl (λb o q _ hb=>kB b o q hb) (λb o q hb=>⟨o,kB b o q hb⟩) x1.1 (zH I.stack) up
  have U0:Un (frs (eO (CX1 P w) P w K mg base N qual scope f cd A outer s H E).stack) [] H H1 s.heap s1.heap:=I.base.mono (λb hb=>by rw[hfr];exact U0z _ hb) (λb hb=>hb)
  exact(U0.trans U1).restrict λb o hb q=>by
   rw[hfr] at hb;rcases L4z.mp hb with z | z
   .exact absurd z (nL b o q)
   .exact z
 .exact kB b o (I.base.keep b o q n hb (noex b)) (nin b o q hb)
 .obtain⟨o1,q1⟩:=I.base.there b o q (noex b)
  exact⟨o1,kB b o1 q1 (nin b o q hb)⟩
 .cases q:s.heap.get? e with
  | none=>rfl
  | some o =>
   obtain⟨o1,q1⟩:=I.base.there e o q (noex e);have:=hx.new;rw[this] at q1;cases q1
end
def nsOk(K:Zf)(N:Addr):Bool:=match K.lookup N with
 | some ⟨_,_,.dict es _,_⟩=>es.toList.all (λe=>match e.key with | .str _ _=>true | _=>false)&&(W.nsIn K N "__init__"==some none)
 | _=>false
def xIn(K:Zf)(C M:Addr):Bool:=match K.lookup C,K.lookup M with
 | some ⟨.type "type",_,.cls cd,sl⟩,some ⟨_,_,.cls cdM,_⟩ =>
  (match sl.toList with | [_,_,_,_,some (.builtin n),_]=>n=="ValueError.__new__" | _=>false)&&cd.mro==[.ref C,.ref M,.type "ValueError",.type "Exception",.type "BaseException",.type "object"] && !cd.hasDel&&nsOk K cd.ns&&nsOk K cdM.ns
 | _,_=>false
theorem zG{K:Zf}{N:Addr}(e:nsOk K N=true):∃mN:Str->Option Value,mN "__init__"=none/\∀h:Heap,K.In h->h.Ns N mN:=by
 unfold nsOk at e;split at e
 .rename_i c d es n sl ho
  rw[Y2z] at e;refine⟨nsFind es,?_,λh X=>⟨_,es,n,X _ _ ho,rfl,λen hen=>?_,λ_=>rfl⟩⟩
  .have e2:W.nsIn K N "__init__"=some none:=by simpa using e.2
   unfold W.nsIn at e2;rw[ho] at e2;simp only at e2;unfold nsFind findBy;rw[<- Array.find?_toList];split at e2
   .cases e2
   .rename_i q
    rw[q];rfl
  .have:=E3z.mp e.1 en (by simpa using hen)
   split at this
   .rename_i x t hk;exact⟨x,t,hk⟩
   .cases this
 .cases e
theorem M9{K:Zf}{C M:Addr}(e:xIn K C M=true):∃nm q N bs hdct sn sub ab col dd k0 k1 k2 k3 k5 mN,mN "__init__"=none/\∀h:Heap,K.In h ->
  h.get? C=some (excClassObj nm q C N bs [.ref M,.type "ValueError",.type "Exception",.type "BaseException",.type "object"] hdct sn sub ab col dd k0 k1 k2 k3 k5 "ValueError.__new__")/\h.Ns N mN /\
   OwnTail h [.type "ValueError",.type "Exception",.type "BaseException",.type "object"] [.ref M,.type "ValueError",.type "Exception",.type "BaseException",.type "object"]:=by
 unfold xIn at e;split at e
 .rename_i dd cd sl cM dM cdM slM hC hM
  simp only[Y2z,I2z] at e;obtain⟨⟨⟨⟨e1,e2⟩,e3⟩,e4⟩,e5⟩:=e;split at e1
  .rename_i k0 k1 k2 k3 n k5 hs
   have en:n="ValueError.__new__":=by simpa using e1
   subst en
   have hsl:sl = #[k0,k1,k2,k3,some (.builtin "ValueError.__new__"),k5]:=by
    obtain⟨l⟩:=sl;simp only at hs;rw[hs]
   have em:cd.mro=[.ref C,.ref M,.type "ValueError",.type "Exception",.type "BaseException",.type "object"]:=by simpa using e2
   obtain⟨nm,bs,mro,ns,qn,hd,sn,sub,ab,col,del⟩:=cd;simp only at em e3 e4;subst em e3 hsl;obtain⟨mN,n2,n1⟩:=zG e4;obtain⟨mM,m2,m1⟩:=zG e5;exact⟨_,_,_,_,_,_,_,_,_,_,_,_,_,_,_,mN,n2,λh X=>⟨X _ _ hC,n1 h X,.own (X _ _ hM) (m1 h X) m2 .base⟩⟩
  .cases e1
 .cases e
section
variable{X:Cx}
theorem uN{x:Str}{C M:Addr}{np cpos pos:Pos}{txt:Str}{j:Nat}{p1:Pos}{Q:Flow->Shared->Prop}{z0:List (Addr×Obj)}{Y:St}{H:Hp}{s:Shared}(I:Inv X z0 Y H s)(hc:X.A.handled=none)(hg:Gl X x)(hm:X.mg x=some (.ref C))(hd:(x==("__debug__":Str))=false)(hx:xIn X.K C M=true)
  (k:∀(s2:Shared)(h':Heap)(e:Addr)(args:List Value),Inv X z0 Y H s2->Heap.MadeExcOf s2.heap h' e (.ref C) args->X.xe (.ref e) {s2 with heap:=h'}) :
  wpAny (model X.prog X.w) X.A (exec (.Raise (some (.Call (.Name x np) [.Constant (.str txt) j p1] [] cpos)) none pos) X.env) Q X.xe s:=by
 obtain⟨nm,q,N,bs,hdct,sn,sub,ab,col,dd,k0,k1,k2,k3,k5,mN,hni,fx⟩:=M9 hx
 refine wpAny_Raise_call_subU (C:=C) (nm:=nm) (q:=q) (N:=N) (bs:=bs) (bm:=[.ref M,.type "ValueError",.type "Exception",.type "BaseException",.type "object"]) (hdct:=hdct) (sn:=sn) (sub:=sub) (ab:=ab) (col:=col) (dd:=dd) (k0:=k0) (k1:=k1) (k2:=k2) (k3:=k3) (k5:=k5)
  F.excBase_ValueError (by decide) F.excBase_ValueError (mN:=mN) ((fx _ I.kIn).2.2.hasType F.excBase_ValueError.hasBase) hc rfl hni (f9 I hg hm ⟨rfl,?_⟩ hd)
 have ha:PA X [.Constant (.str txt) j p1] (Io (tC (.str txt)) Nm):=aA lF aO;show wpAny _ _ (evalArgs (.ref C) true (backTo cpos ((false,eval (.Constant (.str txt) j p1) X.env)::starEach [] X.env)) []) _ _ _;refine X0z (D5z (ha cpos z0 s Y H (λvs H1=>vs.length<=1/\H1=H) I ⟨X4z _,rfl⟩) (λus s2 hq=>?_) λ_ _ y=>y);obtain⟨vs,H1,I1,r,q1,rfl⟩:=hq;obtain⟨f1,f2,f3⟩:=fx _ I1.kIn
 have h1:(1:Nat)<=sizeLine:=by decide
 have h2:=r.length;exact⟨rfl,(show us.length<=sizeLine by omega),f1,f2,f3,λh' e hm'=>k s2 h' e us I1 hm'⟩
end
abbrev Cx.inSuite(X:Cx)(e:Value)(xe:Value->Shared->Prop):Cx:={X with A:=X.A.mark (some e),calm:=false,xe:=xe}
section
variable{X:Cx}{z0:List (Addr×Obj)}{Y:St}{H H':Hp}{s s':Shared}{e:Value}{xe:Value->Shared->Prop}
theorem Inv.inSuite(I:Inv X z0 Y H s)(e:Value)(xe:Value->Shared->Prop):Inv (X.inSuite e xe) z0 Y H s :=
 ⟨⟨I.ok.mod,I.ok.kind,I.ok.glob,I.ok.blt,I.ok.above,I.ok.inj,I.ok.has,I.ok.cab,λz=>(nomatch z),I.ok.frames,I.ok.stk,I.ok.exf,I.ok.bs,I.ok.bsz,I.ok.noex,I.ok.exfs,I.ok.funs,I.ok.frf⟩,I.os,I.bare,I.base,I.loc,I.cell,I.free,I.freeC,I.pin,I.hok,I.len⟩
theorem Inv.outSuite(ok:X.Ok)(I:Inv (X.inSuite e xe) z0 Y H s):Inv X z0 Y H s:=⟨ok,I.os,I.bare,I.base,I.loc,I.cell,I.free,I.freeC,I.pin,I.hok,I.len⟩
theorem Inv.unbound{i:Nat}{x:Str}{v:Option Value}{m:Str->Option Value}{h':Heap}{t':Nat}(I:Inv X z0 Y H s)(hN:X.N.Nodup)(hi:X.N[i]?=some x)(hm:s.heap.Ns X.env.locals m)(hn:h'.Ns X.env.locals (λy=>if y=x then v else m y))(hs:Heap.SameBut X.env.locals s.heap h') :
  Inv X z0 (Y.set i none) H {s with heap:=h',toks:=t'}:=by
 have cne:=I.cne
 have hiY:i<Y.length:=by rw[I.len];exact(List.getElem?_eq_some_iff.mp hi).1
 obtain⟨m0,hn0,hl⟩:=id I.loc
 have hmm:∀y,m0 y=m y:=λy=>by
  obtain⟨o1,es1,ep1,g1,g2,_,g3⟩:=hn0;obtain⟨o2,es2,ep2,f1,f2,_,f3⟩:=hm;rw[g1] at f1;cases f1;rw[g2] at f2;cases f2;rw[<- g3,<- f3]
 obtain⟨oL,_,_,hoL,_⟩:=id hn0
 have tracked:HOk X.prog X.w H h':=λb ob e=>by
  refine(I.hok b ob e).stay (λc w' hc q=>(hs.2 c ?_).trans q) (λ_ q=>q) λ_ _ q=>q;rintro rfl;rcases hc with rfl | hc
  .rw[I.free] at e;cases e
  .rw[I.free] at hc;cases hc
 refine⟨I.ok,I.os,I.bare,⟨λb o e n hb hx=>?_,λb o e n hb hx=>?_,I.base.free,λb o e hx=>?_,I.base.tups,I.base.frzs,I.base.tbls⟩,⟨_,hn,λj y v' e1 e2 e3=>?_⟩,λy c e=>?_,I.free,I.freeC,λp hp=>?_,tracked,by simpa using I.len⟩
 .exact(hs.2 b (O4z (I1z (N4z e) I.ok.above))).trans (I.base.keep b o e n hb hx)
 .obtain⟨sl,e1⟩:=I.base.slot b o e n hb hx
  exact⟨sl,(hs.2 b (O4z (I1z (N4z e) I.ok.above))).trans e1⟩
 .obtain⟨o',e1⟩:=I.base.there b o e hx
  exact⟨o',(hs.2 b (O4z (I1z (N4z e) I.ok.above))).trans e1⟩
 .by_cases hj:j=i
  .subst hj
   rw[List.getElem?_set_self hiY] at e2;cases e2
  .rw[List.getElem?_set_ne (N5z hj)] at e2
   obtain⟨u',r',q⟩:=hl j y v' e1 e2 e3;refine⟨u',r',?_⟩;rcases q with⟨k,e⟩ | ⟨k,c,e,z⟩
   .refine .inl ⟨k,?_⟩
    have:y≠x:=λe=>hj (oE hN e1 (e▸hi));simp only[this,M5z];rw[<- hmm];exact e
   .exact .inr ⟨k,c,e,z.sameBut hs (cne y c e)⟩
 .obtain⟨w',z⟩:=I.cell y c e
  exact⟨w',z.sameBut hs (cne y c e)⟩
 .obtain⟨e,n,ne,nf,d⟩:=I.pin p hp
  exact⟨(hs.2 p.1 ne).trans e,n,ne,nf,d⟩
end
def isX(a:Addr)(cls:Value)(h:Heap):Prop:=∃o,h.get? a=some o/\o.cls=cls/\∃vs,o.data=.fields vs
theorem Qe{P:Program}{w:World}{H:Hp}{h:Heap}{a:Addr}{cls:Value}(x:isX a cls h):cQ P w H h a (.ext (isX a cls)) :=
 ⟨x,let ⟨o,e,_⟩:=x;⟨o,e⟩,λ_ _ ⟨o,e,r⟩ k=>⟨o,k o e,r⟩⟩
section
variable{X:Cx}{z0:List (Addr×Obj)}{Y:St}{H H':Hp}{s s':Shared}{ea:Addr}{cls:Value}
theorem Fly.lands{h2:Heap}{B:Heap}{t':Nat}(I:Inv X z0 Y H s)(Fl:Fly X.prog X.w X.stack H s H' ea cls s')(hokB:HOk X.prog X.w H' B)(U:Un (frs X.stack) [] H H' s.heap h2)(st:B.StaysIn h2):Inv X z0 Y H' {s' with heap:=h2,toks:=t'} :=
 I.call' (s':={s' with heap:=h2,toks:=t'}) Fl.os U (hokB.kept st) Fl.bare (λb z=>absurd z (by simp))
end
def nH(K:Zf)(C:Addr):Bool :=
 W.findIn K (.ref C) "__getattribute__"==some (some (.builtin "BaseException.__getattribute__"))&&W.findIn K (.ref C) "__getattr__"==some none&&W.findIn K (.ref C) "__class__"==some (some (.builtin "object.__class__")) &&
  W.mroIn K C (.type "object")==some true&&W.mroIn K C (.type "BaseException")==some true&&(W.clsIn K C).isSome
section
open PySem.Builtin PySem.Builtin.ObjectAttr PySem.Builtin.Getset_descriptor
variable{prog:Program}{w:World}{A:Around}{E:Value->Shared->Prop}{K:Zf}{h:Heap}{g:Array GenState}{d:Drawn}{t:Nat}{os:OsState}{a C:Addr}{o:Obj}
theorem xty{M:Model}(hx:h.get? a=some o)(hc:o.cls=.ref C):W.Looks M h (typeOf (.ref a)) (.ref C):=hc▸(W.Looks.ld hx).andThen .now
theorem vX{R:Result->Shared->Prop}(X:K.In h)(hx:h.get? a=some o)(hc:o.cls=.ref C)(hm:W.mroIn K C (.type "object")=some true)(hq:R (.ok (.ret (.ref C))) ⟨h,g,d,t,os⟩) :
  codeAny (model prog w) A (.call (.builtin "getset_descriptor.__get__") ⟨[.builtin "object.__class__",.ref a,.ref C],[]⟩) R ⟨h,g,d,t,os⟩:=by
 have hT5:(⟨h,g,d,t,os⟩:Shared).TypeIs (.builtin "object.__class__") "getset_descriptor":=S0z;have L0:=xty (M:=model prog w) hx hc;have L1:=W.looks_mroIn (M:=model prog w) X hm;refine codeAny_call_builtin W.KF.slot_gs.plain W.KF.entry_gs (W.KF.slot_gs.check _ _ _ _ _ _ _ _ W.KF.type_class (W.KF.args_gs _ _ _) ?_);unfold Builtin.«getset_descriptor.__get__» descrGet;rw[W.dga_obj];refine E5z (F5z ?_);unfold descrGetter descrCheckInstance descrNameAndClass isInstance;simp only[W.KF.owner_class]
 repeat lk
 refine⟨Code.quiet_builtin _ (by decide +kernel),Q3z W.KF.entry_class ?_⟩;unfold Builtin.«object.__class__» shownTypeOf
 repeat lk
 exact hq
theorem pI{tk:Tok}{Q:Fin->Shared->Prop}(X:K.In h)(hx:h.get? a=some o)(hc:o.cls=.ref C)(hm:W.mroIn K C (.type "object")=some true)(hf:W.findIn K (.ref C) "__class__"=some (some (.builtin "object.__class__")))(hq:Q (.done (.ret (.ref C))) ⟨h,g,d,t,os⟩) :
  wpAny (model prog w) A (Builtin.«object.__getattribute__» ⟨[.ref a,.str "__class__" tk],[]⟩) Q E ⟨h,g,d,t,os⟩:=by
 have hT5:(⟨h,g,d,t,os⟩:Shared).TypeIs (.builtin "object.__class__") "getset_descriptor":=S0z;have f5:=S0z;have f6:=F.slot_gs_get.lookup;have f7:=F.slot_gs_set.lookup;have LF:=W0z (M:=model prog w) X hf
 repeat (any_goals (first | assumption | (with_reducible refine wpAny_loadPart_at hx ?_;rw[hc]) | with_reducible refine LF.at ?_ | wp_step))
 refine vX X hx hc hm ?_
 repeat (any_goals (first | assumption | wp_step))
theorem pJ{M:Model}{nameV:Value}{Q:Unit->Shared->Prop}(X:K.In h)(hx:h.get? a=some o)(hc:o.cls=.ref C)(hm:W.mroIn K C (.type "BaseException")=some true)(hq:Q () ⟨h,g,d,t,os⟩):wpAny M A (checkBuiltinCall "BaseException.__getattribute__" ⟨[.ref a,nameV],[]⟩) Q E ⟨h,g,d,t,os⟩:=by
 have hk:builtinKind "BaseException.__getattribute__"=some .slot:=by decide +kernel
 have hsplit:splitId "BaseException.__getattribute__"=some ("BaseException","__getattribute__"):=by decide +kernel
 have ha:=F.args_bexc_ga (.ref a) nameV;have LM:=W.looks_mroIn (M:=M) X hm;simp only[checkBuiltinCall,hk,hsplit];refine E5z ?_
 .unfold isInstance
  repeat (first | (with_reducible refine wpAny_loadPart_at hx ?_;rw[hc]) | with_reducible refine LM.at ?_ | wp_step)
  exact hq
theorem xu{tk:Tok}{fill expr:Bool}{Q:Value->Shared->Prop}(X:K.In h)(hx:h.get? a=some o)(hc:o.cls=.ref C)(hA:nH K C=true)(hq:Q (.ref C) ⟨h,g,d,t,os⟩) :
  wpAny (model prog w) A (getAttrBy (.ref a) (.str "__class__" tk) fill expr) Q E ⟨h,g,d,t,os⟩:=by
 unfold nH at hA;simp only[Y2z,beq_iff_eq] at hA;obtain⟨⟨⟨⟨⟨g1,g2⟩,g3⟩,g4⟩,g5⟩,g6⟩:=hA;have f3:=F.excAttr_ValueError.ga.bind (.ref a)
 have hx0:(expr&&onTheHeap (Value.builtin "BaseException.__getattribute__"))=false:=by cases expr<;>rfl
 have hx2:(Value.builtin "BaseException.__getattribute__"==Value.builtin "object.__getattribute__")=false:=by decide +kernel
 have hx1:(onTheHeap (Value.ref C)&&Value.builtin "BaseException.__getattribute__"==Value.builtin "object.__getattribute__")=false:=by rw[hx2];rfl
 have L1:=W0z (M:=model prog w) X g1;have L2':=W0z (M:=model prog w) X g2
 repeat (any_goals (first | assumption | (with_reducible refine wpAny_loadPart_at hx ?_;rw[hc]) | with_reducible refine L1.at ?_ | with_reducible refine L2'.at ?_ | wp_step))
 refine codeAny_call_builtin F.excAttr_ValueError.ga.plain F.entry_bexc_ga (pJ X hx hc g5 (pI X hx hc g4 g3 ?_))
 repeat (any_goals (first | assumption | wp_step))
theorem MP{Q:Option Value->Shared->Prop}(X:K.In h)(hx:h.get? a=some o)(hc:o.cls=.ref C)(hA:nH K C=true)(hq:Q (some (.ref C)) ⟨h,g,d,t+1,os⟩) :
  wpAny (model prog w) A (getAttr? (.ref a) "__class__") Q E ⟨h,g,d,t,os⟩:=by
 unfold getAttr? getAttrBy?
 repeat (any_goals (first | assumption | with_reducible apply xu X hx hc hA | wp_step))
end
theorem Er{K:Zf}{a C:Addr}(hA:nH K C=true):W.KitX K (.ref a) (.ref C) (isX a (.ref C)) where
 ty:=λ_ _ _ ⟨o,e,c,_⟩=>xty e c
 it:=λ_ _ X _=>by
  unfold nH at hA;rw[Y2z] at hA;obtain⟨cdD,hcD⟩:=Option.isSome_iff_exists.mp hA.2;unfold W.clsIn at hcD;split at hcD
  .rename_i c' d' cd' sl' ho
   intro A' Q' E' s' k q;unfold isType loadHead;exact E5z (wpAny_loadPart (k _ _ (X _ _ ho)) (F5z q))
  .cases hcD
 ne:=λh tp dd its n sl X htp=>by
  unfold nH at hA;rw[Y2z] at hA;obtain⟨cdD,hcD⟩:=Option.isSome_iff_exists.mp hA.2;refine Bool.eq_false_iff.mpr λq=>?_;have e:C=tp:=Value.ref.inj (beq_iff_eq.mp q);subst e;unfold W.clsIn at hcD;split at hcD
  .rename_i c' d' cd' sl' ho
   have z:=(X _ _ ho).symm.trans htp;cases z
  .cases hcD
 ca:=λ{prog w A E Q s} X p k=>by
  obtain⟨h,g,d,t,os⟩:=s;obtain⟨o,e,c,_⟩:=p;exact MP X e c hA k
section
variable{X:Cx}{z0:List (Addr×Obj)}{Y:St}{H H':Hp}{s s':Shared}{ea C:Addr}
end
end L2
namespace L2
open PySem PySem.Spec PyProof.Rows DE PySem.SeqAt
theorem Same.tup{K:Zf}{H H':Hp}{a:Addr}{xs:List V}(e:Same H H')(h:SqT K H a xs):SqT K H' a xs:=by
 rcases h with(h | ⟨o,h⟩) | h
 .exact .inl (.inl (e _ _ h))
 .exact .inl (.inr ⟨o,e _ _ h⟩)
 .exact .inr h
mutual
def Rep(K:Zf)(H:Hp):D->V->Prop
 | .non,v=>v=.non
 | .bl b,v=>v=.bl b
 | .int i,v=>v=.int i
 | .str x,v=>v=.str x
 | .tup ds,v=>∃a vs,v=.ref a/\SqT K H a vs/\aJ K H ds vs
 | .lst ds,v=>∃a vs,v=.ref a/\SqL K H a vs/\aJ K H ds vs
 | .obj a,v=>v=.ref a
 | .exc c,v=>∃a C,v=.ref a/\W.nsIn K mainGlobals c=some (some (.ref C))/\H a=some (.ext (isX a (.ref C)))
 | .dic ks ds,v=>∃(a:Addr)(kvs:List (Key×V)),v=.ref a/\DAt K H a kvs/\kvs.map (·.1)=ks/\aJ K H ds (kvs.map (·.2))
def aJ(K:Zf)(H:Hp):List D->List V->Prop
 | [],vs=>vs=[]
 | d::ds,vs=>∃v r,vs=v::r/\Rep K H d v/\aJ K H ds r
end
mutual
theorem Rep.same{K:Zf}{H H':Hp}(e:Same H H'):∀(d:D)(v:V),Rep K H d v->Rep K H' d v
 | .non,v,h=>by simpa[Rep] using h
 | .bl b,v,h=>by simpa[Rep] using h
 | .int i,v,h=>by simpa[Rep] using h
 | .str x,v,h=>by simpa[Rep] using h
 | .tup ds,v,h=>by
  simp only[Rep] at h ⊢;obtain⟨a,vs,h1,h2,h3⟩:=h;exact⟨a,vs,h1,e.tup h2,aJ.same e ds vs h3⟩
 | .lst ds,v,h=>by
  simp only[Rep] at h ⊢;obtain⟨a,vs,h1,h2,h3⟩:=h;exact⟨a,vs,h1,e.seq h2,aJ.same e ds vs h3⟩
 | .obj a,v,h=>by simpa[Rep] using h
 | .exc c,v,h=>by
  simp only[Rep] at h ⊢;obtain⟨a,C,h1,h2,h3⟩:=h;exact⟨a,C,h1,h2,e _ _ h3⟩
 | .dic ks ds,v,h=>by
  simp only[Rep] at h ⊢;obtain⟨a,kvs,h1,h2,h3,h4⟩:=h;refine⟨a,kvs,h1,?_,h3,aJ.same e ds _ h4⟩;rcases h2 with⟨o,h2⟩ | h2
  .exact .inl ⟨o,e _ _ h2⟩
  .exact .inr h2
theorem aJ.same{K:Zf}{H H':Hp}(e:Same H H'):∀(ds:List D)(vs:List V),aJ K H ds vs->aJ K H' ds vs
 | [],vs,h=>by simpa[aJ] using h
 | d::ds,vs,h=>by
  simp only[aJ] at h ⊢;obtain⟨v,r,h1,h2,h3⟩:=h;exact⟨v,r,h1,Rep.same e d v h2,aJ.same e ds r h3⟩
end
theorem aJ.length{K:Zf}{H:Hp}:∀{ds:List D}{vs:List V},aJ K H ds vs->ds.length=vs.length
 | [],vs,h=>by simp only[aJ] at h;subst h;rfl
 | d::ds,vs,h=>by
  simp only[aJ] at h;obtain⟨v,r,rfl,_,h3⟩:=h;simp[h3.length]
theorem aJ.nil{K:Zf}{H:Hp}:aJ K H [] []:=by simp[aJ]
theorem aJ.cons{K:Zf}{H:Hp}{d:D}{ds:List D}{v:V}{vs:List V}(h:Rep K H d v)(r:aJ K H ds vs):aJ K H (d::ds) (v::vs):=by
 simp only[aJ];exact⟨v,vs,rfl,h,r⟩
theorem aJ.append{K:Zf}{H:Hp}:∀{ds es:List D}{vs us:List V},aJ K H ds vs->aJ K H es us->aJ K H (ds++es) (vs++us)
 | [],es,vs,us,h,h'=>by simp only[aJ] at h;subst h;exact h'
 | d::ds,es,vs,us,h,h'=>by
  simp only[aJ] at h;obtain⟨v,r,rfl,h2,h3⟩:=h;exact .cons h2 (h3.append h')
theorem aJ.get{K:Zf}{H:Hp}:∀{ds:List D}{vs:List V}{i:Nat}{d:D},aJ K H ds vs->ds[i]?=some d->∃v,vs[i]?=some v/\Rep K H d v
 | [],vs,i,d,_,e=>by simp at e
 | d'::ds,vs,0,d,h,e=>by
  simp only[aJ] at h;obtain⟨v,r,rfl,h2,h3⟩:=h;simp at e;subst e;exact⟨v,rfl,h2⟩
 | d'::ds,vs,i+1,d,h,e=>by
  simp only[aJ] at h;obtain⟨v,r,rfl,h2,h3⟩:=h;obtain⟨u,e1,e2⟩:=h3.get (i:=i) (d:=d) (by simpa using e);exact⟨u,by simpa using e1,e2⟩
theorem aJ.take{K:Zf}{H:Hp}:∀(n:Nat){ds:List D}{vs:List V},aJ K H ds vs->aJ K H (ds.take n) (vs.take n)
 | 0,_,_,_=>by simpa using aJ.nil
 | n+1,[],vs,h=>by simp only[aJ] at h;subst h;simpa using aJ.nil
 | n+1,d::ds,vs,h=>by
  simp only[aJ] at h;obtain⟨v,r,rfl,h2,h3⟩:=h;simpa using aJ.cons h2 (h3.take n)
theorem aJ.drop{K:Zf}{H:Hp}:∀(n:Nat){ds:List D}{vs:List V},aJ K H ds vs->aJ K H (ds.drop n) (vs.drop n)
 | 0,_,_,h=>by simpa using h
 | n+1,[],vs,h=>by simp only[aJ] at h;subst h;simpa using aJ.nil
 | n+1,d::ds,vs,h=>by
  simp only[aJ] at h;obtain⟨v,r,rfl,h2,h3⟩:=h;simpa using h3.drop n
theorem aJ.reverse{K:Zf}{H:Hp}:∀{ds:List D}{vs:List V},aJ K H ds vs->aJ K H ds.reverse vs.reverse
 | [],vs,h=>by simp only[aJ] at h;subst h;simpa using aJ.nil
 | d::ds,vs,h=>by
  simp only[aJ] at h;obtain⟨v,r,rfl,h2,h3⟩:=h;simpa using h3.reverse.append (.cons h2 .nil)
structure Ext(Hs H Hs' H':Hp):Prop where
 vis:Same Hs Hs'
 all:Same H H'
 sub:Same Hs' H'
 hid:∀b o,H b=some o->Hs b=none->Hs' b=none
theorem Ext.refl{Hs H:Hp}(h:Same Hs H):Ext Hs H Hs H:=⟨.refl _,.refl _,h,λ_ _ _ h=>h⟩
theorem Ext.trans{Hs H Hs1 H1 Hs2 H2:Hp}(a:Ext Hs H Hs1 H1)(b:Ext Hs1 H1 Hs2 H2):Ext Hs H Hs2 H2 :=
 ⟨a.vis.trans b.vis,a.all.trans b.all,b.sub,λc o h1 h2=>b.hid c o (a.all c o h1) (a.hid c o h1 h2)⟩
theorem Ext.new{Hs H:Hp}(h:Same Hs H){p:Addr}(o:HO)(hp:H p=none):Ext Hs H (upd Hs p o) (upd H p o) where
 vis:=λb u e=>by rw[aj (ak (h b u e) hp)];exact e
 all:=λb u e=>by rw[aj (ak e hp)];exact e
 sub:=λb u e=>by
  by_cases hb:b=p
  .subst hb;rw[aB] at e ⊢;exact e
  .rw[aj hb] at e ⊢;exact h b u e
 hid:=λb u e n=>by rw[aj (ak e hp)];exact n
theorem isT{X:Cx}{z0:List (Addr×Obj)}{Y:St}{H:Hp}{s:Shared}{a:Addr}{vs:List V}(I:Inv X z0 Y H s)(h:SqT X.K H a vs):∃its:List Value,Vals vs its/\s.heap.IsTuple a its.toArray:=by
 obtain⟨its,r,p,_⟩:=I.tuple h;exact⟨its,r,p⟩
theorem isL{X:Cx}{z0:List (Addr×Obj)}{Y:St}{H:Hp}{s:Shared}{a:Addr}{vs:List V}(I:Inv X z0 Y H s)(h:SqL X.K H a vs):∃its:List Value,Vals vs its/\s.heap.IsList a its.toArray:=by
 obtain⟨its,r,p,_⟩:=I.list h;exact⟨its,r,p.isList⟩
mutual
theorem j9:∀d:D,dep d<1000->deq d d=true
 | .non,_=>rfl
 | .bl b,_=>by simp[deq]
 | .int i,_=>by simp[deq]
 | .str x,_=>by simp[deq]
 | .tup xs,h=>by simp only[deq];exact lZ xs (by simp only[dep] at h;omega)
 | .lst xs,h=>by simp only[deq];exact lZ xs (by simp only[dep] at h;omega)
 | .exc c,h=>absurd h (by simp[dep])
 | .dic _ _,h=>absurd h (by simp[dep])
 | .obj _,h=>absurd h (by simp[dep])
theorem lZ:∀ds:List D,deps ds<1000->qO ds ds=true
 | [],_=>rfl
 | d::ds,h=>by
  simp only[deps] at h;simp only[qO,j9 d (by omega),lZ ds (by omega),J4z]
end
theorem vA:∀{xs ys:List D}{e:Nat->Bool},(∀(j:Nat)(x y:D),xs[j]?=some x->ys[j]?=some y->e j=deq x y)->((List.range (min xs.length ys.length)).all e&&xs.length==ys.length)=qO xs ys
 | [],[],_,_=>rfl
 | [],y::ys,_,_=>by simp[qO]
 | x::xs,[],_,_=>by simp[qO]
 | x::xs,y::ys,e,h=>by
  have ih:=vA (xs:=xs) (ys:=ys) (e:=λj=>e (j+1)) λj a b e1 e2=>h (j+1) a b (by simpa using e1) (by simpa using e2);have h0:=h 0 x y rfl rfl;simp only[qO,<- ih,<- h0,P2z];rw[show min (xs.length+1) (ys.length+1)=min xs.length ys.length+1 by omega,List.range_succ_eq_map,K4z,List.all_map];rw[Bool.and_assoc];congr 1;congr 1;simp
section
variable{X:Cx}{z0:List (Addr×Obj)}{Y:St}{H:Hp}{s:Shared}
mutual
theorem Rep.inj(I:Inv X z0 Y H s):∀(d d':D)(v:V),dep d<1000->dep d'<1000->Rep X.K H d v->Rep X.K H d' v->d=d'
 | .non,d',v,z,z',h,h'=>by simp only[Rep] at h;subst h;cases d'<;>simp[Rep] at h' ⊢
 | .bl b,d',v,z,z',h,h'=>by simp only[Rep] at h;subst h;cases d'<;>simp[Rep] at h' ⊢;exact h'
 | .int b,d',v,z,z',h,h'=>by simp only[Rep] at h;subst h;cases d'<;>simp[Rep] at h' ⊢;exact h'
 | .str b,d',v,z,z',h,h'=>by simp only[Rep] at h;subst h;cases d'<;>simp[Rep] at h' ⊢;exact h'
 | .tup ds,d',v,z,z',h,h'=>by
  simp only[Rep] at h;obtain⟨a,vs,rfl,h2,h3⟩:=h
  cases d' with
  | tup es =>
   simp only[Rep] at h';obtain⟨a',vs',e,h2',h3'⟩:=h';cases e;have:=I.tuple_inj h2 h2';subst this;rw[aJ.inj I ds es vs (by simp only[dep] at z;omega) (by simp only[dep] at z';omega) h3 h3']
  | lst es =>
   simp only[Rep] at h';obtain⟨a',vs',e,h2',h3'⟩:=h';cases e;obtain⟨i1,_,p1⟩:=isT I h2;obtain⟨i2,_,p2⟩:=isL I h2';exact absurd rfl (ne_of_list_tuple p2 p1)
  | non=>simp[Rep] at h'
  | bl _=>simp[Rep] at h'
  | int _=>simp[Rep] at h'
  | str _=>simp[Rep] at h'
  | exc _=>exact absurd z' (by simp[dep])
  | dic _ _=>exact absurd z' (by simp[dep])
  | obj _=>exact absurd z' (by simp[dep])
 | .lst ds,d',v,z,z',h,h'=>by
  simp only[Rep] at h;obtain⟨a,vs,rfl,h2,h3⟩:=h
  cases d' with
  | lst es =>
   simp only[Rep] at h';obtain⟨a',vs',e,h2',h3'⟩:=h';cases e;have:=I.list_inj h2 h2';subst this;rw[aJ.inj I ds es vs (by simp only[dep] at z;omega) (by simp only[dep] at z';omega) h3 h3']
  | tup es =>
   simp only[Rep] at h';obtain⟨a',vs',e,h2',h3'⟩:=h';cases e;obtain⟨i1,_,p1⟩:=isL I h2;obtain⟨i2,_,p2⟩:=isT I h2';exact absurd rfl (ne_of_list_tuple p1 p2)
  | non=>simp[Rep] at h'
  | bl _=>simp[Rep] at h'
  | int _=>simp[Rep] at h'
  | str _=>simp[Rep] at h'
  | exc _=>exact absurd z' (by simp[dep])
  | dic _ _=>exact absurd z' (by simp[dep])
  | obj _=>exact absurd z' (by simp[dep])
 | .exc c,d',v,z,z',h,h'=>absurd z (by simp[dep])
 | .dic _ _,d',v,z,z',h,h'=>absurd z (by simp[dep])
 | .obj _,d',v,z,z',h,h'=>absurd z (by simp[dep])
theorem aJ.inj(I:Inv X z0 Y H s):∀(ds es:List D)(vs:List V),deps ds<1000->deps es<1000->aJ X.K H ds vs->aJ X.K H es vs->ds=es
 | [],es,vs,z,z',h,h'=>by
  simp only[aJ] at h;subst h
  cases es with
  | nil=>rfl
  | cons e es=>simp[aJ] at h'
 | d::ds,es,vs,z,z',h,h'=>by
  simp only[aJ] at h;obtain⟨v,r,rfl,h2,h3⟩:=h
  cases es with
  | nil=>simp[aJ] at h'
  | cons e es =>
   simp only[aJ] at h';obtain⟨v',r',e',h2',h3'⟩:=h';cases e';simp only[deps] at z z';rw[Rep.inj I d e v (by omega) (by omega) h2 h2',aJ.inj I ds es r (by omega) (by omega) h3 h3']
end
def eJ(ds es:List D)(j:Nat):Bool:=match ds[j]?,es[j]? with
 | some x,some y=>deq x y
 | _,_=>true
theorem Ay(ds es:List D):((List.range (min ds.length es.length)).all (eJ ds es)&&ds.length==es.length)=qO ds es :=
 vA λj x y e1 e2=>by unfold eJ;rw[e1,e2]
theorem Ax(ds es:List D)(h:ds.length=es.length):(List.range ds.length).all (eJ ds es)=qO ds es:=by
 rw[<- Ay ds es,<- h];simp
theorem oW:∀{xs ys:List D},xs.length≠ys.length->qO xs ys=false
 | [],[],h=>absurd rfl h
 | [],_::_,_=>rfl
 | _::_,[],_=>rfl
 | x::xs,y::ys,h=>by
  simp only[qO,oW (xs:=xs) (ys:=ys) (by intro e;exact h (by simp[e])),B4z]
theorem iM{A:Around}:A.in1.units=A.units+1:=rfl
mutual
theorem tL(I:Inv X z0 Y H s):∀(d d':D)(v v':V)(u u':Value)(A:Around),Rep X.K H d v->Rep X.K H d' v'->RelV v u->RelV v' u'->A.units+dep d<cLine->dep d<1000->dep d'<1000->fO d d'=true->EqAt A s u u' (deq d d')
 | .non,d',v,v',u,u',A,h,h',r,r',hu,z,z',kk=>by cases d'<;>simp[fO] at kk
 | .bl c,d',v,v',u,u',A,h,h',r,r',hu,z,z',kk=>by
  simp only[Rep] at h;subst h;cases (show u=Value.bool c from r)
  have hu0:A.units<cLine:=R1z (W2z _ _) hu
  cases d' with
  | bl b=>simp only[Rep] at h';subst h';cases (show u'=Value.bool b from r');exact EqAt.bool_bool c b
  | _=>simp[fO] at kk
 | .int c,d',v,v',u,u',A,h,h',r,r',hu,z,z',kk=>by
  simp only[Rep] at h;subst h;obtain⟨t0,rfl⟩:=r
  have hu0:A.units<cLine:=R1z (W2z _ _) hu
  cases d' with
  | int i=>simp only[Rep] at h';subst h';obtain⟨t,rfl⟩:=r';exact EqAt.int_int c t0 i t
  | _=>simp[fO] at kk
 | .str c,d',v,v',u,u',A,h,h',r,r',hu,z,z',kk=>by
  simp only[Rep] at h;subst h;obtain⟨t0,rfl⟩:=r
  have hu0:A.units<cLine:=R1z (W2z _ _) hu
  cases d' with
  | bl b=>simp only[Rep] at h';subst h';cases (show u'=Value.bool b from r');exact EqAt.str_bool c t0 b
  | str x=>simp only[Rep] at h';subst h';obtain⟨t,rfl⟩:=r';exact EqAt.str_str c t0 x t
  | tup es=>simp only[Rep] at h';obtain⟨a,vs,rfl,h2,h3⟩:=h';cases (show u'=Value.ref a from r');obtain⟨its,_,p⟩:=isT I h2;exact EqAt.str_tuple c t0 p hu0
  | _=>simp[fO] at kk
 | .tup ds,d',v,v',u,u',A,h,h',r,r',hu,z,z',kk=>by
  have hh:=h;simp only[Rep] at h;obtain⟨a,vs,rfl,h2,h3⟩:=h;cases (show u=Value.ref a from r);obtain⟨its,rv,p⟩:=isT I h2;have hu0:A.units<cLine:=R1z (W2z _ _) hu
  have hu1:A.in1.units+deps ds<cLine:=by have:dep (.tup ds)=deps ds+1:=rfl;rw[iM];omega
  cases d' with
  | str x=>simp only[Rep] at h';subst h';obtain⟨t,rfl⟩:=r';exact EqAt.tuple_str x t p hu0
  | tup es =>
   have hh':=h';simp only[Rep] at h';obtain⟨b,us,rfl,h2',h3'⟩:=h';cases (show u'=Value.ref b from r');obtain⟨its',rv',p'⟩:=isT I h2'
   by_cases hab:a=b
   .subst hab
    have:=Rep.inj I _ _ _ z z' hh hh';rw[<- this,j9 _ z];exact EqAt.same _
   .have q:=RcAt.tuples p p' hu0 (e:=eJ ds es) λj g1 g2=>jh I ds es vs us its its' A.in1 h3 h3' rv rv' hu1 (by simp only[dep] at z;omega) (by simp only[dep] at z';omega) kk j _ _ (by simp at g1 ⊢) (by simp at g2 ⊢)
    have l1:=h3.length;have l2:=rv.length;have l3:=h3'.length;have l4:=rv'.length
    rw[D2z,D2z,<- l2,<- l1,<- l4,<- l3,Ay] at q;exact .of_refs hab q
  | _=>simp[fO] at kk
 | .lst ds,d',v,v',u,u',A,h,h',r,r',hu,z,z',kk=>by
  have hh:=h;simp only[Rep] at h;obtain⟨a,vs,rfl,h2,h3⟩:=h;cases (show u=Value.ref a from r);obtain⟨its,rv,p⟩:=isL I h2;have hu0:A.units<cLine:=R1z (W2z _ _) hu
  have hu1:A.in1.units+deps ds<cLine:=by have:dep (.lst ds)=deps ds+1:=rfl;rw[iM];omega
  cases d' with
  | lst es =>
   have hh':=h';simp only[Rep] at h';obtain⟨b,us,rfl,h2',h3'⟩:=h';cases (show u'=Value.ref b from r');obtain⟨its',rv',p'⟩:=isL I h2';have l1:=h3.length;have l2:=rv.length;have l3:=h3'.length;have l4:=rv'.length
   by_cases hab:a=b
   .subst hab
    have:=Rep.inj I _ _ _ z z' hh hh';rw[<- this,j9 _ z];exact EqAt.same _
   .by_cases hl:ds.length=es.length
    .have q:=RcAt.lists p p' (by simp;omega) hu0 (e:=eJ ds es) λj g1 g2=>jh I ds es vs us its its' A.in1 h3 h3' rv rv' hu1 (by simp only[dep] at z;omega) (by simp only[dep] at z';omega) kk j _ _ (by simp at g1 ⊢) (by simp at g2 ⊢)
     rw[D2z,<- l2,<- l1,Ax _ _ hl] at q;exact .of_refs hab q
    .have q:=RcAt.lists_lengths p p' (by simp;omega) hu0
     rw[show deq (.lst ds) (.lst es)=qO ds es from rfl,oW hl];exact .of_refs hab q
  | _=>simp[fO] at kk
 | .exc c,d',v,v',u,u',A,h,h',r,r',hu,z,z',kk=>by cases d'<;>simp[fO] at kk
 | .dic _ _,d',v,v',u,u',A,h,h',r,r',hu,z,z',kk=>by cases d'<;>simp[fO] at kk
 | .obj _,d',v,v',u,u',A,h,h',r,r',hu,z,z',kk=>by cases d'<;>simp[fO] at kk
theorem jh(I:Inv X z0 Y H s):∀(ds es:List D)(vs us:List V)(its its':List Value)(A:Around),aJ X.K H ds vs->aJ X.K H es us->Vals vs its->Vals us its'->A.units+deps ds<cLine->deps ds<1000->deps es<1000->o8 ds es=true ->
  ∀(j:Nat)(u u':Value),its[j]?=some u->its'[j]?=some u'->EqAt A s u u' (eJ ds es j)
 | [],es,vs,us,its,its',A,h,h',r,r',hu,z,z',kk,j,u,u',e1,e2=>by
  simp only[aJ] at h;subst h;cases r;simp at e1
 | d::ds,es,vs,us,its,its',A,h,h',r,r',hu,z,z',kk,j,u,u',e1,e2=>by
  simp only[aJ] at h;obtain⟨v,vr,rfl,h2,h3⟩:=h
  cases r with
  | cons r rr =>
   cases es with
   | nil=>simp only[aJ] at h';subst h';cases r';simp at e2
   | cons e es =>
    simp only[aJ] at h';obtain⟨v',vr',rfl,h2',h3'⟩:=h'
    cases r' with
    | cons r' rr' =>
     rw[o8,Y2z] at kk;have hd:dep d<=deps (d::ds):=Nat.le_max_left _ _;have hds:deps ds<=deps (d::ds):=Nat.le_max_right _ _
     cases j with
     | zero =>
      simp at e1 e2;subst e1 e2
      exact tL I d e v v' _ _ A h2 h2' r r' (by omega) (by simp only[deps] at z;omega) (by simp only[deps] at z';omega) kk.1
     | succ j =>
      have q:=jh I ds es vr vr' _ _ A h3 h3' rr rr' (by omega) (by simp only[deps] at z;omega) (by simp only[deps] at z';omega) kk.2 j u u' (by simpa using e1) (by simpa using e2)
      simpa[eJ] using q
end
theorem o9(I:Inv X z0 Y H s){d d':D}{v v':V}{u u':Value}(A:Around)(h:Rep X.K H d v)(h':Rep X.K H d' v')(r:RelV v u)(r':RelV v' u')(hu:A.units+dep d<cLine)(z:dep d<1000)(z':dep d'<1000)(kk:fO d d'=true):RcAt A s u u' (deq d d')/\RcNeAt A s u u' (!deq d d'):=by
 have hu0:A.units<cLine:=R1z (W2z _ _) hu
 cases d with
 | bl c =>
  simp only[Rep] at h;subst h;cases (show u=Value.bool c from r)
  cases d' with
  | bl b=>simp only[Rep] at h';subst h';cases (show u'=Value.bool b from r');exact⟨RcAt.bool_bool c b,RcNeAt.bool_bool c b⟩
  | _=>simp[fO] at kk
 | int c =>
  simp only[Rep] at h;subst h;obtain⟨t0,rfl⟩:=r
  cases d' with
  | int i=>simp only[Rep] at h';subst h';obtain⟨t,rfl⟩:=r';exact⟨RcAt.int_int c t0 i t,RcNeAt.int_int c t0 i t⟩
  | _=>simp[fO] at kk
 | str c =>
  simp only[Rep] at h;subst h;obtain⟨t0,rfl⟩:=r
  cases d' with
  | bl b=>simp only[Rep] at h';subst h';cases (show u'=Value.bool b from r');exact⟨RcAt.str_bool c t0 b,RcNeAt.str_bool c t0 b⟩
  | str x=>simp only[Rep] at h';subst h';obtain⟨t,rfl⟩:=r';exact⟨RcAt.str_str c t0 x t,RcNeAt.str_str c t0 x t⟩
  | tup es=>simp only[Rep] at h';obtain⟨a,vs,rfl,h2,h3⟩:=h';cases (show u'=Value.ref a from r');obtain⟨its,_,p⟩:=isT I h2;exact⟨RcAt.str_tuple c t0 p hu0,RcNeAt.str_tuple c t0 p hu0⟩
  | _=>simp[fO] at kk
 | tup ds =>
  simp only[Rep] at h;obtain⟨a,vs,rfl,h2,h3⟩:=h;cases (show u=Value.ref a from r);obtain⟨its,rv,p⟩:=isT I h2
  have hu1:A.in1.units+deps ds<cLine:=by have:dep (.tup ds)=deps ds+1:=rfl;rw[iM];omega
  cases d' with
  | str x=>simp only[Rep] at h';subst h';obtain⟨t,rfl⟩:=r';exact⟨RcAt.tuple_str x t p hu0,RcNeAt.tuple_str x t p hu0⟩
  | tup es =>
   simp only[Rep] at h';obtain⟨b,us,rfl,h2',h3'⟩:=h';cases (show u'=Value.ref b from r');obtain⟨its',rv',p'⟩:=isT I h2'
   have l1:=h3.length;have l2:=rv.length;have l3:=h3'.length;have l4:=rv'.length
   have he:∀j (g1:j<its.toArray.size) (g2:j<its'.toArray.size),EqAt A.in1 s its.toArray[j] its'.toArray[j] (eJ ds es j):=λj g1 g2=>jh I ds es vs us its its' A.in1 h3 h3' rv rv' hu1 (by simp only[dep] at z;omega) (by simp only[dep] at z';omega) kk j _ _ (by simp at g1 ⊢) (by simp at g2 ⊢)
   have q:=RcAt.tuples p p' hu0 he;have q':=RcNeAt.tuples p p' hu0 he;rw[D2z,D2z,<- l2,<- l1,<- l4,<- l3,Ay] at q q';exact⟨q,q'⟩
  | _=>simp[fO] at kk
 | lst ds =>
  simp only[Rep] at h;obtain⟨a,vs,rfl,h2,h3⟩:=h;cases (show u=Value.ref a from r);obtain⟨its,rv,p⟩:=isL I h2
  have hu1:A.in1.units+deps ds<cLine:=by have:dep (.lst ds)=deps ds+1:=rfl;rw[iM];omega
  cases d' with
  | lst es =>
   simp only[Rep] at h';obtain⟨b,us,rfl,h2',h3'⟩:=h';cases (show u'=Value.ref b from r');obtain⟨its',rv',p'⟩:=isL I h2'
   have l1:=h3.length;have l2:=rv.length;have l3:=h3'.length;have l4:=rv'.length
   by_cases hl:ds.length=es.length
   .have he:∀j (g1:j<its.toArray.size) (g2:j<its'.toArray.size),EqAt A.in1 s its.toArray[j] its'.toArray[j] (eJ ds es j):=λj g1 g2=>jh I ds es vs us its its' A.in1 h3 h3' rv rv' hu1 (by simp only[dep] at z;omega) (by simp only[dep] at z';omega) kk j _ _ (by simp at g1 ⊢) (by simp at g2 ⊢)
    have q:=RcAt.lists p p' (by simp;omega) hu0 he
    have q':=RcNeAt.lists p p' (by simp;omega) hu0 he
    rw[D2z,<- l2,<- l1,Ax _ _ hl] at q q';exact⟨q,q'⟩
   .rw[show deq (.lst ds) (.lst es)=qO ds es from rfl,oW hl]
    exact⟨RcAt.lists_lengths p p' (by simp;omega) hu0,RcNeAt.lists_lengths p p' (by simp;omega) hu0⟩
  | _=>simp[fO] at kk
 | _=>cases d'<;>simp[fO] at kk
end
def jy(X:Cx)(e:Expr):TE:=λY H Q=>∀z0 s,Inv X z0 Y H s->wpAny (model X.prog X.w) X.A (eval e X.env) (EP X z0 Y Q) X.xe s
def nM(X:Cx)(e:Expr):TT:=λY H Q=>∀z0 s,Inv X z0 Y H s->wpAny (model X.prog X.w) X.A (isTrue e X.env (eval e X.env)) (TP X z0 Y Q) X.xe s
def yh(X:Cx)(es:List Expr):TA:=λY H Q=>∀pos z0 s,Inv X z0 Y H s->wpAny (model X.prog X.w) X.A (spliced (backTo pos (starEach es X.env))) (AP X z0 Y Q) X.xe s
def wu(X:Cx)(tg iter:Expr):TI:=λY H R=>∀z0 s,Inv X z0 Y H s->wpAny (model X.prog X.w) X.A (eval iter X.env) (λv s1=>wpAny (model X.prog X.w) X.A (pyIter v) (PIE X z0 Y tg R) X.xe s1) X.xe s
section
variable{X:Cx}{e:Expr}
theorem au:PE X e (jy X e):=λz0 s Y H Q I h=>h z0 s I
theorem dw:PT X e (nM X e):=λz0 s Y H Q I h=>h z0 s I
theorem cR{es:List Expr}:PA X es (yh X es):=λpos z0 s Y H Q I h=>h pos z0 s I
theorem uR{tg iter:Expr}:PI X tg iter (wu X tg iter):=λz0 s Y H R I h=>h z0 s I
theorem PE.sem{t:TE}{Y:St}{H:Hp}{Q:VK}(h:PE X e t)(q:t Y H Q):jy X e Y H Q:=λz0 s I=>h z0 s Y H Q I q
theorem PT.sem{t:TT}{Y:St}{H:Hp}{Q:Bool->Hp->Prop}(h:PT X e t)(q:t Y H Q):nM X e Y H Q:=λz0 s I=>h z0 s Y H Q I q
theorem PA.sem{es:List Expr}{t:TA}{Y:St}{H:Hp}{Q:List V->Hp->Prop}(h:PA X es t)(q:t Y H Q):yh X es Y H Q:=λpos z0 s I=>h pos z0 s Y H Q I q
theorem PI.sem{tg iter:Expr}{t:TI}{Y:St}{H:Hp}{R:It->Hp->Prop}(h:PI X tg iter t)(q:t Y H R):wu X tg iter Y H R:=λz0 s I=>h z0 s Y H R I q
end
def bJ(K:Zf)(Hs:Hp)(U:Rho)(Y:St):Prop:=∀(i:Nat)(x:Str)(d:D),U[i]?=some (x,.sh d)->∃v,Y[i]?=some (some v)/\Rep K Hs d v
theorem bJ.same{K:Zf}{Hs Hs':Hp}{U:Rho}{Y:St}(h:bJ K Hs U Y)(e:Same Hs Hs'):bJ K Hs' U Y:=λi x d q=>by
 obtain⟨v,e1,e2⟩:=h i x d q;exact⟨v,e1,Rep.same e d v e2⟩
def Mh(K:Zf)(J:It)(Hs0:Hp)(ds:List D):Prop:=∀Hs H,Same Hs0 Hs->Same Hs H->J.stop ds.length H/\∀(i:Nat)(d:D),ds[i]?=some d->J.go i H/\∀x H',J.yld i H x H'->∃Hs',Ext Hs H Hs' H'/\Rep K Hs' d x
def Ev(X:Cx)(U:Rho)(e:Expr)(d:D):Prop:=∀Y H Hs Q,Same Hs H->bJ X.K Hs U Y->(∀v H' Hs',Ext Hs H Hs' H'->Rep X.K Hs' d v->Q v H')->jy X e Y H Q
def EvT(X:Cx)(U:Rho)(e:Expr)(b:Bool):Prop:=∀Y H Hs Q,Same Hs H->bJ X.K Hs U Y->(∀H' Hs',Ext Hs H Hs' H'->Q b H')->nM X e Y H Q
def EvA(X:Cx)(U:Rho)(es:List Expr)(ds:List D):Prop:=∀Y H Hs Q,Same Hs H->bJ X.K Hs U Y->(∀vs H' Hs',Ext Hs H Hs' H'->aJ X.K Hs' ds vs->Q vs H')->yh X es Y H Q
def EvI(X:Cx)(U:Rho)(tg iter:Expr)(ds:List D):Prop:=∀Y H Hs R,Same Hs H->bJ X.K Hs U Y->(∀J H' Hs',Ext Hs H Hs' H'->Mh X.K J Hs' ds->R J H')->wu X tg iter Y H R
def spX(K:Zf)(call:Str->List D->Option D)(callx:Str->List D->Option Str)(f:Str)(ps:List Str):Sp:=λvs H Q E=>vs.length=ps.length/\∃Hs ds,Same Hs H/\aJ K Hs ds vs /\
 ((∃d,call f ds=some d/\∀v H' Hs',Ext Hs H Hs' H'->Rep K Hs' d v->Q v H')\/(∃c,callx f ds=some c/\∀C H' Hs',PySem.W.nsIn K mainGlobals c=some (some (.ref C))->Ext Hs H Hs' H'->E (.ref C) none H'))
def Gf(K:Zf)(exs:List Str)(top:Str):Bool:=match PySem.W.nsIn K mainGlobals top with
  | some (some (.ref M))=>exs.all λc=>match PySem.W.nsIn K mainGlobals c with
    | some (some (.ref C))=>xIn K C M && nH K C && PySem.W.exmOne K (.ref C) (.ref M)==some true && PySem.W.kitOne K (.ref C) (.ref M)==some true && PySem.W.kitOne K (.ref C) (.type "ValueError")==some true &&
      exs.all λc'=>match PySem.W.nsIn K mainGlobals c' with
        | some (some (.ref C'))=>PySem.W.kitOne K (.ref C) (.ref C')==some (c==c')
        | _=>false
    | _=>false
  | _=>exs.isEmpty
structure XText(K:Zf)(mg:Str->Option Value)(exs:List Str)(top:Str):Prop where
 glob:∀x v,PySem.W.nsIn K mainGlobals x=some (some v)->mg x=some v
 cls:∀c,exs.contains c=true->∃C M,PySem.W.nsIn K mainGlobals c=some (some (.ref C))/\PySem.W.nsIn K mainGlobals top=some (some (.ref M))/\xIn K C M=true/\nH K C=true/\PySem.W.exmOne K (.ref C) (.ref M)=some true/\PySem.W.kitOne K (.ref C) (.ref M)=some true/\PySem.W.kitOne K (.ref C) (.type "ValueError")=some true
 sub:∀c c',exs.contains c=true->exs.contains c'=true->∃C C',PySem.W.nsIn K mainGlobals c=some (some (.ref C))/\PySem.W.nsIn K mainGlobals c'=some (some (.ref C'))/\PySem.W.kitOne K (.ref C) (.ref C')=some (c==c')
theorem XText.of{K:Zf}{mg:Str->Option Value}{exs:List Str}{top:Str}(hg:∀x v,PySem.W.nsIn K mainGlobals x=some (some v)->mg x=some v)(h:Gf K exs top=true):XText K mg exs top:=by
 unfold Gf at h;split at h
 .rename_i M hM
  have all:=λc (hc:exs.contains c=true)=>E3z.mp h c (by simpa using hc);refine⟨hg,λc hc=>?_,λc c' hc hc'=>?_⟩
  .have q:=all c hc
   split at q
   .rename_i C hC
    simp only[Y2z,beq_iff_eq] at q;exact⟨C,M,hC,hM,q.1.1.1.1.1,q.1.1.1.1.2,q.1.1.1.2,q.1.1.2,q.1.2⟩
   .cases q
  .have q:=all c hc
   split at q
   .rename_i C hC
    simp only[Y2z] at q;have q2:=E3z.mp q.2 c' (by simpa using hc');split at q2
    .rename_i C' hC'
     exact⟨C,C',hC,hC',by simpa using q2⟩
    .cases q2
   .cases q
 .have e:exs=[]:=by simpa using h
  subst e;exact⟨hg,λc hc=>absurd hc (by simp),λc c' hc=>absurd hc (by simp)⟩
structure Good(cx:Cxt)(k:Nat)(X:Cx)(sc:Scope):Prop where
 calm:X.calm=true
 room:Room k X.A
 sce:X.env.scope=sc
 kind:sc.kind=.function
 nd:X.N.Nodup
 cst:∀x d,cx.cst.lookup x=some d->∃v u,(∀H,Rep X.K H d v)/\X.mg x=some u/\RelV v u
 blt:∀x b,cx.blt.lookup x=some b->X.mg x=none/\x=Str.ofString b
 exs:XText X.K X.mg cx.exs cx.top
 fns:∀f,cx.fns.contains f=true->(f==("__debug__":Str))=false/\∃a fd ps,(∀ds d,cx.call f ds=some d->ds.length=ps.length)/\(∀ds c,cx.callx f ds=some c->ds.length=ps.length)/\X.mg f=some (.ref a)/\PySem.W.keepIn X.K (.ref a)=true/\Binds X.K fd ps []/\FnOk X.prog X.w X.K X.mg X.base (CX1 X.prog X.w) k a fd ps (spX X.K cx.call cx.callx f ps)
 kw:KnW X.K X.w
section
variable{X:Cx}{U:Rho}{cx:Cxt}{k:Nat}{sc:Scope}
theorem eV:∀{U:Rho}{x:Str}{s:Sl},U.lookup x=some s->∃i:Nat,U[i]?=some (x,s)/\(U.map (·.1)).idxOf? x=some i
 | (y,t)::r,x,s,h=>by
  rw[S2z] at h
  cases hb:x==y with
  | true =>
   rw[hb] at h;cases h
   have:x=y:=by simpa using hb
   subst this;exact⟨0,rfl,by simp[List.idxOf?,List.findIdx?_cons]⟩
  | false =>
   rw[hb] at h;obtain⟨i,h1,h2⟩:=eV h;refine⟨i+1,by simpa using h1,?_⟩
   have hy:(y==x)=false:=by
    rw[E1z] at hb ⊢;exact λe=>hb e.symm
   simp only[E4z,List.idxOf?,List.findIdx?_cons,hy,S1z,M5z];simp only[List.idxOf?] at h2;rw[h2];rfl
theorem Al{x:Str}{d:D}{pos:Pos}(hN:X.N=U.map (·.1))(hv:Vis X.env.scope x)(hp:aK x=true)(h:U.lookup x=some (.sh d)):Ev X U (.Name x pos) d:=by
 intro Y H Hs Q hs hr hq;obtain⟨i,h1,_⟩:=eV h;obtain⟨v,e1,e2⟩:=hr i x d h1;unfold aK at hp;rw[Y2z,I5z,I5z] at hp;refine PE.sem (mU (i:=i) (by rw[hN,List.getElem?_map,h1];rfl) hv (by simpa using hp.1) (by simpa using hp.2)) ⟨v,e1,hq v H Hs (.refl hs) e2⟩
theorem Qq{x:Str}{d:D}{v:V}{u:Value}{pos:Pos}(hg:Gl X x)(hd:∀H,Rep X.K H d v)(hm:X.mg x=some u)(r:RelV v u)(hp:aK x=true):Ev X U (.Name x pos) d:=by
 intro Y H Hs Q hs hr hq;unfold aK at hp;rw[Y2z,I5z,I5z] at hp;exact PE.sem (lG hg hm r (by simpa using hp.1)) (hq _ H Hs (.refl hs) (hd Hs))
theorem vh{c:Const}{d:D}{j:Nat}{pos:Pos}(h:(match c with | .none=>some D.non | .bool b=>some (.bl b) | .int i=>some (.int i) | .str x=>some (.str x) | _=>none)=some d):Ev X U (.Constant c j pos) d:=by
 intro Y H Hs Q hs hr hq
 cases c<;>simp at h<;>subst h
 .exact PE.sem G4 (hq _ H Hs (.refl hs) (by simp[Rep]))
 .exact PE.sem SX (hq _ H Hs (.refl hs) (by simp[Rep]))
 .exact PE.sem mV (hq _ H Hs (.refl hs) (by simp[Rep]))
 .exact PE.sem lF (hq _ H Hs (.refl hs) (by simp[Rep]))
theorem gk{a b:Expr}{x y d:D}{r:R2}{e:Expr}(ha:Ev X U a x)(hb:Ev X U b y)(hp:PE X e (tOp r (jy X a) (jy X b)))
  (hr:∀u v H Hs Q,Same Hs H->Rep X.K Hs x u->Rep X.K Hs y v->(∀w H' Hs',Ext Hs H Hs' H'->Rep X.K Hs' d w->Q w H')->r u v H Q):Ev X U e d:=by
 intro Y H Hs Q hs hst hq;refine hp.sem (ha Y H Hs _ hs hst λu H1 Hs1 E1 r1=>hb Y H1 Hs1 _ E1.sub (hst.same E1.vis) λv H2 Hs2 E2 r2=>?_);exact hr u v H2 Hs2 Q E2.sub (Rep.same E2.vis x u r1) r2 λw H' Hs' E3 r3=>hq w H' Hs' (E1.trans (E2.trans E3)) r3
theorem uI{i:Int}(h:small i=true):-(2^64)<i/\i<2^64:=by
 unfold small at h;rw[Y2z,J2z,J2z] at h;exact h
theorem kZ{n:Nat}(h:szl n=true):n<=sizeLine:=by
 unfold szl at h;rw[J2z] at h;exact P4z h (by rw[Y4z];decide)
theorem Gn{n:Nat}(h:szl n=true):n<sizeLine:=by
 unfold szl at h;rw[J2z] at h;exact R1z h (by rw[Y4z];decide)
theorem aQ{K:Zf}{H:Hp}{i:Int}{v:V}(h:Rep K H (.int i) v):v=.int i:=by simpa[Rep] using h
theorem dH{K:Zf}{H:Hp}{i:Bool}{v:V}(h:Rep K H (.bl i) v):v=.bl i:=by simpa[Rep] using h
theorem cB{K:Zf}{H:Hp}{ds:List D}{v:V}(h:Rep K H (.tup ds) v):∃a vs,v=.ref a/\SqT K H a vs/\aJ K H ds vs:=by simpa[Rep] using h
theorem cX{K:Zf}{H:Hp}{ds:List D}{v:V}(h:Rep K H (.lst ds) v):∃a vs,v=.ref a/\SqL K H a vs/\aJ K H ds vs:=by simpa[Rep] using h
theorem fX{Hs H:Hp}{ds:List D}{vs:List V}{p:Addr}{Q:VK}(hs:Same Hs H)(hr:aJ X.K Hs ds vs)(hp:H p=none)(hq:∀w H' Hs',Ext Hs H Hs' H'->Rep X.K Hs' (.tup ds) w->Q w H'):Q (.ref p) (upd H p (.tup vs)) :=
 hq _ _ _ (Ext.new hs (.tup vs) hp) (by simp only[Rep];exact⟨p,vs,rfl,.of aB,aJ.same (Ext.new hs (.tup vs) hp).vis ds vs hr⟩)
theorem lJ{Hs H:Hp}{ds:List D}{vs:List V}{p:Addr}{Q:VK}(hs:Same Hs H)(hr:aJ X.K Hs ds vs)(hp:H p=none)(hq:∀w H' Hs',Ext Hs H Hs' H'->Rep X.K Hs' (.lst ds) w->Q w H'):Q (.ref p) (upd H p (.lst vs)) :=
 hq _ _ _ (Ext.new hs (.lst vs) hp) (by simp only[Rep];exact⟨p,vs,rfl,.of aB,aJ.same (Ext.new hs (.lst vs) hp).vis ds vs hr⟩)
def SN(K:Zf):R2:=λx y H Q=>∃a b xs ys,x=.ref a/\y=.ref b/\SqT K H a xs/\SqT K H b ys/\xs.length+ys.length<=sizeLine /\
 (xs=[]->Q (.ref b) H)/\(xs≠[]->ys=[]->Q (.ref a) H)/\(xs≠[]->ys≠[]->∀p,H p=none->Q (.ref p) (upd H p (.tup (xs++ys))))
theorem JW:OpR X (binaryOp .Add) (SN X.K):=by
 intro z0 s Y H x y v u Q I rx ry h;obtain⟨a,b,xs,ys,rfl,rfl,ha,hb,hz,q0,q1,q2⟩:=h
 by_cases hx:xs=[]
 .subst hx
  cases (show v=Value.ref a from rx);cases (show u=Value.ref b from ry);obtain⟨its,r1,p1,_⟩:=I.tuple ha;obtain⟨its2,r2,p2,_⟩:=I.tuple hb;have e0:its=[]:=r1.nil_iff.mpr rfl;subst e0;obtain⟨⟨c,dd,data,sl⟩,ho,hc,n,hd⟩:=id p1;obtain⟨⟨c2,dd2,data2,sl2⟩,ho2,hc2,n2,hd2⟩:=id p2;simp only at hc hd hc2 hd2;subst hc hd hc2 hd2;exact concat_meets ⟨_,ho,rfl⟩ ⟨_,ho2,rfl⟩ noFill_tuple_add seq_tuple_add M0z F0z (C0z _ _) (tuple_addW0 a b _ its2.toArray n n2 dd dd2 sl sl2 rfl) ⟨ho,ho2,.ref b,H,I,rfl,q0 rfl⟩
 .exact JT z0 s Y H (.ref a) (.ref b) v u Q I rx ry ⟨a,b,xs,ys,rfl,rfl,ha,hb,hx,hz,q1 hx,q2 hx⟩
def QZ(i j:Int):Prop:=UG i j\/(i.natAbs.log2<10000/\j.natAbs.log2<10000)
theorem G9{i:Int}(h:mid i=true):i.natAbs.log2<10000:=by unfold mid at h;simpa using h
theorem vJ{i:Int}(h:i.natAbs.log2<10000):Builtin.Int.intBits i<=2^20:=by
 unfold Builtin.Int.intBits
 split<;>omega
theorem JQ:OpR X (binaryOp .Mult) (rI QZ λi j=>.int (i*j)):=opI λ_ _ _ _ _ _ _ hc q=>mul_int q (hc.elim (λz=>z.ok) λz=>.of_bits (vJ z.1) (vJ z.2))
theorem vm{a b:Expr}{op:Operator}{x y d:D}{pos:Pos}(ha:Ev X U a x)(hb:Ev X U b y)(h:binop op x y=some d):Ev X U (.BinOp a op b pos) d:=by
 unfold binop at h;split at h
 .cases h
  exact gk ha hb (sG O2 au au) λu v H Hs Q hs r1 r2 hq=>⟨_,_,aQ r1,aQ r2,hq _ H Hs (.refl hs) (by simp[Rep])⟩
 .split at h
  .rename_i hz
   cases h;refine gk ha hb (sG JW au au) λu v H Hs Q hs r1 r2 hq=>?_;obtain⟨p,us,rfl,h1,h2⟩:=cB r1;obtain⟨q,ws,rfl,h3,h4⟩:=cB r2;have l1:=h2.length;have l2:=h4.length
   have nil:∀(l:List D),l.length=0->l=[]:=λl hl=>by cases l<;>simp at hl ⊢
   refine⟨p,q,us,ws,rfl,rfl,hs.tup h1,hs.tup h3,by have:=kZ hz;omega,λe=>?_,λ_ e=>?_,λ_ _ l hl=>fX hs (h2.append h4) hl hq⟩
   .subst e
    have e2:=nil _ l1;subst e2;exact hq _ H Hs (.refl hs) r2
   .subst e
    have e2:=nil _ l2;subst e2;refine hq _ H Hs (.refl hs) ?_;rw[J3z];exact r1
  .cases h
 .split at h
  .rename_i hz
   cases h;refine gk ha hb (sG JV au au) λu v H Hs Q hs r1 r2 hq=>?_;obtain⟨p,us,rfl,h1,h2⟩:=cX r1;obtain⟨q,ws,rfl,h3,h4⟩:=cX r2;have l1:=h2.length;have l2:=h4.length;exact⟨p,q,us,ws,rfl,rfl,hs.seq h1,hs.seq h3,by have:=kZ hz;omega,λl hl=>lJ hs (h2.append h4) hl hq⟩
  .cases h
 .cases h
  exact gk ha hb (sG Oz au au) λu v H Hs Q hs r1 r2 hq=>⟨_,_,aQ r1,aQ r2,hq _ H Hs (.refl hs) (by simp[Rep])⟩
 .split at h
  .rename_i hz
   cases h;rw[R3z,R3z,Y2z] at hz;have hz':QZ _ _:=hz.elim (λz=>z.elim (λz=>.inl (.inl (uI z))) (λz=>.inl (.inr (uI z)))) (λz=>.inr ⟨G9 z.1,G9 z.2⟩);exact gk ha hb (sG JQ au au) λu v H Hs Q hs r1 r2 hq=>⟨_,_,aQ r1,aQ r2,hz',hq _ H Hs (.refl hs) (by simp[Rep])⟩
  .cases h
 .split at h
  .rename_i hz
   cases h;rw[Y2z,J2z,J2z] at hz;exact gk ha hb (sG JR au au) λu v H Hs Q hs r1 r2 hq=>⟨_,_,aQ r1,aQ r2,hz,hq _ H Hs (.refl hs) (by simp[Rep])⟩
  .cases h
 .split at h
  .rename_i hz
   cases h;rw[J2z] at hz;exact gk ha hb (sG OJ au au) λu v H Hs Q hs r1 r2 hq=>⟨_,_,aQ r1,aQ r2,hz,hq _ H Hs (.refl hs) (by simp[Rep])⟩
  .cases h
 .cases h
end
end L2
namespace PySem
theorem gU:typeLookup (.type "list") "__getattr__"=pure none:=by rw[O3z,Q0z];rfl'
theorem qM:typeLookup (.type "list") "keys"=pure none:=am_miss_of_fast (by rfl')
theorem Fz:entryFor table "list.__getattribute__"=some Builtin.«object.__getattribute__» :=
 entryFor_alias (id':="object.__getattribute__") (by rfl') (by decide +kernel) (by decide +kernel) (by rfl')
theorem Fy{a:Addr}{vs:Array Value}{c:Nat}{sl:Array (Option Value)}(u:Tok) :
  Meets (Builtin.«object.__getattribute__» ⟨[.ref a,.str "keys" u],[]⟩) (λA R s=>s.heap.get? a=some {cls:=.type "list",dict:=none,data:=.seq vs c,slots:=sl}/\raisesAttr (.ref a) "keys" A R s) :=
 Meets.of_wp λprog w A R s hs=>by
  obtain⟨hp,g,d,tk,os⟩:=s;obtain⟨ho,hs⟩:=hs;dsimp only at ho;have hmiss:=qM;unfold Builtin.«object.__getattribute__»
  repeat (any_goals (first | assumption | wp_step))
  exact wpAny_raiseAttrError hs.1 hs.2 (attrMsg_fits (by decide +kernel) (by decide))
theorem Bb{prog:Program}{w:World}{A:Around}{E:Value->Shared->Prop}{s:Shared}{a:Addr}{vs:Array Value}{c:Nat}{sl:Array (Option Value)}{Q:Option Value->Shared->Prop}(ho:s.heap.get? a=some {cls:=.type "list",dict:=none,data:=.seq vs c,slots:=sl})(hA:A.handled=none)
  (h:∀h' tk,(∀b ob,s.heap.get? b=some ob->h'.get? b=some ob)->Q none {s with heap:=h',toks:=tk}) :
  wpAny (model prog w) A (getAttr? (.ref a) "keys") Q E s:=by
 obtain⟨hp,g,d,tk,os⟩:=s;dsimp only at ho;have hT:∀(h':Heap) g d tk os,h'.get? a=some {cls:=.type "list",dict:=none,data:=.seq vs c,slots:=sl}->Shared.TypeIs ⟨h',g,d,tk,os⟩ (.ref a) "list":=λh' g d tk os e=>⟨_,e,rfl⟩;have f1:=sub_AttributeError;have f3:=F.slot_list_getattribute.lookup;have f4:=F.slot_list_getattribute.bind (.ref a);have f5:=gU;unfold getAttr? getAttrBy? getAttrBy
 repeat (any_goals (first | assumption | ((with_reducible show wpAny _ _ (call (Value.builtin "list.__getattribute__") _ _) _ _ _);refine H5z F.slot_list_getattribute (hT _ _ _ _ _ ho) Fz (F.args_list_getattribute_2 _ _) (Fy (vs:=vs) (c:=c) (sl:=sl) _) ⟨ho,hA,λh' tk' e hx=>?_⟩) | wp_step))
 obtain⟨t',u',he⟩:=hx.there;show wpAny _ _ (getattributeRaised _ _ _ _ _ _ _) _ _ _;unfold getattributeRaised
 repeat (any_goals (first | assumption | wp_step))
 exact h h' tk' hx.keeps
theorem j7:plainId "dict.update.loop"=true:=by decide +kernel
theorem qN:entryFor table "dict.update.loop"=some Builtin.«dict.update.loop» :=V2z (by rfl')
def nC(h:Heap)(b:Addr)(u v:Value):Prop:=∃o m,h.get? b=some o/\o.cls=.type "tuple"/\o.data=.seq #[u,v] m
section
variable{prog:Program}{w:World}{A:Around}{E:Value->Shared->Prop}{s:Shared}
theorem Lb{b:Addr}{u v:Value}{Q:List Value->Shared->Prop}(h:nC s.heap b u v)(hq:Q [u,v] s):wpAny (model prog w) A (Builtin.Dict.pairItems (.ref b)) Q E s:=by
 obtain⟨o,m,h1,h2,h3⟩:=h;unfold Builtin.Dict.pairItems;refine E5z (U4z (T:="tuple") ⟨o,h1,h2⟩ ?_);rw[P5z (by decide)];refine E5z (Z3z h1 h3 ?_);exact F5z hq
end
section
variable{prog:Program}{w:World}{A:Around}{R:Result->Shared->Prop}{I:Addr}{fp wr:List Addr}{G:Array GenState->Array GenState->Prop}{n:Nat}{P:Nat->Value->Prop}{St:Nat->Shared->Prop}{K:Type}[DecidableEq K]{knd:KeyKind prog w K}
theorem Ld(W:WalksS prog w A.in1 I fp wr G n P St)(d:Addr)(hdf:d∉fp){N:Nat}(hN:∀b∈d::wr,N<=b){h0:Heap}{bs:Nat->Addr}{ks:Nat->K}{us ws:Nat->Value}(hval:∀i v,i<n->P i v->v=.ref (bs i))(hk:∀i,i<n->nC h0 (bs i) (us i) (ws i)/\knd.is (ks i) (us i)=true)(hlt:∀i,i<n->bs i<N) :
    ∀(k i:Nat)(s:Shared)(kvs:List (K×Value))(j:Int)(t:Tok), n - i=k->i<=n->St i s->(∀b o, b < N->h0.get? b=some o->s.heap.get? b=some o)->s.heap.DictOf knd d kvs->kvs.length + k<=sizeLine ->
      (∀s',Moved (d::wr) G s s'->s'.heap.DictOf knd d (merged kvs ((List.range' i k).map λj=>(ks j,ws j)))->R (.ok (.ret .none)) s') ->
      codeAny (model prog w) A (.builtin "dict.update.loop" ⟨[.ref d,.ref I,.int j t,.none],[]⟩) R s:=by
  have hdw:d∉wr:=λh=>hdf (W.sub _ h)
  have hsub:∀b∈wr,b∈d::wr:=λb hb=>U0z _ hb
  intro k
  induction k with
  | zero =>
    intro i s kvs j t hki hi hst hold hd hz hR
    have hin:i=n:=by omega
    subst hin
    refine Q3z qN ?_
    rw[Y0z j7 _]
    show wpAny _ A.in1 (pyNext (.ref I) >>=_) _ _ s
    refine E5z (W.done s _ _ hst λs' hm=>?_)
    refine F5z (hR s' (hm.mono hsub) ?_)
    obtain⟨o,es,ep,ho,r⟩:=hd
    exact⟨o,es,ep,hm.heap d _ hdw ho,r⟩
  | succ k ih =>
    intro i s kvs j t hki hi hst hold hd hz hR
    have hin:i<n:=by omega
    refine Q3z qN ?_
    rw[Y0z j7 _]
    show wpAny _ A.in1 (pyNext (.ref I) >>=_) _ _ s
    refine E5z (W.item i s _ _ hin hst λv s' hP hst' hm=>?_)
    obtain rfl:=hval i v hin hP
    have hd':s'.heap.DictOf knd d kvs:=by
      obtain⟨o,es,ep,ho,r⟩:=hd
      exact⟨o,es,ep,hm.heap d _ hdw ho,r⟩
    have hold':∀b o,b<N->h0.get? b=some o->s'.heap.get? b=some o:=λb o hb e=>hm.heap b o (λq=>absurd (hN b (hsub b q)) (Nat.not_le.mpr hb)) (hold b o hb e)
    obtain⟨⟨o,m,a1,a2,a3⟩,a4⟩:=hk i hin
    have hp:nC s'.heap (bs i) (us i) (ws i):=⟨o,m,hold' _ _ (hlt i hin) a1,a2,a3⟩
    show wpAny _ A.in1 (holding [Value.ref (bs i)] _ >>=_) _ _ s'
    refine E5z (H4z (E5z (wpAny_tryCatch (Lb hp ?_))))
    refine H4z (wpAny_dictSet_pairs a4 hd' (λh' hd2 hs=>?_) (by omega))
    refine F5z ⟨G4z j7 _,ih (i+1) _ (stored kvs (ks i) (ws i)) _ _ (by omega) hin (W.frame _ s' _ _ hst' (Nat.le_succ _) λb hb o e=>?_) (λb o hb e=>?_) hd2 ?_ λs'' hm'' hd3=>?_⟩
    . rw[hs.2 b (λh:b=d=>hdf (by rw[<- h];exact hb))];exact e
    . rw[hs.2 b (λh:b=d=>absurd (hN d K1z) (by rw[<- h];exact Nat.not_le.mpr hb))]
      exact hold' b o hb e
    . have:(stored kvs (ks i) (ws i)).length<=kvs.length+1:=by
        unfold stored
        split<;>simp
      omega
    . refine hR s'' (Moved.trans W.gtrans ((hm.mono hsub).then_heap (Nat.le_succ _) λb o hb e=>?_) hm'') ?_
      . rw[hs.2 b (λh:b=d=>hb (by rw[h];exact K1z))];exact e
      . rw[Z2z,E4z]
        exact hd3
end
section
variable{prog:Program}{w:World}{A:Around}{E:Value->Shared->Prop}{s:Shared}{K:Type}[DecidableEq K]{knd:KeyKind prog w K}
theorem Le{l:Addr}{items:Array Value}{c:Nat}{sl:Array (Option Value)}{bs:Nat->Addr}{ks:Nat->K}{us ws:Nat->Value}{Q:Value->Shared->Prop}(hh:A.handled=none)(ho:s.heap.get? l=some {cls:=.type "list",dict:=none,data:=.seq items c,slots:=sl})
  (hv:∀i v,i<items.size->items[i]?=some v->v=.ref (bs i)) (hk:∀i,i<items.size->nC s.heap (bs i) (us i) (ws i)/\knd.is (ks i) (us i)=true) (hz:items.size<=sizeLine)
  (h:∀h' tk,h'.DictOf knd s.heap.objs.size (merged [] ((List.range' 0 items.size).map λj=>(ks j,ws j)))->(∀b o,s.heap.get? b=some o->h'.get? b=some o)->Q (.ref s.heap.objs.size) {s with heap:=h',toks:=tk}) :
  wpAny (model prog w) A (call (.type "dict") [.ref l]) Q E s:=by
 refine callType_codes (Q₁:=λobj s₁=>obj=.ref s.heap.objs.size/\s₁={s with heap:=s.heap.push {cls:=.type "dict",data:=.dict #[]} }) F.kt_called_dict (F.kt_typeCall_dict_1 _) F.entry_dict_init (kt_code_dict_new _ ⟨rfl,rfl⟩) ?_;rintro obj s₁ ⟨rfl,rfl⟩;have hnew:(s.heap.push {cls:=.type "dict",data:=.dict #[]}).DictOf knd s.heap.objs.size []:=Heap.DictOf.new s.heap;have ho1:(s.heap.push {cls:=.type "dict",data:=.dict #[]}).get? l=some {cls:=.type "list",dict:=none,data:=.seq items c,slots:=sl}:=Heap.get?_push_of_some _ ho;have hlS:l<s.heap.objs.size:=N4z ho;refine⟨hnew.typeIs,F.args_dict_init_2 _ _,?_⟩;unfold Builtin.«dict.__init__»;refine E5z ?_;unfold Builtin.Dict.selfAndRest;refine E5z (wpAny_notOrdered_dict hnew.typeIs ?_);show wpAny _ _ (pure (s.heap.objs.size,[Value.ref l])) _ _ _;refine F5z ?_;show wpAny _ _ (Builtin.Dict.updateFrom "dict.__init__" s.heap.objs.size (.ref l) [] .none) _ _ _;unfold Builtin.Dict.updateFrom;refine E5z (U4z (T:="list") ⟨_,ho1,rfl⟩ ?_);rw[P5z (by decide)];refine E5z (Bb ho1 (by simp[hh]) λh1 tk1 keep=>?_);rw[P5z (show(none:Option Value).isNone=true from rfl)];have ho2:=keep _ _ ho1;have hl2:h1.IsList l items:=⟨_,ho2,rfl,c,rfl⟩
 have hd2:h1.DictOf knd s.heap.objs.size []:=by
  obtain⟨o,es,ep,h3,r⟩:=hnew;exact⟨o,es,ep,keep _ _ h3,r⟩
 have hSz:s.heap.objs.size<h1.objs.size:=by
  obtain⟨o,es,ep,h3,r⟩:=hd2;exact N4z h3
 refine E5z (G5z ?_);refine E5z (wpAny_pyIter_list (s:={s with heap:=h1,toks:=tk1}) hl2 ?_);have hneI:l≠h1.objs.size:=O4z (N4z ho2)
 have hSf:s.heap.objs.size∉[h1.objs.size,l]:=by
  simp only[L4z,A3z,or_false,not_or];exact⟨O4z hSz,R4z hlS⟩
 refine F5z ⟨G4z j7 _,?_⟩
 refine Ld (knd:=knd) ((Walks.list (by simp[hh]) _ l hneI items).toS) s.heap.objs.size hSf (N:=s.heap.objs.size) (h0:=s.heap) (bs:=bs) (ks:=ks) (us:=us) (ws:=ws) (λb hb=>?_) hv hk (λi hi=>?_) (items.size-0) 0 _ [] _ _ rfl (Z4z _)
  ⟨⟨_,Heap.get?_push_size _ rfl,rfl,rfl⟩,hl2.push _⟩ (λb o hb e=>Heap.get?_push_of_some _ (keep _ _ (Heap.get?_push_of_some _ e))) (hd2.push _) (by simpa using hz) ?hR
 .rcases L4z.mp hb with rfl | hb
  .exact X4z _
  .rw[Z1z.mp hb];exact Q4z hSz
 .obtain⟨⟨o,_,e,_⟩,_⟩:=hk i hi
  exact N4z e
 case hR =>
  intro s' hm hd3;obtain⟨h',g',d',tk',os'⟩:=s';have eg:g'=s.gens:=hm.gens;have ed:d'=s.drawn:=hm.drawn;have eo:os'=s.os:=hm.os;subst eg;subst ed;subst eo;refine⟨rfl,h h' tk' hd3 λb o e=>?_⟩;have hb:=N4z e;have hb1:b≠s.heap.objs.size:=O4z hb;have hb2:b≠h1.objs.size:=O4z (Nat.lt_trans hb hSz);exact hm.heap b o (by simp only[L4z,A3z,or_false,not_or];exact⟨hb1,hb2⟩) (Heap.get?_push_of_some _ (keep _ _ (Heap.get?_push_of_some _ e)))
end
end PySem
namespace L2
open PySem PySem.Spec PyProof.Rows
def wZ(K:Zf)(H:Hp):List V->List (Key×V)->Prop
 | [],kvs=>kvs=[]
 | x::r,kvs=>∃b k v q,x=.ref b/\kvs=(k,v)::q/\SqT K H b [kV k,v]/\wZ K H r q
section
variable{X:Cx}{z0:List (Addr×Obj)}{Y:St}{H:Hp}{s:Shared}
abbrev DRow:=Addr×Value×Key×Value
theorem GZ(I:Inv X z0 Y H s):∀{vs:List V}{its:List Value}{kvs:List (Key×V)},wZ X.K H vs kvs->Vals vs its ->
  ∃rows:List DRow,KV kvs (rows.map λr=>(r.2.2.1,r.2.2.2))/\its=rows.map (λr=>Value.ref r.1)/\∀r∈rows,nC s.heap r.1 r.2.1 r.2.2.2/\(aR X.prog X.w).is r.2.2.1 r.2.1=true
 | [],_,_,h,.nil=>by
  cases h;exact⟨[],.nil,rfl,λr h=>by simp at h⟩
 | _::_,_,_,h,.cons r1 r2=>by
  obtain⟨b,k,v,q,rfl,rfl,h1,h2⟩:=h;obtain⟨rows,a1,a2,a3⟩:=GZ I h2 r2;obtain⟨its',r',⟨o,e1,e2,n,e3⟩,_⟩:=I.tuple h1
  cases r' with
  | cons q1 q2 =>
  cases q2 with
  | cons q3 q4 =>
  cases q4;rename_i u w;refine⟨(b,u,k,w)::rows,.cons ⟨rfl,q3⟩ a1,?_,λr h=>?_⟩
  .rw[E4z,<- a2]
   congr 1
  .rcases L4z.mp h with rfl | h
   .exact⟨⟨o,n,e1,e2,e3⟩,lR q1⟩
   .exact a3 r h
theorem wV(hc:X.calm=true):cZ X (.type "dict") (λxs H Q=>∃(a:Addr)(vs:List V)(kvs:List (Key×V)),xs=[.ref a]/\SqL X.K H a vs/\wZ X.K H vs kvs/\∀p ob,H p=none->Q (.ref p) (upd H p (.frz ob (.dK (gZ [] kvs))))):=by
 intro z0 s Y H xs us Q I r h;obtain⟨a,vs,kvs,rfl,hl,hp,q⟩:=h
 obtain⟨u,rfl,rfl⟩:∃u,us=[u]/\u=Value.ref a:=by
  cases r with
  | cons r1 r2=>cases r2;exact⟨_,rfl,r1⟩
 obtain⟨its,r',⟨o,n,e1,e2,e3,e4⟩,z⟩:=I.list hl;obtain⟨oc,od,odt,osl⟩:=o;dsimp only at e2 e3 e4;subst e2 e3 e4;obtain⟨rows,a1,a2,a3⟩:=GZ I hp r'
 have hlen:its.length=rows.length:=by rw[a2,I3z]
 have hkl:kvs.length=rows.length:=by simpa using a1.length
 have d0:DRow:=(0,.none,.inl 0,.none)
 have hrow:∀i,i<its.toArray.size->∃rw,rows[i]?=some rw/\rows.getD i d0=rw/\rw∈rows:=λi hi=>by
  have hi':i<rows.length:=by rw[<- hlen];simpa using hi
  exact⟨rows[i],List.getElem?_eq_getElem hi',by simp[List.getD,hi'],List.getElem_mem hi'⟩
 have hn:=I.hok.fresh (X4z s.heap.objs.size);have rel:KV (gZ [] kvs) (merged [] (rows.map λr=>(r.2.2.1,r.2.2.2))):=a1.merge .nil
 have hz:(gZ [] kvs).length<=sizeLine:=by
  have h1:=jf kvs [];rw[List.length_nil] at h1;have:=r'.length;omega
 have hmap:(List.range' 0 its.toArray.size).map (λj=>((rows.getD j d0).2.2.1,(rows.getD j d0).2.2.2))=rows.map λr=>(r.2.2.1,r.2.2.2):=by
  apply List.ext_getElem
  .simp[hlen]
  .intro i h1 h2
   simp only[I3z] at h2;simp[List.getD,h2]
 refine Le (knd:=aR X.prog X.w) (bs:=λi=>(rows.getD i d0).1) (ks:=λi=>(rows.getD i d0).2.2.1) (us:=λi=>(rows.getD i d0).2.1) (ws:=λi=>(rows.getD i d0).2.2.2) (I.ok.hd hc) e1 (λi v hi e=>?_) (λi hi=>?_) (by have:=r'.length;simpa using(by omega:its.length<=sizeLine)) λh' tk dd keep=>?_
 .obtain⟨rw',b1,b2,b3⟩:=hrow i hi
  show v=Value.ref (rows.getD i d0).1;rw[b2];rw[a2] at e;simp[b1] at e;exact e.symm
 .obtain⟨rw',b1,b2,b3⟩:=hrow i hi
  show nC s.heap (rows.getD i d0).1 (rows.getD i d0).2.1 (rows.getD i d0).2.2.2/\(aR X.prog X.w).is (rows.getD i d0).2.2.1 (rows.getD i d0).2.1=true;rw[b2];exact a3 rw' b3
 .rw[hmap] at dd
  obtain⟨ob,hob⟩:∃ob,h'.get? s.heap.objs.size=some ob:=let ⟨ob,_,_,e,_⟩:=dd;⟨ob,e⟩
  refine⟨.ref s.heap.objs.size,_,I.laid (a:=s.heap.objs.size) (o:=.frz ob (.dK (gZ [] kvs))) keep (X4z _) ⟨hob,Bc hz ?_ rel dd⟩,rfl,q _ ob hn⟩;exact beq_false_of_ne (R4z I.big)
end
end L2
namespace DE
open PySem
def tX(ks':List (Sum Int Str))(ds':List D):List (Sum Int Str)->List D->Bool
 | k::ks,d::ds=>(match kO ks' ds' k with
  | some d'=>deq d d'
  | none=>false)&&tX ks' ds' ks ds
 | _,_=>true
def Bd(ks:List (Sum Int Str))(ds:List D)(ks':List (Sum Int Str))(ds':List D):Bool:=ks.length==ks'.length&&tX ks' ds' ks ds
end DE
namespace L2
open PySem PySem.Spec PyProof.Rows DE PySem.SeqAt
theorem nJ{K:Zf}{H:Hp}{k:Key}:∀{kvs:List (Key×V)}{ks:List Key}{ds:List D},kvs.map (·.1)=ks->aJ K H ds (kvs.map (·.2)) ->
  (kO ks ds k=none/\jB kvs k=none)\/∃d v,kO ks ds k=some d/\jB kvs k=some v/\Rep K H d v/\d∈ds
 | [],_,ds,rfl,h=>by
  cases ds with
  | nil=>exact .inl ⟨rfl,rfl⟩
  | cons d r=>simp[aJ] at h
 | (k',v)::r,_,ds,rfl,h=>by
  cases ds with
  | nil=>simp[aJ] at h
  | cons d ds =>
   obtain⟨v',q,e,h1,h2⟩:=h;cases e
   by_cases hk:k'=k
   .refine .inr ⟨d,v,?_,iJ hk,h1,K1z ..⟩
    unfold kO;rw[E4z,V1z,List.find?_cons_of_pos (by simpa using hk)];rfl
   .rw[iK hk]
    have:kO (((k',v)::r).map (·.1)) (d::ds) k=kO (r.map (·.1)) ds k:=by
     unfold kO;rw[E4z,V1z,List.find?_cons_of_neg (by simpa using hk)]
    rw[this];rcases nJ (k:=k) rfl h2 with h3 | ⟨d',v',a1,a2,a3,a4⟩
    .exact .inl h3
    .exact .inr ⟨d',v',a1,a2,a3,U0z _ a4⟩
section
variable{X:Cx}{z0:List (Addr×Obj)}{Y:St}{H:Hp}{s:Shared}
theorem Ad(I:Inv X z0 Y H s)(A:Around)(hu:A.units+50<cLine){ks':List Key}{ds':List D}{kvs':List (Key×V)}{vs':List (Key×Value)}(e':kvs'.map (·.1)=ks')(r':aJ X.K H ds' (kvs'.map (·.2)))(kv':KV kvs' vs')(z':∀d∈ds',dep d<=50) :
  ∀{kvs:List (Key×V)}{vs:List (Key×Value)}{ds:List D},aJ X.K H ds (kvs.map (·.2))->KV kvs vs->(∀d∈ds,dep d<=50)->(∀d∈ds,∀d'∈ds',fO d d'=true)->W.KeqHits A s vs' vs (tX ks' ds' (kvs.map (·.1)) ds)
 | [],_,ds,_,.nil,_,_=>.nil
 | (k,v)::r,_,ds,h,.cons (b:=(k0,u)) hu1 t,z,zk=>by
  obtain⟨rfl,hu2⟩:k=k0/\RelV v u:=hu1
  cases ds with
  | nil=>simp[aJ] at h
  | cons d ds =>
   obtain⟨v',q,e,h1,h2⟩:=h;cases e;have ih:=Ad I A hu e' r' kv' z' h2 t (λd hd=>z d (U0z _ hd)) λd hd=>zk d (U0z _ hd);show W.KeqHits A s vs' ((k,u)::_) ((match kO ks' ds' k with | some d'=>deq d d' | none=>false)&&tX ks' ds' (r.map (·.1)) ds);rcases nJ (k:=k) e' r' with⟨h3,h4⟩ | ⟨d',v',a1,a2,a3,a4⟩
   .rw[h3]
    have:valueAt vs' k=none:=by
     have:=kv'.val k;rw[h4] at this
     cases q:valueAt vs' k with
     | none=>rfl
     | some x=>rw[q] at this;exact this.elim
    exact .miss this
   .rw[a1]
    have:=kv'.val k;rw[a2] at this
    cases q:valueAt vs' k with
    | none=>rw[q] at this;exact this.elim
    | some x =>
     rw[q] at this;have zd:=z d (K1z ..);have zd':=z' d' a4;exact .hit q (tL I d d' v v' u x A h1 a3 hu2 this (by omega) (by omega) (by omega) (zk d (K1z ..) d' a4)) ih
def Wj(X:Cx)(g:Bool->Bool):R2:=λu v H Q=>∃Hs ks ds ks' ds',Same Hs H/\Rep X.K Hs (.dic ks ds) u/\Rep X.K Hs (.dic ks' ds') v/\(∀d∈ds,dep d<=50)/\(∀d∈ds',dep d<=50)/\(∀d∈ds,∀d'∈ds',fO d d'=true)/\Q (.bl (g (Bd ks ds ks' ds'))) H
theorem OD{k:Nat}(hr:Room k X.A)(kw:KnW X.K X.w):OpR X (compareOp .NotEq) (Wj X (!·)):=by
 intro z0 s Y H u v w z Q I ru rv h;obtain⟨Hs,ks,ds,ks',ds',hs,h1,h2,z1,z2,zk,q⟩:=h;obtain⟨a,kvs,rfl,a1,a2,a3⟩:=Rep.same hs _ _ h1;obtain⟨b,kvs',rfl,b1,b2,b3⟩:=Rep.same hs _ _ h2;cases (show w=Value.ref a from ru);cases (show z=Value.ref b from rv);obtain⟨ha,vs,ra,da⟩:=eE I kw a1;obtain⟨hb,vs',rb,db⟩:=eE I kw b1;have hun:=hr.un;refine W.keq_ne (knd:=aR X.prog X.w) (r:=tX ks' ds' ks ds) ha hb da db (by omega) (λ_=>?_) ⟨.bl _,H,I,?_,q⟩
 .have:=Ad I X.A.in1 (by rw[PySem.Around.in1_units];omega) b2 b3 rb z2 a3 ra z1 zk
  rw[a2] at this;exact this
 .show Value.bool _=Value.bool _
  congr 2;rw[<- ra.length,<- rb.length,<- a2,<- b2,Bd];simp
end
end L2
namespace L2
open PySem PySem.Spec PyProof.Rows
def o7(CX:CXT)(P:Program)(w:World)(K:Zf)(mg:Str->Option Value)(base:Heap)(N:List Str)(qual:Str)(scope:Scope)(f:Addr)(cd:Value)(cl:List (Str×Addr))(A:Around)(outer:List Env)(s:Shared)(H:Hp)(E:XK):Cx where
 prog:=P
 w:=w
 K:=K
 mg:=mg
 base:=base
 A:=A.deeper (W.envX qual scope s.heap.objs.size f cd cl)
 N:=N
 s₀:=s
 H₀:=H
 env:=W.envX qual scope s.heap.objs.size f cd cl
 outer:=outer
 stack:=W.envX qual scope s.heap.objs.size f cd cl::outer
 ex:=[]
 calm:=true
 fn:=λ_=>false
 pn:=[]
 xe:=λe s'=>wpAny (model P w) (A.deeper (W.envX qual scope s.heap.objs.size f cd cl)) (leaving (W.envX qual scope s.heap.objs.size f cd cl) e) (λ_ s''=>CX outer H s E e s'') (λe' s''=>CX outer H s E e' s'') s'
structure LamNames(base:Heap)(scope:Scope)(N:List Str)(ws:List V)(cl:List (Str×Addr)):Prop where
 kind:scope.kind=.function
 co:scope.isCoroutine=false
 gen:scope.isGenerator=false
 own:∀x∈scope.names,x.2≠.cell
 len:ws.length=N.length
 val:∀(i:Nat) x v,N[i]?=some x->ws[i]?=some v->scope.names.lookup x=some .free/\∃c u,cl.lookup x=some c/\RelV v u/\base.IsCell c (some u)
 inj:∀x y c,cl.lookup x=some c->cl.lookup y=some c->x=y
 has:∀x,scope.names.lookup x=some .free->∃c,cl.lookup x=some c
 cell:∀x c,cl.lookup x=some c->∃v,base.IsCell c v
theorem fB{h h':Heap}{c:Addr}{v:Option Value}(x:h.IsCell c v)(k:∀b o,h.get? b=some o->h'.get? b=some o):h'.IsCell c v:=by
 obtain⟨o,h1,h2⟩:=x;exact⟨o,k _ _ h1,h2⟩
theorem PL{CX:CXT}{P:Program}{w:World}{K:Zf}{mg:Str->Option Value}{base:Heap}{k:Nat}{f c':Addr}{name qual:Str}{params:Arguments}{body:Expr}{scope:Scope}{pm ctv:Value}{cl:List (Str×Addr)}
  {N:List Str} {ws:List V} {sp:Sp} (lk:base.get? f=some (W.kla_obj name qual params body scope cl pm c' ctv)) (hcd:base.CodeRec (.ref c') qual) (L:LamNames base scope N ws cl)
  (len:∀vs H Q E,sp vs H Q E->vs.length=0)
  (hbody:∀(A:Around)(outer:List Env)(s:Shared)(H:Hp)(Q:VK)(E:XK), Room k (A.deeper (W.envX qual scope s.heap.objs.size f (.ref c') cl))->sp [] H Q E ->
   ∃t,PE (o7 CX P w K mg base N qual scope f (.ref c') cl A outer s H E) body t/\t (ws.map some) H Q) :
  FnOk P w K mg base CX (k+1) f (W.kla_fn name qual params body scope cl pm (.ref c') ctv) [] sp:=by
 refine⟨len,λA outer s H args us vs Q E hr e0 hb r hsp=>?_⟩;have hl:=len _ _ _ _ hsp;obtain rfl:vs=[]:=List.length_eq_zero_iff.mp hl;have keep:∀b o,base.get? b=some o->s.heap.get? b=some o:=λb o e=>(e0.bs b o e).1;have lim:s.heap.NoLimit:=e0.mod.nolimit.keeps keep;refine W.kla_callFunE hr.depth (keep _ _ lk) rfl L.co L.gen rfl (hcd.keeps keep) (hb _ _ _ _ ?_);refine wpAny_newFunctionEnv L.own (λx hx=>by simp at hx) (λh1 hns hsb=>?_) L.kind;have hk1:∀b o,s.heap.get? b=some o->h1.get? b=some o:=λb o e=>hsb.extBut b o (O4z (N4z e)) (Heap.get?_push_of_some _ e);refine⟨lim.keeps hk1,?_⟩;show codeAny _ _ (.expr body (W.envX qual scope s.heap.objs.size f (.ref c') cl)) _ _;obtain⟨t,ht,hq⟩:=hbody A outer s H Q E (hr.deeper _) hsp;have noA:∀b:Addr,b∉(o7 CX P w K mg base N qual scope f (.ref c') cl A outer s H E).ex:=λb z=>absurd (show b∈([]:List Addr) from z) (by simp);have hlook:∀x,(W.envX qual scope s.heap.objs.size f (.ref c') cl).kindOf x=scope.names.lookup x:=λ_=>rfl;have nocell:∀x,scope.names.lookup x≠some .cell:=λx e=>L.own _ (D1z e) rfl
 have I:Inv (o7 CX P w K mg base N qual scope f (.ref c') cl A outer s H E) [] (ws.map some) H {s with heap:=h1,toks:=s.toks+0}:=by
  refine⟨⟨e0.mod,L.kind,rfl,rfl,X4z _,λy z c h1 h2=>L.inj y z c h1 h2,λy hy=>?_,λy c z _=>(nomatch z),λ_=>hr.hd,Around.frames_deeper e0.frames,.inr ⟨rfl,rfl⟩,λb z=>absurd z (noA b),e0.bs,e0.bsz,λb _ _=>noA b,λb z=>absurd z (noA b),e0.funs,e0.frf⟩,
   rfl,e0.bare,Un.kept hk1,⟨_,hns,λi y v a1 a2 a3=>?_⟩,λy c a=>?_,e0.hok.fresh (X4z _),λy c a=>?_,λp hp=>absurd (show p∈([]:List (Addr×Obj)) from hp) (by simp),e0.hok.kept hk1,?_⟩
  .have hy:scope.names.lookup y=some .cell\/scope.names.lookup y=some .free:=hy
   rcases hy with hy | hy
   .exact absurd hy (nocell y)
   .exact L.has y hy
  .have a2':ws[i]?=some v:=by
    rw[List.getElem?_map] at a2
    cases e:ws[i]? with
    | none=>rw[e] at a2;cases a2
    | some b=>rw[e] at a2;cases a2;rfl
   obtain⟨b1,c,u,b2,b3,b4⟩:=L.val i y v a1 a2';exact⟨u,b3,.inr ⟨.inr b1,c,b2,fB (fB b4 keep) hk1⟩⟩
  .obtain⟨v,b1⟩:=L.cell y c a
   exact⟨v,fB (fB b1 keep) hk1⟩
  .obtain⟨v,o,b1,_⟩:=L.cell y c a
   exact(e0.bs _ _ b1).2
  .rw[I3z]
   exact L.len
 refine W.kla_codeExpr (D5z (ht [] _ (ws.map some) H _ I hq) (λu s' hs=>?_) λe s' hs=>hs);obtain⟨v,H',J,rv,q⟩:=hs;exact⟨v,H',J.os,J.bare,J.base,J.hok,rv,q⟩
def ux(P:Addr)(ps:Array Value):HO:=.ext λh=>h.get? P=some (W.tabObj ps)
theorem Gm{p:Program}{w:World}{H:Hp}{h:Heap}{P:Addr}{ps:Array Value}(e:h.get? P=some (W.tabObj ps)):cQ p w H h P (ux P ps) :=
 ⟨e,⟨_,e⟩,λh1 h2 a b=>b _ a⟩
def BP(h:Heap)(H:Hp)(fs:List Addr):Heap:=W.hideAll (xg h H) fs
theorem pC{h:Heap}{H:Hp}{fs:List Addr}{b:Addr}{o:Obj}(e:h.get? b=some o)(n:H b=none)(f:b∉fs):(BP h H fs).get? b=some o:=Z0z _ (vd e n) f
theorem O7{h:Heap}{H:Hp}{fs:List Addr}{b:Addr}{o:Obj}(e:(BP h H fs).get? b=some o):h.get? b=some o/\H b=none:=zE (J1z _ e)
theorem qI{h base base':Heap}:∀{l:List Env},h.FunFrames base l->(∀b∈frs l,base'.get? b=none)->h.FunFrames base' l
 | [],_,_=>trivial
 | env::r,hl,hb=>by
  obtain⟨hk,⟨L,o,hf,hn,ho,hd⟩,hr⟩:=hl;refine⟨hk,⟨L,o,hf,hb L ?_,ho,hd⟩,qI hr λb z=>hb b ?_⟩
  .unfold frs;rw[A1z,hf];exact K1z
  .unfold frs at z ⊢;rw[A1z,hf];exact U0z _ z
section
variable{X:Cx}{z0:List (Addr×Obj)}{Y:St}{H:Hp}{s:Shared}
theorem Inv.inBig(I:Inv X z0 Y H s):∀b o,X.base.get? b=some o->(BP s.heap H (frs X.stack)).get? b=some o:=λb o e=>by
 obtain⟨h1,h2⟩:=I.bs b o e;refine pC h1 h2 λz=>?_;obtain⟨n,_⟩:=I.stack.mem z;rw[n] at e;cases e
theorem Inv.modBig(I:Inv X z0 Y H s):Mod X.K X.mg (BP s.heap H (frs X.stack)):=by
 have k:=I.inBig;obtain⟨mb,b1,b2⟩:=I.mod.blt;exact⟨I.mod.kin.keeps k,I.mod.glob.keeps k,⟨mb,b1.keeps k,b2⟩,I.mod.nolimit.keeps k⟩
theorem Inv.env0Big(I:Inv X z0 Y H s):Env0 X.prog X.w X.K X.mg (BP s.heap H (frs X.stack)) X.A X.stack s H :=
 ⟨I.ok.frames,I.modBig,λb o e=>O7 e,by unfold BP;rw[W.hideAll_size,qH];exact X4z _,qI I.stack λb hb=>W.hideAll_none _ hb,I.stkFree,I.hok,I.bare⟩
theorem Eo{params:Arguments}{body:Expr}{scope:Scope}{pos:Pos}{c P:Addr}{ps:Array Value}{clos:List (Str×Addr)}{R:Value->Shared->Prop}(I:Inv X z0 Y H s)
  (hdef:defaultsOf params X.env=([],[])) (hcode:X.env.code=.ref c) (C:W.CodeHd X.base c P) (hcl:closureFor scope X.env=pure clos) (hb:X.base.BuiltinsAt X.mg P) (hge:X.env.globals=mainGlobals)
  (hP:H P=some (ux P ps)) (ht:TriplesOk ps.toList) (hn:codeAmong pos ps.toList=none)
  (h:∀(f c':Addr)(ctv pm:Value)(s':Shared), Inv X z0 Y (upd H P (ux P (ps ++ #[rawInt pos.line, rawInt pos.col, .ref c']))) s' ->
   s'.heap.get? f=some (W.kla_obj "<lambda>" (X.env.qual++"<lambda>") params body scope clos pm c' ctv)->s'.heap.CodeRec (.ref c') (X.env.qual++"<lambda>")->(∃o,s'.heap.get? c'=some o)->s.heap.objs.size<=f->s.heap.objs.size<=c' ->
   (∀b o,b≠P->s.heap.get? b=some o->s'.heap.get? b=some o)->R (.ref f) s') :
  wpAny (model X.prog X.w) X.A (eval (.Lambda params body scope pos) X.env) R X.xe s:=by
 have hg:s.heap.Ns mainGlobals X.mg:=I.mod.glob.keeps I.bk;have hPt:s.heap.get? P=some (W.tabObj ps):=(I.hok P _ hP).1
 have hgP:mainGlobals≠P:=λq=>by
  obtain⟨o,es,ep,e,hd,_⟩:=I.mod.glob;rw[q] at e;have:=(I.bs _ _ e).2;rw[hP] at this;cases this
 obtain⟨bm,ob,b1,b2,b3,b4,b5,b6,b7,b8⟩:=hb;refine W.kla_eval hdef (W.kla_makeFunction (mg:=X.mg) hcl hge hg hcode (C.keeps I.bk) hPt ht hn hgP ⟨bm,ob,b1,b2,b3,b4,I.bk _ _ b5,b6,b7,b8⟩ λc' ctv h' tk hx hge hlt hrec htb=>?_);have keep:∀b o,b≠P->s.heap.get? b=some o->(h'.push (W.kla_obj "<lambda>" (X.env.qual++"<lambda>") params body scope clos ((X.mg "__name__").getD .none) c' ctv)).get? b=some o:=λb o hbP e=>Heap.get?_push_of_some _ (hx b o hbP e);have hnew:=Heap.get?_push_of_some (W.kla_obj "<lambda>" (X.env.qual++"<lambda>") params body scope clos ((X.mg "__name__").getD .none) c' ctv) htb;refine h h'.objs.size c' ctv _ _ (I.write (x:=P) (e:=P) (by rw[hP];exact trivial) (.inl rfl) (λb u hb e=>keep b u hb e) ⟨_,hnew⟩ (Gm hnew)) (Heap.get?_push_size _ rfl) ?_ ?_ (P4z hge (Q4z hlt)) hge keep
 .obtain⟨c2,oc,vs,t,e1,e2,e3,e4⟩:=hrec
  exact⟨c2,oc,vs,t,e1,Heap.get?_push_of_some _ e2,e3,e4⟩
 .obtain⟨c2,oc,vs,t,e1,e2,e3,e4⟩:=hrec
  cases e1;exact⟨oc,Heap.get?_push_of_some _ e2⟩
end
section
variable{X:Cx}{z0:List (Addr×Obj)}{Y:St}{H:Hp}{s:Shared}
theorem Inv.track{c:Addr}{o:HO}(I:Inv X z0 Y H s)(f:vV X z0 H c)(ok:cQ X.prog X.w (upd H c o) s.heap c o):Inv X z0 Y (upd H c o) s:=by
 have hn:H c=none:=f.1
 refine I.call' (s':=s) (ch:=[c]) rfl ?_ ?_ I.bare λb hb=>by
  have e:b=c:=by simpa using hb
  subst e;exact⟨f.2.2.2.1,f.2.1,f.2.2.2.2.1,f.2.2.2.2.2⟩
 .refine⟨λb u e _ _ hc=>e,λb u e _ _ hc=>⟨u.slots,e⟩,λb u e n hc=>?_,λb u e hc=>⟨u,e⟩,λb xs e=>?_,λb u xs e=>?_,λb ps e=>⟨#[],?_⟩⟩
  .rw[aj (λz=>hc (by simp[z]))];exact n
  .rw[aj (ak e hn)];exact e
  .rw[aj (ak e hn)];exact e
  .rw[aj (ak e hn),e];simp
 .intro b u e
  by_cases hb:b=c
  .subst hb;rw[aB] at e;cases e;exact ok
  .rw[aj hb] at e
   exact(I.hok b u e).stay (λ_ v _ q=>q) (λd q=>by rw[aj (ak q hn)];exact q) λd xs q=>by rw[aj (ak q hn)];exact q
def vW(c':Addr)(qual:Str):HO:=.ext λh=>h.CodeRec (.ref c') qual
theorem QC{p:Program}{w:World}{H:Hp}{h:Heap}{c':Addr}{qual:Str}(e:h.CodeRec (.ref c') qual):cQ p w H h c' (vW c' qual):=by
 obtain⟨c2,oc,vs,t,a1,a2,a3,a4⟩:=e;cases a1;refine⟨⟨c',oc,vs,t,rfl,a2,a3,a4⟩,⟨oc,a2⟩,λh1 h2 q k=>?_⟩;obtain⟨c3,od,vs',t',b1,b2,b3,b4⟩:=q;cases b1;exact⟨c',od,vs',t',rfl,k _ b2,b3,b4⟩
theorem vW.rec{p:Program}{w:World}{H:Hp}{h:Heap}{c':Addr}{qual:Str}(ok:HOk p w H h)(e:H c'=some (vW c' qual)):h.CodeRec (.ref c') qual:=(ok c' _ e).1
theorem zU{params:Arguments}{body:Expr}{scope:Scope}{pos:Pos}{c P c':Addr}{ps:Array Value}{clos:List (Str×Addr)}{R:Value->Shared->Prop}(I:Inv X z0 Y H s)
  (hdef:defaultsOf params X.env=([],[])) (hcode:X.env.code=.ref c) (C:W.CodeHd X.base c P) (hcl:closureFor scope X.env=pure clos) (hb:X.base.BuiltinsAt X.mg P) (hge:X.env.globals=mainGlobals)
  (hP:H P=some (ux P ps)) (ht:TriplesOk ps.toList) (hn:codeAmong pos ps.toList=some (.ref c'))
  (h:∀(f:Addr)(ctv pm:Value)(s':Shared), Inv X z0 Y H s'->s'.heap.get? f=some (W.kla_obj "<lambda>" (X.env.qual++"<lambda>") params body scope clos pm c' ctv)->s.heap.objs.size<=f ->
   (∀b o,s.heap.get? b=some o->s'.heap.get? b=some o)->R (.ref f) s') :
  wpAny (model X.prog X.w) X.A (eval (.Lambda params body scope pos) X.env) R X.xe s:=by
 have hg:s.heap.Ns mainGlobals X.mg:=I.mod.glob.keeps I.bk;have hPt:s.heap.get? P=some (W.tabObj ps):=(I.hok P _ hP).1;obtain⟨bm,ob,b1,b2,b3,b4,b5,b6,b7,b8⟩:=hb;refine W.kla_eval hdef (W.kla_makeFunctionHit (mg:=X.mg) hcl hge hg hcode (C.keeps I.bk) hPt ht hn ⟨bm,ob,b1,b2,b3,b4,I.bk _ _ b5,b6,b7,b8⟩ λctv h' tk hx hsz=>?_);have keep:∀b o,s.heap.get? b=some o->(h'.push (W.kla_obj "<lambda>" (X.env.qual++"<lambda>") params body scope clos ((X.mg "__name__").getD .none) c' ctv)).get? b=some o:=λb o e=>Heap.get?_push_of_some _ (hx b o e);exact h h'.objs.size ctv _ _ (I.kept keep) (Heap.get?_push_size _ rfl) hsz keep
theorem zT{params:Arguments}{body:Expr}{scope:Scope}{pos:Pos}{c P:Addr}{ps:Array Value}{clos:List (Str×Addr)}{R:Value->Shared->Prop}(I:Inv X z0 Y H s)
  (hdef:defaultsOf params X.env=([],[])) (hcode:X.env.code=.ref c) (C:W.CodeHd X.base c P) (hcl:closureFor scope X.env=pure clos) (hb:X.base.BuiltinsAt X.mg P) (hge:X.env.globals=mainGlobals)
  (hP:H P=some (ux P ps)) (ht:TriplesOk ps.toList) (hn:codeAmong pos ps.toList=none)
  (h:∀(f c':Addr)(ctv pm:Value)(s':Shared), H c'=none->c'≠P->Inv X z0 Y (upd (upd H P (ux P (ps ++ #[rawInt pos.line, rawInt pos.col, .ref c']))) c' (vW c' (X.env.qual++"<lambda>"))) s' ->
   s'.heap.get? f=some (W.kla_obj "<lambda>" (X.env.qual++"<lambda>") params body scope clos pm c' ctv)->s.heap.objs.size<=f->f≠c' ->
   (∀b o,b≠P->s.heap.get? b=some o->s'.heap.get? b=some o)->R (.ref f) s') :
  wpAny (model X.prog X.w) X.A (eval (.Lambda params body scope pos) X.env) R X.xe s:=by
 refine Eo I hdef hcode C hcl hb hge hP ht hn λf c' ctv pm s' J e1 e2 e3 e4 e5 keep=>?_;have hPlt:P<s.heap.objs.size:=I.hok.lt hP
 have hcP:c'≠P:=λz=>by rw[z] at e5;exact absurd (I1z hPlt e5) (C4z _)
 have fp:=I.fpOk e5 (I.hok.fresh e5);have hcn:H c'=none:=I.hok.fresh e5;refine h f c' ctv pm s' hcn hcP (J.track ⟨by rw[aj hcP];exact hcn,fp.2⟩ (QC e2)) e1 e4 (λz=>?_) keep;obtain⟨c2,oc,vs,t,a1,a2,a3,a4⟩:=e2;cases a1;rw[z,a2] at e1;have:=congrArg (λo:Option Obj=>o.map Obj.data) e1;simp only[M3z,W.kla_obj] at this;rw[G3z this] at a3;cases a3
end
def nq(p a:Addr)(h:Heap):Prop:=h.IsItemsView p a
theorem Ig{P:Program}{w:World}{H:Hp}{h:Heap}{p a:Addr}(x:nq p a h):cQ P w H h p (.ext (nq p a)) :=
 ⟨x,let ⟨o,e,_⟩:=x;⟨o,e⟩,λ_ _ ⟨o,e,r⟩ k=>⟨o,k o e,r⟩⟩
def Nr(K:Zf)(td:TE):TE:=λY H Q=>td Y H λx H1=>∃(a:Addr)(kvs:List (Key×V)),x=.ref a/\DAt K H1 a kvs/\∀p,H1 p=none->Q (.ref p) (upd H1 p (.ext (nq p a)))
theorem Lg{prog:Program}{w:World}{d:Addr}(hd:(d==sysModules)=false):MeetsIn prog w (Builtin.«dict.items» ⟨[.ref d],[]⟩) (λ_ R s=>s.TypeIs (.ref d) "dict" /\
   R (.ok (.ret (.ref s.heap.objs.size))) {s with heap:=s.heap.push {cls:=.type "dict_items",data:=.fields #[.ref d]} }) :=
 .of_wp λA R s ⟨ht,q⟩=>by
  unfold Builtin.«dict.items» Builtin.Dict.noArgs;refine E5z (E5z (wpAny_notOrdered_dict ht ?_));show wpAny _ _ (pure d) _ _ s;apply F5z;show wpAny _ _ (Builtin.Dict.showsAll d >>=_) _ _ s;unfold Builtin.Dict.showsAll;simp only[hd,S1z,M5z];exact E5z (F5z (E5z (B2z (F5z ⟨_,rfl,q⟩))))
section
variable{X:Cx}{z0:List (Addr×Obj)}{Y:St}{H:Hp}{s:Shared}
theorem Dr{o:Expr}{td:TE}{apos cpos:Pos}(kw:KnW X.K X.w)(ho:PE X o td)(hbase:attributeBase o "items" X.env (eval o X.env)=eval o X.env)(hline:(apos.endLine==cpos.line)=true) :
  PE X (.Call (.Attribute o "items" apos) [] [] cpos) (Nr X.K td):=by
 intro z0 s Y H Q I h;refine wpAny_Call_method0_late hbase hline (thn (ho z0 s Y H _ I h) λv s1 ⟨x,H1,I1,r1,a,kvs,ex,e1,q1⟩=>?_);subst ex;cases (show v=Value.ref a from r1);obtain⟨hd,vs,rel,dd⟩:=eE I1 kw e1;have t1:s1.TypeIs (.ref a) "dict":=dd.typeIs
 have t2:∀b,Value.ref a=.ref b->∃ob,s1.heap.get? b=some ob/\ob.dict=none:=λb q=>by
  cases q;obtain⟨ob,_,_,h1,h2,_⟩:=dd;exact⟨ob,h1,h2.2.1⟩
 refine⟨"dict","dict.items",G0z,PySem.F.slot_dict_items,PySem.F.type_dict_items,t1,t2,N0z rfl (PySem.evalArgs_none ?_)⟩;refine call_meetsIn PySem.F.slot_dict_items t1 PySem.F.entry_dict_items (PySem.F.args_dict_items_1 _) (Lg hd) ⟨t1,?_⟩;refine⟨.ref s1.heap.objs.size,_,I1.laid (a:=s1.heap.objs.size) (o:=.ext (nq s1.heap.objs.size a)) (t':=s1.toks) (λ_ _ q=>Heap.get?_push_of_some _ q) (X4z _) (Ig ⟨_,Heap.get?_push_size _ rfl,rfl,rfl⟩),rfl,q1 _ (I1.hok.fresh (X4z _))⟩
def CQ:List (Key×V)->Hp->(List Addr->Hp->Prop)->Prop
 | [],H,Q=>Q [] H
 | (k,v)::r,H,Q=>∀b,H b=none->CQ r (upd H b (.tup [kV k,v])) λbs H'=>Q (b::bs) H'
theorem qe{P:Program}{w:World}{k:Key}{u:Value}(h:(aR P w).is k u=true):RelV (kV k) u:=by
 rw[mW] at h;rcases bK h with⟨i,t,e1,e2⟩ | ⟨z,t,e1,e2⟩
 .subst e1 e2;exact⟨t,rfl⟩
 .subst e1 e2;exact⟨t,rfl⟩
theorem pP{s0:Shared}{H0:Hp}(I0:Inv X z0 Y H0 s0):∀{kvs:List (Key×V)}{vs:List (Key×Value)}{as:List Addr}{H:Hp}{Q:List Addr->Hp->Prop},KV kvs vs->as.length=vs.length->as.Pairwise (· < ·)->(∀a∈as,s0.heap.objs.size<=a/\H a=none) ->
  (∀(j:Nat)(a:Addr),as[j]?=some a->∃key k x,vs[j]?=some (k,x)/\(aR X.prog X.w).is k key=true/\s.heap.get? a=some {cls:=.type "tuple",data:=.seq #[key,x]})->Inv X z0 Y H s->CQ kvs H Q->∃H',Inv X z0 Y H' s/\Q as H'/\∀b,b∉as->H' b=H b
 | [],_,as,H,Q,.nil,hl,_,_,_,I,q=>by
  cases as with
  | nil=>exact⟨H,I,q,λ_ _=>rfl⟩
  | cons _ _=>simp at hl
 | (k,v)::r,_,as,H,Q,.cons (b:=(k0,x)) hr t,hl,hp,hf,hg,I,q=>by
  obtain⟨rfl,rx⟩:k=k0/\RelV v x:=hr
  cases as with
  | nil=>simp at hl
  | cons a as =>
   obtain⟨key,k',x',e1,e2,e3⟩:=hg 0 a rfl;cases e1;obtain⟨f1,f2⟩:=hf a (K1z ..);have I2:Inv X z0 Y (upd H a (.tup [kV k,v])) s:=I.track (I0.fpOk f1 f2) ⟨by show 2<=sizeLine;decide,[key,x],.cons (qe e2) (.cons rx .nil),⟨_,e3,rfl,0,rfl⟩⟩;have hne:∀b∈as,b≠a:=λb hb=>R4z (List.rel_of_pairwise_cons hp hb)
   obtain⟨H',I',q',k'⟩:=pP I0 t (by simpa using hl) (List.Pairwise.of_cons hp) (λb hb=>⟨(hf b (U0z _ hb)).1,by rw[aj (hne b hb)];exact(hf b (U0z _ hb)).2⟩) (λj b e=>by
    obtain⟨key',k',x',e1,e2,e3⟩:=hg (j+1) b (by simpa using e)
    exact⟨key',k',x',by simpa using e1,e2,e3⟩) I2 (q a f2)
   refine⟨H',I',q',λb hb=>?_⟩;rw[k' b (λz=>hb (U0z _ z)),aj (λz=>hb (by rw[z];exact K1z ..))]
theorem mK(hc:X.calm=true)(kw:KnW X.K X.w):cZ X (.type "list") (λxs H Q=>∃(v a:Addr)(kvs:List (Key×V)),xs=[.ref v]/\H v=some (.ext (nq v a))/\DAt X.K H a kvs/\kvs.length<=1000/\CQ kvs H λbs H'=>∀l,H' l=none->Q (.ref l) (upd H' l (.lst (bs.map V.ref)))):=by
 intro z0 s Y H xs us Q I r h;obtain⟨v,a,kvs,rfl,hv,hd,hz,q⟩:=h
 obtain⟨u,rfl,rfl⟩:∃u,us=[u]/\u=Value.ref v:=by
  cases r with
  | cons r1 r2=>cases r2;exact⟨_,rfl,r1⟩
 obtain⟨lo,vs,rel,dd⟩:=eE I kw hd;obtain⟨ep,hat⟩:=dd.dictAt;have hvw:s.heap.IsItemsView v a:=(I.hok v _ hv).1;have hl:vs.length=kvs.length:=rel.length.symm
 have hz2:(1000:Nat)<=sizeLine:=by decide
 refine W.kdx_call (knd:=aR X.prog X.w) (I.ok.hd hc) hvw hat (by omega) λh' tk acc c as keep hS hal hG hacc=>?_;have I1:Inv X z0 Y H {s with heap:=h',toks:=tk}:=I.kept keep;obtain⟨H',I2,q2,k2⟩:=pP (s:={s with heap:=h',toks:=tk}) I rel (by rw[hal]) hG.rise (λb hb=>⟨Q4z (hG.above b hb),I.hok.fresh (Q4z (hG.above b hb))⟩) hG.pairs I1 q
 have hn:H' s.heap.objs.size=none:=by
  rw[k2 _ λz=>C4z _ (hG.above _ z)];exact I.hok.fresh (X4z _)
 refine⟨.ref s.heap.objs.size,_,I2.track (o:=.lst (as.map V.ref)) (I.fpOk (X4z _) hn) ⟨by rw[I3z];omega,acc.toList,c,?_,by simpa using hS⟩,rfl,q2 _ hn⟩
 rw[hacc];exact vals_refs as
where
 vals_refs:∀as:List Addr,Vals (as.map V.ref) (as.map Value.ref)
  | []=>.nil
  | a::r=>.cons rfl (vals_refs r)
end
def Mj(K:Zf)(H:Hp)(d:Addr)(kvs:List (Key×V))(o:Obj):Prop:=H d=some (.frz o (.dK kvs))\/(K.lookup d=some o/\KDc K d kvs)
theorem DAt.obj{K:Zf}{H:Hp}{d:Addr}{kvs:List (Key×V)}(h:DAt K H d kvs):∃o,Mj K H d kvs o:=by
 rcases h with⟨o,h⟩ | h
 .exact⟨o,.inl h⟩
 .obtain⟨o,es,n,h1,r⟩:=id h
  exact⟨o,.inr ⟨h1,h⟩⟩
def Itk(K:Zf)(d:Addr)(kvs:List (Key×V))(o:Obj):It :=
 ⟨λi H=>Mj K H d kvs o/\i<kvs.length,λi H x H'=>H'=H/\∃k v,kvs[i]?=some (k,v)/\x=kV k,λi H=>Mj K H d kvs o/\i=kvs.length⟩
theorem Tv{kvs:List (Key×V)}{vs:List (Key×Value)}(r:KV kvs vs){i:Nat}{k:Key}{v:V}(h:kvs[i]?=some (k,v)):∃u,vs[i]?=some (k,u)/\RelV v u:=by
 induction r generalizing i with
 | nil=>cases h
 | @cons p q ps qs hq t ih =>
  cases i with
  | zero =>
   cases h;obtain⟨q1,q2⟩:=q;obtain⟨rfl,h2⟩:k=q1/\RelV v q2:=hq;exact⟨q2,rfl,h2⟩
  | succ i=>exact ih (i:=i) (by simpa using h)
theorem tV{X:Cx}{z0:List (Addr×Obj)}{Y:St}{H:Hp}{s:Shared}{d:Addr}{kvs:List (Key×V)}{o:Obj}(I:Inv X z0 Y H s)(kw:KnW X.K X.w)(e:Mj X.K H d kvs o):(d==sysModules)=false/\d<s.heap.objs.size/\∃es ep vs,o.data=.dict es ep/\KV kvs vs/\s.heap.DictAt (aR X.prog X.w) d vs ep:=by
 rcases e with e | ⟨e,o',es,n,h1,h2,h3,h4,h5,h6⟩
 .obtain⟨h1,_,hS,vs,rel,o',es',ep',h2,r1,r2,r3⟩:=I.hok d _ e
  rw[h1] at h2;cases h2;exact⟨hS,N4z h1,es',ep',vs,r2,rel,o,es',h1,r1,r2,r3⟩
 .rw[h1] at e
  cases e;obtain⟨vs,g1,g2,g3,g4⟩:=qD (P:=X.prog) h6 (kw.at h1 h3);exact⟨h4,N4z (I.kIn d o h1),es,n,vs,h3,g1,o,es,I.kIn d o h1,h2,h3,λe he=>g4 e (by simpa using he),g2,by rw[g3];exact h5⟩
theorem xT{P:Program}{w:World}{K:Zf}{tg:Expr}{d it:Addr}{kvs:List (Key×V)}{o:Obj}{es:Array DictEntry}{ep:Nat}(kw:KnW K w)(hd:o.data=.dict es ep)(hne:d≠it) :
  Turn P w K tg (Itk K d kvs o) [it] it (λi h=>h.IsKeyIter it d i kvs.length ep) where
 mem:=by simp
 obj:=λi h st b hb=>by
  have e:b=it:=by simpa using hb
  subst e;obtain⟨o,e,c,d⟩:=st;exact⟨o,e,λv z=>by rw[d] at z;cases z⟩
 keep:=λi h h' st k=>st.at λo e=>k it (by simp) o e
 item:=by
  intro X hP hw hK hc i z0 s Y H E I hf st hg;subst hP hw hK;obtain⟨e,hi⟩:=hg;obtain⟨_,_,es',ep',vs,hd',rel,hat⟩:=tV I kw e;rw[hd] at hd';cases hd';obtain⟨⟨k,v⟩,hx⟩:∃p,kvs[i]?=some p:=⟨kvs[i],List.getElem?_eq_getElem hi⟩;obtain⟨u,hu,_⟩:=Tv rel hx;obtain⟨f0,f1,f2,f3,f4,f5⟩:=hf it (by simp);refine wpAny_pyNext_dict_item (knd:=aR X.prog X.w) (by rw[<- rel.length];exact st) hat hu λkey h' hkey st' sb=>?_;have I1:Inv X z0 Y H {s with heap:=h'}:=I.turned (t':=s.toks) (λb o hb e=>(sb.2 b hb).trans e) f0 f1 f3 f4 f5;rw[<- rel.length] at st';obtain⟨oi,ei,ci,di⟩:=id st';exact⟨key,rfl,wK (s:={s with heap:=h'}) ei ci di (by decide) ⟨kV k,H,I1,qe hkey,⟨rfl,k,v,hx,rfl⟩,st',λb hb=>(hf b hb).1⟩⟩
 done:=by
  intro X hP hw hK hc i z0 s Y H E I hf st hg;subst hP hw hK;obtain⟨e,hi⟩:=hg;obtain⟨_,_,es',ep',vs,hd',rel,hat⟩:=tV I kw e;rw[hd] at hd';cases hd';obtain⟨f0,f1,f2,f3,f4,f5⟩:=hf it (by simp);exact wpAny_pyNext_dict_end (knd:=aR X.prog X.w) (I.ok.hd hc) (by rw[<- rel.length];exact st) hat (by have:=rel.length;simp;omega) λh' eb=>⟨rfl,I.turned (t':=s.toks) (λb o hb e=>eb b o hb e) f0 f1 f3 f4 f5⟩
 self:=λ_ _ _ _ _ st h=>wpAny_pyIter_keyiter st h
def Ua(K:Zf)(td:TE):TI:=λY H R=>td Y H λx H1=>∃a kvs o,x=.ref a/\Mj K H1 a kvs o/\R (Itk K a kvs o) H1
theorem JC{X:Cx}{tg o:Expr}{td:TE}(kw:KnW X.K X.w)(ho:PE X o td):PI X tg o (Ua X.K td):=by
 intro z0 s Y H R I h;refine thn (ho z0 s Y H _ I h) λv s1 ⟨x,H1,I1,r1,a,kvs,ob,ex,e1,q1⟩=>?_;subst ex;cases (show v=Value.ref a from r1);obtain⟨hS,lt,es,ep,vs,hd,rel,hat⟩:=tV I1 kw e1;refine wpAny_pyIter_dict hS hat ?_;refine⟨s1.heap.objs.size,[s1.heap.objs.size],_,_,H1,rfl,I1.kept (t':=s1.toks) λb o e=>Heap.get?_push_of_some _ e,xT (o:=ob) (es:=es) (ep:=ep) kw hd (O4z lt),?_,λb hb=>?_,q1⟩
 .rw[rel.length]
  exact⟨_,Heap.get?_push_size _ rfl,rfl,rfl⟩
 .have e:b=s1.heap.objs.size:=by simpa using hb
  subst e;exact I1.fpOk (X4z _) (I1.hok.fresh (X4z _))
def Nv:TE:=λ_ H Q=>∀p ob,H p=none->Q (.ref p) (upd H p (.frz ob (.dK [])))
theorem Du{X:Cx}{pos:Pos}:PE X (.Dict [] [] pos) Nv:=λz0 s Y H Q I h =>
 wpAny_Dict_empty ⟨.ref s.heap.objs.size,_,I.laid (a:=s.heap.objs.size) (o:=.frz _ (.dK [])) (t':=s.toks) (λ_ _ q=>Heap.get?_push_of_some _ q) (X4z _) ⟨Heap.get?_push_size _ rfl,vo s.heap I.big⟩,rfl,h _ _ (I.hok.fresh (X4z _))⟩
end L2
namespace DE
open PySem
theorem Aa{a:Str}{l2:List Str}:∀(l1:List Str),l1++a::l2∈ins a (l1++l2)
 | []=>by cases l2<;>simp[ins]
 | b::r=>by
  simp only[List.cons_append,ins,L4z,List.mem_map];exact .inr ⟨_,Aa r,rfl⟩
theorem qp:∀{l ks:List Str},l.Perm ks->l∈perms ks
 | l,[],h=>by rw[h.eq_nil];simp[perms]
 | l,a::r,h=>by
  obtain⟨l1,l2,rfl⟩:=List.append_of_mem (h.symm.subset (K1z ..));have h2:(l1++l2).Perm r:=(List.perm_cons a).mp (List.perm_middle.symm.trans h);simp only[perms,List.mem_flatMap];exact⟨_,qp h2,Aa l1⟩
theorem yC{l ks x:List Str}(h:Gs ks=some x)(hp:l.Perm ks)(hs:PyProof.Rows.sortedS l=true):l=x:=by
 unfold Gs at h;split at h
 .rename_i y e
  cases h;have:l∈(perms ks).filter PyProof.Rows.sortedS:=List.mem_filter.mpr ⟨qp hp,hs⟩;rw[e] at this;simpa using this
 .cases h
theorem uG:∀{ks:List (Sum Int Str)}{l:List Str},yt ks=some l->ks=l.map Sum.inr
 | [],_,h=>by cases h;rfl
 | .inr k::r,l,h=>by
  obtain⟨l',h1,rfl⟩:=O0z.mp (show(yt r).map (k::·)=some l from h);rw[uG h1];rfl
 | .inl _::_,_,h=>by cases h
end DE
namespace L2
open PySem PySem.Spec PyProof.Rows DE
section
variable{X:Cx}
theorem O1(kw:KnW X.K X.w):OpR X (compareOp .In) (λu v H Q=>∃(a:Addr)(kvs:List (Key×V))(k:Key),u=kV k/\v=.ref a/\DAt X.K H a kvs/\Q (.bl (jB kvs k).isSome) H):=by
 intro z0 s Y H u v w z Q I ru rv h;obtain⟨a,kvs,k,rfl,rfl,hd,q⟩:=h;cases (show z=Value.ref a from rv);obtain⟨hS,vs,rel,dd⟩:=eE I kw hd;refine wpAny_in_of (lR ru) hS dd.mapOf ?_;rw[<- (rel.val k).isSome_eq];exact⟨.bl _,H,I.tok _,rfl,q⟩
theorem zx(kw:KnW X.K X.w):OpR X (compareOp .NotIn) (λu v H Q=>∃(a:Addr)(kvs:List (Key×V))(k:Key),u=kV k/\v=.ref a/\DAt X.K H a kvs/\Q (.bl (!(jB kvs k).isSome)) H):=by
 intro z0 s Y H u v w z Q I ru rv h;obtain⟨a,kvs,k,rfl,rfl,hd,q⟩:=h;cases (show z=Value.ref a from rv);obtain⟨hS,vs,rel,dd⟩:=eE I kw hd;refine wpAny_notIn_of (lR ru) hS dd.mapOf ?_;rw[<- (rel.val k).isSome_eq];exact⟨.bl _,H,I.tok _,rfl,q⟩
theorem pO{K:Zf}{H:Hp}{k:Key}{kvs:List (Key×V)}{ks:List Key}{ds:List D}(e:kvs.map (·.1)=ks)(h:aJ K H ds (kvs.map (·.2))):(jB kvs k).isSome=(kO ks ds k).isSome:=by
 rcases nJ (k:=k) e h with⟨h1,h2⟩ | ⟨d,v,h1,h2,_⟩<;>rw[h1,h2]<;>rfl
theorem yS{K:Zf}{H:Hp}:∀{xs:List D}{vs:List V}{l:List (Sum Int Str×D)},iY xs=some l->aJ K H xs vs->∃kvs:List (Key×V),wZ K H vs kvs/\kvs.map (·.1)=l.map (·.1)/\aJ K H (l.map (·.2)) (kvs.map (·.2))
 | [],vs,l,h,r=>by
  cases h;cases (show vs=[] from r);exact⟨[],rfl,rfl,rfl⟩
 | x::xs,vs,l,h,r=>by
  obtain⟨v,q,rfl,r1,r2⟩:=r;unfold iY at h;split at h
  .rename_i heq;cases heq
  .rename_i k d r' heq
   cases heq;obtain⟨l',h1,rfl⟩:=O0z.mp h;obtain⟨kvs,a1,a2,a3⟩:=yS h1 r2;obtain⟨b,ws,rfl,b1,b2⟩:=r1;obtain⟨w1,t1,rfl,c1,c2⟩:=b2;obtain⟨w2,t2,rfl,c3,c4⟩:=c2;cases (show t2=[] from c4);cases (show w1=.str k by simpa[Rep] using c1);exact⟨(.inr k,w2)::kvs,⟨b,.inr k,w2,kvs,rfl,rfl,b1,a1⟩,by simp[a2],⟨w2,_,rfl,c3,a3⟩⟩
  .cases h
theorem uL{K:Zf}{H:Hp}{k:Key}{d:D}{v:V}(r:Rep K H d v):∀{l:List (Sum Int Str×D)}{kvs:List (Key×V)},kvs.map (·.1)=l.map (·.1)->aJ K H (l.map (·.2)) (kvs.map (·.2)) ->
  (kvs.map λkv=>if kv.1=k then(kv.1,v) else kv).map (·.1)=(l.map λq=>if q.1=k then(q.1,d) else q).map (·.1)/\aJ K H ((l.map λq=>if q.1=k then(q.1,d) else q).map (·.2)) ((kvs.map λkv=>if kv.1=k then(kv.1,v) else kv).map (·.2))
 | [],kvs,e,h=>by
  cases kvs with
  | nil=>exact⟨rfl,rfl⟩
  | cons _ _=>simp at e
 | (k1,d1)::l,kvs,e,h=>by
  cases kvs with
  | nil=>simp at e
  | cons q kvs =>
   obtain⟨k2,v2⟩:=q;simp only[E4z,List.cons.injEq] at e;obtain⟨rfl,e⟩:=e;obtain⟨v',t,e',h1,h2⟩:=h;cases e';obtain⟨a1,a2⟩:=uL r e h2;simp only[E4z]
   by_cases hk:k2=k
   .rw[P5z hk,P5z hk]
    exact⟨by rw[a1],⟨v,_,rfl,r,a2⟩⟩
   .rw[Q5z hk,Q5z hk]
    exact⟨by rw[a1],⟨v2,_,rfl,h1,a2⟩⟩
theorem Ju{K:Zf}{H:Hp}{k:Key}{d:D}{v:V}(r:Rep K H d v){l:List (Sum Int Str×D)}{kvs:List (Key×V)}(e:kvs.map (·.1)=l.map (·.1))(h:aJ K H (l.map (·.2)) (kvs.map (·.2))):(putK kvs k v).map (·.1)=(putD l k d).map (·.1)/\aJ K H ((putD l k d).map (·.2)) ((putK kvs k v).map (·.2)):=by
 have key:(kvs.any λkv=>decide (kv.1=k))=l.any λq=>decide (q.1=k):=by
  have:(kvs.map (·.1)).any (λx=>decide (x=k))=(l.map (·.1)).any λx=>decide (x=k):=by rw[e]
  simpa[List.any_map,Function.comp_def] using this
 unfold putK putD;rw[key];split
 .exact uL r e h
 .refine⟨by simp[e],?_⟩
  rw[S3z,S3z];exact h.append ⟨v,[],rfl,r,rfl⟩
theorem qz{K:Zf}{H:Hp}:∀{l:List (Sum Int Str×D)}{kvs:List (Key×V)}{l0:List (Sum Int Str×D)}{kvs0:List (Key×V)},kvs.map (·.1)=l.map (·.1)->aJ K H (l.map (·.2)) (kvs.map (·.2))->kvs0.map (·.1)=l0.map (·.1)->aJ K H (l0.map (·.2)) (kvs0.map (·.2)) ->
  (gZ kvs0 kvs).map (·.1)=(l.foldl (λa q=>putD a q.1 q.2) l0).map (·.1)/\aJ K H ((l.foldl (λa q=>putD a q.1 q.2) l0).map (·.2)) ((gZ kvs0 kvs).map (·.2))
 | [],kvs,l0,kvs0,e,h,e0,h0=>by
  cases kvs with
  | nil=>exact⟨e0,h0⟩
  | cons _ _=>simp at e
 | (k1,d1)::l,kvs,l0,kvs0,e,h,e0,h0=>by
  cases kvs with
  | nil=>simp at e
  | cons q kvs =>
   obtain⟨k2,v2⟩:=q;simp only[E4z,List.cons.injEq] at e;obtain⟨rfl,e⟩:=e;obtain⟨v',t,e',h1,h2⟩:=h;cases e';obtain⟨a1,a2⟩:=Ju (k:=k2) h1 e0 h0;exact qz (l0:=putD l0 k2 d1) (kvs0:=putK kvs0 k2 v2) e h2 a1 a2
end
end L2
namespace L2
open PySem PySem.Spec PyProof.Rows DE PySem.SeqAt
section
variable{X:Cx}{U:Rho}{cx:Cxt}{k:Nat}{sc:Scope}
theorem aq{e:Expr}{es:List Expr}{env:Env}(h:aH e=true):starEach (e::es) env=(false,eval e env)::starEach es env:=by
 cases e<;>first | rfl | (simp[aH] at h)
theorem ou{e:Expr}(h:aH e=true):Cm e:=by
 intro o i
 cases e<;>first | rfl | (simp[aH] at h)
theorem iW{e:Expr}{env:Env}(h:aH e=true)(x:Value):foldedSetIterable e env x=pure x:=by
 cases e<;>first | rfl | (simp[aH] at h)
theorem cJ{e:Expr}{op:CmpOp}(h:aH e=true):behindInMarks op e=false:=by
 cases e<;>first | rfl | (simp[aH] at h)
theorem dJ{env:Env}{pos:Pos}:∀{es:List Expr},(∀e∈es,aH e=true)->(backTo pos (starEach es env)).any (·.1)=false
 | [],_=>rfl
 | e::es,h=>by
  rw[aq (h e K1z)];have ih:=dJ (env:=env) (pos:=pos) λe' he=>h e' (U0z _ he);show((false:Bool)||(backTo pos (starEach es env)).any (·.1))=false;rw[ih];rfl
theorem aU:∀{n:Nat}{U:Rho}{e:Expr}{d:D},ev cx n sc U e=some d->aH e=true
 | 0,_,_,_,h=>by simp[ev] at h
 | n+1,U,e,d,h=>by
  cases e<;>first | rfl | (exact nomatch (show(Option.none:Option D)=some d from h))
def Ik(X:Cx)(e:Expr):TT:=λY H Q=>∀whole z0 s,Inv X z0 Y H s->wpAny (model X.prog X.w) X.A (isTrue e X.env whole) (TP X z0 Y Q) X.xe s
def EvW(X:Cx)(U:Rho)(e:Expr)(b:Bool):Prop:=∀Y H Hs Q,Same Hs H->bJ X.K Hs U Y->(∀H' Hs',Ext Hs H Hs' H'->Q b H')->Ik X e Y H Q
theorem uO{e:Expr}:PW X e (Ik X e):=λwhole z0 s Y H Q I h=>h whole z0 s I
theorem PW.sem{e:Expr}{t:TT}{Y:St}{H:Hp}{Q:Bool->Hp->Prop}(h:PW X e t)(q:t Y H Q):Ik X e Y H Q:=λwhole z0 s I=>h whole z0 s Y H Q I q
theorem EvW.t{e:Expr}{b:Bool}(h:EvW X U e b):EvT X U e b:=λY H Hs Q hs hr hq z0 s I=>h Y H Hs Q hs hr hq _ z0 s I
theorem Aq{e:Expr}{b:Bool}(h:Ev X U e (.bl b))(he:∀whole,isTrue e X.env whole=(do let v <- whole;standAt e.pos;holding [v] (truthy v))):EvT X U e b:=λY H Hs Q hs hr hq =>
 (yP au he).sem (h Y H Hs _ hs hr λv H' Hs' E1 r1=>⟨b,dH r1,hq H' Hs' E1⟩)
theorem Hw{a:Expr}{b:Bool}{pos:Pos}(h:Ev X U a (.bl b)):Ev X U (.UnaryOp .Not a pos) (.bl (!b)):=λY H Hs Q hs hr hq =>
 (Oo au).sem (h Y H Hs _ hs hr λv H' Hs' E1 r1=>⟨b,dH r1,hq _ H' Hs' E1 (by simp[Rep])⟩)
theorem Ar{a:Expr}{b:Bool}{pos:Pos}(h:EvT X U a b):EvT X U (.UnaryOp .Not a pos) (!b):=λY H Hs Q hs hr hq =>
 (yQ dw).sem (h Y H Hs _ hs hr λH' Hs' E1=>hq H' Hs' E1)
theorem Qm{a:Expr}{i:Int}{pos:Pos}(h:Ev X U a (.int i)):Ev X U (.UnaryOp .USub a pos) (.int (-i)):=λY H Hs Q hs hr hq =>
 (SQ Ng au).sem (h Y H Hs _ hs hr λv H' Hs' E1 r1=>⟨i,aQ r1,hq _ H' Hs' E1 (by simp[Rep])⟩)
theorem lY{op:BoolOp}{f:Expr->Option D}{pos:Pos}:∀{es:List Expr}{d:D},(∀e∈es,∀d,f e=some d->Ev X U e d/\∀b,d=.bl b->EvT X U e b)->cT op f es=some d ->
  Ev X U (.BoolOp op es pos) d/\∀b,d=.bl b->EvW X U (.BoolOp op es pos) b
 | [],d,_,h=>by simp[cT] at h
 | [e],d,hf,h=>by
  obtain⟨h1,h2⟩:=hf e (by simp) d (by simpa[cT] using h);refine⟨λY H Hs Q hs hr hq=>(Om au).sem (h1 Y H Hs Q hs hr hq),λb hb Y H Hs Q hs hr hq=>?_⟩
  cases op with
  | And=>exact(Jt dw).sem (h2 b hb Y H Hs Q hs hr hq)
  | Or=>exact(Gy dw).sem (h2 b hb Y H Hs Q hs hr hq)
 | e::e'::r,d,hf,h=>by
  simp only[cT] at h
  cases he:f e with
  | none=>rw[he] at h;simp at h
  | some x =>
   rw[he] at h
   cases x with
   | bl c =>
    obtain⟨h1,h2⟩:=hf e (by simp) _ he;have h2':=h2 c rfl;simp only[asB,B3z,Option.bind_eq_bind,bind,Option.bind] at h;have ih:=λd' (q:cT op f (e'::r)=some d')=>lY (pos:=pos) (es:=e'::r) (λa ha=>hf a (U0z _ ha)) q
    cases op with
    | And =>
     cases c with
     | true =>
      simp only[O5z] at h;obtain⟨i1,i2⟩:=ih d h;refine⟨λY H Hs Q hs hr hq=>(G5 au au).sem (h1 Y H Hs _ hs hr λv H' Hs' E1 r1=>⟨true,dH r1,oJ (i1 Y H' Hs' Q E1.sub (hr.same E1.vis) λw H2 Hs2 E2 r2=>hq w H2 Hs2 (E1.trans E2) r2)⟩),λb hb Y H Hs Q hs hr hq=>?_⟩;exact(Gz dw uO).sem (h2' Y H Hs _ hs hr λH' Hs' E1=>oJ (i2 b hb Y H' Hs' Q E1.sub (hr.same E1.vis) λH2 Hs2 E2=>hq H2 Hs2 (E1.trans E2)))
     | false =>
      simp only[S1z,M5z,K2z] at h;subst h;refine⟨λY H Hs Q hs hr hq=>(G5 au au).sem (h1 Y H Hs _ hs hr λv H' Hs' E1 r1=>⟨false,dH r1,mH (hq _ H' Hs' E1 (by simp[Rep]))⟩),λb hb Y H Hs Q hs hr hq=>?_⟩;cases hb;exact(Gz dw uO).sem (h2' Y H Hs _ hs hr λH' Hs' E1=>mH (hq H' Hs' E1))
    | Or =>
     cases c with
     | true =>
      simp only[O5z,K2z] at h;subst h;refine⟨λY H Hs Q hs hr hq=>(Ol au au).sem (h1 Y H Hs _ hs hr λv H' Hs' E1 r1=>⟨true,dH r1,oJ (hq _ H' Hs' E1 (by simp[Rep]))⟩),λb hb Y H Hs Q hs hr hq=>?_⟩;cases hb;exact(Js dw uO).sem (h2' Y H Hs _ hs hr λH' Hs' E1=>oJ (hq H' Hs' E1))
     | false =>
      simp only[S1z,M5z] at h;obtain⟨i1,i2⟩:=ih d h;refine⟨λY H Hs Q hs hr hq=>(Ol au au).sem (h1 Y H Hs _ hs hr λv H' Hs' E1 r1=>⟨false,dH r1,mH (i1 Y H' Hs' Q E1.sub (hr.same E1.vis) λw H2 Hs2 E2 r2=>hq w H2 Hs2 (E1.trans E2) r2)⟩),λb hb Y H Hs Q hs hr hq=>?_⟩;exact(Js dw uO).sem (h2' Y H Hs _ hs hr λH' Hs' E1=>mH (i2 b hb Y H' Hs' Q E1.sub (hr.same E1.vis) λH2 Hs2 E2=>hq H2 Hs2 (E1.trans E2)))
   | _=>simp[asB] at h
def Sy(X:Cx)(op:CmpOp):R2:=λu v H Q=>∃Hs x y d,Same Hs H/\Rep X.K Hs x u/\Rep X.K Hs y v/\cmpop op x y=some d/\∃b,d=.bl b/\Q (.bl b) H
theorem n8{K:Zf}{H:Hp}{v:V}(h:Rep K H .non v):v=.non:=by simpa[Rep] using h
theorem u9{K:Zf}{H:Hp}{x:D}{v:V}(h:Rep K H x v):Kr x=decide (v=V.non):=by
  cases x with
  | non=>rw[n8 h];rfl
  | bl b=>rw[dH h];rfl
  | int b=>rw[aQ h];rfl
  | str b => have e : v = .str b := by simpa [Rep] using h
             rw[e];rfl
  | tup b=>obtain⟨a,vs,e,_⟩:=cB h;rw[e];rfl
  | lst b=>obtain⟨a,vs,e,_⟩:=cX h;rw[e];rfl
  | exc c=>simp only[Rep] at h;obtain⟨a,C,e,_⟩:=h;rw[e];rfl
  | dic k x=>simp only[Rep] at h;obtain⟨a,C,e,_⟩:=h;rw[e];rfl
  | obj a => have e : v = .ref a := by simpa [Rep] using h
             rw[e];rfl
theorem vP{K:Zf}{H:Hp}:∀{ds:List D}{ns:List Int}{vs:List V},rK ds=some ns->aJ K H ds vs->vs=ns.map V.int
 | [],ns,vs,h,r=>by
  simp only[rK,K2z] at h;subst h
  simpa[aJ] using r
 | .int i::ds,ns,vs,h,r=>by
  simp only[rK,O0z] at h;obtain⟨ms,h1,rfl⟩:=h;simp only[aJ] at r;obtain⟨v,r',rfl,h2,h3⟩:=r;rw[aQ h2,vP h1 h3];rfl
 | .non::ds,ns,vs,h,r=>by simp[rK] at h
 | .bl _::ds,ns,vs,h,r=>by simp[rK] at h
 | .str _::ds,ns,vs,h,r=>by simp[rK] at h
 | .tup _::ds,ns,vs,h,r=>by simp[rK] at h
 | .lst _::ds,ns,vs,h,r=>by simp[rK] at h
 | .exc _::ds,ns,vs,h,r=>by simp[rK] at h
 | .dic _ _::ds,ns,vs,h,r=>by simp[rK] at h
 | .obj _::ds,ns,vs,h,r=>by simp[rK] at h
theorem vO{K:Zf}{H:Hp}:∀{ds:List D}{ns:List Str}{vs:List V},uw ds=some ns->aJ K H ds vs->vs=ns.map V.str
 | [],ns,vs,h,r=>by
  simp only[uw,K2z] at h;subst h
  simpa[aJ] using r
 | .str i::ds,ns,vs,h,r=>by
  simp only[uw] at h;obtain⟨ms,h1,rfl⟩:=O0z.mp h;simp only[aJ] at r;obtain⟨v,rr,rfl,h2,h3⟩:=r
  have e:v=.str i:=by simpa[Rep] using h2
  rw[vO h1 h3,e];rfl
 | .non::ds,ns,vs,h,r=>by simp[uw] at h
 | .bl _::ds,ns,vs,h,r=>by simp[uw] at h
 | .int _::ds,ns,vs,h,r=>by simp[uw] at h
 | .tup _::ds,ns,vs,h,r=>by simp[uw] at h
 | .lst _::ds,ns,vs,h,r=>by simp[uw] at h
 | .exc _::ds,ns,vs,h,r=>by simp[uw] at h
 | .dic _ _::ds,ns,vs,h,r=>by simp[uw] at h
 | .obj _::ds,ns,vs,h,r=>by simp[uw] at h
def eS(x:D):Value->Bool
 | .str t _=>deq (.str t) x
 | _=>false
theorem vQ(x:D):∀{ns:List Str}{us:List Value},Vals (ns.map V.str) us->us.any (eS x)=ns.any λt=>deq (.str t) x
 | [],us,r=>by rw[T4z] at r;cases r;rfl
 | n::ns,us,r=>by
  rw[E4z] at r
  cases r with
  | cons r1 r2 =>
   obtain⟨t,e⟩:=(show ∃t,_=Value.str n t from r1);subst e;simp only[I4z,vQ x r2,eS]
theorem uX:∀{ns:List Str}{us:List Value},Vals (ns.map V.str) us->∀y∈us,∃j t,y=Value.str j t
 | [],us,r,y,hy=>by rw[T4z] at r;cases r;simp at hy
 | n::ns,us,r,y,hy=>by
  rw[E4z] at r
  cases r with
  | cons r1 r2 =>
   obtain⟨t,e⟩:=(show ∃t,_=Value.str n t from r1);subst e;rcases L4z.mp hy with rfl | hy
   .exact⟨n,t,rfl⟩
   .exact uX r2 y hy
theorem Ku{z0:List (Addr×Obj)}{Y:St}{H:Hp}{s:Shared}{x:D}{ys:List D}{ns:List Str}{u v:V}{w z:Value}(I:Inv X z0 Y H s)(A:Around)(hA:A.units+2<cLine)(hx:Rep X.K H x u)(hd:dep x<=50)(kk:fO (.str "") x=true)(hv:Rep X.K H (.tup ys) v)(hn:uw ys=some ns)(ru:RelV u w)(rv:RelV v z) :
  (∀(Q:Value->Shared->Prop)(E:Value->Shared->Prop),Q (.bool (ns.any λt=>deq (.str t) x)) s->wpAny (model X.prog X.w) A (compareOp .In w z) Q E s)/\(∀(Q:Value->Shared->Prop)(E:Value->Shared->Prop),Q (.bool (!ns.any λt=>deq (.str t) x)) s->wpAny (model X.prog X.w) A (compareOp .NotIn w z) Q E s):=by
 obtain⟨a,vs,rfl,h1,h2⟩:=cB hv;cases (show z=Value.ref a from rv);have e:=vO hn h2;subst e;obtain⟨its,r,p⟩:=isT I h1
 have he:∀y,y∈its.toArray->EqAt A.in1 s y w (eS x y):=λy hy=>by
  obtain⟨j,t',rfl⟩:=uX r y (by simpa using hy);exact tL I (.str j) x (.str j) u (.str j t') w A.in1 (by simp[Rep]) hx ⟨t',rfl⟩ ru (by rw[iM];simp only[dep];omega) (by simp[dep]) (by omega) (by cases x<;>first | rfl | cases kk)
 have ea:its.toArray.any (eS x)=ns.any λt=>deq (.str t) x:=by
  rw[List.any_toArray];exact vQ x r
 refine⟨λQ E q=>in_tupleAt _ p he (by rw[ea];exact q),λQ E q=>notIn_tupleAt _ p he (by rw[ea];exact q)⟩
theorem Qg{x:D}{ys:List D}{b:Bool}(h:inT x ys=some b):∃ss,uw ys=some ss/\(dep x<=50/\fO (.str "") x=true)/\b=ss.any λt=>deq (.str t) x:=by
 unfold inT at h;obtain⟨ss,h1,h2⟩:=Option.bind_eq_some_iff.mp h;split at h2
 .rename_i hd
  cases h2;rw[Y2z,J2z] at hd;exact⟨ss,h1,hd,rfl⟩
 .cases h2
theorem Qf{z0:List (Addr×Obj)}{Y:St}{H:Hp}{s:Shared}{x:D}{ys:List D}{b:Bool}{u v:V}{w z:Value}(I:Inv X z0 Y H s)(A:Around)(hA:A.units+2<cLine)(hx:Rep X.K H x u)(hv:Rep X.K H (.tup ys) v)(h:inT x ys=some b)(ru:RelV u w)(rv:RelV v z) :
  (∀(Q:Value->Shared->Prop)(E:Value->Shared->Prop),Q (.bool b) s->wpAny (model X.prog X.w) A (compareOp .In w z) Q E s)/\(∀(Q:Value->Shared->Prop)(E:Value->Shared->Prop),Q (.bool (!b)) s->wpAny (model X.prog X.w) A (compareOp .NotIn w z) Q E s):=by
 obtain⟨ss,e1,⟨e2,kk⟩,rfl⟩:=Qg h;exact Ku I A hA hx e2 kk hv e1 ru rv
theorem iZ(hr:Room k X.A)(kw:KnW X.K X.w)(op:CmpOp):OpR X (compareOp op) (Sy X op):=by
 intro z0 s Y H u v w z Q I ru rv h;obtain⟨Hs,x,y,d,hs,rx,ry,hc,b,rfl,q⟩:=h;have rx':=Rep.same hs x u rx;have ry':=Rep.same hs y v ry;unfold cmpop at hc;split at hc
 .split at hc
  .rename_i hd
   rw[Y2z,Y2z,J2z,J2z] at hd;obtain⟨⟨hd1,hd2⟩,kk⟩:=hd;cases hc;exact(o9 I X.A rx' ry' ru rv (by have:=hr.un;omega) (by omega) (by omega) kk).1 _ _ _ _ ⟨.bl _,H,I,rfl,q⟩
  .cases hc
 .split at hc
  .rename_i hd
   rw[Y2z,Y2z,J2z,J2z] at hd;obtain⟨⟨hd1,hd2⟩,kk⟩:=hd;cases hc;exact(o9 I X.A rx' ry' ru rv (by have:=hr.un;omega) (by omega) (by omega) kk).2 _ _ _ _ ⟨.bl _,H,I,rfl,q⟩
  .cases hc
 .cases hc;exact Tc z0 s Y H u v w z Q I ru rv ⟨_,_,aQ rx,aQ ry,q⟩
 .cases hc;exact Td z0 s Y H u v w z Q I ru rv ⟨_,_,aQ rx,aQ ry,q⟩
 .cases hc;exact Te z0 s Y H u v w z Q I ru rv ⟨_,_,aQ rx,aQ ry,q⟩
 .cases hc;rw[u9 rx] at q;exact JN z0 s Y H u v w z Q I ru rv ⟨n8 ry,q⟩
 .obtain⟨ns,hn,he⟩:=O0z.mp hc
  cases he;exact(Qf I X.A (by have:=hr.un;omega) rx' ry' hn ru rv).2 _ _ ⟨.bl _,H,I,rfl,q⟩
 .rename_i a b
  cases hc
  have ex:u=.str a:=by simpa[Rep] using rx
  have ey:v=.str b:=by simpa[Rep] using ry
  exact zy z0 s Y H u v w z Q I ru rv ⟨_,_,ex,ey,q⟩
 .rename_i a ks ds
  cases hc
  have ex:u=.str a:=by simpa[Rep] using rx
  obtain⟨p,kvs,rfl,g1,g2,g3⟩:=ry';rw[<- pO g2 g3] at q;exact O1 kw z0 s Y H u _ w z Q I ru rv ⟨p,kvs,.inr a,ex,rfl,g1,q⟩
 .rename_i a ks ds
  cases hc
  have ex:u=.str a:=by simpa[Rep] using rx
  obtain⟨p,kvs,rfl,g1,g2,g3⟩:=ry';rw[<- pO g2 g3] at q;exact zx kw z0 s Y H u _ w z Q I ru rv ⟨p,kvs,.inr a,ex,rfl,g1,q⟩
 .cases hc
theorem HB{op:CmpOp}{x y d:D}(h:cmpop op x y=some d):∃b,d=.bl b:=by
 unfold cmpop at h
 split at h<;>first | (cases h;exact⟨_,rfl⟩) | (obtain⟨_,_,rfl⟩:=O0z.mp h;exact⟨_,rfl⟩) | (split at h<;>first | (cases h;exact⟨_,rfl⟩) | cases h) | cases h
theorem K5{a b:Expr}{op:CmpOp}{x y d:D}{pos:Pos}(hr:Room k X.A)(kw:KnW X.K X.w)(ha:Ev X U a x)(hb:Ev X U b y)(hm:aH b=true)(h:cmpop op x y=some d):Ev X U (.Compare a [op] [b] pos) d/\∀c,d=.bl c->EvT X U (.Compare a [op] [b] pos) c:=by
 obtain⟨c,rfl⟩:=HB h;refine⟨gk ha hb (zj (iZ hr kw op) au au (cJ hm)) λu v H Hs Q hs r1 r2 hq=>⟨Hs,x,y,_,hs,r1,r2,h,c,rfl,hq _ H Hs (.refl hs) (by simp[Rep])⟩,λc' hc' Y H Hs Q hs hst hq=>?_⟩;cases hc';refine(jC (iZ hr kw op) au au (cJ hm)).sem (ha Y H Hs _ hs hst λu H1 Hs1 E1 r1=>hb Y H1 Hs1 _ E1.sub (hst.same E1.vis) λv H2 Hs2 E2 r2=>?_);exact⟨Hs2,x,y,_,E2.sub,Rep.same E2.vis x u r1,r2,h,c,rfl,c,rfl,hq H2 Hs2 (E1.trans E2)⟩
theorem zQ{op op':CmpOp}{b c:Expr}(h:aH c=true):lastMarks [op,op'] [b,c]=false:=cJ h
theorem Ao{a b e:Expr}{op op':CmpOp}{x y d:D}{c:Bool}{pos:Pos}(hr:Room k X.A)(kw:KnW X.K X.w)(ha:Ev X U a x)(hb:Ev X U b y)(hm:aH e=true)(h:cmpop op x y=some (.bl c))(hd:(c=true->∃z,Ev X U e z/\cmpop op' y z=some d)/\(c=false->d=.bl false)) :
  Ev X U (.Compare a [op,op'] [b,e] pos) d/\∀c,d=.bl c->EvT X U (.Compare a [op,op'] [b,e] pos) c:=by
 have core:∀Y H Hs Q,Same Hs H->bJ X.K Hs U Y->(∀v H' Hs',Ext Hs H Hs' H'->Rep X.K Hs' d v->Q v H')->yj (Sy X op) (Sy X op') (jy X a) (jy X b) (jy X e) Y H Q:=by
  intro Y H Hs Q hs hst hq;refine ha Y H Hs _ hs hst λu H1 Hs1 E1 r1=>hb Y H1 Hs1 _ E1.sub (hst.same E1.vis) λv H2 Hs2 E2 r2=>?_;refine⟨Hs2,x,y,_,E2.sub,Rep.same E2.vis x u r1,r2,h,c,rfl,c,rfl,?_⟩
  cases c with
  | false=>rw[hd.2 rfl] at hq;exact mH (hq _ H2 Hs2 (E1.trans E2) (by simp[Rep]))
  | true =>
   obtain⟨z,hz,hc⟩:=hd.1 rfl;obtain⟨c',rfl⟩:=HB hc;refine oJ (hz Y H2 Hs2 _ E2.sub ((hst.same E1.vis).same E2.vis) λw H3 Hs3 E3 r3=>?_);exact⟨Hs3,y,z,_,E3.sub,Rep.same E3.vis y v r2,r3,hc,c',rfl,hq _ H3 Hs3 (E1.trans (E2.trans E3)) (by simp[Rep])⟩
 refine⟨λY H Hs Q hs hst hq=>(Dw (iZ hr kw op) (iZ hr kw op') au au au (zQ hm)).sem (core Y H Hs Q hs hst hq),λc' hc' Y H Hs Q hs hst hq=>?_⟩;subst hc';exact(Dj (iZ hr kw op) (iZ hr kw op') au au au (zQ hm)).sem (core Y H Hs _ hs hst λv H' Hs' E1 r1=>⟨c',dH r1,hq H' Hs' E1⟩)
theorem Qp{c a b:Expr}{t:Bool}{d:D}{pos:Pos}(hc:EvT X U c t)(ha:t=true->Ev X U a d)(hb:t=false->Ev X U b d):Ev X U (.IfExp c a b pos) d:=λY H Hs Q hs hst hq =>
 (uT dw au au).sem (hc Y H Hs _ hs hst λH1 Hs1 E1=>by
  cases t with
  | true=>exact oJ (ha rfl Y H1 Hs1 Q E1.sub (hst.same E1.vis) λv H' Hs' E2 r=>hq v H' Hs' (E1.trans E2) r)
  | false=>exact mH (hb rfl Y H1 Hs1 Q E1.sub (hst.same E1.vis) λv H' Hs' E2 r=>hq v H' Hs' (E1.trans E2) r))
theorem Hx{c a b:Expr}{t r:Bool}{pos:Pos}(hc:EvT X U c t)(ha:t=true->EvT X U a r)(hb:t=false->EvT X U b r):EvT X U (.IfExp c a b pos) r:=by
 intro Y H Hs Q hs hst hq z0 s I;refine isTrue_IfExp (thn (hc Y H Hs (λb' H'=>b'=t/\∃Hs',Ext Hs H Hs' H') hs hst (λH1 Hs1 E1=>⟨rfl,Hs1,E1⟩) z0 s I) λb' s2 ⟨H2,I2,e2,Hs2,E2⟩=>?_);subst e2
 cases b' with
 | true=>exact oJ (ha rfl Y H2 Hs2 Q E2.sub (hst.same E2.vis) (λH' Hs' E3=>hq H' Hs' (E2.trans E3)) z0 s2 I2)
 | false=>exact mH (hb rfl Y H2 Hs2 Q E2.sub (hst.same E2.vis) (λH' Hs' E3=>hq H' Hs' (E2.trans E3)) z0 s2 I2)
theorem dU{f:Expr->Option D}:∀{es:List Expr}{ds:List D},(∀e∈es,∀d,f e=some d->Ev X U e d/\aH e=true)->jX f es=some ds->EvA X U es ds/\(∀e∈es,aH e=true)
 | [],ds,_,h=>by
  simp only[jX,K2z] at h;subst h;exact⟨λY H Hs Q hs hst hq=>aO.sem (hq [] H Hs (.refl hs) .nil),λe he=>absurd he (by simp)⟩
 | e::es,ds,hf,h=>by
  simp only[jX,bind,Option.bind] at h
  cases he:f e with
  | none=>rw[he] at h;cases h
  | some d =>
   rw[he] at h;simp only at h
   cases hr:jX f es with
   | none=>rw[hr] at h;cases h
   | some dr =>
    rw[hr] at h;simp only[K2z] at h;subst h;obtain⟨h1,hp⟩:=hf e (by simp) d he;obtain⟨h2,hps⟩:=dU (λa ha=>hf a (U0z _ ha)) hr;refine⟨λY H Hs Q hs hst hq=>(aA au cR (aq hp)).sem (h1 Y H Hs _ hs hst λv H1 Hs1 E1 r1=>h2 Y H1 Hs1 _ E1.sub (hst.same E1.vis) λvs H2 Hs2 E2 r2=>?_),λa ha=>?_⟩
    .exact hq _ H2 Hs2 (E1.trans E2) (.cons (Rep.same E2.vis d v r1) r2)
    .rcases L4z.mp ha with rfl | ha
     .exact hp
     .exact hps a ha
theorem Fb{es:List Expr}{ds:List D}{j:Nat}{pos:Pos}(h:EvA X U es ds)(hz:szl ds.length=true):Ev X U (.Tuple es j pos) (.tup ds):=λY H Hs Q hs hst hq =>
 (qt cR).sem (h Y H Hs _ hs hst λvs H1 Hs1 E1 r1=>⟨by rw[<- r1.length];exact kZ hz,λp hp=>fX E1.sub r1 hp λw H' Hs' E2 r2=>hq w H' Hs' (E1.trans E2) r2⟩)
theorem Am{es:List Expr}{ds:List D}{pos:Pos}(h:EvA X U es ds)(hz:szl ds.length=true):Ev X U (.List es pos) (.lst ds):=λY H Hs Q hs hst hq =>
 (qw cR).sem (h Y H Hs _ hs hst λvs H1 Hs1 E1 r1=>⟨by rw[<- r1.length];exact kZ hz,λp hp=>lJ E1.sub r1 hp λw H' Hs' E2 r2=>hq w H' Hs' (E1.trans E2) r2⟩)
theorem Qd(n:Nat)(i:Int):ixD n i=ixN n i:=rfl
theorem Ca{K:Zf}{H:Hp}{ds:List D}{vs:List V}{i:Int}{d:D}(h:aJ K H ds vs)(e:atD ds i=some d):∃v,atI vs i=some v/\Rep K H d v:=by
 unfold atD at e;rw[Qd,h.length] at e
 cases q:ixN vs.length i with
 | none=>rw[q] at e;cases e
 | some j =>
  rw[q] at e;obtain⟨v,h1,h2⟩:=h.get (i:=j) (d:=d) e;exact⟨v,by unfold atI;rw[q];exact h1,h2⟩
theorem Jp{K:Zf}{H:Hp}{ks:List (Sum Int Str)}{ds:List D}{v:V}(h:Rep K H (.dic ks ds) v):∃(a:Addr)(kvs:List (Key×V)),v=.ref a/\DAt K H a kvs/\kvs.map (·.1)=ks/\aJ K H ds (kvs.map (·.2)):=by simpa[Rep] using h
theorem xK{K:Zf}{H:Hp}{k:Key}{d:D}:∀{kvs:List (Key×V)}{ds:List D},aJ K H ds (kvs.map (·.2))->kO (kvs.map (·.1)) ds k=some d->∃v,jB kvs k=some v/\Rep K H d v
 | [],ds,r,h=>by simp[kO] at h
 | (k',v')::kvs,ds,r,h=>by
  cases ds with
  | nil=>simp[kO] at h
  | cons d' ds =>
   simp only[E4z,aJ] at r;obtain⟨v,rr,e,h2,h3⟩:=r;cases e;unfold kO at h;simp only[E4z,V1z,List.find?_cons] at h;unfold jB;rw[List.find?_cons]
   by_cases q:k'=k
   .simp only[q,decide_true] at h ⊢
    simp only[M3z,K2z] at h ⊢;subst h;exact⟨v',rfl,h2⟩
   .simp only[q,decide_false] at h ⊢
    exact xK h3 h
theorem Ko{K:Zf}{H:Hp}{d:D}{v:V}{k:Key}(h:Rm d=some k)(r:Rep K H d v):v=kV k:=by
 cases d<;>simp[Rm] at h
 .subst h;exact aQ r
 .subst h
  rename_i x
  have e:v=.str x:=by simpa[Rep] using r
  exact e
theorem K3{a b:Expr}{ks:List (Sum Int Str)}{ds:List D}{y d:D}{k':Key}{pos:Pos}(kw:KnW X.K X.w)(ha:Ev X U a (.dic ks ds))(hb:Ev X U b y)(hp:aH b=true)(hk:Rm y=some k')(hd:kO ks ds k'=some d):Ev X U (.Subscript a b pos) d:=by
 intro Y H Hs Q hs hst hq;refine PE.sem (JH kw au au λov iv=>ou hp ov iv) (ha Y H Hs _ hs hst λv H1 Hs1 E1 r1=>hb Y H1 Hs1 _ E1.sub (hst.same E1.vis) λu H2 Hs2 E2 r2=>?_);have rdE:∀{H1 H2:Hp}{a:Addr}{u:List (Key×V)},Same H1 H2->DAt X.K H1 a u->DAt X.K H2 a u:=λe r=>r.elim (λ⟨o,q⟩=>.inl ⟨o,e _ _ q⟩) .inr;obtain⟨p,kvs,rfl,h1,rfl,h3⟩:=Jp (Rep.same E2.vis _ v r1);obtain⟨w,h4,h5⟩:=xK h3 hd;exact⟨p,w,kvs,k',rfl,rdE E2.sub h1,Ko hk r2,h4.symm,hq w H2 Hs2 (E1.trans E2) h5⟩
theorem oR{a b:Expr}{x d:D}{i:Int}{xs:List D}{pos:Pos}(ha:Ev X U a x)(hb:Ev X U b (.int i))(hp:aH b=true)(hx:items x=some xs)(hd:atD xs i=some d):Ev X U (.Subscript a b pos) d:=by
 cases x with
 | tup ys =>
  simp only[items,K2z] at hx;subst hx;refine gk ha hb (yZ u5 au au (ou hp)) λu v H Hs Q hs r1 r2 hq=>?_;obtain⟨p,vs,rfl,h1,h2⟩:=cB r1;obtain⟨w,h3,h4⟩:=Ca h2 hd;exact⟨p,vs,i,w,rfl,aQ r2,hs.tup h1,h3,hq w H Hs (.refl hs) h4⟩
 | lst ys =>
  simp only[items,K2z] at hx;subst hx;refine gk ha hb (yZ Kp au au (ou hp)) λu v H Hs Q hs r1 r2 hq=>?_;obtain⟨p,vs,rfl,h1,h2⟩:=cX r1;obtain⟨w,h3,h4⟩:=Ca h2 hd;exact⟨p,vs,i,w,rfl,aQ r2,hs.seq h1,h3,hq w H Hs (.refl hs) h4⟩
 | _=>simp[items] at hx
theorem yI(n d:Nat)(o:Option Int):N5 n d o=HT.sIx n d o:=by cases o<;>rfl
theorem Lj{K:Zf}{H:Hp}{ds:List D}{vs:List V}(lo hi:Option Int)(h:aJ K H ds vs):aJ K H (Bj ds lo hi) (MN vs lo hi):=by
 unfold Bj MN;rw[yI,yI,h.length];exact(h.drop _).take _
def EvO(X:Cx)(U:Rho)(e:Option Expr)(o:Option Int):Prop:=∃t:TO,PO X e t/\∀Y H Hs Q,Same Hs H->bJ X.K Hs U Y->(∀H' Hs',Ext Hs H Hs' H'->Q o H')->t Y H Q
theorem Fv:EvO X U none none:=⟨_,Jz,λY H Hs Q hs hst hq=>hq H Hs (.refl hs)⟩
theorem Ft{e:Expr}{i:Int}(h:Ev X U e (.int i)):EvO X U (some e) (some i):=⟨_,Jy au,λY H Hs Q hs hst hq=>h Y H Hs _ hs hst λv H' Hs' E1 r1=>⟨i,aQ r1,hq H' Hs' E1⟩⟩
theorem Jo{x d:D}{lo hi:Option Expr}{oi:Option Int}(h:Rc x lo hi oi=some d):lo=none/\hi=none/\oi=some (-1)/\∃us,x=.tup us/\d=.tup us.reverse:=by
 unfold Rc at h;split at h
 .split at h
  .rename_i i q
   cases h
   have e:i=(-1:Int):=by simpa using q
   subst e;exact⟨rfl,rfl,rfl,_,rfl,rfl⟩
  .cases h
 .cases h
theorem aJ.rev{K:Zf}{H:Hp}:∀{ds:List D}{vs:List V},aJ K H ds vs->aJ K H ds.reverse vs.reverse
 | [],vs,h=>by
  have:vs=[]:=by simpa[aJ] using h
  subst this;simpa[aJ] using h
 | d::ds,vs,h=>by
  simp only[aJ] at h;obtain⟨w,r,rfl,h1,h2⟩:=h;rw[E2z,E2z];exact(aJ.rev h2).append (.cons h1 .nil)
theorem KY{a c:Expr}{us:List D}{p2 pos:Pos}(ha:Ev X U a (.tup us))(hc:Ev X U c (.int (-1))):Ev X U (.Subscript a (.Slice none none (some c) p2) pos) (.tup us.reverse):=by
 intro Y H Hs Q hs hst hq;refine(JG au au).sem (ha Y H Hs _ hs hst λu H1 Hs1 E1 r1=>hc Y H1 Hs1 _ E1.sub (hst.same E1.vis) λv H2 Hs2 E2 r2=>?_);obtain⟨p,ws,rfl,g1,g2⟩:=cB (Rep.same E2.vis _ _ r1);exact⟨p,ws,rfl,aQ r2,E2.sub.tup g1,λq hq'=>fX E2.sub g2.rev hq' λw H' Hs' E r=>hq w H' Hs' ((E1.trans E2).trans E) r⟩
theorem Ak{a:Expr}{lo hi:Option Expr}{l u:Option Int}{xs:List D}{p2 pos:Pos}(ha:Ev X U a (.lst xs))(hl:EvO X U lo l)(hu:EvO X U hi u) :
  Ev X U (.Subscript a (.Slice lo hi none p2) pos) (.lst (Bj xs l u)):=by
 obtain⟨tl,pl,ql⟩:=hl;obtain⟨tu,pu,qu⟩:=hu;intro Y H Hs Q hs hst hq;refine(Dn IV au pl pu).sem (ha Y H Hs _ hs hst λv H1 Hs1 E1 r1=>ql Y H1 Hs1 _ E1.sub (hst.same E1.vis) λH2 Hs2 E2=>qu Y H2 Hs2 _ E2.sub ((hst.same E1.vis).same E2.vis) λH3 Hs3 E3=>?_);obtain⟨p,vs,rfl,h1,h2⟩:=cX (Rep.same (E2.trans E3).vis _ _ r1);exact⟨p,vs,rfl,E3.sub.seq h1,λq hq'=>lJ E3.sub (Lj l u h2) hq' λw H' Hs' E4 r4=>hq w H' Hs' (E1.trans (E2.trans (E3.trans E4))) r4⟩
theorem K6{f:Str}{es:List Expr}{ds:List D}{d:D}{p pos:Pos}(G:Good cx k X sc)(hg:Gl X f)(hf:cx.fns.contains f=true)(hne:es≠[])(h:EvA X U es ds)(hp:∀e∈es,aH e=true)(hc:cx.call f ds=some d) :
  Ev X U (.Call (.Name f p) es [] pos) d:=by
 obtain⟨hdb,a,fd,ps,har,_,hm,hk,hb,F⟩:=G.fns f hf
 cases es with
 | nil=>exact absurd rfl hne
 | cons e es =>
  intro Y H Hs Q hs hst hq;refine(dR F G.room hg hm hk hb .nil oA cR hdb (aq (hp e (by simp))) (dJ λe' he=>hp e' (U0z _ he))).sem (h Y H Hs _ hs hst λvs H1 Hs1 E1 r1=>?_);refine⟨?_,Hs1,ds,E1.sub,?_,.inl ⟨d,hc,λv H' Hs' E2 r2=>hq v H' Hs' (E1.trans E2) r2⟩⟩
  .rw[J3z,<- r1.length,har ds d hc]
  .rw[J3z];exact r1
def Rg(X:Cx)(f:Value):List V->Hp->VK->Prop:=λvs H Q=>∀z0 s Y us,Inv X z0 Y H s->Vals vs us->wpAny (model X.prog X.w) X.A (call f us) (EP X z0 Y Q) X.xe s
theorem cL{f:Value}:cZ X f (Rg X f):=λz0 s Y H xs us Q I r h=>h z0 s Y us I r
theorem cZ.sem{f:Value}{r:List V->Hp->VK->Prop}{vs:List V}{H:Hp}{Q:VK}(h:cZ X f r)(q:r vs H Q):Rg X f vs H Q:=λz0 s Y us I rv=>h z0 s Y H vs us Q I rv q
def EvC(X:Cx)(f:Value)(ds:List D)(d:D):Prop:=∀vs H Hs Q,Same Hs H->aJ X.K Hs ds vs->(∀v H' Hs',Ext Hs H Hs' H'->Rep X.K Hs' d v->Q v H')->Rg X f vs H Q
theorem repL1{K:Zf}{H:Hp}{d:D}{vs:List V}(h:aJ K H [d] vs):∃v,vs=[v]/\Rep K H d v:=by
 simp only[aJ] at h;obtain⟨v,r,rfl,h1,h2⟩:=h;subst h2;exact⟨v,rfl,h1⟩
theorem repL2{K:Zf}{H:Hp}{d e:D}{vs:List V}(h:aJ K H [d,e] vs):∃v w,vs=[v,w]/\Rep K H d v/\Rep K H e w:=by
 simp only[aJ] at h;obtain⟨v,r,rfl,h1,w,r2,rfl,h2,h3⟩:=h;subst h3;exact⟨v,w,rfl,h1,h2⟩
theorem qb{K:Zf}{H:Hp}{d:D}{l:List D}{v:V}(h:Rep K H d v)(e:items d=some l):∃a vs,v=.ref a/\(SqL K H a vs\/SqT K H a vs)/\aJ K H l vs:=by
 cases d with
 | tup xs=>simp only[items,K2z] at e;subst e;obtain⟨a,vs,e1,e2,e3⟩:=cB h;exact⟨a,vs,e1,.inr e2,e3⟩
 | lst xs=>simp only[items,K2z] at e;subst e;obtain⟨a,vs,e1,e2,e3⟩:=cX h;exact⟨a,vs,e1,.inl e2,e3⟩
 | _=>simp[items] at e
theorem kI{K:Zf}{H:Hp}:∀{ds:List D}{bs:List Bool}{vs:List V},rN ds=some bs->aJ K H ds vs->vs=bs.map V.bl
 | [],ns,vs,h,r=>by
  simp only[rN,K2z] at h;subst h
  simpa[aJ] using r
 | .bl i::ds,ns,vs,h,r=>by
  simp only[rN,O0z] at h;obtain⟨ms,h1,rfl⟩:=h;simp only[aJ] at r;obtain⟨v,r',rfl,h2,h3⟩:=r;rw[dH h2,kI h1 h3];rfl
 | .non::ds,ns,vs,h,r=>by simp[rN] at h
 | .int _::ds,ns,vs,h,r=>by simp[rN] at h
 | .str _::ds,ns,vs,h,r=>by simp[rN] at h
 | .tup _::ds,ns,vs,h,r=>by simp[rN] at h
 | .lst _::ds,ns,vs,h,r=>by simp[rN] at h
 | .exc _::ds,ns,vs,h,r=>by simp[rN] at h
 | .dic _ _::ds,ns,vs,h,r=>by simp[rN] at h
 | .obj _::ds,ns,vs,h,r=>by simp[rN] at h
theorem mC:∀{bs:List Bool}{us:List Value},Vals (bs.map V.bl) us->LSm.BoolsAre us bs
 | [],us,r=>by rw[T4z] at r;cases r;exact .nil
 | b::bs,us,r=>by
  rw[E4z] at r
  cases r with
  | cons r1 r2 =>
   cases (show _=Value.bool b from r1);exact .cons b (mC r2)
theorem Bq(hc:X.calm=true):cZ X (.builtin "sum") (λxs H Q=>∃(p:Addr)(ns:List Int),xs=[.ref p]/\SqL X.K H p (ns.map V.int)/\Q (.int ns.sum) H):=by
 intro z0 s Y H xs us Q I r h;obtain⟨p,ns,rfl,hq,q⟩:=h;obtain⟨u,rfl,rx⟩:=vals1 r;cases (show u=Value.ref p from rx);obtain⟨its,r',pl,hz⟩:=I.list hq;have hi:=intsAre_of r';obtain⟨zs,hx⟩:=hi.allInts.items;have hl':s.heap.IsList p (intItems zs):=hx▸pl.isList;refine sum_intListG (I.ok.hd hc) hl' λh' tk t' hk=>⟨.int ns.sum,H,I.kept hk,⟨t',?_⟩,q⟩
 have e1:ns=zs.toList.map (·.1):=by
  rw[<- nums_intItems,<- hx];exact(show numsOf its.toArray.toList=ns from hi.numsOf).symm
 rw[preSum_eq,List.take_of_length_le (by simp),e1]
theorem Bv(hc:X.calm=true):cZ X (.builtin "all") (λxs H Q=>∃(p:Addr)(bs:List Bool),xs=[.ref p]/\SqL X.K H p (bs.map V.bl)/\Q (.bl (bs.all id)) H):=by
 intro z0 s Y H xs us Q I r h;obtain⟨p,bs,rfl,hq,q⟩:=h;obtain⟨u,rfl,rx⟩:=vals1 r;cases (show u=Value.ref p from rx);obtain⟨its,r',pl,hz⟩:=I.list hq;have hb:=mC r';have hl:=pl.isList
 have hlt:p<s.heap.objs.size:=by obtain⟨_,e,_⟩:=hl;exact N4z e
 refine call_all_walk (wpAny_pyIter_list hl ⟨s.heap.objs.size,[s.heap.objs.size,p],[s.heap.objs.size],its.toArray.size,_,_,λi=>(bs[i]?).getD true,rfl,Walks.list (A:=X.A.in1) (I.ok.hd hc) _ p (O4z hlt) its.toArray,⟨⟨_,Heap.get?_push_size _ rfl,rfl,rfl⟩,hl.push _⟩,λi v s' Q' E' hP hQ=>?_,λh' tk hk=>?_⟩)
 .obtain⟨b,e,rfl⟩:=hb.get i v (by simpa using hP)
  simp only[e,Option.getD_some] at hQ;exact A2z hQ
 .have e:((List.range its.toArray.size).all λi=>(bs[i]?).getD true)=bs.all id:=by rw[D2z,hb.length];exact LSm.range_all bs
  rw[e];exact⟨.bl _,H,I.kept (LSm.kept_iter hk),rfl,q⟩
theorem KN{d0:D}{l:List D}(hl:items d0=some l):EvC X (.type "tuple") [d0] (.tup l):=by
 intro vs H Hs Q hs hr hq;obtain⟨v,rfl,r1⟩:=repL1 hr;refine cZ.sem pB ?_
 cases d0 with
 | tup xs =>
  simp only[items,K2z] at hl;subst hl
  obtain⟨a,us,rfl,h1,h2⟩:=cB r1;exact⟨a,us,rfl,.inr ⟨hs.tup h1,hq _ H Hs (.refl hs) r1⟩⟩
 | lst xs =>
  simp only[items,K2z] at hl;subst hl
  obtain⟨a,us,rfl,h1,h2⟩:=cX r1;exact⟨a,us,rfl,.inl ⟨hs.seq h1,λp hp=>fX hs h2 hp hq⟩⟩
 | _=>simp[items] at hl
def Vp:String->Value
 | "tuple"=>.type "tuple"
 | "list"=>.type "list"
 | "int"=>.type "int"
 | "dict"=>.type "dict"
 | b=>.builtin b
theorem vg(hc:X.calm=true){xs:List D}{l:List (Sum Int Str×D)}(h:iY xs=some l):EvC X (.type "dict") [.lst xs] (tW (Mw l)):=by
 intro vs H Hs Q hs hr hq
 obtain⟨v,rfl,a,us,rfl,h1,h2⟩:∃v,vs=[v]/\Rep X.K Hs (.lst xs) v:=by
  obtain⟨v,t,rfl,r1,r2⟩:=hr;cases (show t=[] from r2);exact⟨v,rfl,r1⟩
 obtain⟨kvs,p1,p2,p3⟩:=yS h h2;obtain⟨m1,m2⟩:=qz (l0:=[]) (kvs0:=[]) p2 p3 rfl rfl;refine cZ.sem (wV hc) ⟨a,us,kvs,rfl,hs.seq h1,prs_same hs p1,λp ob hp=>?_⟩;have E:=Ext.new hs (.frz ob (.dK (gZ [] kvs))) hp;exact hq _ _ _ E ⟨p,_,rfl,.inl ⟨ob,aB⟩,m1,aJ.same E.vis _ _ m2⟩
where
 prs_same {K:Zf} {Hs H:Hp} (hs:Same Hs H):∀{vs:List V}{kvs:List (Key×V)},wZ K Hs vs kvs->wZ K H vs kvs
  | [],_,h=>h
  | _::_,_,h=>by
   obtain⟨b,k,v,q,e1,e2,e3,e4⟩:=h
   exact⟨b,k,v,q,e1,e2,hs.tup e3,prs_same hs e4⟩
theorem Fg(hc:X.calm=true)(kw:KnW X.K X.w){ks:List (Sum Int Str)}{ds:List D}{l l':List Str}(h1:yt ks=some l)(h2:l.length<64)(h3:Gs l=some l'):EvC X (.builtin "sorted") [.dic ks ds] (.lst (l'.map .str)):=by
 intro vs H Hs Q hs hr hq
 obtain⟨v,rfl,a,kvs,rfl,g1,g2,g3⟩:∃v,vs=[v]/\Rep X.K Hs (.dic ks ds) v:=by
  obtain⟨v,t,rfl,r1,r2⟩:=hr;cases (show t=[] from r2);exact⟨v,rfl,r1⟩
 have g1':DAt X.K H a kvs:=g1.elim (λ⟨o,q⟩=>.inl ⟨o,hs _ _ q⟩) .inr;refine cZ.sem (jQ hc) ⟨a,kvs,l,rfl,λ_ _ _ I=>eE I kw g1',by rw[g2,uG h1],h2,λp ss hp hperm hsort=>?_⟩;have e:=yC h3 hperm hsort;rw[e];have E:=Ext.new hs (.lst (l'.map V.str)) hp;refine hq _ _ _ E ⟨p,_,rfl,.inl (.inl aB),?_⟩;exact strs_rep l'
where
 strs_rep {K:Zf} {H:Hp}:∀ss:List Str,aJ K H (ss.map D.str) (ss.map V.str)
  | []=>rfl
  | s::r=>⟨_,_,rfl,by simp[Rep],strs_rep r⟩
theorem Qs{b:String}{ds:List D}{d:D}(hc:X.calm=true)(kw:KnW X.K X.w)(h:DE.blt b ds=some d):EvC X (Vp b) ds d:=by
 intro vs H Hs Q hs hr hq;unfold DE.blt at h;split at h
 .split at h
  .rename_i x hz
   cases h;obtain⟨v,rfl,r1⟩:=repL1 hr
   have e:v=.str x:=by simpa[Rep] using r1
   subst e;exact cZ.sem qZ ⟨x,rfl,kZ hz,hq _ H Hs (.refl hs) (by simp[Rep])⟩
  .cases h
 .simp only[bind,Option.bind] at h
  split at h
  .cases h
  .rename_i l hl
   cases h;obtain⟨v,rfl,r1⟩:=repL1 hr;obtain⟨a,us,rfl,h1,h2⟩:=qb r1 hl;refine cZ.sem eF ⟨a,us,rfl,h1.imp hs.seq hs.tup,?_⟩;rw[<- h2.length];exact hq _ H Hs (.refl hs) (by simp[Rep])
 .simp only[bind,Option.bind] at h
  split at h
  .cases h
  .rename_i l hl
   cases h;obtain⟨v,rfl,r1⟩:=repL1 hr;obtain⟨a,us,rfl,h1,h2⟩:=cX r1;have e:=kI hl h2;subst e;exact cZ.sem (Bv hc) ⟨a,_,rfl,hs.seq h1,hq _ H Hs (.refl hs) (by simp[Rep])⟩
 .simp only[bind,Option.bind] at h
  split at h
  .cases h
  .rename_i l hl
   cases h;obtain⟨v,rfl,r1⟩:=repL1 hr;obtain⟨a,us,rfl,h1,h2⟩:=cX r1;have e:=vP hl h2;subst e;exact cZ.sem (Bq hc) ⟨a,_,rfl,hs.seq h1,hq _ H Hs (.refl hs) (by simp[Rep])⟩
 .simp only[bind,Option.bind] at h
  split at h
  .cases h
  .rename_i l hl
   cases h;exact KN hl vs H Hs Q hs hr hq
 .simp only[bind,Option.bind] at h
  split at h
  .cases h
  .rename_i l hl
   cases h;obtain⟨v,rfl,r1⟩:=repL1 hr;obtain⟨a,us,rfl,h1,h2⟩:=qb r1 hl;exact cZ.sem qY ⟨a,us,rfl,h1.imp hs.seq hs.tup,λp hp=>lJ hs h2 hp hq⟩
 .cases h
  obtain⟨v,w,rfl,r1,r2⟩:=repL2 hr;exact cZ.sem (Br hc) ⟨_,_,by rw[aQ r1,aQ r2],hq _ H Hs (.refl hs) (by simp[Rep])⟩
 .cases h
  obtain⟨v,w,rfl,r1,r2⟩:=repL2 hr;exact cZ.sem (Bt hc) ⟨_,_,by rw[aQ r1,aQ r2],hq _ H Hs (.refl hs) (by simp[Rep])⟩
 .obtain⟨l,h1,rfl⟩:=O0z.mp h
  exact vg hc h1 vs H Hs Q hs hr hq
 .obtain⟨l',h1,rfl⟩:=O0z.mp h
  obtain⟨l,h2,h3⟩:=Option.bind_eq_some_iff.mp h1;split at h3
  .rename_i hz
   exact Fg hc kw h2 (L2z hz) h3 vs H Hs Q hs hr hq
  .cases h3
 .cases h
end
section
variable{X:Cx}{U:Rho}{cx:Cxt}{k:Nat}{sc:Scope}
theorem cY{x:Str}{b:String}(G:Good cx k X sc)(h:bZ cx sc x=some b):Gl X x/\X.mg x=none/\x=Str.ofString b:=by
 unfold bZ rQ at h;split at h
 .rename_i hg
  have e:sc.names.lookup x=some .globalImplicit:=by simpa using hg
  refine⟨?_,G.blt x b h⟩;show X.env.scope.names.lookup x=_;rw[G.sce,e]
 .cases h
theorem Bx{b:String}{ds:List D}{d:D}(h:DE.blt b ds=some d):b="len"\/b="all"\/b="sum"\/b="tuple"\/b="list"\/b="min"\/b="max"\/b="abs"\/b="int"\/b="any"\/b="dict"\/b="sorted":=by
 unfold DE.blt at h
 split at h<;>first | (simp;done) | cases h
theorem Fq{x:Str}{b:String}{e:Expr}{es:List Expr}{ds:List D}{d:D}{p pos:Pos}(G:Good cx k X sc)(hx:bZ cx sc x=some b)(h:EvA X U (e::es) ds)(hp:∀a∈e::es,aH a=true)(hd:DE.blt b ds=some d) :
  Ev X U (.Call (.Name x p) (e::es) [] pos) d:=by
 obtain⟨hg,hm,rfl⟩:=cY G hx;have c:=Qs (X:=X) G.calm G.kw hd;have s1:=aq (env:=X.env) (es:=es) (hp e (by simp));have s2:=dJ (env:=X.env) (pos:=pos) λa ha=>hp a (U0z _ ha)
 have fin:∀f:Value,Vp b=f->PE X (.Call (.Name (Str.ofString b) p) (e::es) [] pos) (tCB (Rg X f) (yh X (e::es)))->Ev X U (.Call (.Name (Str.ofString b) p) (e::es) [] pos) d:=by
  intro f hf hpe Y H Hs Q hs hst hq;rw[hf] at c;refine hpe.sem (h Y H Hs _ hs hst λvs H1 Hs1 E1 r1=>?_);exact c vs H1 Hs1 Q E1.sub r1 λv H' Hs' E2 r2=>hq v H' Hs' (E1.trans E2) r2
 rcases Bx hd with rfl | rfl | rfl | rfl | rfl | rfl | rfl | rfl | rfl | rfl | rfl | rfl
 .exact fin (.builtin "len") rfl (bU cL hg hm (by decide +kernel) cR (by decide) (by decide) s1 s2)
 .exact fin (.builtin "all") rfl (bU cL hg hm (by decide +kernel) cR (by decide) (by decide) s1 s2)
 .exact fin (.builtin "sum") rfl (bU cL hg hm (by decide +kernel) cR (by decide) (by decide) s1 s2)
 .exact fin (.type "tuple") rfl (eU cL hg hm (by decide +kernel) cR (by decide) (by decide) s1 s2)
 .exact fin (.type "list") rfl (eU cL hg hm (by decide +kernel) cR (by decide) (by decide) s1 s2)
 .exact fin (.builtin "min") rfl (bU cL hg hm (by decide +kernel) cR (by decide) (by decide) s1 s2)
 .exact fin (.builtin "max") rfl (bU cL hg hm (by decide +kernel) cR (by decide) (by decide) s1 s2)
 .exact fin (.builtin "abs") rfl (bU cL hg hm (by decide +kernel) cR (by decide) (by decide) s1 s2)
 .exact fin (.type "int") rfl (eU cL hg hm (by decide +kernel) cR (by decide) (by decide) s1 s2)
 .exact fin (.builtin "any") rfl (bU cL hg hm (by decide +kernel) cR (by decide) (by decide) s1 s2)
 .exact fin (.type "dict") rfl (eU cL hg hm (by decide +kernel) cR (by decide) (by decide) s1 s2)
 .exact fin (.builtin "sorted") rfl (bU cL hg hm (by decide +kernel) cR (by decide) (by decide) s1 s2)
def Wi(K:Zf)(T:String):List V->Hp->VK->Prop:=λxs H Q=>∃x d,xs=[x,.ty T]/\Rep K H d x/\isExc d=false/\Q (.bl (Ro T d)) H
theorem uE{T:String}(h:kW T=true):T="int"\/T="bool"\/T="tuple"\/T="list"\/T="str":=by
 unfold kW at h
 split at h<;>first | (simp;done) | cases h
theorem v9{x:V}{vs:List V}{us:List Value}(r:Vals (x::vs) us):∃u w,us=u::w/\RelV x u/\Vals vs w:=by
 cases r with
 | cons r rr=>exact⟨_,_,rfl,r,rr⟩
theorem FZ{T:String}(hk:kW T=true):cZ X (.builtin "isinstance") (Wi X.K T):=by
 intro z0 s Y H xs us Q I r h;obtain⟨x,d,rfl,rd,hne,q⟩:=h;obtain⟨u,w1,rfl,rx,rr⟩:=v9 r;obtain⟨c,w2,rfl,rc,rr2⟩:=v9 rr;cases rr2;cases (show c=Value.type T from rc);have fin:∀b,b=Ro T d->∀tk,EP X z0 Y Q (.bool b) {s with toks:=tk}:=λb hb tk=>⟨.bl _,H,I.tok _,by rw[hb];rfl,q⟩;have ks:=uE hk
 cases d with
 | exc c=>exact absurd hne (by simp[isExc])
 | dic _ _=>exact absurd hne (by simp[isExc])
 | obj _=>exact absurd hne (by simp[isExc])
 | non =>
  cases n8 rd;cases (show u=Value.none from rx)
  rcases ks with rfl | rfl | rfl | rfl | rfl<;>exact T3z (b:=false) W.kitx_none I.kIn True.intro rfl (λz=>nomatch z) (fin _ rfl)
 | bl y =>
  cases dH rd;cases (show u=Value.bool y from rx)
  rcases ks with rfl | rfl | rfl | rfl | rfl
  .exact T3z (b:=true) M2z I.kIn True.intro rfl (λz=>nomatch z) (fin _ rfl)
  .exact T3z (b:=true) M2z I.kIn True.intro rfl (λz=>nomatch z) (fin _ rfl)
  .exact T3z (b:=false) M2z I.kIn True.intro rfl (λz=>nomatch z) (fin _ rfl)
  .exact T3z (b:=false) M2z I.kIn True.intro rfl (λz=>nomatch z) (fin _ rfl)
  .exact T3z (b:=false) M2z I.kIn True.intro rfl (λz=>nomatch z) (fin _ rfl)
 | int y =>
  cases aQ rd;obtain⟨t,e⟩:=(show ∃t,u=Value.int y t from rx);cases e;rcases ks with rfl | rfl | rfl | rfl | rfl
  .exact T3z (b:=true) C3z I.kIn True.intro rfl (λz=>nomatch z) (fin _ rfl)
  .exact T3z (b:=false) C3z I.kIn True.intro rfl (λz=>nomatch z) (fin _ rfl)
  .exact T3z (b:=false) C3z I.kIn True.intro rfl (λz=>nomatch z) (fin _ rfl)
  .exact T3z (b:=false) C3z I.kIn True.intro rfl (λz=>nomatch z) (fin _ rfl)
  .exact T3z (b:=false) C3z I.kIn True.intro rfl (λz=>nomatch z) (fin _ rfl)
 | str y =>
  have ev:x=.str y:=by simpa[Rep] using rd
  subst ev;obtain⟨t,e⟩:=(show ∃t,u=Value.str y t from rx);cases e;rcases ks with rfl | rfl | rfl | rfl | rfl
  .exact T3z (b:=false) D3z I.kIn True.intro rfl (λz=>nomatch z) (fin _ rfl)
  .exact T3z (b:=false) D3z I.kIn True.intro rfl (λz=>nomatch z) (fin _ rfl)
  .exact T3z (b:=false) D3z I.kIn True.intro rfl (λz=>nomatch z) (fin _ rfl)
  .exact T3z (b:=false) D3z I.kIn True.intro rfl (λz=>nomatch z) (fin _ rfl)
  .exact T3z (b:=true) D3z I.kIn True.intro rfl (λz=>nomatch z) (fin _ rfl)
 | tup ds =>
  obtain⟨a,vs,rfl,h1,h2⟩:=cB rd;cases (show u=Value.ref a from rx);obtain⟨its,_,o,g1,g2,_⟩:=isT I h1;rcases ks with rfl | rfl | rfl | rfl | rfl
  .exact T3z (b:=false) W1z I.kIn ⟨o,g1,g2⟩ rfl (λz=>nomatch z) (fin _ rfl)
  .exact T3z (b:=false) W1z I.kIn ⟨o,g1,g2⟩ rfl (λz=>nomatch z) (fin _ rfl)
  .exact T3z (b:=true) W1z I.kIn ⟨o,g1,g2⟩ rfl (λz=>nomatch z) (fin _ rfl)
  .exact T3z (b:=false) W1z I.kIn ⟨o,g1,g2⟩ rfl (λz=>nomatch z) (fin _ rfl)
  .exact T3z (b:=false) W1z I.kIn ⟨o,g1,g2⟩ rfl (λz=>nomatch z) (fin _ rfl)
 | lst ds =>
  obtain⟨a,vs,rfl,h1,h2⟩:=cX rd;cases (show u=Value.ref a from rx);obtain⟨its,_,o,g1,g2,_⟩:=isL I h1;rcases ks with rfl | rfl | rfl | rfl | rfl
  .exact T3z (b:=false) N2z I.kIn ⟨o,g1,g2⟩ rfl (λz=>nomatch z) (fin _ rfl)
  .exact T3z (b:=false) N2z I.kIn ⟨o,g1,g2⟩ rfl (λz=>nomatch z) (fin _ rfl)
  .exact T3z (b:=false) N2z I.kIn ⟨o,g1,g2⟩ rfl (λz=>nomatch z) (fin _ rfl)
  .exact T3z (b:=true) N2z I.kIn ⟨o,g1,g2⟩ rfl (λz=>nomatch z) (fin _ rfl)
  .exact T3z (b:=false) N2z I.kIn ⟨o,g1,g2⟩ rfl (λz=>nomatch z) (fin _ rfl)
theorem Qn{x t:Str}{T:String}{a:Expr}{d:D}{p pt pos:Pos}(G:Good cx k X sc)(hx:bZ cx sc x=some "isinstance")(ht:bZ cx sc t=some T)(hk:kW T=true)(ha:Ev X U a d)(hp:aH a=true)(hne:isExc d=false) :
  Ev X U (.Call (.Name x p) [a,.Name t pt] [] pos) (.bl (Ro T d)):=by
 obtain⟨hg,hm,rfl⟩:=cY G hx;obtain⟨hg2,hm2,rfl⟩:=cY G ht
 have htv:PE X (.Name (Str.ofString T) pt) (tC (.ty T)):=by
  rcases uE hk with rfl | rfl | rfl | rfl | rfl<;>exact sH hg2 hm2 (by decide +kernel) rfl
 intro Y H Hs Q hs hst hq;refine(bU (FZ (X:=X) hk) hg hm (by decide +kernel) (aA au (aA htv aO (aq rfl)) (aq hp)) (by decide) (by decide) (aq hp) rfl).sem ?_;exact ha Y H Hs _ hs hst λv H1 Hs1 E1 r1=>⟨v,d,rfl,Rep.same E1.sub d v r1,hne,hq _ H1 Hs1 E1 (by simp[Rep])⟩
def Sv(K:Zf)(cv:V)(C:Addr)(b:Bool):List V->Hp->VK->Prop:=λxs H Q=>∃a,xs=[.ref a,cv]/\H a=some (.ext (isX a (.ref C)))/\Q (.bl b) H
theorem rm{cv:V}{c:Value}{C:Addr}{b:Bool}(hA:nH X.K C=true)(hc:∀u,RelV cv u->u=c)(e:W.kitOne X.K (.ref C) c=some b):cZ X (.builtin "isinstance") (Sv X.K cv C b):=by
 intro z0 s Y H xs us Q I r h;obtain⟨a,rfl,ha,q⟩:=h;obtain⟨u,w1,rfl,rx,rr⟩:=v9 r;obtain⟨u2,w2,rfl,rc,rr2⟩:=v9 rr;cases rr2;cases (show u=Value.ref a from rx);cases hc u2 rc;exact T3z (Er hA) I.kIn (I.hok _ _ ha).1 e (λz=>nomatch z) λtk=>⟨.bl _,H,I.tok _,rfl,q⟩
theorem tK{x c:Str}{t a:Expr}{tv:TE}{cv:V}{cw:Value}{b:Bool}{p pos:Pos}(G:Good cx k X sc)(hx:bZ cx sc x=some "isinstance")(hc:cx.exs.contains c=true)(ht:PE X t (tC cv))(hpt:aH t=true)(hcv:∀u,RelV cv u->u=cw)
  (hk:∀C,W.nsIn X.K mainGlobals c=some (some (.ref C))->W.kitOne X.K (.ref C) cw=some b) (ha:Ev X U a (.exc c)) (hp:aH a=true):Ev X U (.Call (.Name x p) [a,t] [] pos) (.bl b):=by
 obtain⟨hg,hm,rfl⟩:=cY G hx;obtain⟨C,M,e1,_,_,e2,_⟩:=G.exs.cls c hc;intro Y H Hs Q hs hst hq;refine(bU (rm (X:=X) (cv:=cv) e2 hcv (hk C e1)) hg hm (by decide +kernel) (aA au (aA ht aO (aq hpt)) (aq hp)) (by decide) (by decide) (aq hp) (by rw[aq hpt];rfl)).sem ?_;refine ha Y H Hs _ hs hst λv H1 Hs1 E1 r1=>?_;have r2:=Rep.same E1.sub _ v r1;simp only[Rep] at r2;obtain⟨a0,C0,rfl,f1,f2⟩:=r2;rw[e1] at f1;cases f1;exact⟨a0,rfl,f2,hq _ H1 Hs1 E1 (by simp[Rep])⟩
theorem K1{x t c:Str}{a:Expr}{p pt pos:Pos}(G:Good cx k X sc)(hx:bZ cx sc x=some "isinstance")(ht:bZ cx sc t=some "ValueError")(hc:cx.exs.contains c=true)(ha:Ev X U a (.exc c))(hp:aH a=true):Ev X U (.Call (.Name x p) [a,.Name t pt] [] pos) (.bl true):=by
 obtain⟨hg2,hm2,rfl⟩:=cY G ht;refine tK (tv:=tC (.ty "ValueError")) (cv:=.ty "ValueError") (cw:=.type "ValueError") G hx hc (sH hg2 hm2 (by decide +kernel) rfl) rfl (λu r=>r) (λC e=>?_) ha hp;obtain⟨C',M,e1,_,_,_,_,_,e2⟩:=G.exs.cls c hc;rw[e] at e1;cases e1;exact e2
theorem Gg{t:Expr}{c':Str}(h:xOf cx sc t=some c'):∃pt,t=.Name c' pt/\rQ cx sc c'=true/\(cx.exs.contains c'=true\/c'=cx.top)/\(c'==("__debug__":Str))=false:=by
 unfold xOf at h;split at h
 .rename_i y pt
  split at h
  .rename_i q
   cases h;rw[Y2z,Y2z,R3z] at q;have q2:=q.2;unfold aK at q2;rw[Y2z,I5z] at q2;exact⟨pt,rfl,q.1.1,q.1.2.imp id (λz=>by simpa using z),by simpa using q2.1⟩
  .cases h
 .cases h
theorem KZ{x c c':Str}{t a:Expr}{p pos:Pos}(G:Good cx k X sc)(hx:bZ cx sc x=some "isinstance")(ht:xOf cx sc t=some c')(hc:cx.exs.contains c=true)(ha:Ev X U a (.exc c))(hp:aH a=true):Ev X U (.Call (.Name x p) [a,t] [] pos) (.bl (xr cx.top c c')):=by
 obtain⟨pt,rfl,hgl,hin,hd⟩:=Gg ht
 have hg:Gl X c':=by
  have e:sc.names.lookup c'=some .globalImplicit:=by unfold rQ at hgl;simpa using hgl
  show X.env.scope.names.lookup c'=_;rw[G.sce,e]
 by_cases htop:c'=cx.top
 .subst htop
  obtain⟨C,M,e1,e2,_,_,_,e3,_⟩:=G.exs.cls c hc
  have:xr cx.top c cx.top=true:=by unfold xr;simp
  rw[this];refine tK (tv:=tC (.ref M)) (cv:=.ref M) (cw:=.ref M) G hx hc (lG hg (G.exs.glob _ _ e2) rfl hd) rfl (λu r=>r) (λC' e=>?_) ha hp;rw[e] at e1;cases e1;exact e3
 .have hin':cx.exs.contains c'=true:=hin.resolve_right htop
  obtain⟨C,C',e1,e2,e3⟩:=G.exs.sub c c' hc hin'
  have:xr cx.top c c'=(c==c'):=by
   unfold xr
   have:(c'==cx.top)=false:=by simpa using htop
   rw[this,Bool.or_false]
  rw[this];refine tK (tv:=tC (.ref C')) (cv:=.ref C') (cw:=.ref C') G hx hc (lG hg (G.exs.glob _ _ e2) rfl hd) rfl (λu r=>r) (λC'' e=>?_) ha hp;rw[e] at e1;cases e1;exact e3
end
section
variable{X:Cx}{U:Rho}{cx:Cxt}{k:Nat}{sc:Scope}
theorem xJ:∀{vs:List V}{us:List Value},vs.length=us.length->(∀(i:Nat)(v:V)(u:Value),vs[i]?=some v->us[i]?=some u->RelV v u)->Vals vs us
 | [],[],_,_=>.nil
 | [],u::us,h,_=>by simp at h
 | v::vs,[],h,_=>by simp at h
 | v::vs,u::us,h,hr=>.cons (hr 0 v u rfl rfl) (xJ (by simpa using h) λi a b e1 e2=>hr (i+1) a b (by simpa using e1) (by simpa using e2))
theorem uM{α:Type}{K:Zf}{H:Hp}{f:α->D}{g:α->V}(h:∀x,Rep K H (f x) (g x)):∀l:List α,aJ K H (l.map f) (l.map g)
 | []=>.nil
 | x::r=>.cons (h x) (uM h r)
theorem Gx{i:Int}(h:pZ i=true):-(2^62)<=i/\i<2^62:=by
 unfold pZ at h;rw[Y2z,J2z,J2z] at h;exact h
theorem Ec{wr:List Addr}{s s':Shared}(m:Moved wr (λa b=>b=a) s s'):s'={s with heap:=s'.heap,toks:=s'.toks}:=by
 have h1:=m.gens;have h2:=m.drawn;have h3:=m.os;cases s;cases s';simp at h1 h2 h3;subst h1 h2 h3;rfl
theorem KQ{x y:Str}{a:Expr}{xs:List D}{p q q' pos:Pos}(G:Good cx k X sc)(hx:bZ cx sc x=some "tuple")(hy:bZ cx sc y=some "reversed")(ha:Ev X U a (.tup xs))(hp:aH a=true) :
  Ev X U (.Call (.Name x p) [.Call (.Name y q) [a] [] q'] [] pos) (.tup xs.reverse):=by
 obtain⟨hg,hm,rfl⟩:=cY G hx;obtain⟨hg2,hm2,rfl⟩:=cY G hy;intro Y H Hs Q hs hst hq z0 s I;refine Call_ (jO I hg hm (show bootBuiltins "tuple"=some (.type "tuple") by decide +kernel) (A0z ?_ rfl rfl));show wpAny _ _ (spliced [(false,eval (.Call (.Name _ q) [a] [] q') X.env)]) _ _ _;refine N1z ?_;refine Call_ (jO I hg2 hm2 boot_reversed (A0z ?_ (aq hp) rfl))
 refine thn ((aA au aO (aq hp)) q' z0 s Y H (λvs H1=>∃Hs1 b ws,vs=[.ref b]/\SqT X.K Hs1 b ws/\aJ X.K Hs1 xs ws/\Ext Hs H Hs1 H1) I (ha Y H Hs _ hs hst λv H1 Hs1 E1 r1=>by
  obtain⟨b,ws,rfl,h1,h2⟩:=cB r1
  exact⟨Hs1,b,ws,rfl,h1,h2,E1⟩)) λus s1 ⟨vs,H1,I1,r1,Hs1,b,ws,e1,t1,r2,E1⟩=>?_
 subst e1;obtain⟨u,w1,rfl,rx,rr⟩:=v9 r1;cases rr;cases (show u=Value.ref b from rx);obtain⟨its,rv,pt,hz⟩:=I1.tuple (E1.sub.tup t1);have hl:=rv.length;refine qX pt (by simp;omega) λtk=>C2z ?_;have st:dY (s1.heap.push (Dh b ((its.toArray.size:Int)-1))) s1.heap.objs.size b ((its.toArray.size:Int)-1):=Heap.get?_push_size _ rfl;have I2:Inv X z0 Y H1 {s1 with heap:=s1.heap.push (Dh b ((its.toArray.size:Int)-1)),toks:=tk}:=I1.kept (t':=tk) λb o e=>Heap.get?_push_of_some _ e;have hfr:H1 s1.heap.objs.size=none:=I1.hok.fresh (X4z _);obtain⟨f0,f1,f2,f3,f4,f5⟩:=I1.fpOk (X4z _) hfr
 have pt2:IsTup (s1.heap.push (Dh b ((its.toArray.size:Int)-1))) b its.toArray:=by
  obtain⟨o,e1,e2⟩:=pt;exact⟨o,Heap.get?_push_of_some _ e1,e2⟩
 refine mj (I1.ok.hd G.calm) (s:={s1 with heap:=s1.heap.push (Dh b ((its.toArray.size:Int)-1)),toks:=tk}) st pt2 (by simp;omega) λs' acc hm hacc=>?_
 have I3:Inv X z0 Y H1 s':=by
  rw[Ec hm];exact I2.turned (λc o hc e=>hm.heap c o (by simpa using hc) e) f0 f1 f3 f4 f5
 have hv:Vals ws.reverse acc.toList:=by
  have ha:acc.toList.length=its.length:=by
   have:=hacc.1;simpa using this
  refine xJ (by rw[F1z,ha];exact hl) λi v u e1 e2=>?_
  have e3:=hacc.2 i u (by simpa using e2);rw[D2z,List.getElem?_toArray] at e3
  have hi:i<ws.length:=by have:=(List.getElem?_eq_some_iff.mp e1).1;simpa using this
  rw[List.getElem?_reverse hi] at e1;obtain⟨u',e4,e5⟩:=rv.get e1;rw[hl] at e4;rw[e3] at e4;cases e4;exact e5
 have hz2:ws.reverse.length<=sizeLine:=by simpa using hz
 have I4:Inv X z0 Y (upd H1 s'.heap.objs.size (.tup ws.reverse)) {s' with heap:=s'.heap.push {cls:=.type "tuple",data:=.seq acc} } :=
  I3.laid (t':=s'.toks) (λb o e=>Heap.get?_push_of_some _ e) (X4z _) (show cQ X.prog X.w _ _ _ (.tup ws.reverse) from⟨hz2,acc.toList,hv,by simpa using IsTup.new s'.heap acc⟩)
 exact⟨.ref s'.heap.objs.size,_,I4,rfl,fX E1.sub r2.reverse (I3.hok.fresh (X4z _)) λw H' Hs' E2 r2=>hq w H' Hs' (E1.trans E2) r2⟩
variable{tg iter a b:Expr}
theorem K9{d:D}{l:List D}(h:Ev X U iter d)(hl:items d=some l):EvI X U tg iter l:=by
 intro Y H Hs R hs hst hq
 cases d with
 | lst xs =>
  simp only[items,K2z] at hl;subst hl
  refine(yX (tg:=tg) au).sem (h Y H Hs _ hs hst λv H1 Hs1 E1 r1=>?_);obtain⟨p,vs,rfl,h1,h2⟩:=cX r1;refine⟨p,rfl,⟨vs,E1.sub.seq h1⟩,hq _ H1 Hs1 E1 λHs' H' e1 e2=>⟨⟨vs,e2.seq (e1.seq h1),by rw[h2.length];exact X4z _⟩,λi d hd=>?_⟩⟩;obtain⟨v,g1,g2⟩:=h2.get hd;refine⟨⟨vs,v,e2.seq (e1.seq h1),g1⟩,λx H2 y=>?_⟩;obtain⟨rfl,y⟩:=y;have:=y vs (e2.seq (e1.seq h1));rw[g1] at this;cases this;exact⟨Hs',.refl e2,Rep.same e1 d v g2⟩
 | tup xs =>
  simp only[items,K2z] at hl;subst hl
  refine(Oh (tg:=tg) au).sem (h Y H Hs _ hs hst λv H1 Hs1 E1 r1=>?_);obtain⟨p,vs,rfl,h1,h2⟩:=cB r1;refine⟨p,rfl,⟨vs,E1.sub.tup h1⟩,hq _ H1 Hs1 E1 λHs' H' e1 e2=>⟨⟨vs,e2.tup (e1.tup h1),by rw[h2.length];exact X4z _⟩,λi d hd=>?_⟩⟩;obtain⟨v,g1,g2⟩:=h2.get hd;refine⟨⟨vs,v,e2.tup (e1.tup h1),g1⟩,λx H2 y=>?_⟩;obtain⟨rfl,y⟩:=y;have:=y vs (e2.tup (e1.tup h1));rw[g1] at this;cases this;exact⟨Hs',.refl e2,Rep.same e1 d v g2⟩
 | _=>simp[items] at hl
theorem K8{d:D}{l:List D}(kw:KnW X.K X.w)(h:Ev X U iter d)(hl:mY d=some l):EvI X U tg iter l:=by
 cases d with
 | dic ks ds =>
  cases hl;intro Y H Hs R hs hst hq;refine(JC (tg:=tg) kw au).sem (h Y H Hs _ hs hst λv H1 Hs1 E1 r1=>?_);obtain⟨a,kvs,rfl,g1,g2,g3⟩:=r1;obtain⟨o,ho⟩:=g1.obj;have up:∀{H1 H2:Hp},Same H1 H2->Mj X.K H1 a kvs o->Mj X.K H2 a kvs o:=λe r=>r.elim (λq=>.inl (e _ _ q)) .inr;refine⟨a,kvs,o,rfl,up E1.sub ho,hq _ H1 Hs1 E1 λHs' H' e1 e2=>⟨⟨up e2 (up e1 ho),by rw[I3z,<- g2,I3z]⟩,λi d hd=>?_⟩⟩;rw[<- g2,V4z,List.getElem?_map] at hd;obtain⟨q,h1,rfl⟩:=O0z.mp hd;have hi:i<kvs.length:=(List.getElem?_eq_some_iff.mp h1).1;refine⟨⟨up e2 (up e1 ho),hi⟩,λy H2 hy=>?_⟩;obtain⟨rfl,k,v,h2,rfl⟩:=hy;rw[h1] at h2;cases h2;refine⟨Hs',.refl e2,?_⟩
  cases k with
  | inl n=>simp[Rep,kD,kV]
  | inr n=>simp[Rep,kD,kV]
 | str x =>
  simp only[mY] at hl;split at hl
  .rename_i ha
   cases hl;intro Y H Hs R hs hst hq;refine(Oi (tg:=tg) au).sem (h Y H Hs _ hs hst λv H1 Hs1 E1 r1=>?_)
   have e:v=.str x:=by simpa[Rep] using r1
   subst e;refine⟨x,rfl,ha,hq _ H1 Hs1 E1 λHs' H' e1 e2=>⟨?_,λi d hd=>?_⟩⟩
   .show x.cps.size<=_
    simp
   .rw[List.getElem?_map] at hd
    obtain⟨c,h1,rfl⟩:=O0z.mp hd
    have hi:i<x.cps.size:=by
     have:=(List.getElem?_eq_some_iff.mp h1).1;simpa using this
    refine⟨hi,λy H2 hy=>?_⟩;obtain⟨rfl,c',h2,rfl⟩:=hy
    have:c'=c:=by
     rw[<- Array.getElem?_toList] at h2;rw[h1] at h2;cases h2;rfl
    subst this;exact⟨Hs',.refl e2,by simp[Rep]⟩
  .cases hl
 | _=>exact K9 h hl
theorem sZ{K:Zf}{Hs0:Hp}{lo hi:Int}{n:Nat}(hn:n=(hi-lo).toNat):Mh K (Itr lo n) Hs0 (gY lo hi):=by
 have hl:(gY lo hi).length=n:=by rw[hn];simp[gY]
 intro Hs H e1 e2;refine⟨by show n<=_;rw[hl];exact X4z _,λi d hd=>?_⟩
 have hi:i<n:=by have:=(List.getElem?_eq_some_iff.mp hd).1;rw[hl] at this;exact this
 refine⟨hi,λx H' y=>?_⟩;obtain⟨rfl,rfl⟩:=y;refine⟨Hs,.refl e2,?_⟩;unfold gY at hd;rw[List.getElem?_map] at hd;obtain⟨j,e3,rfl⟩:=O0z.mp hd;rw[List.getElem?_eq_some_iff] at e3;obtain⟨_,e3⟩:=e3;rw[List.getElem_range] at e3;subst e3;simp[Rep]
theorem wN{x:Str}{j:Int}{p pos:Pos}(G:Good cx k X sc)(hx:bZ cx sc x=some "range")(ha:Ev X U a (.int j))(hp:aH a=true)(hj:pZ j=true):EvI X U tg (.Call (.Name x p) [a] [] pos) (gY 0 j):=by
 obtain⟨hg,hm,rfl⟩:=cY G hx;intro Y H Hs R hs hst hq;have q:=yW (tg:=tg) (p:=p) (pos:=pos) hg hm (aA (au (X:=X) (e:=a)) aO (aq hp)) (aq hp);refine PI.sem q (ha Y H Hs _ hs hst λv H1 Hs1 E1 r1=>?_);exact⟨j,by rw[aQ r1],(Gx hj).1,(Gx hj).2,hq _ H1 Hs1 E1 (sZ (by simp))⟩
theorem La{x:Str}{xs:List D}{p pos:Pos}(G:Good cx k X sc)(hx:bZ cx sc x=some "reversed")(ha:Ev X U a (.tup xs))(hp:aH a=true):EvI X U tg (.Call (.Name x p) [a] [] pos) xs.reverse:=by
 obtain⟨hg,hm,rfl⟩:=cY G hx;intro Y H Hs R hs hst hq;have q:=Oj (tg:=tg) (p:=p) (pos:=pos) hg hm (aA (au (X:=X) (e:=a)) aO (aq hp)) (aq hp);refine PI.sem q (ha Y H Hs _ hs hst λv H1 Hs1 E1 r1=>?_);obtain⟨b,vs,rfl,h1,h2⟩:=cB r1;have hl:=h2.length;refine⟨b,vs,rfl,E1.sub.tup h1,hq _ H1 Hs1 E1 λHs' H' e1 e2=>⟨by show _=_;rw[F1z,hl],λi d hd=>?_⟩⟩
 have hi:i<xs.length:=by have:=(List.getElem?_eq_some_iff.mp hd).1;simpa using this
 rw[List.getElem?_reverse hi] at hd;obtain⟨v,g1,g2⟩:=h2.get hd;rw[hl] at g1;refine⟨⟨vs,e2.tup (e1.tup h1),rfl,by rw[<- hl];exact hi⟩,λx H2 y=>?_⟩;obtain⟨rfl,y⟩:=y;have:=y vs (e2.tup (e1.tup h1));rw[g1] at this;cases this;exact⟨Hs',.refl e2,Rep.same e1 d v g2⟩
theorem K7{x:Str}{xs ys:List D}{p pos pt:Pos}{es:List Expr}{kt:Nat}(G:Good cx k X sc)(hx:bZ cx sc x=some "zip")(ha:Ev X U a (.tup xs))(hp:aH a=true)(hb:Ev X U b (.tup ys))(hpb:aH b=true) :
  EvI X U (.Tuple es kt pt) (.Call (.Name x p) [a,b] [] pos) ((xs.zip ys).map λq=>.tup [q.1,q.2]):=by
 obtain⟨hg,hm,rfl⟩:=cY G hx;intro Y H Hs R hs hst hq;have q:=Og (es:=es) (kt:=kt) (pt:=pt) (p:=p) (pos:=pos) hg hm (aA (au (X:=X) (e:=a)) (aA (au (X:=X) (e:=b)) aO (aq hpb)) (aq hp)) (by rw[aq hp,aq hpb];rfl) (aq hpb);refine PI.sem q (ha Y H Hs _ hs hst λv H1 Hs1 E1 r1=>hb Y H1 Hs1 _ E1.sub (hst.same E1.vis) λv' H2 Hs2 E2 r2=>?_);obtain⟨c,vs,rfl,h1,h2⟩:=cB (Rep.same E2.vis _ _ r1);obtain⟨d,us,rfl,h3,h4⟩:=cB r2;have l1:=h2.length;have l2:=h4.length;refine⟨c,d,rfl,⟨vs,E2.sub.tup h1⟩,⟨us,E2.sub.tup h3⟩,hq _ H2 Hs2 (E1.trans E2) λHs' H' e1 e2=>⟨⟨vs,us,e2.tup (e1.tup h1),e2.tup (e1.tup h3),?_⟩,λi z hz=>?_⟩⟩
 .rw[I3z,U3z]
  omega
 .rw[List.getElem?_map] at hz
  obtain⟨⟨x1,y1⟩,e3,rfl⟩:=O0z.mp hz;rw[List.getElem?_zip_eq_some] at e3;obtain⟨v1,g1,g2⟩:=h2.get e3.1;obtain⟨v2,g3,g4⟩:=h4.get e3.2;refine⟨⟨vs,us,v1,v2,e2.tup (e1.tup h1),e2.tup (e1.tup h3),g1,g3⟩,λw H3 y=>?_⟩;obtain⟨p,hp',rfl,y⟩:=y;rw[y vs us v1 v2 (e2.tup (e1.tup h1)) (e2.tup (e1.tup h3)) g1 g3];refine⟨_,Ext.new e2 (.tup [v1,v2]) hp',?_⟩;have sm:=(Ext.new e2 (.tup [v1,v2]) hp').vis;simp only[Rep];exact⟨p,[v1,v2],rfl,.of aB,.cons (Rep.same sm _ _ (Rep.same e1 _ _ g2)) (.cons (Rep.same sm _ _ (Rep.same e1 _ _ g4)) .nil)⟩
end
theorem bw{α β:Type}{x:Option α}{f:α->Option β}{y:β}(h:(x >>=f)=some y):∃a,x=some a/\f a=some y:=by
 cases x with
 | none=>cases h
 | some a=>exact⟨a,rfl,h⟩
def Hl(X:Cx)(tg:Expr):TG:=λv Y H Q=>∀z0 s u,Inv X z0 Y H s->RelV v u->wpAny (model X.prog X.w) X.A (assign tg X.env u) (λ_ s'=>∃Y' H',Inv X z0 Y' H' s'/\Q Y' H') X.xe s
def Kv(X:Cx)(es:List Expr):TGs:=λvs Y H Q=>∀z0 s us,Inv X z0 Y H s->Vals vs us->wpAny (model X.prog X.w) X.A (assignInOrder ((assignEach es X.env).map (·.2)) us) (λ_ s'=>∃Y' H',Inv X z0 Y' H' s'/\Q Y' H') X.xe s
section
variable{X:Cx}{tg:Expr}{es:List Expr}
theorem lE:PG X tg (Hl X tg):=λz0 s Y H v u Q I r h=>h z0 s u I r
theorem PG.sem{t:TG}{v:V}{Y:St}{H:Hp}{Q:St->Hp->Prop}(h:PG X tg t)(q:t v Y H Q):Hl X tg v Y H Q:=λz0 s u I r=>h z0 s Y H v u Q I r q
theorem sE:PGs X es (Kv X es):=λz0 s Y H v u Q I r h=>h z0 s u I r
theorem PGs.sem{t:TGs}{v:List V}{Y:St}{H:Hp}{Q:St->Hp->Prop}(h:PGs X es t)(q:t v Y H Q):Kv X es v Y H Q:=λz0 s u I r=>h z0 s Y H v u Q I r q
end
theorem aX:∀(U:Rho)(x:Str)(v:Sl),(gQ U x v).map (·.1)=U.map (·.1)
 | [],_,_=>rfl
 | (y,s)::r,x,v=>by
  unfold gQ;split
  .rfl
  .simp[aX r x v]
theorem cu:∀{U:Rho}{x:Str}{v:Sl}{i:Nat},(U.map (·.1)).Nodup->(U.map (·.1))[i]?=some x->∀j:Nat,(gQ U x v)[j]?=if j=i then some (x,v) else U[j]?
 | [],x,v,i,_,h,_=>by simp at h
 | (y,s)::r,x,v,0,hn,h,j=>by
  simp at h;subst h
  cases j with
  | zero=>simp[gQ]
  | succ j=>simp[gQ]
 | (y,s)::r,x,v,i+1,hn,h,j=>by
  rw[E4z,L3z] at hn
  have h':(r.map (·.1))[i]?=some x:=by simpa using h
  have hne:(x==y)=false:=by
   rw[E1z];intro e;subst e;exact hn.1 (List.mem_of_getElem? h')
  simp only[gQ,hne,S1z,M5z]
  cases j with
  | zero=>simp
  | succ j =>
   have:=cu (v:=v) hn.2 h' j;simp only[List.getElem?_cons_succ,this,Nat.add_right_cancel_iff]
theorem dW{l:List Str}{x:Str}(h:l.contains x=true):∃i:Nat,l[i]?=some x:=by
 have:=List.mem_of_elem_eq_true h;exact List.mem_iff_getElem?.mp this
structure Owns(X:Cx)(scope:Scope):Prop where
 own:∀x,ownIn scope x=true->Loc X.env.scope x/\(X.fn x=true\/X.env.scope.names.lookup x=some .local)
def nG(K:Zf)(Hs:Hp)(scope:Scope)(P:Rho->St->Prop):Prop:=∀U Y (i:Nat) x d v,(U.map (·.1)).Nodup->(U.map (·.1))[i]?=some x->ownIn scope x=true->P U Y->Rep K Hs d v->P (gQ U x (.sh d)) (Y.set i (some v))
section
variable{X:Cx}{scope:Scope}{Hs H:Hp}{P:Rho->St->Prop}{Q:St->Hp->Prop}
theorem rC{x:Str}{pos:Pos}{U U':Rho}{Y:St}{d:D}{v:V}(hO:Owns X scope)(hnd:X.N.Nodup)(hN:X.N=U.map (·.1))(KE:nG X.K Hs scope P)(hb:(if ownIn scope x&&(U.map (·.1)).contains x then some (gQ U x (.sh d)) else none)=some U')(hp:P U Y)(rd:Rep X.K Hs d v)
  (hq:∀Y',X.N=U'.map (·.1)->P U' Y'->Q Y' H):Hl X (.Name x pos) v Y H Q:=by
 split at hb
 .rename_i hc
  cases hb;rw[Y2z] at hc;obtain⟨i,hi⟩:=dW hc.2;obtain⟨h1,h2⟩:=hO.own x hc.1;exact PG.sem (JF (i:=i) hnd (by rw[hN];exact hi) h1 h2) (hq _ (by rw[aX];exact hN) (KE U Y i x d v (by rw[<- hN];exact hnd) hi hc.1 hp rd))
 .cases hb
theorem gG{env:Env}:∀{es:List Expr}{ds:List D}{U U':Rho},bindNames scope es ds U=some U'->(assignEach es env).length=es.length/\(assignEach es env).findIdx? (·.1)=none/\es.length=ds.length
 | [],[],_,_,_=>⟨rfl,rfl,rfl⟩
 | [],d::ds,U,U',h=>by simp[bindNames] at h
 | e::es,[],U,U',h=>by cases e<;>simp[bindNames] at h
 | e::es,d::ds,U,U',h=>by
  cases e<;>try (simp[bindNames] at h;done)
  rename_i x pos;simp only[bindNames] at h;split at h
  .obtain⟨h1,h2,h3⟩:=gG (env:=env) h
   refine⟨by show(assignEach es env).length+1=_;rw[h1];rfl,?_,by simp[h3]⟩
   show((false,assign (.Name x pos) env)::assignEach es env).findIdx? (·.1)=none;rw[List.findIdx?_cons];simp only[S1z,M5z,h2];rfl
  .cases h
theorem jG(hO:Owns X scope)(hnd:X.N.Nodup)(KE:nG X.K Hs scope P):∀{es:List Expr}{ds:List D}{vs:List V}{U U':Rho}{Y:St},X.N=U.map (·.1)->bindNames scope es ds U=some U'->P U Y->aJ X.K Hs ds vs->(∀Y',X.N=U'.map (·.1)->P U' Y'->Q Y' H)->Kv X es vs Y H Q
 | [],[],vs,U,U',Y,hN,h,hp,rd,hq=>by
  simp only[bindNames,K2z] at h;subst h;simp only[aJ] at rd;exact PGs.sem JD ⟨rd,hq _ hN hp⟩
 | [],d::ds,vs,U,U',Y,hN,h,hp,rd,hq=>by simp[bindNames] at h
 | e::es,[],vs,U,U',Y,hN,h,hp,rd,hq=>by cases e<;>simp[bindNames] at h
 | e::es,d::ds,vs,U,U',Y,hN,h,hp,rd,hq=>by
  cases e<;>try (simp[bindNames] at h;done)
  rename_i x pos;simp only[bindNames] at h;split at h
  .rename_i hc
   simp only[aJ] at rd;obtain⟨v,r,rfl,r1,r2⟩:=rd;refine PGs.sem (Dm lE sE) ⟨v,r,rfl,?_⟩;exact rC hO hnd hN KE (U':=gQ U x (.sh d)) (by rw[P5z hc]) hp r1 λY' hN' hp'=>jG hO hnd KE hN' h hp' r2 hq
  .cases h
theorem uo{tg:Expr}{U U':Rho}{Y:St}{d:D}{v:V}(hc:X.calm=true)(hO:Owns X scope)(hnd:X.N.Nodup)(hs:Same Hs H)(hN:X.N=U.map (·.1))(KE:nG X.K Hs scope P)(hb:fH scope tg d U=some U')(hp:P U Y)(rd:Rep X.K Hs d v)
  (hq:∀Y',X.N=U'.map (·.1)->P U' Y'->Q Y' H):Hl X tg v Y H Q:=by
 unfold fH at hb;split at hb
 .exact rC hO hnd hN KE hb hp rd hq
 .rename_i es k pos ds
  obtain⟨a,vs,rfl,h1,h2⟩:=cB rd;obtain⟨e1,e2,e3⟩:=gG (env:=X.env) hb;exact PG.sem (G3 hc sE e1 e2) ⟨a,vs,rfl,hs.tup h1,by rw[<- h2.length,e3],jG hO hnd KE hN hb hp h2 hq⟩
 .cases hb
end
section
variable{X Xc:Cx}{scope sc:Scope}{cx:Cxt}{k:Nat}{U:Rho}
theorem fW:∀{l:List Str},lH l=true->l.Nodup
 | [],_=>.nil
 | x::r,h=>by
  unfold lH at h;rw[Y2z] at h;refine L3z.mpr ⟨λhm=>?_,fW h.2⟩
  have:r.contains x=true:=by simpa using hm
  rw[this] at h;exact absurd h.1 (by decide)
theorem gn(G:Good cx k X sc)(h:jl sc scope=true):scope.kind=.function/\(scope.names.map (·.1)).Nodup/\∀x,(x,NameKind.free)∈scope.names->X.env.kindOf x=some .cell\/X.env.kindOf x=some .free:=by
 unfold jl at h;rw[Y2z,Y2z] at h;refine⟨by simpa using h.1.1,fW h.1.2,λx hx=>?_⟩;have:=E3z.mp h.2 _ hx;show X.env.scope.names.lookup x=_\/X.env.scope.names.lookup x=_;rw[G.sce];simpa using this
theorem Oa(G:Good cx k X sc):relabel scope X.env=qg scope sc:=by
 unfold relabel qg Env.kindOf;rw[G.sce]
theorem Good.comp(G:Good cx k X sc)(C:CompOf X scope Xc)(h:jl sc scope=true):Good cx k Xc (qg scope sc) where
 calm:=C.calm
 room:=by rw[C.A];exact G.room
 sce:=by rw[C.sc,Oa G]
 kind:=(gn G h).1
 nd:=by rw[C.N];exact(gn G h).2.1
 cst:=by rw[C.mg,C.K];exact G.cst
 blt:=by rw[C.mg];exact G.blt
 exs:=by rw[C.mg,C.K];exact G.exs
 fns:=by rw[C.mg,C.prog,C.w,C.K,C.base];exact G.fns
 kw:=by rw[C.K,C.w];exact G.kw
theorem Owns.comp(G:Good cx k X sc)(C:CompOf X scope Xc):Owns Xc scope where
 own:=λx hx=>by
  unfold ownIn at hx;rw[R3z] at hx
  have look:∀kd,scope.names.lookup x=some kd->kd≠.free->Xc.env.scope.names.lookup x=some kd:=λkd e hne=>by
   rw[C.sc];show(scope.names.map _).lookup x=_;rw[eG,e];simp[hne]
  rcases hx with hx | hx
  .have e:scope.names.lookup x=some .local:=by simpa using hx
   have e2:=look _ e (by decide);exact⟨.inl e2,.inr e2⟩
  .have e:scope.names.lookup x=some .cell:=by simpa using hx
   have e2:=look _ e (by decide);refine⟨.inr e2,.inl ?_⟩;rw[C.fn];show(scope.names.lookup x==some .cell)=true;rw[e];rfl
theorem jk:(cI scope U).map (·.1)=scope.names.map (·.1):=by
 unfold cI;rw[V4z];rfl
theorem ud{K:Zf}{Hs:Hp}{Y:St}{N:List Str}(hN:N=U.map (·.1))(h:bJ K Hs U Y):bJ K Hs (cI scope U) (zK N scope.names Y):=by
 intro i x d e;unfold cI at e;rw[List.getElem?_map] at e;obtain⟨p,e1,e2⟩:=O0z.mp e
 cases hk:p.2==NameKind.free with
 | false=>rw[hk] at e2;simp at e2
 | true =>
  rw[hk] at e2;simp only[O5z,Prod.mk.injEq] at e2;obtain⟨rfl,e2⟩:=e2
  have e3:U.lookup p.1=some (.sh d):=by
   cases q:U.lookup p.1 with
   | none=>rw[q] at e2;simp[Mt] at e2
   | some sl =>
    rw[q] at e2
    cases sl<;>simp[Mt] at e2
    rw[e2]
  obtain⟨j,g1,g2⟩:=eV e3;obtain⟨v,g3,g4⟩:=h j _ d g1;refine⟨v,?_,g4⟩;unfold zK;rw[List.getElem?_map,e1];simp only[M3z,hk,O5z];unfold uJ;rw[hN,g2];simp[g3]
def CSt(K:Zf)(Hs:Hp)(n:Nat)(U0:Rho):Rho->St->Prop:=λU Y=>Y.length=n/\bJ K Hs U Y/\bJ K Hs U0 Y
theorem qd{K:Zf}{Hs:Hp}{U:Rho}{Y:St}{i:Nat}{x:Str}{d:D}{v:V}(hn:(U.map (·.1)).Nodup)(hi:(U.map (·.1))[i]?=some x)(hl:i<Y.length)(h:bJ K Hs U Y)(r:Rep K Hs d v):bJ K Hs (gQ U x (.sh d)) (Y.set i (some v)):=by
 intro j y d' e;rw[cu hn hi j] at e;split at e
 .rename_i hj
  subst hj;cases e;exact⟨v,by rw[List.getElem?_set_self hl],r⟩
 .rename_i hj
  obtain⟨w,h1,h2⟩:=h j y d' e;exact⟨w,by rw[List.getElem?_set_ne (λz=>hj z.symm)];exact h1,h2⟩
theorem wJ{K:Zf}{Hs:Hp}{n:Nat}(hnd:(scope.names.map (·.1)).Nodup)(hn:n=scope.names.length):nG K Hs scope (λU1 Y=>U1.map (·.1)=scope.names.map (·.1)/\CSt K Hs n (cI scope U) U1 Y):=by
 intro U1 Y i x d v h1 h2 h3 ⟨h4,h5,h6,h7⟩ r;refine⟨by rw[aX];exact h4,by rw[V3z];exact h5,?_,?_⟩
 .have hi:i<Y.length:=by
   rw[h5,hn];have:=(List.getElem?_eq_some_iff.mp h2).1;rw[h4] at this;simpa using this
  exact qd h1 h2 hi h6 r
 .intro j y d' e
  obtain⟨w,g1,g2⟩:=h7 j y d' e;refine⟨w,?_,g2⟩
  have hj:i≠j:=by
   intro z;subst z;rw[h4] at h2;unfold cI at e;rw[List.getElem?_map] at e;rw[List.getElem?_map] at h2;obtain⟨p,e1,e2⟩:=O0z.mp e;rw[e1] at h2
   have ex:p.1=x:=by simpa using h2
   cases hk:p.2==NameKind.free with
   | false=>rw[hk] at e2;simp at e2
   | true =>
    have ek:p.2=.free:=by simpa using hk
    have hm:=List.mem_of_getElem? e1;have:=cG (c:=p.2) hnd (by rw[show p=(x,p.2) from by rw[<- ex]] at hm;exact hm);unfold ownIn at h3;rw[this,ek] at h3;exact absurd h3 (by decide)
  rw[List.getElem?_set_ne hj];exact g1
def Ac(X:Cx)(ifs:List Expr):TT:=λY H Q=>∀z0 s,Inv X z0 Y H s->wpAny (model X.prog X.w) X.A (forIn ifs true λc r=>if r=true then do let ok <- isTrue c X.env (eval c X.env);pure (ForInStep.yield ok) else pure (ForInStep.yield r)) (TP X z0 Y Q) X.xe s
theorem uQ{ifs:List Expr}:Gd X ifs (Ac X ifs):=λz0 s Y H Q I h=>h z0 s I
theorem Gd.sem{ifs:List Expr}{t:TT}{Y:St}{H:Hp}{Q:Bool->Hp->Prop}(h:Gd X ifs t)(q:t Y H Q):Ac X ifs Y H Q:=λz0 s I=>h z0 s Y H Q I q
theorem Ext.acc{Hs H Hs' H':Hp}{acc:Addr}{o:HO}(E:Ext Hs H Hs' H')(h:H acc=none)(h':Hs' acc=none):Ext Hs H Hs' (upd H' acc o) where
 vis:=E.vis
 all:=λb u e=>by rw[aj (ak e h)];exact E.all b u e
 sub:=λb u e=>by rw[aj (ak e h')];exact E.sub b u e
 hid:=E.hid
theorem uf{f:D->Option (Option D)}{d:D}{r out:List D}(h:bR f (d::r)=some out):(∃v o',f d=some (some v)/\bR f r=some o'/\out=v::o')\/(f d=some none/\bR f r=some out):=by
 simp only[bR,bind,Option.bind] at h
 cases hf:f d with
 | none=>rw[hf] at h;cases h
 | some o =>
  rw[hf] at h
  cases o with
  | none=>exact .inr ⟨rfl,h⟩
  | some v =>
   simp only[O0z] at h;obtain⟨o',h1,rfl⟩:=h;exact .inl ⟨v,o',rfl,h1,rfl⟩
def ug(E:Rho->Expr->Option D)(scope:Scope)(U:Rho)(tg elt:Expr)(ifs:List Expr):D->Option (Option D):=λd=>do
 let U1 <- fH scope tg d (cI scope U)
 let b <- mJ (E U1) ifs
 if b then(E U1 elt).map some else some none
abbrev QB(cx:Cxt)(n:Nat)(sc scope:Scope)(U:Rho)(tg elt:Expr)(ifs:List Expr):D->Option (Option D):=ug (ev cx n (qg scope sc)) scope U tg elt ifs
def QW(Hs0 H0:Hp)(X:Cx)(U:Rho)(e:Expr)(d:D):Prop:=∀Y H Hs Q,Ext Hs0 H0 Hs H->bJ X.K Hs U Y->(∀v H' Hs',Ext Hs H Hs' H'->Rep X.K Hs' d v->Q v H')->jy X e Y H Q
def Mi(Hs0 H0:Hp)(X:Cx)(U:Rho)(e:Expr)(b:Bool):Prop:=∀Y H Hs Q,Ext Hs0 H0 Hs H->bJ X.K Hs U Y->(∀H' Hs',Ext Hs H Hs' H'->Q b H')->nM X e Y H Q
theorem Qo{f:Expr->Option D}{ifs:List Expr}{b:Bool}{Hs0 H0:Hp}(hf:∀e,e∈ifs->∀d,f e=some d->QW Hs0 H0 X U e d/\∀b,d=.bl b->Mi Hs0 H0 X U e b)(h:mJ f ifs=some b){Y:St}{H Hs:Hp}{Q:Bool->Hp->Prop}(hs:Ext Hs0 H0 Hs H)(hst:bJ X.K Hs U Y)(hq:∀H' Hs',Ext Hs H Hs' H'->Q b H'):Ac X ifs Y H Q:=by
 unfold mJ at h;split at h
 .cases h
  exact Gd.sem Dl (hq H Hs (.refl hs.sub))
 .rename_i c
  cases hc:f c with
  | none=>rw[hc] at h;cases h
  | some d =>
   rw[hc] at h
   cases d<;>simp[asB] at h
   subst h;exact Gd.sem (Dk dw) ((hf c (by simp) _ hc).2 _ rfl Y H Hs Q hs hst hq)
 .cases h
theorem m9{tg iter elt:Expr}{ifs:List Expr}{l out:List D}{E:Rho->Expr->Option D}{Y:St}{H Hs:Hp}{Q:VK}(G:Good cx k X sc)(hN:X.N=U.map (·.1))(hok:jl sc scope=true)(hI:∀R,(∀J H' Hs',Ext Hs H Hs' H'->Mh X.K J Hs' l->R J H')->wu X tg iter Y H R)(hz:szl l.length=true)(hgo:bR (ug E scope U tg elt ifs) l=some out)
    (hE:∀Xc, CompOf X scope Xc->∀U1:Rho, Xc.N=U1.map (·.1)->∀e, (e=elt \/ e∈ifs)->∀d, E U1 e=some d->QW Hs H Xc U1 e d/\∀b, d=.bl b->Mi Hs H Xc U1 e b)
     (hst:bJ X.K Hs U Y) (hq:∀acc vs Hs' H',Ext Hs H Hs' H'->H acc=none->Hs' acc=none->H' acc=some (.lst vs)->aJ X.K Hs' out vs->Q (.ref acc) H') :
    CT X scope (wu X tg iter) (zK X.N scope.names) (λXc=>Hl Xc tg) (λXc=>Ac Xc ifs) (λXc=>jy Xc elt) Y H Q:=by
  obtain⟨ok1,ok2,ok3⟩:=gn G hok
  refine hI _ λJ H1 Hs1 E1 hJ acc hacc Xc C=>?_
  have GC:=G.comp C hok
  have OC:=Owns.comp (scope:=scope) G C
  have hNc:∀U1:Rho,U1.map (·.1)=scope.names.map (·.1)->Xc.N=U1.map (·.1):=λU1 h=>by rw[C.N,h]
  have a1:Hs1 acc=none:=E1.sub.free hacc
  have a0:H acc=none:=E1.all.free hacc
  let W:Nat->Nat->St->Hp->Prop:=λi m Yc H=>m=l.length-i/\i<=l.length/\∃Hs3 ys pre rest,Ext Hs1 H1 Hs3 H/\Hs3 acc=none/\H acc=some (.lst ys)/\aJ X.K Hs3 pre ys/\bR (ug E scope U tg elt ifs) (l.drop i)=some rest/\pre++rest=out/\pre.length<=i/\Yc.length=scope.names.length/\bJ X.K Hs3 (cI scope U) Yc
  refine⟨W,⟨l.length,rfl,Z4z _,Hs1,[],[],out,Ext.acc (.refl E1.sub) hacc a1,a1,aB,.nil,by simpa using hgo,rfl,X4z _,by simp[zK],ud hN (hst.same E1.vis)⟩,?_⟩
  rintro i m Yc H3 ⟨rfl,hi,Hs3,ys,pre,rest,E3,b3,c3,r3,g3,p3,q3,l3,s3⟩
  obtain⟨st3,go3⟩:=hJ Hs3 H3 E3.vis E3.sub
  by_cases hlt:i<l.length
  . have hd:l[i]?=some l[i]:=List.getElem?_eq_getElem hlt
    obtain⟨gi,yi⟩:=go3 i l[i] hd
    refine .inr ⟨gi,λY' H'=>W (i+1) (l.length-(i+1)) Y' H',λY' H' w=>⟨_,by omega,w⟩,λx H4 y4=>?_⟩
    obtain⟨Hs4,E4,rx⟩:=yi x H4 y4
    have b4:Hs4 acc=none:=E4.hid acc _ c3 b3
    have c4:H4 acc=some (.lst ys):=E4.all _ _ c3
    rw[List.drop_eq_getElem_cons hlt] at g3
    have key:∃U1,fH scope tg l[i] (cI scope U)=some U1/\∃b,mJ (E U1) ifs=some b/\((b=true/\∃v o',E U1 elt=some v/\bR (ug E scope U tg elt ifs) (l.drop (i+1))=some o'/\rest=v::o')\/(b=false/\bR (ug E scope U tg elt ifs) (l.drop (i+1))=some rest)):=by
      have inv:∀o,ug E scope U tg elt ifs l[i]=some o->∃U1,fH scope tg l[i] (cI scope U)=some U1/\∃b,mJ (E U1) ifs=some b/\(if b then(E U1 elt).map some else some none)=some o:=by
        intro o h
        obtain⟨U1,h1,h⟩:=bw h
        obtain⟨b,h2,h⟩:=bw h
        exact⟨U1,h1,b,h2,h⟩
      rcases uf g3 with⟨v,o',f1,f2,f3⟩ | ⟨f1,f2⟩
      . obtain⟨U1,h1,b,h2,h3⟩:=inv _ f1
        refine⟨U1,h1,b,h2,?_⟩
        cases b with
        | false=>simp at h3
        | true =>
          simp only[O5z,O0z] at h3
          obtain⟨w,h3,h4⟩:=h3
          have h5:w=v:=G3z h4
          subst h5
          exact .inl ⟨rfl,w,o',h3,f2,f3⟩
      . obtain⟨U1,h1,b,h2,h3⟩:=inv _ f1
        refine⟨U1,h1,b,h2,?_⟩
        cases b with
        | true=>simp at h3
        | false=>exact .inr ⟨rfl,f2⟩
    obtain⟨U1,k1,b,k2,k3⟩:=key
    have s4:bJ X.K Hs4 (cI scope U) Yc:=s3.same E4.vis
    have KE:=wJ (K:=Xc.K) (Hs:=Hs4) (U:=U) (n:=scope.names.length) ok2 rfl
    refine uo (X:=Xc) (scope:=scope) (Hs:=Hs4) GC.calm OC GC.nd E4.sub (hNc _ jk) KE k1 ⟨jk,l3,by rw[C.K];exact s4,by rw[C.K];exact s4⟩ (by rw[C.K];exact rx) λY5 hN5 p5=>?_
    obtain⟨_,l5,s5,s5'⟩:=p5
    have hev:=hE Xc C U1 hN5
    refine Qo (λe he=>hev e (.inr he)) k2 (E1.trans (E3.trans E4)) s5 λH6 Hs6 E6=>?_
    have b6:Hs6 acc=none:=E6.hid acc _ c4 b4
    have c6:H6 acc=some (.lst ys):=E6.all _ _ c4
    have s6:bJ X.K Hs6 (cI scope U) Y5:=by rw[<- C.K];exact s5'.same E6.vis
    rcases k3 with⟨rfl,v,o',k3,k4,k5⟩ | ⟨rfl,k3⟩
    . refine oJ ((hev elt (.inl rfl) v k3).1 Y5 H6 Hs6 _ (E1.trans (E3.trans (E4.trans E6))) (s5.same E6.vis) λw H7 Hs7 E7 r7=>?_)
      have b7:Hs7 acc=none:=E7.hid acc _ c6 b6
      have c7:H7 acc=some (.lst ys):=E7.all _ _ c6
      refine⟨ys,c7,?_,rfl,hlt,Hs7,ys++[w],pre++[v],o',Ext.acc (E3.trans (E4.trans (E6.trans E7))) hacc b7,b7,aB,?_,k4,?_,by simp;omega,l5,s6.same E7.vis⟩
      . have:=r3.length
        have:=Gn hz
        omega
      . rw[<- C.K]
        refine aJ.append ?_ (.cons r7 .nil)
        rw[C.K]
        exact aJ.same (E4.trans (E6.trans E7)).vis pre ys r3
      . rw[<- p3,k5];simp
    . refine mH ?_
      exact⟨rfl,hlt,Hs6,ys,pre,rest,E3.trans (E4.trans E6),b6,c6,aJ.same (E4.trans E6).vis pre ys r3,k3,p3,by omega,l5,s6⟩
  . have hi':i=l.length:=by omega
    subst hi'
    refine .inl ⟨st3,?_⟩
    rw[List.drop_length] at g3
    simp only[bR,K2z] at g3
    subst g3
    rw[J3z] at p3
    subst p3
    exact hq acc ys Hs3 H3 (E1.trans E3) a0 b3 c3 r3
theorem QW.of{Xc:Cx}{U1:Rho}{e:Expr}{d:D}{Hs0 H0:Hp}(h:Ev Xc U1 e d/\∀b,d=.bl b->EvT Xc U1 e b):QW Hs0 H0 Xc U1 e d/\∀b,d=.bl b->Mi Hs0 H0 Xc U1 e b:=⟨λY H Hs Q E=>h.1 Y H Hs Q E.sub,λb hb Y H Hs Q E=>h.2 b hb Y H Hs Q E.sub⟩
theorem Bk{tg iter elt:Expr}{ifs:List Expr}{l out:List D}{n:Nat}(G:Good cx k X sc)(hN:X.N=U.map (·.1))(hok:jl sc scope=true)(hI:EvI X U tg iter l)(hz:szl l.length=true)(hgo:bR (QB cx n sc scope U tg elt ifs) l=some out)
  (hE:∀Xc,CompOf X scope Xc->∀U1:Rho,Xc.N=U1.map (·.1)->∀e d,ev cx n (qg scope sc) U1 e=some d->Ev Xc U1 e d/\∀b,d=.bl b->EvT Xc U1 e b)
  {Y:St} {H Hs:Hp} {Q:VK} (hs:Same Hs H) (hst:bJ X.K Hs U Y) (hq:∀acc vs Hs' H',Ext Hs H Hs' H'->H acc=none->Hs' acc=none->H' acc=some (.lst vs)->aJ X.K Hs' out vs->Q (.ref acc) H') :
  CT X scope (wu X tg iter) (zK X.N scope.names) (λXc=>Hl Xc tg) (λXc=>Ac Xc ifs) (λXc=>jy Xc elt) Y H Q :=
 m9 G hN hok (λR k=>hI Y H Hs R hs hst k) hz hgo (λXc C U1 h e _ d q=>QW.of (hE Xc C U1 h e d q)) hst hq
end
def bIs(b:Bool):Value->Bool
 | .bool y=>y==b
 | _=>false
theorem rT:∀{bs:List Bool}{its:List Value},Vals (bs.map V.bl) its->its=bs.map Value.bool
 | [],its,r=>by cases r;rfl
 | b::bs,its,r=>by
  obtain⟨u,w,rfl,r1,r2⟩:=v9 r;cases (show u=Value.bool b from r1);rw[rT r2];rfl
theorem Hz(b:Bool):∀bs:List Bool,(bs.map Value.bool).countP (bIs b)=cntB b bs
 | []=>rfl
 | c::bs=>by
  rw[E4z,List.countP_cons,Hz b bs];unfold cntB;rw[X2z];show _+(if(c==b)=true then 1 else 0)=_
  cases c==b<;>simp
theorem Vb{b:Bool}:∀(bs:List Bool)(m:Nat)(h:m<bs.length),m<bs.idxOf b->(bs[m]==b)=false
 | [],m,h,_=>absurd h (by simp)
 | c::bs,m,h,hl=>by
  rw[List.idxOf_cons] at hl
  cases hc:c==b with
  | true=>rw[hc] at hl;simp at hl
  | false =>
   cases m with
   | zero=>simpa using hc
   | succ m =>
    rw[hc] at hl;simp only[cond_false] at hl;simpa using Vb bs m (by simpa using h) (by omega)
section
variable{X:Cx}{U:Rho}{cx:Cxt}{k:Nat}{sc scope:Scope}
def Od(K:Zf):V->List V->Hp->VK->Prop:=λx vs H Q=>∃(l:Addr)(bs:List Bool)(b:Bool),x=.ref l/\vs=[.bl b]/\SqL K H l (bs.map V.bl)/\Q (.int (cntB b bs:Nat)) H
theorem Eb:MtM X "list.count" (Od X.K):=by
 intro z0 s Y H x vs v us Q I rx rv h;obtain⟨l,bs,b,rfl,rfl,hB,q⟩:=h;cases (show v=Value.ref l from rx);obtain⟨u,rfl,ru⟩:=rv.one;cases (show u=Value.bool b from ru);obtain⟨its2,r2,pl,hz2⟩:=I.list hB;have ei:=rT r2;subst ei;obtain⟨⟨c2,dd2,data2,sl2⟩,n2,e2,hc2,hd2,hs2⟩:=pl;simp only at hc2 hs2;obtain⟨h3,h4⟩:=(show dd2=none/\data2=.seq (bs.map Value.bool).toArray n2 from⟨hd2,hs2⟩);subst hc2 h4;refine H5z F.slot_list_count ⟨_,e2,rfl⟩ F.entry_list_count (F.args_list_count_2 _ _) (list_countAt l (bs.map Value.bool).toArray n2 dd2 sl2 (.bool b) (bIs b)) ⟨e2,λy hy=>?_,?_⟩
 .have hy':y∈bs.map Value.bool:=by simpa using hy
  obtain⟨c,_,rfl⟩:=List.mem_map.mp hy';exact EqAt.bool_bool c b
 .rw[show(bs.map Value.bool).toArray.toList=bs.map Value.bool from rfl,Hz]
  exact⟨.int _,H,I.tok _,⟨_,rfl⟩,q⟩
def Oc(K:Zf):V->List V->Hp->VK->Prop:=λx vs H Q=>∃(l:Addr)(bs:List Bool)(b:Bool),x=.ref l/\vs=[.bl b]/\SqL K H l (bs.map V.bl)/\bs.contains b=true/\Q (.int (bs.idxOf b:Nat)) H
theorem Ea:MtM X "list.index" (Oc X.K):=by
 intro z0 s Y H x vs v us Q I rx rv h;obtain⟨l,bs,b,rfl,rfl,hB,hin,q⟩:=h;cases (show v=Value.ref l from rx);obtain⟨u,rfl,ru⟩:=rv.one;cases (show u=Value.bool b from ru);obtain⟨its2,r2,pl,hz2⟩:=I.list hB;have ei:=rT r2;subst ei;obtain⟨⟨c2,dd2,data2,sl2⟩,n2,e2,hc2,hd2,hs2⟩:=pl;simp only at hc2 hs2;obtain⟨h3,h4⟩:=(show dd2=none/\data2=.seq (bs.map Value.bool).toArray n2 from⟨hd2,hs2⟩);subst hc2 h4;have hj:bs.idxOf b<bs.length:=List.idxOf_lt_length_iff.mpr (by simpa using hin);have hn:=qC
 have hz3:bs.length<=sizeLine:=by simpa using hz2
 refine H5z F.slot_list_index ⟨_,e2,rfl⟩ F.entry_list_index (F.args_list_index_2 _ _) (list_indexAt l (bs.map Value.bool).toArray n2 dd2 sl2 (.bool b) (bIs b) (bs.idxOf b) (by simpa using hj) (by omega) ?_ ?_) ⟨e2,λy hy=>?_,?_⟩
 .simp only[List.getElem_toArray,List.getElem_map,bIs]
  simpa using List.getElem_idxOf hj
 .intro m hm hlt
  simp only[List.getElem_toArray,List.getElem_map,bIs];exact Vb bs m (by simpa using hm) hlt
 .have hy':y∈bs.map Value.bool:=by simpa using hy
  obtain⟨c,_,rfl⟩:=List.mem_map.mp hy';exact EqAt.bool_bool c b
 .exact⟨.int _,H,I.tok _,⟨_,rfl⟩,q⟩
theorem Fi{y:Str}{m:Str}{e:Expr}{x z d:D}{py ap cp:Pos}(ha:Ev X U (.Name y py) x)(he:Ev X U e z)(hp:aH e=true)(hline:(ap.endLine==cp.line)=true)(h:sV m x z=some d):Ev X U (.Call (.Attribute (.Name y py) m ap) [e] [] cp) d:=by
 unfold sV at h;split at h
 .rename_i xs b
  obtain⟨bs,hb,h2⟩:=bw h;clear h;intro Y H Hs Q hs hst hq;split at h2
  .rename_i hm
   have em:m="count":=by simpa using hm
   subst em;cases h2;refine(wF H0z PySem.F.slot_list_count PySem.F.type_list_count Eb au (aA au aO (aq hp)) rfl (by rw[aq hp];rfl) hline (aq hp) rfl).sem ?_;refine ha Y H Hs _ hs hst λv H1 Hs1 E1 r1=>?_;obtain⟨l,vs,rfl,g1,g2⟩:=cX r1;have ev:=kI hb g2;subst ev;refine⟨.inl ⟨rfl,_,E1.sub.seq g1⟩,?_⟩;refine he Y H1 Hs1 _ E1.sub (hst.same E1.vis) λv2 H2 Hs2 E2 r2=>?_;rw[dH r2];exact⟨l,bs,b,rfl,rfl,E2.sub.seq (E2.vis.seq g1),hq _ H2 Hs2 (E1.trans E2) (by simp[Rep])⟩
  .split at h2
   .rename_i hm
    rw[Y2z] at hm
    have em:m="index":=by simpa using hm.1
    subst em;cases h2;refine(wF H0z PySem.F.slot_list_index PySem.F.type_list_index Ea au (aA au aO (aq hp)) rfl (by rw[aq hp];rfl) hline (aq hp) rfl).sem ?_;refine ha Y H Hs _ hs hst λv H1 Hs1 E1 r1=>?_;obtain⟨l,vs,rfl,g1,g2⟩:=cX r1;have ev:=kI hb g2;subst ev;refine⟨.inl ⟨rfl,_,E1.sub.seq g1⟩,?_⟩;refine he Y H1 Hs1 _ E1.sub (hst.same E1.vis) λv2 H2 Hs2 E2 r2=>?_;rw[dH r2];exact⟨l,bs,b,rfl,rfl,E2.sub.seq (E2.vis.seq g1),hm.2,hq _ H2 Hs2 (E1.trans E2) (by simp[Rep])⟩
   .cases h2
 .cases h
end
theorem Ext.shown{Hs H Hs' H':Hp}{acc:Addr}{o:HO}(E:Ext Hs H Hs' H')(h:H acc=none)(h1:Hs' acc=none)(h2:H' acc=some o):Ext Hs H (upd Hs' acc o) H' where
 vis:=λb u e=>by rw[aj (ak (E.vis b u e) h1)];exact E.vis b u e
 all:=E.all
 sub:=λb u e=>by
  by_cases hb:b=acc
  .subst hb;rw[aB] at e;rw[h2];exact e
  .rw[aj hb] at e;exact E.sub b u e
 hid:=λb u e n=>by rw[aj (ak e h)];exact E.hid b u e n
section
variable{X:Cx}{U:Rho}{cx:Cxt}{k:Nat}{sc scope:Scope}
theorem K4{tg iter elt:Expr}{ifs:List Expr}{l out:List D}{n:Nat}{pos:Pos}(G:Good cx k X sc)(hN:X.N=U.map (·.1))(hok:jl sc scope=true)(hI:EvI X U tg iter l)(hp:aH iter=true)(hz:szl l.length=true)(hgo:bR (QB cx n sc scope U tg elt ifs) l=some out)
  (hE:∀Xc,CompOf X scope Xc->∀U1:Rho,Xc.N=U1.map (·.1)->∀e d,ev cx n (qg scope sc) U1 e=some d->Ev Xc U1 e d/\∀b,d=.bl b->EvT Xc U1 e b) :
  Ev X U (.ListComp elt [⟨tg,iter,ifs,0⟩] scope pos) (.lst out):=by
 obtain⟨ok1,ok2,ok3⟩:=gn G hok;intro Y H Hs Q hs hst hq;refine PE.sem (zc G.calm ok1 ok2 ok3 uR (λXc C=>⟨lE,uQ,au⟩) (iW hp)) (Bk G hN hok hI hz hgo hE hs hst λacc vs Hs' H' E1 h1 h2 h3 r=>?_);have E2:=E1.shown h1 h2 h3;refine hq _ H' _ E2 ?_;simp only[Rep];refine⟨acc,vs,rfl,.of aB,aJ.same (λb u e=>?_) out vs r⟩;rw[aj (ak e h2)];exact e
def WkP(cx:Cxt)(sc:Scope)(e:Expr):Wk->Prop
    | .r1 a=>∃x p pos,e=.Call (.Name x p) [a] [] pos/\bZ cx sc x=some "range"
    | .zp a b=>∃x p pos,e=.Call (.Name x p) [a,b] [] pos/\bZ cx sc x=some "zip"
    | .rv a=>∃x p pos,e=.Call (.Name x p) [a] [] pos/\bZ cx sc x=some "reversed"
    | .sq=>True
theorem Nf{e:Expr}:WkP cx sc e (v7 cx sc e):=by
 unfold v7;split
 .rename_i x p args pos
  split
  .rename_i h
   split
   .exact⟨x,p,pos,rfl,h⟩
   .trivial
  .rename_i h
   split
   .exact⟨x,p,pos,rfl,h⟩
   .trivial
  .rename_i h
   split
   .exact⟨x,p,pos,rfl,h⟩
   .trivial
  .trivial
 .trivial
theorem jw{x:Option D}{i:Int}(h:x.bind asI=some i):x=some (.int i):=by
 obtain⟨d,h1,h2⟩:=bw (show(x >>=asI)=some i from h)
 cases d<;>simp[asI] at h2
 subst h2;exact h1
theorem fJ{x:Option D}{i:Bool}(h:x.bind asB=some i):x=some (.bl i):=by
 obtain⟨d,h1,h2⟩:=bw (show(x >>=asB)=some i from h)
 cases d<;>simp[asB] at h2
 subst h2;exact h1
theorem pQ{x:Option D}{i:List D}(h:x.bind tupI=some i):x=some (.tup i):=by
 obtain⟨d,h1,h2⟩:=bw (show(x >>=tupI)=some i from h)
 cases d<;>simp[tupI] at h2
 subst h2;exact h1
theorem Av{f:Expr->Option D}{tg e:Expr}{l:List D}(G:Good cx k X sc)(hf:∀e d,f e=some d->Ev X U e d/\aH e=true)(h:evI cx (eY tg) f sc e=some l):EvI X U tg e l/\aH e=true:=by
 unfold evI at h;have w:=Nf (cx:=cx) (sc:=sc) (e:=e);split at h
 .rename_i a hw
  rw[hw] at w;obtain⟨x,p,pos,rfl,hx⟩:=w;obtain⟨j,h1,h⟩:=bw h;split at h
  .rename_i hj
   cases h;obtain⟨ha,hp⟩:=hf _ _ (jw h1);exact⟨wN G hx ha hp hj,rfl⟩
  .cases h
 .rename_i a b hw
  rw[hw] at w;obtain⟨x,p,pos,rfl,hx⟩:=w;obtain⟨d1,h1,h⟩:=bw h;obtain⟨d2,h2,h⟩:=bw (show(f b >>=λy=>if eY tg=true then Q0 d1 y else none)=some l from h);have h':(if eY tg=true then Q0 d1 d2 else none)=some l:=h;clear h;split at h'
  .rename_i ht
   obtain⟨ha,hp⟩:=hf _ _ h1;obtain⟨hb,hpb⟩:=hf _ _ h2
   cases tg<;>simp[eY] at ht
   unfold Q0 at h';split at h'
   .cases h';exact⟨K7 G hx ha hp hb hpb,rfl⟩
   .cases h'
  .cases h'
 .rename_i a hw
  rw[hw] at w;obtain⟨x,p,pos,rfl,hx⟩:=w;obtain⟨xs,h1,h⟩:=bw h;cases h;obtain⟨ha,hp⟩:=hf _ _ (pQ h1);exact⟨La G hx ha hp,rfl⟩
 .obtain⟨d,h1,h2⟩:=bw (show(f e >>=mY)=some l from h)
  obtain⟨ha,hp⟩:=hf _ _ h1;exact⟨K8 G.kw ha h2,hp⟩
theorem xO{t:Expr}{T:String}(h:tyOf cx sc t=some T):∃x p,t=.Name x p/\bZ cx sc x=some T:=by
 unfold tyOf at h;split at h
 .exact⟨_,_,rfl,h⟩
 .cases h
def WcP(cx:Cxt)(sc:Scope)(b:String)(args:List Expr):Wc->Prop
    | .tv a=>∃x p pos,args=[.Call (.Name x p) [a] [] pos]/\bZ cx sc x=some "reversed"/\b="tuple"
    | .li a=>∃y py ap p,a=.Name y py/\args=[.Call (.Attribute (.Name y py) "items" ap) [] [] p]/\(ap.endLine==p.line)=true/\b="list"
    | .al=>True
theorem RJ{b:String}{args:List Expr}:WcP cx sc b args (Cy cx sc b args):=by
 unfold Cy;split
 .rename_i e
  have w:=Nf (cx:=cx) (sc:=sc) (e:=e);split
  .rename_i hw
   rw[hw] at w;obtain⟨x,p,pos,rfl,hx⟩:=w;exact⟨x,p,pos,rfl,hx,rfl⟩
  .split
   .rename_i a ha
    unfold Vg at ha;split at ha
    .rename_i y py m ap p _
     split at ha
     .rename_i hb
      rw[Y2z] at hb;cases ha;have em:=eq_of_beq hb.1;subst em;exact⟨y,py,ap,p,rfl,rfl,hb.2,rfl⟩
     .cases ha
    .cases ha
   .trivial
  .trivial
 .trivial
theorem uF{K:Zf}:∀{kvs:List (Key×V)}{ds:List D}{Hs H:Hp}{Q:List Addr->Hp->Prop},Same Hs H->aJ K Hs ds (kvs.map (·.2))->(∀bs H' Hs',Ext Hs H Hs' H'->aJ K Hs' (((kvs.map (·.1)).zip ds).map λq=>.tup [kD q.1,q.2]) (bs.map V.ref)->Q bs H')->CQ kvs H Q
 | [],ds,Hs,H,Q,hs,h,q=>by
  cases ds with
  | nil=>exact q [] H Hs (.refl hs) rfl
  | cons _ _=>obtain⟨_,_,e,_⟩:=h;cases e
 | (k,v)::r,ds,Hs,H,Q,hs,h,q=>by
  cases ds with
  | nil=>cases (show(v::r.map (·.2))=[] from h)
  | cons d ds =>
   obtain⟨v',t,e,h1,h2⟩:=h;cases e;intro b hb;have E:=Ext.new hs (.tup [kV k,v]) hb;refine uF E.sub (aJ.same E.vis _ _ h2) λbs H' Hs' E' r'=>q (b::bs) H' Hs' (E.trans E') ⟨.ref b,_,rfl,⟨b,[kV k,v],rfl,.inl (.inl (E'.vis _ _ aB)),⟨_,_,rfl,?_,⟨_,_,rfl,h1.same ((E.trans E').vis),rfl⟩⟩⟩,r'⟩
   cases k with
   | inl n=>simp[Rep,kD,kV]
   | inr n=>simp[Rep,kD,kV]
theorem Fj{x y:Str}{p py ap pp pos:Pos}{ks:List (Sum Int Str)}{ds:List D}(G:Good cx k X sc)(hx:bZ cx sc x=some "list")(hl:(ap.endLine==pp.line)=true)(ha:Ev X U (.Name y py) (.dic ks ds))(hz:ks.length<=1000) :
  Ev X U (.Call (.Name x p) [.Call (.Attribute (.Name y py) "items" ap) [] [] pp] [] pos) (.lst ((ks.zip ds).map λq=>.tup [kD q.1,q.2])):=by
 obtain⟨hg,hm,rfl⟩:=cY G hx;intro Y H Hs Q hs hst hq;refine(eU (mK G.calm G.kw) hg hm (by decide +kernel) (aA (Dr G.kw au rfl hl) aO rfl) (by decide) (by decide) rfl rfl).sem (ha Y H Hs _ hs hst λv H1 Hs1 E1 r1=>?_);obtain⟨a,kvs,rfl,g1,rfl,g3⟩:=r1;have g1':DAt X.K H1 a kvs:=g1.elim (λ⟨o,q⟩=>.inl ⟨o,E1.sub _ _ q⟩) .inr;refine⟨a,kvs,rfl,g1',λw hw=>?_⟩;have E2:Ext Hs1 H1 Hs1 (upd H1 w (.ext (nq w a))):=⟨.refl _,λb u q=>by rw[aj (ak q hw)];exact q,λb u q=>by rw[aj (ak (E1.sub b u q) hw)];exact E1.sub b u q,λ_ _ _ z=>z⟩;refine⟨w,a,kvs,rfl,aB,g1'.elim (λ⟨o,q⟩=>.inl ⟨o,E2.all _ _ q⟩) .inr,by simpa using hz,uF E2.sub g3 λbs H' Hs' E3 r3 l hl'=>?_⟩;have E4:=Ext.new E3.sub (.lst (bs.map V.ref)) hl';exact hq _ _ _ (E1.trans (E2.trans (E3.trans E4))) ⟨l,_,rfl,.inl (.inl aB),aJ.same E4.vis _ _ r3⟩
end
theorem dh(cx:Cxt):∀(n:Nat){k:Nat}{X:Cx}{sc:Scope}{U:Rho}{e:Expr}{d:D},Good cx k X sc->X.N=U.map (·.1)->ev cx n sc U e=some d->Ev X U e d/\∀b,d=.bl b->EvT X U e b
 | 0,k,X,sc,U,e,d,_,_,h=>by exact nomatch (show(Option.none:Option D)=some d from h)
 | n+1,k,X,sc,U,e,d,G,hN,h=>by
  have ih:∀e d,ev cx n sc U e=some d->Ev X U e d/\∀b,d=.bl b->EvT X U e b:=λe d h=>dh cx n G hN h;have ihp:∀e d,ev cx n sc U e=some d->Ev X U e d/\aH e=true:=λe d h=>⟨(ih e d h).1,aU h⟩;have val:∀{e d},(∀whole,isTrue e X.env whole=(do let v <- whole;standAt e.pos;holding [v] (truthy v)))->Ev X U e d->Ev X U e d/\∀b,d=.bl b->EvT X U e b:=λhe h1=>⟨h1,λb hb=>by subst hb;exact Aq h1 he⟩
  cases e with
  | Name x pos =>
   simp only[ev] at h;split at h
   .rename_i hp
    refine val (λ_=>rfl) ?_
    have fin:∀kd,sc.names.lookup x=some kd->(kd=.local\/kd=.cell\/kd=.free)->(match U.lookup x with | some (.sh d)=>some d | _=>none)=some d->Ev X U (.Name x pos) d:=by
     intro kd hk hkd hm;split at hm
     .rename_i d' hl
      cases hm;refine Al hN ?_ hp hl;unfold Vis;rw[G.sce,hk];rcases hkd with rfl | rfl | rfl
      .exact .inl rfl
      .exact .inr (.inl rfl)
      .exact .inr (.inr rfl)
     .cases hm
    split at h
    .rename_i hk;exact fin _ hk (.inl rfl) h
    .rename_i hk;exact fin _ hk (.inr (.inl rfl)) h
    .rename_i hk;exact fin _ hk (.inr (.inr rfl)) h
    .rename_i hk
     obtain⟨v,u,h0,h1,h2⟩:=G.cst x d h;exact Qq (show X.env.scope.names.lookup x=_ by rw[G.sce];exact hk) h0 h1 h2 hp
    .cases h
   .cases h
  | Constant c j pos =>
   simp only[ev] at h;exact val (λ_=>rfl) (vh h)
  | BinOp a op b pos =>
   simp only[ev] at h;obtain⟨x,h1,h⟩:=bw h;obtain⟨y,h2,h⟩:=bw h;exact val (λ_=>rfl) (vm (ih _ _ h1).1 (ih _ _ h2).1 h)
  | UnaryOp op a pos =>
   simp only[ev] at h;obtain⟨x,h1,h⟩:=bw h
   cases op<;>simp only[O0z] at h<;>try (cases h;done)
   .obtain⟨b,h2,rfl⟩:=h
    cases x<;>simp[asB] at h2
    subst h2;refine⟨Hw (ih _ _ h1).1,λc hc=>?_⟩;cases hc;exact Ar ((ih _ _ h1).2 _ rfl)
   .obtain⟨i,h2,rfl⟩:=h
    cases x<;>simp[asI] at h2
    subst h2;exact val (λ_=>rfl) (Qm (ih _ _ h1).1)
  | BoolOp op es pos =>
   simp only[ev] at h;obtain⟨h1,h2⟩:=lY (pos:=pos) (λe _ d hd=>ih e d hd) h;exact⟨h1,λb hb=>(h2 b hb).t⟩
  | Compare a ops bs pos =>
   simp only[ev] at h;split at h
   .obtain⟨x,h1,h⟩:=bw h
    obtain⟨y,h2,h⟩:=bw h;exact K5 G.room G.kw (ih _ _ h1).1 (ih _ _ h2).1 (aU h2) h
   .split at h
    .cases h
    rename_i e3 hpl
    have hpl':aH e3=true:=by simpa using hpl
    obtain⟨x,h1,h⟩:=bw h;obtain⟨y,h2,h⟩:=bw h;obtain⟨c,h3,h⟩:=bw h;have h3':=fJ h3
    cases c with
    | false =>
     simp only[S1z,M5z,K2z] at h;subst h;exact Ao G.room G.kw (ih _ _ h1).1 (ih _ _ h2).1 hpl' h3' ⟨λq=>(nomatch q),λ_=>rfl⟩
    | true =>
     simp only[O5z] at h;obtain⟨z,h4,h⟩:=bw h;exact Ao G.room G.kw (ih _ _ h1).1 (ih _ _ h2).1 (aU h4) h3' ⟨λ_=>⟨z,(ih _ _ h4).1,h⟩,λq=>nomatch q⟩
   .cases h
  | IfExp c a b pos =>
   simp only[ev] at h;obtain⟨t,h1,h⟩:=bw h;have h1':=(ih _ _ (fJ h1)).2 _ rfl
   cases t with
   | true =>
    simp only[O5z] at h;refine⟨Qp h1' (λ_=>(ih _ _ h).1) (λq=>nomatch q),λr hr=>Hx h1' (λ_=>(ih _ _ h).2 r hr) (λq=>nomatch q)⟩
   | false =>
    simp only[S1z,M5z] at h;refine⟨Qp h1' (λq=>nomatch q) (λ_=>(ih _ _ h).1),λr hr=>Hx h1' (λq=>nomatch q) (λ_=>(ih _ _ h).2 r hr)⟩
  | Tuple es j pos =>
   simp only[ev] at h;obtain⟨ds,h1,h⟩:=bw h;split at h
   .rename_i hz
    cases h;exact val (λ_=>rfl) (Fb (dU (λe _ d hd=>ihp e d hd) h1).1 hz)
   .cases h
  | Dict ks vs pos =>
   simp only[ev] at h;split at h
   .rename_i hc
    rw[Y2z,List.isEmpty_iff,List.isEmpty_iff] at hc;obtain⟨rfl,rfl⟩:=hc;cases h;refine⟨λY H Hs Q hs hst hq=>Du.sem λp ob hp=>?_,λb hb=>by cases hb⟩;have E:=Ext.new hs (.frz ob (.dK [])) hp;exact hq _ _ _ E ⟨p,[],rfl,.inl ⟨ob,aB⟩,rfl,rfl⟩
   .cases h
  | List es pos =>
   simp only[ev] at h;obtain⟨ds,h1,h⟩:=bw h;split at h
   .rename_i hz
    cases h;exact val (λ_=>rfl) (Am (dU (λe _ d hd=>ihp e d hd) h1).1 hz)
   .cases h
  | Subscript a b pos =>
   simp only[ev] at h;obtain⟨x,h1,h⟩:=bw h;split at h
   .split at h
    .obtain⟨l,h2,h⟩:=bw h
     obtain⟨u,h3,h⟩:=bw h
     have hl:∀{o:Option Expr}{l:Option Int},(match o with | none=>some none | some e=>(ev cx n sc U e).bind λd=>(asI d).map some)=some l->EvO X U o l:=by
      intro o l h2
      cases o with
      | none=>cases h2;exact Fv
      | some e =>
       simp only at h2;obtain⟨d',g1,g2⟩:=Option.bind_eq_some_iff.mp h2;obtain⟨i,g3,rfl⟩:=O0z.mp g2
       cases d'<;>simp[asI] at g3
       subst g3;exact Ft (ih _ _ g1).1
     split at h
     .cases h
      exact val (λ_=>rfl) (Ak (ih _ _ h1).1 (hl h2) (hl h3))
     .cases h
    .obtain⟨rfl,rfl,hc,us,rfl,rfl⟩:=Jo h
     exact val (λ_=>rfl) (KY (ih _ _ h1).1 (ih _ _ (jw hc)).1)
   .obtain⟨y,h2,h⟩:=bw h
    have hp2:=aU h2;have hr:=G.room;unfold Ms at h;split at h
    .exact val (λ_=>rfl) (oR (ih _ _ h1).1 (ih _ _ h2).1 hp2 rfl h)
    .exact val (λ_=>rfl) (oR (ih _ _ h1).1 (ih _ _ h2).1 hp2 rfl h)
    .obtain⟨k',h3,h4⟩:=Option.bind_eq_some_iff.mp h
     exact val (λ_=>rfl) (K3 G.kw (ih _ _ h1).1 (ih _ _ h2).1 hp2 h3 h4)
    .cases h
  | Call f args kws pos =>
   refine val (λ_=>rfl) ?_;simp only[ev] at h;split at h
   .rename_i x p
    split at h
    .rename_i hg
     have hb:∀{b},cx.blt.lookup x=some b->bZ cx sc x=some b:=λq=>by unfold bZ;rw[P5z hg];exact q
     split at h
     .rename_i hx
      split at h
      .obtain⟨d',h1,h⟩:=bw h
       split at h
       .rename_i c' hxo
        split at h
        .rename_i c
         split at h
         .rename_i hin
          cases h;exact KZ G (hb hx) hxo hin (ih _ _ h1).1 (aU h1)
         .cases h
        .cases h
       .obtain⟨T,h2,h5⟩:=bw h
        clear h;obtain⟨t,pt,rfl,ht⟩:=xO h2;split at h5
        .rename_i c
         split at h5
         .rename_i hc
          rw[Y2z] at hc
          have eT:T="ValueError":=by simpa using hc.2
          subst eT;cases h5;exact K1 G (hb hx) ht hc.1 (ih _ _ h1).1 (aU h1)
         .cases h5
        .cases h5
        .cases h5
        .rename_i hne hne2 hne3
         split at h5
         .rename_i hk
          cases h5;refine Qn G (hb hx) ht hk (ih _ _ h1).1 (aU h1) ?_
          cases d'<;>first | rfl | exact absurd rfl (hne _) | exact absurd rfl (hne2 _ _) | exact absurd rfl (hne3 _)
         .cases h5
      .cases h
     .rename_i b _ hx
      have wc:=RJ (cx:=cx) (sc:=sc) (b:=b) (args:=args);split at h
      .rename_i a hw
       rw[hw] at wc;obtain⟨y,q,q',rfl,hy,rfl⟩:=wc;obtain⟨xs,h1,h⟩:=bw h;cases h;have h1':=pQ h1;exact KQ G (hb hx) hy (ih _ _ h1').1 (aU h1')
      .rename_i a hw
       rw[hw] at wc;obtain⟨y,py,ap,q,rfl,rfl,hy,rfl⟩:=wc;obtain⟨d',h1,h2⟩:=Option.bind_eq_some_iff.mp h;unfold TJ at h2;split at h2
       .split at h2
        .rename_i hz
         cases h2;exact Fj G (hb hx) hy (ih _ _ h1).1 (L2z hz)
        .cases h2
       .cases h2
      .split at h
       .cases h
       .rename_i hne
        obtain⟨ds,h1,h2⟩:=bw h;obtain⟨ha,hp⟩:=dU (λe _ d hd=>ihp e d hd) h1
        cases args with
        | nil=>exact absurd rfl hne
        | cons e es=>exact Fq G (hb hx) ha hp h2
     .split at h
      .rename_i hf
       rw[Y2z] at hf;obtain⟨ds,h1,h⟩:=bw h;obtain⟨ha,hp⟩:=dU (λe _ d hd=>ihp e d hd) h1
       have hgl:Gl X x:=by
        have e:sc.names.lookup x=some .globalImplicit:=by unfold rQ at hg;simpa using hg
        show X.env.scope.names.lookup x=_;rw[G.sce,e]
       refine K6 G hgl hf.1 (λq=>?_) ha hp h;rw[q] at hf;exact absurd hf.2 (by decide)
      .cases h
    .cases h
   .cases h
  | ListComp elt gens scope pos =>
   refine val (λ_=>rfl) ?_;simp only[ev] at h;split at h
   .rename_i tg iter ifs a
    split at h
    .rename_i hok
     rw[Y2z] at hok
     have ea:a=0:=by simpa using hok.1
     subst ea;obtain⟨l,h1,h⟩:=bw h;split at h
     .rename_i hz
      obtain⟨out,h2,h⟩:=bw h;cases h;obtain⟨hI,hp⟩:=Av (tg:=tg) G ihp h1;exact K4 G hN hok.2 hI hp hz h2 λXc C U1 hN1 e d he=>dh cx n (G.comp C hok.2) hN1 he
     .cases h
    .cases h
   .cases h
  | _=>exact nomatch (show(Option.none:Option D)=some d from h)
end L2
namespace L2
open PySem PySem.Spec PyProof.Rows
structure LamT(H:Hp)(P:Addr)(qual:Str)(l:List (Pos×Addr)):Prop where
 tab:H P=some (ux P (triples l).toArray)
 cod:∀q∈l,H q.2=some (vW q.2 qual)
theorem gD:∀l:List (Pos×Addr),TriplesOk (triples l)
 | []=>trivial
 | (p,c)::r=>gD r
theorem mD(pos:Pos):∀l:List (Pos×Addr),codeAmong pos (triples l)=none\/∃q∈l,codeAmong pos (triples l)=some (.ref q.2)
 | []=>.inl rfl
 | (p,c)::r=>by
  have e:codeAmong pos (triples ((p,c)::r))=if(((p.line:Nat):Int)==((pos.line:Nat):Int)&&((p.col:Nat):Int)==((pos.col:Nat):Int))=true then some (.ref c) else codeAmong pos (triples r):=rfl;rw[e];split
  .exact .inr ⟨(p,c),K1z,rfl⟩
  .rcases mD pos r with h | ⟨q,hq,h⟩
   .exact .inl h
   .exact .inr ⟨q,U0z _ hq,h⟩
theorem LamT.same{H H':Hp}{P:Addr}{qual:Str}{l:List (Pos×Addr)}(h:LamT H P qual l)(e:∀b o,H b=some o->H' b=some o):LamT H' P qual l:=⟨e _ _ h.tab,λq hq=>e _ _ (h.cod q hq)⟩
theorem LamT.upd{H:Hp}{P a:Addr}{qual:Str}{l:List (Pos×Addr)}{us vs:List V}(h:LamT H P qual l)(e:H a=some (.lst us)):LamT (upd H a (.lst vs)) P qual l:=by
 refine⟨?_,λq hq=>?_⟩
 .rw[aj λz=>by rw[<- z,h.tab] at e;cases e];exact h.tab
 .rw[aj λz=>by rw[<- z,h.cod q hq] at e;cases e];exact h.cod q hq
theorem LamT.ne{p':Program}{w:World}{h:Heap}{H:Hp}{P:Addr}{qual:Str}{l:List (Pos×Addr)}(T:LamT H P qual l)(ok:HOk p' w H h){p:Pos×Addr}(hp:p∈l):p.2≠P:=λz=>by
 have e:=T.cod p hp;rw[z,T.tab] at e;have:=G3z e;unfold ux vW at this;have q:=HO.ext.inj this;have hc:=vW.rec ok (T.cod p hp);rw[z] at hc;have ht:=(ok P _ T.tab).1;obtain⟨c2,oc,vs,t,a1,a2,a3,a4⟩:=hc;cases a1;rw[ht] at a2;cases a2;have a3':Data.fields (triples l).toArray=Data.fields vs:=a3;injection a3' with a3';subst a3';have k:=gD l
 cases l with
 | nil=>cases hp
 | cons x r =>
  obtain⟨p0,c0⟩:=x;simp[triples,rawInt] at a4
section
variable{X:Cx}{z0:List (Addr×Obj)}{Y:St}{H:Hp}{s:Shared}
theorem Kl{params:Arguments}{body:Expr}{scope:Scope}{pos:Pos}{c P:Addr}{l:List (Pos×Addr)}{clos:List (Str×Addr)}{R:Value->Shared->Prop}(I:Inv X z0 Y H s)
  (hdef:defaultsOf params X.env=([],[])) (hcode:X.env.code=.ref c) (C:W.CodeHd X.base c P) (hcl:closureFor scope X.env=pure clos) (hb:X.base.BuiltinsAt X.mg P) (hge:X.env.globals=mainGlobals)
  (T:LamT H P (X.env.qual++"<lambda>") l)
  (h:∀(f c':Addr)(ctv pm:Value)(s':Shared)(H':Hp)(l':List (Pos×Addr)), Inv X z0 Y H' s'->LamT H' P (X.env.qual++"<lambda>") l'->H' c'=some (vW c' (X.env.qual++"<lambda>"))->c'≠P->(H c'=none \/ ∃q∈l, q.2=c')->(∀q∈l', q∈l \/ q.2=c')->(∀b o, b≠P->H b=some o->H' b=some o) ->
   s'.heap.get? f=some (W.kla_obj "<lambda>" (X.env.qual++"<lambda>") params body scope clos pm c' ctv)->s.heap.objs.size<=f->H' f=none->(∀b o,b≠P->s.heap.get? b=some o->s'.heap.get? b=some o)->R (.ref f) s') :
  wpAny (model X.prog X.w) X.A (eval (.Lambda params body scope pos) X.env) R X.xe s:=by
 have hPlt:P<s.heap.objs.size:=I.hok.lt T.tab;rcases mD pos l with hn | ⟨q,hq,hn⟩
 .refine zT I hdef hcode C hcl hb hge T.tab (by rw[G1z];exact gD l) (by rw[G1z];exact hn) λf c' ctv pm s' hcn hcP J e1 e4 hfc keep=>?_
  have hfP:f≠P:=λz=>by rw[z] at e4;exact absurd (I1z hPlt e4) (C4z _)
  refine h f c' ctv pm s' _ (l++[(pos,c')]) J ⟨?_,λp hp=>?_⟩ aB hcP (.inl hcn) (λq hq=>(List.mem_append.mp hq).imp id λz=>by rw[Z1z.mp z]) (λb o hbP e=>?_) e1 e4 ?_ keep
  .rw[aj hcP.symm,aB,triples_append]
   simp
  .rcases List.mem_append.mp hp with hp | hp
   .have e:=T.cod p hp
    have n1:p.2≠c':=ak e hcn;have n2:p.2≠P:=T.ne I.hok hp;rw[aj n1,aj n2];exact e
   .have e:p=(pos,c'):=by simpa using hp
    subst e;exact aB
  .rw[aj (ak e hcn),aj hbP];exact e
  .rw[aj hfc,aj hfP];exact I.hok.fresh e4
 .refine zU I hdef hcode C hcl hb hge T.tab (by rw[G1z];exact gD l) (by rw[G1z];exact hn) λf ctv pm s' J e1 e4 keep=>?_
  exact h f q.2 ctv pm s' H l J T (T.cod q hq) (T.ne I.hok hq) (.inr ⟨q,hq,rfl⟩) (λ_ z=>.inl z) (λ_ _ _ e=>e) e1 e4 (I.hok.fresh e4) λb o _ e=>keep b o e
end
end L2
namespace L2
open PySem PySem.Spec PyProof.Rows DE PySem.SeqAt
section
variable{prog:Program}{w:World}{A:Around}{E:Value->Shared->Prop}
end
section
variable{X:Cx}{es:List Expr}{k:Nat}{t:TGs}{n:Nat}{pos:Pos}
end
structure Hd(K:Zf)(lm:Option (Addr×Str))(Hs0 H0 Hs H:Hp)(U:Rho)(Y:St):Prop where
 ext:Ext Hs0 H0 Hs H
 len:Y.length=U.length
 sh:bJ K Hs U Y
 ow:∀(i:Nat)(x:Str)(ds:List D),U[i]?=some (x,.ow ds)->∃a vs,Y[i]?=some (some (.ref a))/\H a=some (.lst vs)/\aJ K Hs ds vs/\Hs a=none/\H0 a=none
 dis:∀(i j:Nat)(x y:Str)(ds es:List D)(a:Addr),i≠j->U[i]?=some (x,.ow ds)->U[j]?=some (y,.ow es)->Y[i]?=some (some (.ref a))->Y[j]?=some (some (.ref a))->False
 oo:∀(i:Nat)(x:Str)(dss:List (List D)),U[i]?=some (x,.oo dss)->False
 lam:∀p,lm=some p->H0 p.1=none/\∃l,LamT H p.1 p.2 l/\Hs p.1=none/\∀q∈l,Hs q.2=none
section
variable{K:Zf}{lm:Option (Addr×Str)}{Hs0 H0 Hs H Hs' H':Hp}{U:Rho}{Y:St}
theorem Hd.step(h:Hd K lm Hs0 H0 Hs H U Y)(E:Ext Hs H Hs' H'):Hd K lm Hs0 H0 Hs' H' U Y where
 ext:=h.ext.trans E
 len:=h.len
 sh:=h.sh.same E.vis
 ow:=λi x ds e=>by
  obtain⟨a,vs,h1,h2,h3,h4,h5⟩:=h.ow i x ds e;exact⟨a,vs,h1,E.all _ _ h2,aJ.same E.vis ds vs h3,E.hid a _ h2 h4,h5⟩
 dis:=h.dis
 oo:=h.oo
 lam:=λp hp=>by
  obtain⟨h0,l,T,n1,n2⟩:=h.lam p hp;exact⟨h0,l,T.same E.all,E.hid _ _ T.tab n1,λq hq=>E.hid _ _ (T.cod q hq) (n2 q hq)⟩
def LmT(lm:Option (Addr×Str))(H:Hp):Prop:=∀p,lm=some p->∃l,LamT H p.1 p.2 l
theorem Hd.lmt(h:Hd K lm Hs0 H0 Hs H U Y):LmT lm H:=λp hp=>by
 obtain⟨_,l,T,_⟩:=h.lam p hp;exact⟨l,T⟩
theorem lW{n:Nat}{e:Expr}{i:Nat}{x:Str}{s:Sl}(h:(frz n e U)[i]?=some (x,s)):(U[i]?=some (x,s)/\(Uo s=false->fY n x e=false))\/(∃ds,s=.sh (.lst ds)/\U[i]?=some (x,.ow ds)/\fY n x e=true)\/∃dss,s=.sh (.lst (dss.map .lst))/\U[i]?=some (x,.oo dss)/\fY n x e=true:=by
 unfold frz at h;rw[List.getElem?_map] at h;obtain⟨⟨y,t⟩,h1,h2⟩:=O0z.mp h
 cases t with
 | no=>simp at h2;obtain⟨rfl,rfl⟩:=h2;exact .inl ⟨h1,λz=>nomatch z⟩
 | sh d=>simp at h2;obtain⟨rfl,rfl⟩:=h2;exact .inl ⟨h1,λz=>nomatch z⟩
 | ow ds =>
  simp only at h2
  cases hm:fY n y e with
  | true =>
   rw[hm,P5z rfl] at h2;cases h2;exact .inr (.inl ⟨ds,rfl,h1,hm⟩)
  | false =>
   rw[hm] at h2;simp at h2;obtain⟨rfl,rfl⟩:=h2;exact .inl ⟨h1,λ_=>hm⟩
 | oo dss =>
  simp only at h2
  cases hm:fY n y e with
  | true =>
   rw[hm,P5z rfl] at h2;cases h2;exact .inr (.inr ⟨dss,rfl,h1,hm⟩)
  | false =>
   rw[hm] at h2;simp at h2;obtain⟨rfl,rfl⟩:=h2;exact .inl ⟨h1,λ_=>hm⟩
theorem bL(n:Nat)(e:Expr):(frz n e U).map (·.1)=U.map (·.1):=by
 unfold frz;rw[V4z];apply H1z;intro p _;obtain⟨x,s⟩:=p
 cases s<;>simp<;>(split<;>rfl)
open Classical in
theorem Hd.frozen2(n:Nat)(e:Expr)(h:Hd K lm Hs0 H0 Hs H U Y):∃Hs1,Same Hs Hs1/\(∀b o,Hs1 b=some o->Hs b=some o\/∃vs,o=.lst vs)/\Hd K lm Hs0 H0 Hs1 H (frz n e U) Y:=by
 let Fo:Addr->Prop:=λb=>∃(i:Nat)(x:Str)(ds:List D),U[i]?=some (x,Sl.ow ds)/\fY n x e=true/\Y[i]?=some (some (V.ref b))
 let Hs1:Hp:=λb=>if Fo b then H b else Hs b
 have vis:Same Hs Hs1:=λb o q=>by
  show(if Fo b then H b else Hs b)=some o;split
  .exact h.ext.sub b o q
  .exact q
 have sub:Same Hs1 H:=λb o q=>by
  have q':(if Fo b then H b else Hs b)=some o:=q;split at q'
  .exact q'
  .exact h.ext.sub b o q'
 have fz:∀b,Fo b->∃vs,H b=some (.lst vs)/\H0 b=none:=λb ⟨i,x,ds,g1,_,g3⟩=>by
  obtain⟨a,vs,k1,k2,k3,k4,k5⟩:=h.ow i x ds g1;rw[k1] at g3;cases g3;exact⟨vs,k2,k5⟩
 have shp:∀b o,Hs1 b=some o->Hs b=some o\/∃vs,o=.lst vs:=λb o q=>by
  have q':(if Fo b then H b else Hs b)=some o:=q;split at q'
  .rename_i f
   obtain⟨vs,k2,_⟩:=fz b f;rw[k2] at q';cases q';exact .inr ⟨vs,rfl⟩
  .exact .inl q'
 have hz:∀(b:Addr)(u:Heap->Prop),H b=some (.ext u)->Hs b=none->Hs1 b=none:=λb u q n=>by
  show(if Fo b then H b else Hs b)=none;rw[Q5z λf=>?_]
  .exact n
  .obtain⟨vs,k2,_⟩:=fz b f
   rw[k2] at q;cases q
 refine⟨Hs1,vis,shp,⟨h.ext.vis.trans vis,h.ext.all,sub,λb o q z=>?_⟩,by rw[h.len];simp[frz],λi x d q=>?_,λi x ds q=>?_,λi j x y ds es a hij q1 q2=>?_,λi x dss q=>?_,λp hp=>by obtain⟨h0,l,T,n1,n2⟩:=h.lam p hp;exact⟨h0,l,T,hz _ _ T.tab n1,λq hq=>hz _ _ (T.cod q hq) (n2 q hq)⟩⟩
 .show(if Fo b then H b else Hs b)=none
  rw[Q5z λf=>by obtain⟨_,_,k⟩:=fz b f;rw[k] at q;cases q]
  exact h.ext.hid b o q z
 .rcases lW q with⟨q,_⟩ | ⟨ds,e1,q2,hm⟩ | ⟨dss,e1,q2,hm⟩
  .obtain⟨v,k1,k2⟩:=h.sh i x d q
   exact⟨v,k1,Rep.same vis d v k2⟩
  .cases e1
   obtain⟨a,vs,k1,k2,k3,k4,k5⟩:=h.ow i x ds q2;refine⟨_,k1,?_⟩;simp only[Rep];refine⟨a,vs,rfl,.of ?_,aJ.same vis ds vs k3⟩;show(if Fo a then H a else Hs a)=_;rw[P5z ⟨i,x,ds,q2,hm,k1⟩];exact k2
  .exact(h.oo i x dss q2).elim
 .rcases lW q with⟨q,hm⟩ | ⟨ds',e1,q,hm⟩ | ⟨ds',e1,q,hm⟩
  .obtain⟨a,vs,k1,k2,k3,k4,k5⟩:=h.ow i x ds q
   refine⟨a,vs,k1,k2,aJ.same vis ds vs k3,?_,k5⟩;show(if Fo a then H a else Hs a)=none;rw[Q5z]
   .exact k4
   .rintro⟨j,y,es,g1,g2,g3⟩
    by_cases hij:i=j
    .subst hij
     rw[q] at g1;cases g1;rw[hm rfl] at g2;cases g2
    .exact h.dis i j x y ds es a hij q g1 k1 g3
  .cases e1
  .cases e1
 .rcases lW q1 with⟨q1,_⟩ | ⟨ds',e1,_⟩ | ⟨ds',e1,_⟩
  .rcases lW q2 with⟨q2,_⟩ | ⟨ds',e1,_⟩ | ⟨ds',e1,_⟩
   .exact h.dis i j x y ds es a hij q1 q2
   .cases e1
   .cases e1
  .cases e1
  .cases e1
 .rcases lW q with⟨q,_⟩ | ⟨ds',e1,_⟩ | ⟨ds',e1,_⟩
  .exact h.oo i x dss q
  .cases e1
  .cases e1
theorem Hd.frozen(n:Nat)(e:Expr)(h:Hd K lm Hs0 H0 Hs H U Y):∃Hs1,Same Hs Hs1/\Hd K lm Hs0 H0 Hs1 H (frz n e U) Y :=
 let ⟨Hs1,a,_,b⟩:=h.frozen2 n e
 ⟨Hs1,a,b⟩
theorem Hd.set{x:Str}{i:Nat}{d:D}{v:V}(h:Hd K lm Hs0 H0 Hs H U Y)(hn:(U.map (·.1)).Nodup)(hi:(U.map (·.1))[i]?=some x)(r:Rep K Hs d v):Hd K lm Hs0 H0 Hs H (gQ U x (.sh d)) (Y.set i (some v)):=by
 have hl:i<Y.length:=by have:=(List.getElem?_eq_some_iff.mp hi).1;rw[h.len];simpa using this
 refine⟨h.ext,by rw[V3z,h.len];have:=congrArg List.length (aX U x (.sh d));simpa using this.symm,qd hn hi hl h.sh r,λj y ds e=>?_,λj j' y y' ds es a hjj e1 e2 e3 e4=>?_,λj y dss e=>?_,h.lam⟩
 .rw[cu hn hi j] at e
  split at e
  .cases e
  .rename_i hj
   obtain⟨a,vs,k1,k⟩:=h.ow j y ds e;exact⟨a,vs,by rw[List.getElem?_set_ne (λz=>hj z.symm)];exact k1,k⟩
 .rw[cu hn hi] at e1 e2
  split at e1
  .cases e1
  .rename_i hj
   split at e2
   .cases e2
   .rename_i hj'
    rw[List.getElem?_set_ne (λz=>hj z.symm)] at e3;rw[List.getElem?_set_ne (λz=>hj' z.symm)] at e4;exact h.dis j j' y y' ds es a hjj e1 e2 e3 e4
 .rw[cu hn hi j] at e
  split at e
  .cases e
  .rename_i hj
   exact h.oo j y dss e
theorem Hd.own{x:Str}{i:Nat}{ds:List D}{vs:List V}{acc:Addr}(h:Hd K lm Hs0 H0 Hs H U Y)(hn:(U.map (·.1)).Nodup)(hi:(U.map (·.1))[i]?=some x)(h1:H acc=some (.lst vs))(r:aJ K Hs ds vs)(h2:Hs acc=none)(h3:H0 acc=none)
  (no:∀(j:Nat) y dss,j≠i->U[j]?=some (y,.oo dss)->False) (ap:∀(j:Nat) y es,j≠i->U[j]?=some (y,.ow es)->Y[j]?=some (some (.ref acc))->False):Hd K lm Hs0 H0 Hs H (gQ U x (.ow ds)) (Y.set i (some (.ref acc))):=by
 have hl:i<Y.length:=by have:=(List.getElem?_eq_some_iff.mp hi).1;rw[h.len];simpa using this
 refine⟨h.ext,by rw[V3z,h.len];have:=congrArg List.length (aX U x (.ow ds));simpa using this.symm,λj y d e=>?_,λj y es e=>?_,λj j' y y' ds' es a hjj e1 e2 e3 e4=>?_,λj y dss e=>?_,h.lam⟩
 .rw[cu hn hi j] at e
  split at e
  .cases e
  .rename_i hj
   obtain⟨v,k1,k2⟩:=h.sh j y d e;exact⟨v,by rw[List.getElem?_set_ne (λz=>hj z.symm)];exact k1,k2⟩
 .rw[cu hn hi j] at e
  split at e
  .rename_i hj
   subst hj;cases e;exact⟨acc,vs,by rw[List.getElem?_set_self hl],h1,r,h2,h3⟩
  .rename_i hj
   obtain⟨a,vs',k1,k⟩:=h.ow j y es e;exact⟨a,vs',by rw[List.getElem?_set_ne (λz=>hj z.symm)];exact k1,k⟩
 .rw[cu hn hi] at e1 e2
  split at e1
  .rename_i hj
   split at e2
   .rename_i hj'
    exact hjj (hj.trans hj'.symm)
   .rename_i hj'
    subst hj;rw[List.getElem?_set_self hl] at e3;cases e3;rw[List.getElem?_set_ne (λz=>hj' z.symm)] at e4;exact ap j' y' es hj' e2 e4
  .rename_i hj
   split at e2
   .rename_i hj'
    subst hj';rw[List.getElem?_set_self hl] at e4;cases e4;rw[List.getElem?_set_ne (λz=>hj z.symm)] at e3;exact ap j y ds' hj e1 e3
   .rename_i hj'
    rw[List.getElem?_set_ne (λz=>hj z.symm)] at e3;rw[List.getElem?_set_ne (λz=>hj' z.symm)] at e4;exact h.dis j j' y y' ds' es a hjj e1 e2 e3 e4
 .rw[cu hn hi j] at e
  split at e
  .cases e
  .rename_i hj
   exact(no j y dss hj e).elim
theorem Hd.app{x:Str}{i:Nat}{ds es:List D}{vs:List V}{a:Addr}(h:Hd K lm Hs0 H0 Hs H U Y)(hn:(U.map (·.1)).Nodup)(hi:U[i]?=some (x,.ow ds))(hY:Y[i]?=some (some (.ref a)))(r:aJ K Hs es vs):Hd K lm Hs0 H0 Hs (upd H a (.lst vs)) (gQ U x (.ow es)) Y:=by
 obtain⟨a',vs',k1,k2,k3,k4,k5⟩:=h.ow i x ds hi;rw[hY] at k1;cases k1
 have hi':(U.map (·.1))[i]?=some x:=by rw[List.getElem?_map,hi];rfl
 refine⟨Ext.acc h.ext k5 k4,by rw[h.len];have:=congrArg List.length (aX U x (.ow es));simpa using this.symm,λj y d e=>?_,λj y es' e=>?_,λj j' y y' ds' es' b hjj e1 e2 e3 e4=>?_,λj y dss e=>?_,λp hp=>by obtain⟨h0,l,T,n⟩:=h.lam p hp;exact⟨h0,l,T.upd k2,n⟩⟩
 .rw[cu hn hi' j] at e
  split at e
  .cases e
  .exact h.sh j y d e
 .rw[cu hn hi' j] at e
  split at e
  .rename_i hj
   subst hj;cases e;exact⟨a,vs,hY,aB,r,k4,k5⟩
  .rename_i hj
   obtain⟨b,us,g1,g2,g⟩:=h.ow j y es' e;refine⟨b,us,g1,?_,g⟩;rw[aj]
   .exact g2
   .rintro rfl
    exact h.dis j i y x es' ds b hj e hi g1 hY
 .rw[cu hn hi'] at e1 e2
  split at e1
  .rename_i hj
   split at e2
   .rename_i hj'
    exact hjj (hj.trans hj'.symm)
   .subst hj
    exact h.dis j j' x y' ds es' b hjj hi e2 e3 e4
  .split at e2
   .rename_i hj'
    subst hj';exact h.dis j j' y x ds' ds b hjj e1 hi e3 e4
   .exact h.dis j j' y y' ds' es' b hjj e1 e2 e3 e4
 .rw[cu hn hi' j] at e
  split at e
  .cases e
  .rename_i hj
   exact h.oo j y dss e
theorem J7{x:Str}{i:Nat}(hn:(U.map (·.1)).Nodup)(hi:(U.map (·.1))[i]?=some x)(h:pG U x=true):∀(j:Nat) y dss,j≠i->U[j]?=some (y,.oo dss)->False:=λj y dss hj e=>by
 have:=E3z.mp h _ (List.mem_of_getElem? e);rw[R3z] at this;rcases this with q | q
 .have ey:y=x:=by simpa using q
  have e':(U.map (·.1))[j]?=some x:=by rw[List.getElem?_map,e,<- ey];rfl
  exact hj ((List.getElem?_inj (List.getElem?_eq_some_iff.mp e').1 hn).mp (e'.trans hi.symm))
 .exact nomatch q
theorem j5{scope:Scope}:nG K Hs scope (λU Y=>Hd K lm Hs0 H0 Hs H U Y):=λU Y i x d v hn hi _ h r=>h.set hn hi r
end
end L2
namespace L2
open PySem PySem.Spec PyProof.Rows PySem.SeqAt
open DE hiding st
def nZ(X:Cx)(s:Stmt):TS:=λD Y H=>∀z0 s0,Inv X z0 Y H s0->wpAny (model X.prog X.w) X.A (exec s X.env) (SP X z0 D) X.xe s0
def dO(X:Cx)(s:List Stmt):TS:=λD Y H=>∀z0 s0,Inv X z0 Y H s0->wpAny (model X.prog X.w) X.A (execs s X.env) (SP X z0 D) X.xe s0
section
variable{X:Cx}{s:Stmt}{ss:List Stmt}{t:TS}{D:Ends}{Y:St}{H:Hp}
theorem jJ:PS X s (nZ X s):=λz0 s Y H D I h=>h z0 s I
theorem PS.sem(h:PS X s t)(q:t D Y H):nZ X s D Y H:=λz0 s I=>h z0 s Y H D I q
theorem bD:PSs X ss (dO X ss):=λz0 s Y H D I h=>h z0 s I
theorem PSs.sem(h:PSs X ss t)(q:t D Y H):dO X ss D Y H:=λz0 s I=>h z0 s Y H D I q
end
def Runs(X:Cx)(Hs0 H0:Hp)(U:Rho)(fl:Fl)(t:TS):Prop:=∀Y H Hs D,Hd X.K X.lm Hs0 H0 Hs H U Y->X.N=U.map (·.1)->(∀U' Y' Hs' H',fl=.nxt U'->Same Hs Hs'->X.N=U'.map (·.1)->Hd X.K X.lm Hs0 H0 Hs' H' U' Y'->D.nx Y' H') ->
 (∀d v Hs' H',fl=.ret d->Ext Hs0 H0 Hs' H'->Rep X.K Hs' d v->LmT X.lm H'->D.rt v H')->t D Y H
structure GoodS(cx:Cxt)(k:Nat)(X:Cx)(sc:Scope):Prop where
 good:Good cx k X sc
 own:Owns X sc
 pass:PassesOwn (model X.prog X.w) X.A X.env X.xe
 stk:X.stack=X.env::X.outer/\X.env.frame=some X.env.locals
section
variable{X:Cx}{U:Rho}{cx:Cxt}{k F:Nat}{sc scope:Scope}{Hs0 H0:Hp}{e:Expr}{d:D}
theorem Fe(G:GoodS cx k X sc)(hN:X.N=U.map (·.1))(he:ev cx F sc (frz F e U) e=some d){Y:St}{H Hs:Hp}{Q:VK}(h:Hd X.K X.lm Hs0 H0 Hs H U Y)(q:∀v Hs' H',Same Hs Hs'->Hd X.K X.lm Hs0 H0 Hs' H' (frz F e U) Y->Rep X.K Hs' d v->Q v H'):jy X e Y H Q:=by
 obtain⟨Hs1,sm1,h1⟩:=h.frozen F e;exact(dh cx F G.good (by rw[bL];exact hN) he).1 Y H Hs1 Q h1.ext.sub h1.sh λv H' Hs' E r=>q v Hs' H' (sm1.trans E.vis) (h1.step E) r
theorem KR(G:GoodS cx k X sc)(hN:X.N=U.map (·.1)){b:Bool}(he:ev cx F sc (frz F e U) e=some (.bl b)){Y:St}{H Hs:Hp}{Q:Bool->Hp->Prop}(h:Hd X.K X.lm Hs0 H0 Hs H U Y)(q:∀Hs' H',Same Hs Hs'->Hd X.K X.lm Hs0 H0 Hs' H' U Y->Q b H'):nM X e Y H Q:=by
 obtain⟨Hs1,sm1,shp,h1⟩:=h.frozen2 F e;refine(dh cx F G.good (by rw[bL];exact hN) he).2 b rfl Y H Hs1 Q h1.ext.sub h1.sh λH' Hs' E=>?_;exact q Hs H' (.refl _) (h.step ⟨.refl _,E.all,h.ext.sub.trans E.all,λ_ _ _ z=>z⟩)
theorem lg{t:Option Expr}{l:Nat}{env:Env}(he:ev cx F sc U e=some d)(hc:∀a b c p,e≠.ListComp a b c p):swapsWith e t l env=pure false:=by
 cases F with
 | zero=>simp[ev] at he
 | succ F =>
  cases e<;>first | rfl | (exact nomatch (show(Option.none:Option D)=some d from he)) | (exact absurd rfl (hc _ _ _ _))
theorem CZ(h:bW e=false):nR e d=.sh d:=by
 unfold nR;split
 .rw[h];rfl
 .rfl
def Xe(X:Cx)(U:Rho)(e:Expr)(ds:List D):Prop:=∀Y H Hs Q,Same Hs H->bJ X.K Hs U Y->(∀acc vs Hs' H',Ext Hs H Hs' H'->H acc=none->Hs' acc=none->H' acc=some (.lst vs)->aJ X.K Hs' ds vs->Q (.ref acc) H')->jy X e Y H Q
theorem Dz{es:List Expr}{ds:List D}{pos:Pos}(h:EvA X U es ds)(hz:szl ds.length=true):Xe X U (.List es pos) ds:=λY H Hs Q hs hst hq =>
 (qw cR).sem (h Y H Hs _ hs hst λvs H1 Hs1 E1 r1=>⟨by rw[<- r1.length];exact kZ hz,λp hp =>
  hq p vs Hs1 _ (Ext.acc E1 (E1.all.free hp) (E1.sub.free hp)) (E1.all.free hp) (E1.sub.free hp) aB r1⟩)
theorem NQ{x:Str}{ds:List D}{px pos:Pos}(G:GoodS cx k X sc)(hN:X.N=U.map (·.1))(hx:ownIn sc x=true)(hc:(U.map (·.1)).contains x=true)(hno:pG (frz F e U) x=true)
  (hrun:∀(i:Nat),X.N[i]?=some x->∀Y H Hs D,Same Hs H->bJ X.K Hs (frz F e U) Y->(∀acc vs Hs' H',Ext Hs H Hs' H'->H acc=none->Hs' acc=none->H' acc=some (.lst vs)->aJ X.K Hs' ds vs->D.nx (Y.set i (some (.ref acc))) H')->nZ X (.Assign [.Name x px] e pos) D Y H) :
  Runs X Hs0 H0 U (.nxt (gQ (frz F e U) x (.ow ds))) (nZ X (.Assign [.Name x px] e pos)):=by
 intro Y H Hs D h _ hn hr;obtain⟨i,hi⟩:=dW hc;obtain⟨Hs1,sm1,h1⟩:=h.frozen F e
 have hnd:((frz F e U).map (·.1)).Nodup:=by rw[bL,<- hN];exact G.good.nd
 refine hrun i (by rw[hN];exact hi) Y H Hs1 D h1.ext.sub h1.sh λacc vs Hs' H' E a1 a2 a3 r=>?_
 refine hn _ _ Hs' H' rfl (sm1.trans E.vis) (by rw[aX,bL];exact hN) ((h1.step E).own hnd (by rw[bL];exact hi) a3 r a2 (h1.ext.all.free a1) (J7 hnd (by rw[bL];exact hi) hno) λj y es hj q1 q2=>?_)
 obtain⟨b,us,k1,k2,_⟩:=h1.ow j y es q1;rw[k1] at q2;cases q2;rw[a1] at k2;cases k2
theorem Iu{x:Str}{px pos:Pos}(G:GoodS cx k X sc)(hN:X.N=U.map (·.1))(hx:ownIn sc x=true)(hc:(U.map (·.1)).contains x=true)(hlc:ooE cx sc e=false)(hno:bW e=true->pG (frz F e U) x=true)(he:ev cx F sc (frz F e U) e=some d) :
  Runs X Hs0 H0 U (.nxt (gQ (frz F e U) x (nR e d))) (nZ X (.Assign [.Name x px] e pos)):=by
 obtain⟨ox,of⟩:=G.own.own x hx
 have hN':X.N=(frz F e U).map (·.1):=by rw[bL];exact hN
 by_cases hfr:bW e=true
 .cases F with
  | zero=>simp[ev] at he
  | succ F =>
   cases e with
   | List es p2 =>
    simp only[ev] at he;obtain⟨ds,h1,he⟩:=bw he;split at he
    .rename_i hz
     cases he;have hA:=(dU (λe _ d hd=>⟨(dh cx F G.good hN' hd).1,aU hd⟩) h1).1;refine NQ G hN hx hc (hno rfl) λi hi Y H Hs D hs hst hq=>?_;refine PS.sem (iV G.good.nd hi ox au rfl of) (Dz hA hz Y H Hs _ hs hst λacc vs Hs' H' E a1 a2 a3 r=>hq acc vs Hs' H' E a1 a2 a3 r)
    .cases he
   | ListComp elt gens scope p2=>cases hlc
   | _=>simp[bW] at hfr
 .have hfr':bW e=false:=by simpa using hfr
  rw[CZ hfr'];intro Y H Hs D h _ hn hr;obtain⟨i,hi⟩:=dW hc
  have hsw:=lg (t:=some (.Name x px)) (l:=pos.line) (env:=X.env) he λa b c p q=>by rw[q] at hfr';cases hfr'
  refine PS.sem (iV (i:=i) G.good.nd (by rw[hN];exact hi) ox au hsw of) (Fe G hN he h λv Hs' H' sm h' r=>?_)
  exact hn _ _ Hs' H' rfl sm (by rw[aX];exact hN') (h'.set (by rw[<- hN'];exact G.good.nd) (by rw[bL];exact hi) r)
theorem nj{es:List Expr}{l:List D}{U':Rho}{Y:St}{v:V}{Hs H:Hp}{P:Rho->St->Prop}{Q:St->Hp->Prop}{kt:Nat}{pos:Pos}(G:GoodS cx k X sc)(hs:Same Hs H)(hN:X.N=U.map (·.1))(KE:nG X.K Hs sc P)(hl:tupI d=some l)(hb:bindNames sc es l U=some U')(hp:P U Y)(rd:Rep X.K Hs d v)
  (hq:∀Y',X.N=U'.map (·.1)->P U' Y'->Q Y' H):Hl X (.Tuple es kt pos) v Y H Q:=by
 obtain⟨e1,e2,e3⟩:=gG (env:=X.env) hb
 cases d with
 | tup xs =>
  simp only[tupI,K2z] at hl;subst hl
  obtain⟨a,vs,rfl,h1,h2⟩:=cB rd;exact PG.sem (G3 G.good.calm sE e1 e2) ⟨a,vs,rfl,hs.tup h1,by rw[<- h2.length,e3],jG G.own G.good.nd KE hN hb hp h2 hq⟩
 | _=>simp[tupI] at hl
theorem uW{n:Nat}(h:nc0 e=true):foldedForSure n e=false/\constantsAlone n e=false:=by
 cases e<;>simp[nc0] at h<;>(constructor<;>simp[foldedForSure,constantsAlone,h])
theorem Pu{n:Nat}(h:nc1 e=true):constantsAlone (n+1) e=false:=by
 unfold nc1 at h;split at h
 .simp[constantsAlone,(uW (n:=n) h).2]
 .exact(uW h).2
theorem DW(h:nc e=true):foldedForSure 8 e=false/\constantsAlone 8 e=false:=by
 unfold nc at h;split at h
 .rw[R3z] at h
  refine⟨by simp[foldedForSure],?_⟩
  rcases h with h | h<;>simp[constantsAlone,(uW (n:=7) h).2]
 .rw[R3z] at h
  refine⟨by simp[foldedForSure],?_⟩
  rcases h with h | h<;>simp[constantsAlone,(Pu (n:=6) h)]
 .exact uW h
theorem Ga(G:Good cx k X sc):X.env.blockKind=.function:=by
 unfold Env.blockKind;rw[G.sce,G.kind];rfl
theorem Nz{es:List Expr}{kt:Nat}{pt:Pos}(G:Good cx k X sc)(h:swp sc es e=some false):swappedStores [.Tuple es kt pt] e X.env=pure none:=by
 cases e with
 | Tuple vs k2 p2 =>
  simp only[swp] at h;split at h
  .split at h
   .split at h<;>cases h
   .cases h
  .cases h
 | _=>rfl
theorem Ip{es:List Expr}{kt:Nat}{pt:Pos}(G:Good cx k X sc)(h:swp sc es e=some true):∃x px y py a b k2 p2,es=[.Name x px,.Name y py]/\e=.Tuple [a,b] k2 p2/\X.env.scope.names.lookup x=some .local/\X.env.scope.names.lookup y=some .local/\x≠y/\aH a=true/\aH b=true /\
    swappedStores [.Tuple es kt pt] e X.env=pure (some [x,y]):=by
  cases e with
  | Tuple vs k2 p2 =>
    simp only[swp] at h
    split at h
    . rename_i x px y py a b
      split at h
      . rename_i hl
        split at h
        . rename_i hq
          rw[Y2z] at hl
          rw[Y2z,Y2z,Y2z,Y2z,R3z] at hq
          obtain⟨⟨⟨⟨q1,q2⟩,q3⟩,q4⟩,q5⟩:=hq
          have l1:X.env.kindOf x=some .local:=by unfold Env.kindOf;rw[G.sce];simpa using hl.1
          have l2:X.env.kindOf y=some .local:=by unfold Env.kindOf;rw[G.sce];simpa using hl.2
          have hxy:x≠y:=by simpa using q2
          have hpl : py.line = px.line := by have : px.line = py.line := by simpa using q1
                                             exact this.symm
          have f1:(foldedForSure 8 a&&foldedForSure 8 b)=false:=by
            rcases q3 with q | q
            . rw[(DW q).1];rfl
            . rw[(DW q).1,B4z]
          have f2:(constantsAlone 8 a&&constantsAlone 8 b)=false:=by
            rcases q3 with q | q
            . rw[(DW q).2];rfl
            . rw[(DW q).2,B4z]
          refine⟨x,px,y,py,a,b,k2,p2,rfl,rfl,l1,l2,hxy,q4,q5,?_⟩
          unfold swappedStores
          have ed:([x,y]:List Str).eraseDups.length=2:=by
            have:(y==x)=false:=by simpa using hxy.symm
            simp[List.eraseDups_cons,this]
          have al1:[a,b].all (foldedForSure 8)=false:=by simpa using f1
          have al2:[a,b].all (constantsAlone 8)=false:=by simpa using f2
          simp only[al1,al2,Ga G]
          generalize hst:[a,b].any _=sb
          have hsb:sb=false:=by
            rw[<- hst,I4z,I4z,List.any_nil,Bool.or_false,Bool.or_eq_false_iff]
            clear hst f1 f2 al1 al2 q3
            refine⟨?_,?_⟩
            . cases a<;>first | rfl | (simp[aH] at q4)
            . cases b<;>first | rfl | (simp[aH] at q5)
          generalize hf:List.filterMap _ [Expr.Name x px,Expr.Name y py]=nm
          have hnm:nm=[x,y]:=by
            rw[<- hf]
            simp[A1z,l1,l2,hpl,Expr.pos]
          rw[hsb,hnm]
          simp only[ed]
          rfl
        . cases h
      . cases h
    . cases h
  | _=>simp[swp] at h
end
def XOk(X:Cx)(Y:St)(E:XK):Prop:=∀z0 H s e s',Inv X z0 Y H s->CX1 X.prog X.w X.stack H s E e s'->X.xe e s'
def Ck(X:Cx)(Y:St)(E:XK):Prop:=∀z0 H s (C e:Addr) h' args,Inv X z0 Y H s->Heap.MadeExcOf s.heap h' e (.ref C) args->E (.ref C) none H->X.xe (.ref e) {s with heap:=h'}
def EX(X:Cx)(c:Str)(Hs H:Hp)(E:XK):Prop:=∀C H' Hs',W.nsIn X.K mainGlobals c=some (some (.ref C))->Ext Hs H Hs' H'->E (.ref C) none H'
theorem EX.step{X:Cx}{c:Str}{Hs H Hs1 H1:Hp}{E:XK}(h:EX X c Hs H E)(e:Ext Hs H Hs1 H1):EX X c Hs1 H1 E:=λC H' Hs' hn e'=>h C H' Hs' hn (e.trans e')
def EvX(X:Cx)(U:Rho)(e:Expr)(c:Str):Prop:=∀Y H Hs E,Same Hs H->bJ X.K Hs U Y->EX X c Hs H E->XOk X Y E->∀Q,jy X e Y H Q
def Vs(X:Cx)(U:Rho)(es:List Expr)(c:Str):Prop:=∀Y H Hs E,Same Hs H->bJ X.K Hs U Y->EX X c Hs H E->XOk X Y E->∀Q,yh X es Y H Q
section
variable{X:Cx}{U:Rho}{cx:Cxt}{k:Nat}{sc scope:Scope}
theorem yK{f:Addr}{fd:FuncData}{ps:List Str}{sp:Sp}{E:XK}{z0:List (Addr×Obj)}{Y:St}{H:Hp}{s:Shared}{Q:VK}{us:List Value}{vs:List V}(F:FnOk X.prog X.w X.K X.mg X.base (CX1 X.prog X.w) k f fd ps sp)(hr:Room k X.A)(hb:Binds X.K fd ps [])(hx:XOk X Y E)
  (I:Inv X z0 Y H s) (r:Vals vs us) (h:sp vs H Q E):wpAny (model X.prog X.w) X.A (call (.ref f) us) (EP X z0 Y Q) X.xe s:=by
 have hl:(us++([]:List Value)).length=ps.length:=by rw[J3z,<- r.length];exact F.len _ _ _ _ h
 have hb':=hb s us I.kIn hl;rw[J3z] at hb';refine wpAny_call (S4z (F.run X.A X.stack s H ⟨us,[]⟩ us vs Q E hr I.env0 hb' r h) λr s' hq=>?_)
 cases r with
 | error e=>exact hx z0 H s e s' I hq
 | ok fl =>
  cases fl with
  | ret u=>exact I.after hq
  | next=>exact False.elim hq
  | brk=>exact False.elim hq
  | cont=>exact False.elim hq
theorem HX{f:Expr->Option D}{g:Expr->Option Str}{c:Str}(hf:∀e d,f e=some d->Ev X U e d)(hg:∀e c,g e=some c->EvX X U e c):∀{es:List Expr},(∀e∈es,aH e=true)->wW f g es=some c->Vs X U es c
 | [],_,h=>by simp[wW] at h
 | e::es,hp,h=>by
  simp only[wW] at h;intro Y H Hs E hs hst hE hx Q;refine(aA au cR (aq (hp e (by simp)))).sem ?_
  cases he:f e with
  | some d =>
   rw[he] at h;exact hf e d he Y H Hs _ hs hst λv H1 Hs1 E1 _=>HX hf hg (λe' h'=>hp e' (U0z _ h')) h Y H1 Hs1 E E1.sub (hst.same E1.vis) (hE.step E1) hx _
  | none =>
   rw[he] at h;exact hg e c h Y H Hs E hs hst hE hx _
theorem Fp{f:Str}{es:List Expr}{c:Str}{p pos:Pos}(G:Good cx k X sc)(hg:Gl X f)(hf:cx.fns.contains f=true)(hne:es≠[])(hp:∀e∈es,aH e=true)(h:Vs X U es c\/∃ds,EvA X U es ds/\cx.callx f ds=some c) :
  EvX X U (.Call (.Name f p) es [] pos) c:=by
 obtain⟨hdb,a,fd,ps,_,har,hm,hk,hb,F⟩:=G.fns f hf
 cases es with
 | nil=>exact absurd rfl hne
 | cons e es =>
  intro Y H Hs E hs hst hE hx Q z0 s I;refine O1z (f9 I hg hm ?_ hdb);refine P1z (h₀:=X.base) I.ok.mod.kin hk ?_ (aq (hp e (by simp))) (dJ λe' he=>hp e' (U0z _ he));rcases h with h | ⟨ds,hA,hc⟩
  .exact thn (h Y H Hs E hs hst hE hx (λ_ _=>False) pos z0 s I) λus s1 ⟨vs,H1,I1,r,q⟩=>q.elim
  .refine thn (hA Y H Hs (λvs H1=>∃Hs1,Ext Hs H Hs1 H1/\aJ X.K Hs1 ds vs) hs hst (λvs H1 Hs1 E1 r1=>⟨Hs1,E1,r1⟩) pos z0 s I) λus s1 ⟨vs,H1,I1,r,Hs1,E1,r1⟩=>⟨I1.kIn,?_⟩
   exact yK F G.room hb hx I1 r ⟨by rw[<- r1.length,har ds c hc],Hs1,ds,E1.sub,r1,.inr ⟨c,hc,hE.step E1⟩⟩
theorem Hv(cx:Cxt):∀(n:Nat){k:Nat}{X:Cx}{sc:Scope}{U:Rho}{e:Expr}{c:Str},Good cx k X sc->X.N=U.map (·.1)->evx cx n sc U e=some c->EvX X U e c
 | 0,k,X,sc,U,e,c,_,_,h=>by exact nomatch (show(Option.none:Option Str)=some c from h)
 | n+1,k,X,sc,U,e,c,G,hN,h=>by
  have ih:∀e d,ev cx n sc U e=some d->Ev X U e d/\∀b,d=.bl b->EvT X U e b:=λe d h=>dh cx n G hN h;simp only[evx] at h;split at h
  .rename_i x p args pos
   split at h
   .rename_i hc
    simp only[Y2z] at hc;obtain⟨⟨⟨hgl,hne⟩,hpl⟩,hfn⟩:=hc
    have hg:Gl X x:=by
     have e:sc.names.lookup x=some .globalImplicit:=by unfold rQ at hgl;simpa using hgl
     show X.env.scope.names.lookup x=_;rw[G.sce,e]
    have hp:∀e∈args,aH e=true:=λe he=>E3z.mp hpl e he;refine Fp G hg hfn (λq=>by rw[q] at hne;exact absurd hne (by decide)) hp ?_;split at h
    .rename_i ds hds
     exact .inr ⟨ds,(dU (λe _ d hd=>⟨(ih e d hd).1,aU hd⟩) hds).1,h⟩
    .exact .inl (HX (λe d h=>(ih e d h).1) (λe c h=>Hv cx n G hN h) hp h)
   .cases h
  .cases h
end
section
variable{X:Cx}{pos:Pos}
end
section
variable{X:Cx}{U:Rho}{cx:Cxt}{k F:Nat}{sc scope:Scope}{Hs0 H0:Hp}{e:Expr}{d:D}
theorem NP{es:List Expr}{l:List D}{U':Rho}{kt:Nat}{pt pos:Pos}(G:GoodS cx k X sc)(hN:X.N=U.map (·.1))(hs:(swp sc es e).isSome=true)(he:ev cx F sc (frz F e U) e=some d)(hl:tupI d=some l)(hb:bindNames sc es l (frz F e U)=some U') :
  Runs X Hs0 H0 U (.nxt U') (nZ X (.Assign [.Tuple es kt pt] e pos)):=by
 have hN':X.N=(frz F e U).map (·.1):=by rw[bL];exact hN
 obtain⟨b,hb'⟩:=Option.isSome_iff_exists.mp hs
 cases b with
 | false =>
  have hw:=Nz (kt:=kt) (pt:=pt) G.good hb'
  have hso:swapsWithSole [.Tuple es kt pt] e pos.line X.env=pure false:=by
   show swapsWith e (some (.Tuple es kt pt)) pos.line X.env=pure false
   by_cases hc:∃a b c p,e=.ListComp a b c p
   .obtain⟨a,b,c,p,rfl⟩:=hc
    rfl
   .exact lg he λa b c p q=>hc ⟨a,b,c,p,q⟩
  intro Y H Hs D h _ hn hr;exact PS.sem (GR au lE hso hw rfl) (Fe G hN he h λv Hs' H' sm h' r=>nj G h'.ext.sub hN' j5 hl hb h' r λY' hN2 p=>hn U' Y' Hs' H' rfl sm hN2 p)
 | true =>
  obtain⟨x,px,y,py,a,b,k2,p2,rfl,rfl,lx,ly,hxy,pa,pb,hw⟩:=Ip (kt:=kt) (pt:=pt) G.good hb'
  cases F with
  | zero=>simp[ev] at he
  | succ F =>
   simp only[ev] at he;obtain⟨ds,h1,he⟩:=bw he;split at he
   .cases he
    simp only[tupI,K2z] at hl;subst hl;have hA:=(dU (λe _ d hd=>⟨(dh cx F G.good hN' hd).1,aU hd⟩) h1).1
    have hlen:ds.length=2:=by have:=(gG (env:=X.env) hb).2.2;simpa using this.symm
    obtain⟨d1,d2,rfl⟩:∃d1 d2,ds=[d1,d2]:=by
     match ds,hlen with
     | [d1,d2],_=>exact⟨d1,d2,rfl⟩
    simp only[bindNames] at hb;split at hb
    .rename_i c1
     split at hb
     .rename_i c2
      cases hb;rw[Y2z] at c1 c2;rw[aX] at c2;obtain⟨i,hi⟩:=dW c1.2;obtain⟨j,hj⟩:=dW c2.2
      have hij:i≠j:=λz=>by rw[z,hj] at hi;cases hi;exact hxy rfl
      intro Y H Hs D h _ hn hr;obtain⟨Hs1,sm1,h1'⟩:=h.frozen (F+1) (.Tuple [a,b] k2 p2);refine PS.sem (Oe G.good.calm G.good.nd (by rw[hN'];exact hi) (by rw[hN'];exact hj) hij lx ly cR hw rfl) (hA Y H Hs1 _ h1'.ext.sub h1'.sh λvs H' Hs' E r=>?_);obtain⟨v,w,rfl,r1,r2⟩:=repL2 r
      have nd:((frz (F+1) (.Tuple [a,b] k2 p2) U).map (·.1)).Nodup:=by rw[<- hN'];exact G.good.nd
      have g1:=(h1'.step E).set nd hi r1;have g2:=g1.set (by rw[aX];exact nd) (by rw[aX];exact hj) r2;exact⟨v,w,rfl,hn _ _ Hs' H' rfl (sm1.trans E.vis) (by rw[aX,aX];exact hN') g2⟩
     .cases hb
    .cases hb
   .cases he
theorem yx{x:Str}{ds:List D}{px ap cp pos:Pos}(G:GoodS cx k X sc)(hN:X.N=U.map (·.1))(hx:(frz F e U).lookup x=some (.ow ds))(ho:ownIn sc x=true)(hp:aK x=true)(hline:(ap.endLine==cp.line)=true)(hz:szl (ds.length+1)=true)(he:ev cx F sc (frz F e U) e=some d) :
  Runs X Hs0 H0 U (.nxt (gQ (frz F e U) x (.ow (ds++[d])))) (nZ X (.Expr (.Call (.Attribute (.Name x px) "append" ap) [e] [] cp) pos)):=by
 have hN':X.N=(frz F e U).map (·.1):=by rw[bL];exact hN
 obtain⟨i,hi,_⟩:=eV hx
 have nd:((frz F e U).map (·.1)).Nodup:=by rw[<- hN'];exact G.good.nd
 have hpl:=aU he;intro Y H Hs D h _ hn hr;obtain⟨Hs1,sm1,h1⟩:=h.frozen F e;obtain⟨a,vs,k1,k2,k3,k4,k5⟩:=h1.ow i x ds hi;unfold aK at hp;rw[Y2z,I5z,I5z] at hp;have vis:Vis X.env.scope x:=(G.own.own x ho).1.elim .inl λq=>.inr (.inl q);refine PS.sem (cC (wF H0z D0z E0z jc (mU (i:=i) (by rw[hN',List.getElem?_map,hi];rfl) vis (by simpa using hp.1) (by simpa using hp.2)) (aA au aO (aq hpl)) rfl (by rw[aq hpl];rfl) hline (aq hpl) rfl) rfl) ?_;refine⟨_,k1,.inl ⟨rfl,vs,.of k2⟩,?_⟩;refine(dh cx F G.good hN' he).1 Y H Hs1 _ h1.ext.sub h1.sh λv H' Hs' E r=>?_;have h2:=h1.step E;refine⟨a,vs,v,rfl,rfl,E.all _ _ k2,by have:=k3.length;have:=Gn hz;omega,?_⟩;exact hn _ _ Hs' _ rfl (sm1.trans E.vis) (by rw[aX];exact hN') (h2.app nd hi k1 (aJ.append (aJ.same E.vis ds vs k3) (.cons r .nil)))
theorem wM(l:Addr)(xs:Array Value)(n:Nat)(b:Addr)(ys:Array Value)(m:Nat)(dd:Option Addr)(sl:Array (Option Value))(c0:¬(!xs.isEmpty&&Builtin.List.listTooLong (xs.size+ys.size))=true)(c1:xs.size<=sizeLine)(c2:xs.size+ys.size<=sizeLine+1) :
  Meets (Builtin.«list.extend» ⟨[.ref l,.ref b],[]⟩) (λ_ R s=>s.heap.get? l=some {cls:=.type "list",data:=.seq xs n}/\s.heap.get? b=some {cls:=.type "tuple",dict:=dd,data:=.seq ys m,slots:=sl} /\
   R (.ok (.ret Value.none)) {s with heap:=s.heap.update l (Obj.mapSeq λx=>x++ys),toks:=s.toks}) :=
 .of_wp λprog w A R s h=>by
  obtain⟨hp,g,d,tk,os⟩:=s;obtain⟨hl,hb,h⟩:=h;have f1:=sub_list_list;have f2:=AutoSeq1.sub_tuple_list;have f3:=AutoSeq1.sub_list_tuple;have f4:=isSubtype_tuple_tuple
  have z:(xs++ys).size<=sizeLine+1:=by rw[Array.size_append];exact c2
  wp_walk using(wpAny_updateSeq hl rfl (hz:=c1) (_hz':=z)),AutoSeq1.wpAny_loadPart' hl,AutoSeq1.wpAny_loadPart' hb;exact⟨_,rfl,h⟩
def Sw(K:Zf):V->List V->Hp->VK->Prop:=λx vs H Q=>∃l b xs zs,x=.ref l/\vs=[.ref b]/\H l=some (.lst xs)/\SqT K H b zs/\xs.length+zs.length<=sizeLine/\Q .non (upd H l (.lst (xs++zs)))
theorem J9:MtM X "list.extend" (Sw X.K):=by
 intro z0 s Y H x vs v us Q I rx rv h;obtain⟨l,b,xs,zs,rfl,rfl,hH,hB,hz,q⟩:=h;cases (show v=Value.ref l from rx);obtain⟨u,rfl,ru⟩:=rv.one;cases (show u=Value.ref b from ru);obtain⟨z,its,n,r,hl,e⟩:=I.lstM hH;obtain⟨its2,r2,pl,hz2⟩:=I.tuple hB;have hl2:=r2.length;obtain⟨⟨c2,dd2,data2,sl2⟩,e2,hc2,n2,hs2⟩:=pl;simp only at hc2 hs2
 have hsz:its.toArray.size+its2.toArray.size<=sizeLine:=by rw[D2z,D2z];omega
 have lng:¬ (!its.toArray.isEmpty&&Builtin.List.listTooLong (its.toArray.size+its2.toArray.size))=true:=λw=>by
  rw[DQ hsz,B4z] at w;cases w
 subst hc2 hs2;refine H5z F.slot_list_extend ⟨_,e,rfl⟩ F.entry_list_extend (F.args_list_extend_2 _ _) (wM l its.toArray n b its2.toArray n2 dd2 sl2 lng (by rw[D2z];omega) (by omega)) ⟨e,e2,?_⟩;exact⟨.non,_,I.lset (its':=its++its2) hH e (by simp) (r.append r2) (by rw[Q1z];omega),rfl,q⟩
theorem wz{x:Str}{ds zs:List D}{px ap cp pos:Pos}(G:GoodS cx k X sc)(hN:X.N=U.map (·.1))(hx:(frz F e U).lookup x=some (.ow ds))(ho:ownIn sc x=true)(hp:aK x=true)(hline:(ap.endLine==cp.line)=true)(hz:szl (ds.length+zs.length)=true)(he:ev cx F sc (frz F e U) e=some (.tup zs)) :
  Runs X Hs0 H0 U (.nxt (gQ (frz F e U) x (.ow (ds++zs)))) (nZ X (.Expr (.Call (.Attribute (.Name x px) "extend" ap) [e] [] cp) pos)):=by
 have hN':X.N=(frz F e U).map (·.1):=by rw[bL];exact hN
 obtain⟨i,hi,_⟩:=eV hx
 have nd:((frz F e U).map (·.1)).Nodup:=by rw[<- hN'];exact G.good.nd
 have hpl:=aU he;intro Y H Hs D h _ hn hr;obtain⟨Hs1,sm1,h1⟩:=h.frozen F e;obtain⟨a,vs,k1,k2,k3,k4,k5⟩:=h1.ow i x ds hi;unfold aK at hp;rw[Y2z,I5z,I5z] at hp;have vis:Vis X.env.scope x:=(G.own.own x ho).1.elim .inl λq=>.inr (.inl q);refine PS.sem (cC (wF H0z PySem.F.slot_list_extend PySem.F.type_list_extend J9 (mU (i:=i) (by rw[hN',List.getElem?_map,hi];rfl) vis (by simpa using hp.1) (by simpa using hp.2)) (aA au aO (aq hpl)) rfl (by rw[aq hpl];rfl) hline (aq hpl) rfl) rfl) ?_;refine⟨_,k1,.inl ⟨rfl,vs,.of k2⟩,?_⟩;refine(dh cx F G.good hN' he).1 Y H Hs1 _ h1.ext.sub h1.sh λv H' Hs' E r=>?_;have h2:=h1.step E;obtain⟨b,us,rfl,g1,g2⟩:=cB r;refine⟨a,b,vs,us,rfl,rfl,E.all _ _ k2,E.sub.tup g1,by have:=k3.length;have:=g2.length;have:=kZ hz;omega,?_⟩;exact hn _ _ Hs' _ rfl (sm1.trans E.vis) (by rw[aX];exact hN') (h2.app nd hi k1 (aJ.append (aJ.same E.vis ds vs k3) g2))
theorem Iw{pos:Pos}(G:GoodS cx k X sc)(hN:X.N=U.map (·.1))(he:ev cx F sc (frz F e U) e=some d)(hc:∀a b c p,e≠.ListComp a b c p):Runs X Hs0 H0 U (.nxt (frz F e U)) (nZ X (.Expr e pos)):=by
 intro Y H Hs D h _ hn hr;exact PS.sem (cC au (lg he hc)) (Fe G hN he h λv Hs' H' sm h' r=>hn _ _ Hs' H' rfl sm (by rw[bL];exact hN) h')
theorem Kw{f:Rho->Stmt->Option Fl}(hf:∀U s fl,X.N=U.map (·.1)->f U s=some fl->Runs X Hs0 H0 U fl (nZ X s)):∀(l:List Stmt)(U:Rho)(fl:Fl),X.N=U.map (·.1)->iT f l U=some fl->Runs X Hs0 H0 U fl (dO X l)
 | [],U,fl,hN,h=>by
  simp only[iT,K2z] at h;subst h;intro Y H Hs D h _ hn hr;exact PSs.sem fj (hn _ _ Hs H rfl (.refl _) hN h)
 | s::r,U,fl,hN,h=>by
  simp only[iT] at h;obtain⟨fl1,h1,h2⟩:=bw h;intro Y H Hs D hd _ hn hr;refine PSs.sem (aL jJ bD) (hf U s fl1 hN h1 Y H Hs _ hd hN (λU' Y' Hs' H' q sm hN' hd'=>?_) λd v Hs' H' q E rr lm'=>?_)
  .subst q
   exact Kw hf r U' fl hN' h2 Y' H' Hs' D hd' hN' (λU2 Y2 Hs2 H2 q2 sm2=>hn U2 Y2 Hs2 H2 q2 (sm.trans sm2)) hr
  .subst q
   cases h2;exact hr d v Hs' H' rfl E rr lm'
theorem NT{tg iter:Expr}{body:List Stmt}{l:List D}{fl:Fl}{pos:Pos}{f:D->Rho->Option Fl}(G:GoodS cx k X sc)(hN:X.N=U.map (·.1))(hI:evI cx (eY tg) (ev cx F sc (frz F iter U)) sc iter=some l)
  (hf:∀d U1 fl,f d U1=some fl->X.N=U1.map (·.1)->∃U2,fH sc tg d U1=some U2/\(X.N=U2.map (·.1)->Runs X Hs0 H0 U2 fl (dO X body))) (h:fG f l (frz F iter U)=some fl):Runs X Hs0 H0 U fl (nZ X (.For tg iter body [] pos)):=by
 have hN':X.N=(frz F iter U).map (·.1):=by rw[bL];exact hN
 obtain⟨hI',hp⟩:=Av (tg:=tg) (U:=frz F iter U) G.good (λe d h=>⟨(dh cx F G.good hN' h).1,aU h⟩) hI;intro Y H Hs D hd _ hn hr;obtain⟨Hs1,sm1,h1⟩:=hd.frozen F iter;refine PS.sem (GQ G.pass G.good.calm uR lE bD (iW hp)) (hI' Y H Hs1 _ h1.ext.sub h1.sh λJ H2 Hs2 E2 hJ=>?_)
 let W:Nat->Nat->St->Hp->Prop:=λi m Y H=>m=l.length-i/\i<=l.length/\∃Ui Hsi,Same Hs2 Hsi/\Hd X.K X.lm Hs0 H0 Hsi H Ui Y/\X.N=Ui.map (·.1)/\fG f (l.drop i) Ui=some fl
 refine⟨W,⟨l.length,rfl,Z4z _,_,Hs2,.refl _,h1.step E2,hN',by simpa using h⟩,?_⟩;rintro i m Yi Hi ⟨rfl,hi,Ui,Hsi,sm,hdi,hNi,gi⟩;obtain⟨stp,go⟩:=hJ Hsi Hi sm hdi.ext.sub
 by_cases hlt:i<l.length
 .obtain⟨g1,g2⟩:=go i l[i] (List.getElem?_eq_getElem hlt)
  refine .inr ⟨g1,λY' H'=>W (i+1) (l.length-(i+1)) Y' H',λY' H' w=>⟨_,by omega,w⟩,λx H' y=>?_⟩;obtain⟨Hs3,E3,rx⟩:=g2 x H' y;rw[List.drop_eq_getElem_cons hlt] at gi;simp only[fG] at gi;obtain⟨fl1,b1,b2⟩:=bw gi;obtain⟨U2,c1,c2⟩:=hf _ _ _ b1 hNi;have hd3:=hdi.step E3;refine uo G.good.calm G.own G.good.nd hd3.ext.sub hNi (j5 (Hs0:=Hs0) (H0:=H0) (H:=H')) c1 hd3 rx λY' hN2 p=>?_;refine c2 hN2 Y' H' Hs3 _ p hN2 (λU' Y'' Hs' H'' q sm4 hN3 hd4=>?_) λd v Hs' H'' q E rr lm'=>?_
  .subst q
   exact⟨rfl,hlt,U',Hs',sm.trans (E3.vis.trans sm4),hd4,hN3,b2⟩
  .subst q
   cases b2;exact hr d v Hs' H'' rfl E rr lm'
 .have hi':i=l.length:=by omega
  subst hi';refine .inl ⟨stp,?_⟩;rw[List.drop_length] at gi;simp only[fG,K2z] at gi;exact hn Ui Yi Hsi Hi gi.symm (sm1.trans (E2.vis.trans sm)) hNi hdi
end
section
variable{X:Cx}{U:Rho}{cx:Cxt}{k F:Nat}{sc scope:Scope}{Hs0 H0:Hp}{e:Expr}{d:D}
theorem RK{s:Stmt}{D:Ends}{Y:St}{H:Hp}(h:nZ X.nox s D Y H):nZ X s D Y H:=λz0 s0 I=>D5z (h z0 s0 (I.wish _)) (λ_ _ q=>q.unwish) λ_ _ z=>False.elim z
abbrev Cx.pinned(X:Cx)(pn:List (Addr×Obj))(xe:Value->Shared->Prop):Cx:={X with pn:=pn,xe:=xe}
theorem Inv.repin{pn pn' z0 pins':List (Addr×Obj)}{xe xe':Value->Shared->Prop}{Y:St}{H:Hp}{s:Shared}(I:Inv (X.pinned pn xe) z0 Y H s)(h:∀p∈pn'++pins',p∈pn++z0):Inv (X.pinned pn' xe') pins' Y H s :=
 ⟨⟨I.ok.mod,I.ok.kind,I.ok.glob,I.ok.blt,I.ok.above,I.ok.inj,I.ok.has,I.ok.cab,I.ok.hd,I.ok.frames,I.ok.stk,I.ok.exf,I.ok.bs,I.ok.bsz,I.ok.noex,I.ok.exfs,I.ok.funs,I.ok.frf⟩,I.os,I.bare,I.base,I.loc,I.cell,I.free,I.freeC,λp hp=>I.pin p (h p hp),I.hok,I.len⟩
def Gb(rs:Bool)(X:Cx)(Hs0 H0:Hp)(U:Rho)(c:Str)(U':Rho)(t:TS):Prop:=∀Y H Hs D,Hd X.K X.lm Hs0 H0 Hs H U Y->X.N=U.map (·.1) ->
 (∀Y' Hs' H',Same Hs Hs'->X.N=U'.map (·.1)->Hd X.K X.lm Hs0 H0 Hs' H' U' Y'->∃E,EX X c Hs' H' E/\XOk X Y' E/\(rs=true->Ck X Y' E))->t D Y H
theorem Ag{rs:Bool}{f:Rho->Stmt->Option Fl}{g:Rho->Stmt->Option (Str×Rho)}{c:Str}{U':Rho}(hf:∀U s fl,X.N=U.map (·.1)->f U s=some fl->Runs X.nox Hs0 H0 U fl (nZ X.nox s))(hg:∀U s c U',X.N=U.map (·.1)->g U s=some (c,U')->Gb rs X Hs0 H0 U c U' (nZ X s)) :
  ∀(l:List Stmt)(U:Rho),X.N=U.map (·.1)->lq f g l U=some (c,U')->Gb rs X Hs0 H0 U c U' (dO X l)
 | [],U,hN,h=>by simp[lq] at h
 | s::r,U,hN,h=>by
  simp only[lq] at h;intro Y H Hs D hd _ hx;refine PSs.sem (aL jJ bD) ?_;split at h
  .rename_i U1 h1
   refine RK (hf U s _ hN h1 Y H Hs _ hd hN (λU2 Y2 Hs2 H2 q sm hN2 hd2=>?_) λd v Hs2 H2 q _ _=>nomatch q);cases q;exact Ag hf hg r U1 hN2 h Y2 H2 Hs2 D hd2 hN2 λY3 Hs3 H3 sm3=>hx Y3 Hs3 H3 (sm.trans sm3)
  .cases h
  .exact hg U s c U' hN h Y H Hs _ hd hN hx
theorem Hu{c:Str}(G:Good cx k X sc)(hN:X.N=U.map (·.1))(he:evx cx F sc (frz F e U) e=some c){Y:St}{H Hs:Hp}{rs:Bool}{Q:VK}(h:Hd X.K X.lm Hs0 H0 Hs H U Y)
  (hx:∀Y' Hs' H',Same Hs Hs'->X.N=(frz F e U).map (·.1)->Hd X.K X.lm Hs0 H0 Hs' H' (frz F e U) Y'->∃E,EX X c Hs' H' E/\XOk X Y' E/\(rs=true->Ck X Y' E)):jy X e Y H Q:=by
 obtain⟨Hs1,sm1,h1⟩:=h.frozen F e
 have hN':X.N=(frz F e U).map (·.1):=by rw[bL];exact hN
 obtain⟨E,e1,e2,_⟩:=hx Y Hs1 H sm1 hN' h1;exact Hv cx F G hN' he Y H Hs1 E h1.ext.sub h1.sh e1 e2 Q
theorem NK{t:Option Expr}{l:Nat}{env:Env}{c:Str}(he:evx cx F sc U e=some c)(hc:bW e=false):swapsWith e t l env=pure false:=by
 cases F with
 | zero=>exact nomatch (show(Option.none:Option Str)=some c from he)
 | succ F =>
  cases e<;>first | rfl | (exact nomatch (show(Option.none:Option Str)=some c from he)) | (exact absurd hc (by simp[bW]))
end
mutual
theorem yw(cx:Cxt)(F:Nat):∀(n:Nat){k:Nat}{X:Cx}{sc:Scope}{U:Rho}{s:Stmt}{fl:Fl}{Hs0 H0:Hp},GoodS cx k X sc->X.N=U.map (·.1)->DE.st cx F n sc U s=some fl->Runs X Hs0 H0 U fl (nZ X s)
 | 0,k,X,sc,U,s,fl,Hs0,H0,_,_,h=>by simp[DE.st] at h
 | n+1,k,X,sc,U,s,fl,Hs0,H0,G,hN,h=>by
  have block:∀(l:List Stmt)(U:Rho)(fl:Fl),X.N=U.map (·.1)->iT (λU s=>DE.st cx F n sc U s) l U=some fl->Runs X Hs0 H0 U fl (dO X l):=Kw λU s fl hN h=>yw cx F n G hN h
  cases s with
  | Pass pos =>
   simp only[DE.st,K2z] at h;subst h;intro Y H Hs D hd _ hn hr;exact PS.sem Jw (hn _ _ Hs H rfl (.refl _) hN hd)
  | Return v pos =>
   simp only[DE.st] at h
   cases v with
   | none =>
    simp only[K2z] at h;subst h;intro Y H Hs D hd _ hn hr;exact PS.sem Jv (hr .non .non Hs H rfl hd.ext (by simp[Rep]) hd.lmt)
   | some e =>
    simp only[O0z] at h;obtain⟨d,he,rfl⟩:=h;intro Y H Hs D hd _ hn hr;exact PS.sem (cN au) (Fe G hN he hd λv Hs' H' sm h' r=>hr d v Hs' H' rfl h'.ext r h'.lmt)
  | Assign tgs e pos =>
   simp only[DE.st] at h;split at h
   .split at h
    .rename_i hc
     rw[Y2z] at hc;split at h
     .cases h
     .rename_i hoo
      split at h
      .cases h
      .split at h
       .cases h
       .rename_i hno
        split at h
        .cases h
        .simp only[O0z] at h
         obtain⟨d,he,rfl⟩:=h;refine Iu G hN hc.1 hc.2 (by cases q:ooE cx sc e with | false=>rfl | true=>exact absurd (show(ooE cx sc e&&true)=true by rw[q];rfl) hoo) (λhf=>?_) he;rw[hf,Bool.true_and] at hno;simpa using hno
    .cases h
   .split at h
    .rename_i hs
     obtain⟨d,he,h⟩:=bw h;obtain⟨l,hl,h⟩:=bw h;simp only[O0z] at h;obtain⟨U',hb,rfl⟩:=h;rcases R3z _ _ |>.mp hs with hs | hs
     .exact NP G hN hs he hl hb
     .cases hs
    .cases h
   .cases h
  | Expr v pos =>
   simp only[DE.st] at h;split at h
   .rename_i x px m ap e cp
    split at h
    .rename_i ds hx
     split at h
     .rename_i hc
      rw[Y2z,Y2z] at hc;obtain⟨⟨c1,c2⟩,c4⟩:=hc;split at h
      .rename_i hc2
       rw[Y2z] at hc2;simp only[O0z] at h;obtain⟨d,he,rfl⟩:=h
       have em:m="append":=by simpa using hc2.1
       subst em;exact yx G hN hx c1 c2 c4 hc2.2 he
      .split at h
       .rename_i hc3
        obtain⟨d,he,h⟩:=bw h
        have em:m="extend":=by simpa using hc3
        subst em;split at h
        .split at h
         .rename_i hz
          cases h;exact wz G hN hx c1 c2 c4 hz he
         .cases h
        .cases h
       .cases h
     .cases h
    .cases h
   .cases h
   .cases h
   .rename_i h1 h3 h4
    simp only[O0z] at h;obtain⟨d,he,rfl⟩:=h;exact Iw G hN he λa b c p q=>h3 a b c p q
  | If c a b pos =>
   simp only[DE.st] at h;obtain⟨t,h1,h⟩:=bw h;have he:=fJ h1;intro Y H Hs D hd _ hn hr;refine PS.sem (lD dw bD bD) (KR G hN he hd λHs' H' sm h'=>?_)
   cases t with
   | true =>
    simp only[O5z] at h;exact oJ (block a _ fl hN h Y H' Hs' D h' hN (λU2 Y2 Hs2 H2 q2 sm2=>hn U2 Y2 Hs2 H2 q2 (sm.trans sm2)) hr)
   | false =>
    simp only[S1z,M5z] at h;exact mH (block b _ fl hN h Y H' Hs' D h' hN (λU2 Y2 Hs2 H2 q2 sm2=>hn U2 Y2 Hs2 H2 q2 (sm.trans sm2)) hr)
  | For tg iter body orelse pos =>
   simp only[DE.st] at h;split at h
   .obtain⟨l,hI,h⟩:=bw h
    refine NT G hN hI (λd U1 fl hf hN1=>?_) h;obtain⟨U2,g1,g2⟩:=bw hf;exact⟨U2,g1,λhN2=>block body U2 fl hN2 g2⟩
   .cases h
  | While c body orelse pos =>
   simp only[DE.st] at h;split at h
   .simp at h
   .cases h
  | _=>exact nomatch (show(Option.none:Option Fl)=some fl from h)
theorem Gq(cx:Cxt)(F:Nat):∀(n:Nat){k:Nat}{X:Cx}{sc:Scope}{U:Rho}{s:Stmt}{c:Str}{U':Rho}{Hs0 H0:Hp},GoodS cx k X.nox sc->X.N=U.map (·.1)->DE.stx cx F n sc U s=some (c,U')->Gb cx.rs X Hs0 H0 U c U' (nZ X s)
 | 0,k,X,sc,U,s,c,U',Hs0,H0,_,_,h=>by simp[DE.stx] at h
 | n+1,k,X,sc,U,s,c,U',Hs0,H0,G,hN,h=>by
  have GX:Good cx k X sc:=⟨G.good.calm,G.good.room,G.good.sce,G.good.kind,G.good.nd,G.good.cst,G.good.blt,G.good.exs,G.good.fns,G.good.kw⟩
  have block:∀(l:List Stmt)(U:Rho)(c:Str)(U':Rho),X.N=U.map (·.1)->lq (λU s=>DE.st cx F n sc U s) (λU s=>DE.stx cx F n sc U s) l U=some (c,U')->Gb cx.rs X Hs0 H0 U c U' (dO X l):=λl U c U' hN h =>
   Ag (λU s fl hN h=>yw cx F n G hN h) (λU s c U' hN h=>Gq cx F n G hN h) l U hN h
  simp only[DE.stx] at h;split at h
  .rename_i cc np txt j p1 cpos pos
   split at h
   .rename_i hc
    cases h;simp only[Y2z] at hc;obtain⟨⟨⟨h1,h2⟩,h3⟩,h4⟩:=hc;obtain⟨C,M,e1,_,e2,_⟩:=GX.exs.cls c h3
    have hg:Gl X c:=by
     have e:sc.names.lookup c=some .globalImplicit:=by unfold rQ at h2;simpa using h2
     show X.env.scope.names.lookup c=_;rw[GX.sce,e]
    unfold aK at h4;rw[Y2z,I5z] at h4;intro Y H Hs D hd _ hx z0 s I;obtain⟨E,x1,x2,x3⟩:=hx Y Hs H (.refl _) hN hd;exact uN I GX.room.hd hg (GX.exs.glob _ _ e1) (by simpa using h4.1) e2 λs2 h' e args I2 hm=>x3 h1 z0 H s2 C e h' args I2 hm (x1 C H Hs e1 (.refl hd.ext.sub))
   .cases h
  .rename_i e pos
   split at h
   .cases h
   .rename_i hfr
    obtain⟨c1,h1,h2⟩:=O0z.mp h;cases h2;intro Y H Hs D hd _ hx;exact PS.sem (cC au (NK h1 (by simpa using hfr))) (Hu GX hN h1 hd hx)
  .rename_i e pos
   obtain⟨c1,h1,h2⟩:=O0z.mp h;cases h2;intro Y H Hs D hd _ hx;exact PS.sem (cN au) (Hu GX hN h1 hd hx)
  .rename_i cc a b pos
   split at h
   .rename_i kk hk
    have he:=fJ hk
    have hN':X.N=(frz F cc U).map (·.1):=by rw[bL];exact hN
    intro Y H Hs D hd _ hx;obtain⟨Hs1,sm1,h1⟩:=hd.frozen F cc;refine PS.sem (lD dw bD bD) ((dh cx F GX hN' he).2 kk rfl Y H Hs1 _ h1.ext.sub h1.sh λH' Hs' E=>?_);have h2:=h1.step E
    cases kk with
    | true=>exact oJ (block a _ c U' hN' h Y H' Hs' D h2 hN' λY3 Hs3 H3 sm3=>hx Y3 Hs3 H3 ((sm1.trans E.vis).trans sm3))
    | false=>exact mH (block b _ c U' hN' h Y H' Hs' D h2 hN' λY3 Hs3 H3 sm3=>hx Y3 Hs3 H3 ((sm1.trans E.vis).trans sm3))
   .cases h
  .cases h
end
structure FunAt(K:Zf)(mg:Str->Option Value)(f:Str)(fd:Fd):Prop where
 ex:∃(nm:Str)(t:Stmt)(a:Addr)(g:FuncData),mg f=some (.ref a)/\Fun K nm nm t a g/\Binds K g fd.ps []/\fd.body=aM t/\fd.sc=ao t
 fs:FnScope fd.N fd.ps fd.sc
 nd:(f==("__debug__":Str))=false
structure Text(w:World)(K:Zf)(mg:Str->Option Value)(P:Pg):Prop where
 cst:∀x d,P.cst.lookup x=some d->∃v u,(∀H,Rep K H d v)/\mg x=some u/\RelV v u
 blt:∀x b,P.blt.lookup x=some b->mg x=none/\x=Str.ofString b
 fns:∀f fd,P.defs.lookup f=some fd->FunAt K mg f fd
 exs:XText K mg P.exs P.top
 kw:KnW K w
def Vn(ps:List (Str×Str)):D:=.dic (ps.map λp=>.inr p.1) (ps.map λp=>.str p.2)
def dEs(o:Obj):Array DictEntry:=match o.data with | .dict es _=>es | _ => #[]
def dN(o:Obj):Nat:=match o.data with | .dict _ n=>n | _=>0
def isS(x:Str):Value->Bool
 | .str y _=>x==y
 | _=>false
theorem Hf{x:Str}{v:Value}(h:isS x v=true):∃t,v=.str x t:=by
 unfold isS at h;split at h
 .rename_i y t
  have e:x=y:=by simpa using h
  subst e;exact⟨t,rfl⟩
 .cases h
def chk:List (Str×Str)->List DictEntry->Bool
 | [],[]=>true
 | p::r,e::es=>isS p.1 e.key&&isS p.2 e.val&&chk r es
 | _,_=>false
theorem HF{K:Zf}{H:Hp}:∀{ps:List (Str×Str)}{es:List DictEntry},chk ps es=true->∃kvs:List (Key×V),kvs.map (·.1)=ps.map (λp=>Sum.inr p.1)/\aJ K H (ps.map λp=>D.str p.2) (kvs.map (·.2))/\Paired (λ(p:Key×V)(e:DictEntry)=>(∃x t,p.1=.inr x/\e.key=.str x t)/\RelV p.2 e.val) kvs es
 | [],[],_=>⟨[],rfl,.nil,.nil⟩
 | p::r,e::es,h=>by
  simp only[chk,Y2z] at h;obtain⟨⟨h1,h2⟩,h3⟩:=h;obtain⟨kvs,g1,g2,g3⟩:=HF (K:=K) (H:=H) h3;obtain⟨t,e1⟩:=Hf h1;obtain⟨t',e2⟩:=Hf h2;exact⟨(.inr p.1,.str p.2)::kvs,by simp[g1],.cons (by simp[Rep]) g2,.cons ⟨⟨p.1,t,rfl,e1⟩,⟨t',e2⟩⟩ g3⟩
 | [],_::_,h=>by simp[chk] at h
 | _::_,[],h=>by simp[chk] at h
theorem QF{K:Zf}{H H':Hp}{ps:List (Str×Str)}{kvs:List (Key×V)}(h:aJ K H (ps.map λp=>D.str p.2) (kvs.map (·.2))):aJ K H' (ps.map λp=>D.str p.2) (kvs.map (·.2)):=by
 generalize kvs.map (·.2)=vs at h ⊢
 induction ps generalizing vs with
 | nil=>simpa[aJ] using h
 | cons p r ih =>
  simp only[E4z,aJ] at h ⊢;obtain⟨v,q,h1,h2,h3⟩:=h;exact⟨v,q,h1,by simpa[Rep] using h2,ih _ h3⟩
theorem cD{K:Zf}{h:Heap}{mg:Str->Option Value}{x:Str}{ps:List (Str×Str)}(X:K.In h)(G:h.Ns mainGlobals mg)(a:Addr)(o:Obj)(e:PySem.W.nsIn K mainGlobals x=some (some (.ref a)))(l:K.lookup a=some o)(ex:o.ExactDict)(hd:o.data=.dict (dEs o) (dN o))(hc:(chk ps (dEs o).toList&&lH (ps.map (·.1)))=true)(hs:(a==sysModules)=false) :
  ∃v u,(∀H,Rep K H (Vn ps) v)/\mg x=some u/\RelV v u:=by
 rw[Y2z] at hc;obtain⟨kvs,g1,g2,g3⟩:=HF (K:=K) (H:=λ_=>none) hc.1
 have nd:(kvs.map (·.1)).Nodup:=by
  rw[g1];have n:=fW hc.2
  have q:(ps.map λp=>(Sum.inr p.1:Key))=(ps.map (·.1)).map Sum.inr:=by simp
  rw[q];exact List.Pairwise.map _ (λa b hab z=>hab (W4z z)) n
 refine⟨.ref a,_,λH=>?_,M4z X G e,rfl⟩;unfold Vn;simp only[Rep];exact⟨a,kvs,rfl,.inr ⟨o,dEs o,dN o,l,ex,hd,hs,nd,g3⟩,g1,QF g2⟩
theorem gJ{α:Type}:∀{l:List (Str×α)}{x:Str},(l.map (·.1)).contains x=true->∃a,l.lookup x=some a
 | [],x,h=>by simp at h
 | (y,a)::r,x,h=>by
  rw[S2z]
  cases hb:x==y with
  | true=>exact⟨a,rfl⟩
  | false =>
   refine gJ ?_;rw[E4z,List.contains_cons,hb,Bool.false_or] at h;exact h
theorem fU{K:Zf}{H:Hp}{fd:Fd}{ds:List D}{vs:List V}(S:FnScope fd.N fd.ps fd.sc)(hl:ds.length=fd.ps.length)(r:aJ K H ds vs) :
  fd.N=(bH fd ds).map (·.1)/\(start fd.N vs).length=(bH fd ds).length/\∀(i:Nat)(x:Str)(s:Sl),(bH fd ds)[i]?=some (x,s)->(s=.no\/∃d v,s=.sh d/\(start fd.N vs)[i]?=some (some v)/\Rep K H d v):=by
 have lv:=r.length
 have lz:(fd.ps.zip (ds.map Sl.sh)).length=fd.ps.length:=by rw[U3z,I3z];omega
 have hpl:fd.ps.length<=fd.N.length:=by have:=congrArg List.length S.pre;rw[R2z] at this;omega
 refine⟨?_,?_,λi x s e=>?_⟩
 .unfold bH
  rw[S3z,V4z,List.map_fst_zip (by rw[I3z];omega)]
  have:(fd.N.drop fd.ps.length).map ((λp:Str×Sl=>p.1)∘λx=>(x,Sl.no))=fd.N.drop fd.ps.length:=by
   rw[show((λp:Str×Sl=>p.1)∘λx=>(x,Sl.no))=id from rfl,C5z]
  rw[this]
  conv=>lhs;rw[<- List.take_append_drop fd.ps.length fd.N,S.pre]
 .unfold start bH
  rw[Q1z,Q1z,lz];simp;omega
 .unfold bH at e
  by_cases hi:i<fd.ps.length
  .rw[List.getElem?_append_left (by rw[lz];exact hi),List.getElem?_zip_eq_some] at e
   obtain⟨_,e2⟩:=e;rw[List.getElem?_map] at e2;obtain⟨d,e3,rfl⟩:=O0z.mp e2;obtain⟨v,g1,g2⟩:=r.get e3;refine .inr ⟨d,v,rfl,?_,g2⟩;unfold start;rw[List.getElem?_append_left (by rw[I3z];omega),List.getElem?_map,g1];rfl
  .rw[List.getElem?_append_right (by rw[lz];omega),List.getElem?_map] at e
   obtain⟨y,_,e3⟩:=O0z.mp e;cases e3;exact .inl rfl
section
variable{P:Program}{w:World}{K:Zf}{mg:Str->Option Value}{base:Heap}{T:Pg}{F:Nat}
abbrev vR(c:Str->List D->Option Rs):Str->List D->Option D:=λf ds=>Rs.val? (c f ds)
abbrev xR(c:Str->List D->Option Rs):Str->List D->Option Str:=λf ds=>Rs.exc? (c f ds)
theorem iI{o:Option Rs}{d:D}(h:Rs.val? o=some d):o=some (.val d):=by
 unfold Rs.val? at h;split at h
 .cases h;rfl
 .cases h
theorem jg{o:Option Rs}{c:Str}(h:Rs.exc? o=some c):o=some (.exc c):=by
 unfold Rs.exc? at h;split at h
 .cases h;rfl
 .cases h
theorem gM{k:Nat}{f:Str}{fd:Fd}(hf:T.defs.lookup f=some fd):∀ds r,aW T F k f ds=some r->ds.length=fd.ps.length:=by
 intro ds d h
 cases k with
 | zero=>simp[uh] at h
 | succ k =>
  simp only[mq,hf] at h;split at h
  .rename_i hl;simpa using hl
  .cases h
theorem Fun.okX{x qual:Str}{st:Stmt}{f:Addr}{fd:FuncData}{N ps:List Str}{k:Nat}{sp:Sp}(F:Fun K x qual st f fd)(S:FnScope N ps (ao st))(len:∀vs H Q E,sp vs H Q E->vs.length=ps.length)
  (hbody:∀(cdv:Value)(A:Around)(outer:List Env)(s:Shared)(H:Hp)(vs:List V)(Q:VK)(E:XK), Room k (A.deeper (envOfC qual (ao st) s.heap.objs.size f cdv))->sp vs H Q E ->
   ∃t,PSs (eO (CX1 P w) P w K mg base N qual (ao st) f cdv A outer s H E) (aM st) t/\t {nx:=λ_ H'=>Q .non H',rt:=Q} (start N vs) H):FnOk P w K mg base (CX1 P w) (k+1) f fd ps sp:=by
 obtain⟨oc,od,kV,doc,pm,an,cdv,ct,osl,rfl,lk,hcd⟩:=F.ex;exact KJ lk hcd S len λA outer s H vs Q E hr hsp=>hbody cdv A outer s H vs Q E hr hsp
theorem Cj(X:Text w K mg T):∀(k:Nat)(nm f:Str)(fd:Fd)(t:Stmt)(a:Addr)(g:FuncData),T.defs.lookup f=some fd->Fun K nm nm t a g->fd.body=aM t->fd.sc=ao t->FnScope fd.N fd.ps fd.sc->FnOk P w K mg base (CX1 P w) k a g fd.ps (spX K (vR (aW T F k)) (xR (aW T F k)) f fd.ps)
  | 0,nm,f,fd,t,a,g,hf,Fn,hb,hs,S=>by
    refine⟨λvs H Q E h=>h.1,λA outer s H args us vs Q E _ _ _ _ h=>?_⟩
    obtain⟨_,Hs,ds,_,_,⟨d,hc,_⟩ | ⟨c,hc,_⟩⟩:=h
    . have:=iI hc;simp[uh] at this
    . have:=jg hc;simp[uh] at this
  | k+1,nm,f,fd,t,a,g,hf,Fn,hb,hs,S=>by
    refine Fun.okX (N:=fd.N) Fn (by rw[<- hs];exact S) (λvs H Q E h=>h.1) λcdv A outer s H vs Q E hr h=>?_
    obtain⟨hlv,Hs,ds,hsm,rl,hcase⟩:=h
    have hld:ds.length=fd.ps.length:=by
      rcases hcase with⟨d,hc,_⟩ | ⟨c,hc,_⟩
      . exact gM hf ds _ (iI hc)
      . exact gM hf ds _ (jg hc)
    have unf:aW T F (k+1) f ds=rz (T.cx (aW T F k)) F fd.sc fd.body (bH fd ds):=by
      simp only[mq,hf]
      rw[P5z (by simpa using hld)]
    obtain⟨s1,s2,s3⟩:=fU S hld rl
    refine⟨dO _ (aM t),bD,?_⟩
    have G:GoodS (T.cx (aW T F k)) k (eO (CX1 P w) P w K mg base fd.N nm (ao t) a cdv A outer s H E).nox fd.sc :=
      { good := { calm := rfl, room := hr, sce := hs.symm, kind := S.kind, nd := S.nd, cst := X.cst, blt := X.blt, exs := X.exs, kw := X.kw
                  fns:=λf' hf'=>by
                    obtain⟨fd',hl'⟩:=gJ (l:=T.defs) hf'
                    have FA:=X.fns f' fd' hl'
                    obtain⟨nm',t',a',g',m1,m2,m3,m4,m5⟩:=FA.ex
                    exact⟨FA.nd,a',g',fd'.ps,λds d h=>gM hl' ds _ (iI h),λds c h=>gM hl' ds _ (jg h),m1,m2.kp,m3,Cj X k nm' f' fd' t' a' g' hl' m2 m4 m5 FA.fs⟩ }
        own:=⟨λx hx=>⟨by
          unfold ownIn at hx
          rw[R3z] at hx
          show(ao t).names.lookup x=_\/(ao t).names.lookup x=_
          rw[<- hs]
          exact hx.imp (λq=>by simpa using q) (λq=>by simpa using q),.inl rfl⟩⟩
        pass:=PassesOwn.never
        stk:=⟨rfl,rfl⟩ }
    have noow:∀(i:Nat)(x:Str)(ds':List D),(bH fd ds)[i]?=some (x,.ow ds')->False:=λi x ds' e=>by
      rcases s3 i x _ e with q | ⟨d',v,q,q1,q2⟩
      . cases q
      . cases q
    have hd:Hd K none Hs H Hs H (bH fd ds) (start fd.N vs):=by
      refine⟨.refl hsm,s2,λi x d e=>?_,λi x ds' e=>(noow i x ds' e).elim,λi j x y ds' es a' _ e=>(noow i x ds' e).elim,(λi x dss e=>by
        rcases s3 i x _ e with q | ⟨d',v,q,q1,q2⟩
        . cases q
        . cases q),λp hp=>nomatch hp⟩
      rcases s3 i x _ e with q | ⟨d',v,q,q1,q2⟩
      . cases q
      . cases q
        exact⟨v,q1,q2⟩
    rcases hcase with⟨d,hc,hq⟩ | ⟨c,hc,hq⟩
    . have hc':=iI hc
      rw[unf] at hc'
      unfold rz at hc'
      intro z0 s0 I
      have fin:∀fl,iT (λU s=>DE.st (T.cx (aW T F k)) F F fd.sc U s) fd.body (bH fd ds)=some fl->(match fl with | .ret d'=>d'=d | .nxt _=>d=.non)->dO (eO (CX1 P w) P w K mg base fd.N nm (ao t) a cdv A outer s H E).nox (aM t) {nx:=λ_ H'=>Q .non H',rt:=Q} (start fd.N vs) H:=by
        intro fl hg hfl
        rw[hb] at hg
        refine Kw (λU s fl hN h=>yw _ F F G hN h) (aM t) (bH fd ds) fl s1 hg (start fd.N vs) H Hs _ hd s1 (λU' Y' Hs' H' q _ _ hd'=>?_) λd' v Hs' H' q E' r _=>?_
        . subst q
          have e:d=.non:=hfl
          subst e
          exact hq .non H' Hs' hd'.ext (by simp[Rep])
        . subst q
          have e:d'=d:=hfl
          subst e
          exact hq v H' Hs' E' r
      have key:dO (eO (CX1 P w) P w K mg base fd.N nm (ao t) a cdv A outer s H E).nox (aM t) {nx:=λ_ H'=>Q .non H',rt:=Q} (start fd.N vs) H:=by
        split at hc'
        . rename_i d' hg;cases hc';exact fin _ hg rfl
        . rename_i U' hg;cases hc';exact fin _ hg rfl
        . split at hc'<;>cases hc'
      exact D5z (key z0 s0 (I.wish _)) (λ_ _ q=>q.unwish) λ_ _ z=>False.elim z
    . have hc':=jg hc
      rw[unf] at hc'
      unfold rz at hc'
      split at hc'
      . cases hc'
      . cases hc'
      . split at hc'
        . rename_i c' U' hg
          cases hc'
          rw[hb] at hg
          refine Ag (rs:=true) (X:=eO (CX1 P w) P w K mg base fd.N nm (ao t) a cdv A outer s H E) (λU s fl hN h=>yw _ F F G hN h) (λU s c U' hN h=>Gq _ F F G hN h) (aM t) (bH fd ds) s1 hg (start fd.N vs) H Hs _ hd s1 λY1 Hs1 H1 _ _ hd1=>?_
          refine⟨E,λC H2 Hs2 q E2=>hq C H2 Hs2 q (hd1.ext.trans E2),λz0 H2 s2 e s3 I2 hcx=>aP z0 Y1 H2 s2 e s3 I2 hcx,λ_ z0 H2 s2 C e h' args I2 hm hE=>mR I2 hm hE⟩
        . cases hc'
end
end L2
namespace L2
open PySem PySem.Spec PyProof.Rows DE
section
variable{P:Program}{w:World}{K:Zf}{mg:Str->Option Value}{base:Heap}{N:List Str}{qual:Str}{scope:Scope}{f:Addr}{cd:Value}{cl:List (Str×Addr)}{A:Around}{outer:List Env}{s:Shared}{H:Hp}{E:XK}
theorem Dy:Passes (CX1 P w) (o7 (CX1 P w) P w K mg base N qual scope f cd cl A outer s H E) E:=by
 intro z0 Y H1 s1 e s' I h;obtain⟨ea,cls,H',rfl,Fl,hn,hE⟩:=h;obtain⟨B,a0,fl,hokB,kB,tB⟩:=Fl.fly;have hfr:frs (o7 (CX1 P w) P w K mg base N qual scope f cd cl A outer s H E).stack=s.heap.objs.size::frs outer:=oN rfl;have nL:∀b o,s.heap.get? b=some o->b≠s.heap.objs.size:=λb o q=>O4z (N4z q)
 have nin:∀b o,s.heap.get? b=some o->b∉frs outer->b∉frs (o7 (CX1 P w) P w K mg base N qual scope f cd cl A outer s H E).stack:=λb o q hb z=>by
  rw[hfr] at z;rcases L4z.mp z with z | z
  .exact nL b o q z
  .exact hb z
 have noex:∀b:Addr,b∉(o7 (CX1 P w) P w K mg base N qual scope f cd cl A outer s H E).ex:=λb z=>absurd (show b∈([]:List Addr) from z) (by simp);show wpAny _ _ (leaving _ (.ref ea)) _ _ _;refine wpAny_leaves_onW I.ok.frames rfl fl λh2 fl2 up=>?_;refine⟨ea,cls,H',rfl,⟨Fl.os.trans I.os,Fl.bare,?_,⟨B,a0,fl2,hokB,λb o q n hb=>?_,λb o q hb=>?_⟩,?_⟩,hn,hE⟩
 .have U1:=Un.fly Fl.un kB tB fl2.1 (zH fl.2.2.1) up
  have U0:Un (frs (o7 (CX1 P w) P w K mg base N qual scope f cd cl A outer s H E).stack) [] H H1 s.heap s1.heap:=I.base.mono (λb hb=>by rw[hfr];exact U0z _ hb) (λb hb=>hb)
  exact(U0.trans U1).restrict λb o hb q=>by
   rw[hfr] at hb;rcases L4z.mp hb with z | z
   .exact absurd z (nL b o q)
   .exact z
 .exact kB b o (I.base.keep b o q n hb (noex b)) (I.base.free b o q n (noex b)) (nin b o q hb)
 .obtain⟨o1,q1⟩:=I.base.there b o q (noex b)
  exact tB b o1 q1 (nin b o q hb)
 .cases q:s.heap.get? ea with
  | none=>rfl
  | some o =>
   obtain⟨o1,q1⟩:=I.base.there ea o q (noex ea);rw[Fl.fresh] at q1;cases q1
end
section
variable{P:Program}{w:World}{K:Zf}{mg:Str->Option Value}{base:Heap}{T:Pg}{F k:Nat}
def spL(K:Zf)(Hs0:Hp)(c:Str):Sp:=λvs H Q E=>vs=[]/\Same Hs0 H/\∀C H' Hs',W.nsIn K mainGlobals c=some (some (.ref C))->Ext Hs0 H Hs' H'->E (.ref C) none H'
end
end L2
namespace L2
open PySem PySem.Spec PyProof.Rows DE PySem.SeqAt
structure GoodC(cx:Cxt)(X:Cx)(sc:Scope):Prop where
 un:X.A.units+100<cLine
 sce:X.env.scope=sc
 nd:X.N.Nodup
 blt:∀x b,cx.blt.lookup x=some b->X.mg x=none/\x=Str.ofString b
 exs:XText X.K X.mg cx.exs cx.top
def evC(cx:Cxt):Nat->Scope->Rho->Expr->Option D
 | 0,_,_,_=>none
 | n+1,sc,U,e=>match e with
  | .Name x _=>if aK x&&sc.names.lookup x==some .local then(match U.lookup x with | some (.sh d)=>some d | _=>none) else none
  | .Constant c _ _=>(match c with
    | .none=>some .non
    | .bool b=>some (.bl b)
    | .int i=>some (.int i)
    | .str x=>some (.str x)
    | _=>none)
  | .BinOp a op b _=>do let x <- evC cx n sc U a;let y <- evC cx n sc U b;binop op x y
  | .UnaryOp .Not a _=>do let x <- evC cx n sc U a;(asB x).map λb=>.bl (!b)
  | .BoolOp op es _=>cT op (evC cx n sc U) es
  | .Compare a [.NotEq] [b] _=>do let i <- (evC cx n sc U a).bind asI;let j <- (evC cx n sc U b).bind asI;some (.bl (!(i==j)))
  | .List es _=>do let ds <- jX (evC cx n sc U) es;if szl ds.length then some (.lst ds) else none
  | .Subscript a b _=>do let x <- evC cx n sc U a;let i <- (evC cx n sc U b).bind asI;let xs <- items x;atD xs i
  | .Call (.Name x _) [a,t] [] _=>if bZ cx sc x==some "isinstance" then do
    let d <- evC cx n sc U a
    match d with
    | .exc c=>if cx.exs.contains c then(match xOf cx sc t with
     | some c'=>some (.bl (xr cx.top c c'))
     | none=>if tyOf cx sc t==some "ValueError" then some (.bl true) else none) else none
    | _=>none
   else none
  | .Call (.Attribute (.Name y py) m ap) [e] [] p=>if ap.endLine==p.line then do
    let x <- evC cx n sc U (.Name y py)
    let z <- evC cx n sc U e
    sV m x z
   else none
  | _=>none
section
variable{X:Cx}{U:Rho}{cx:Cxt}{k:Nat}{sc:Scope}
theorem dB:∀{n:Nat}{U:Rho}{e:Expr}{d:D},evC cx n sc U e=some d->aH e=true
 | 0,_,_,_,h=>by simp[evC] at h
 | n+1,U,e,d,h=>by
  unfold evC at h
  cases e<;>first | rfl | (simp at h;done)
theorem BJ{x:Str}{b:String}(G:GoodC cx X sc)(h:bZ cx sc x=some b):Gl X x/\X.mg x=none/\x=Str.ofString b:=by
 unfold bZ rQ at h;split at h
 .rename_i hg
  have e:sc.names.lookup x=some .globalImplicit:=by simpa using hg
  obtain⟨h1,h2⟩:=G.blt x b h;exact⟨by show X.env.scope.names.lookup x=_;rw[G.sce,e],h1,h2⟩
 .cases h
theorem tD{x c:Str}{t a:Expr}{cv:V}{cw:Value}{b:Bool}{p pos:Pos}(G:GoodC cx X sc)(hx:bZ cx sc x=some "isinstance")(hc:cx.exs.contains c=true)(ht:PE X t (tC cv))(hpt:aH t=true)(hcv:∀u,RelV cv u->u=cw)
  (hk:∀C,W.nsIn X.K mainGlobals c=some (some (.ref C))->W.kitOne X.K (.ref C) cw=some b) (ha:Ev X U a (.exc c)) (hp:aH a=true):Ev X U (.Call (.Name x p) [a,t] [] pos) (.bl b):=by
 obtain⟨hg,hm,rfl⟩:=BJ G hx;obtain⟨C,M,e1,_,_,e2,_⟩:=G.exs.cls c hc;intro Y H Hs Q hs hst hq;refine(bU (rm (X:=X) (cv:=cv) e2 hcv (hk C e1)) hg hm (by decide +kernel) (aA au (aA ht aO (aq hpt)) (aq hp)) (by decide) (by decide) (aq hp) (by rw[aq hpt];rfl)).sem ?_;refine ha Y H Hs _ hs hst λv H1 Hs1 E1 r1=>?_;have r2:=Rep.same E1.sub _ v r1;simp only[Rep] at r2;obtain⟨a0,C0,rfl,f1,f2⟩:=r2;rw[e1] at f1;cases f1;exact⟨a0,rfl,f2,hq _ H1 Hs1 E1 (by simp[Rep])⟩
theorem G6(hu:X.A.units<cLine):OpR X (compareOp .NotEq) (λu v H Q=>∃i j,u=.int i/\v=.int j/\Q (.bl (!(i==j))) H):=by
 intro z0 s Y H u v w z Q I ru rv h;obtain⟨i,j,rfl,rfl,q⟩:=h;exact(o9 (d:=.int i) (d':=.int j) I X.A (by simp[Rep]) (by simp[Rep]) ru rv (by simp only[dep];omega) (by simp[dep]) (by simp[dep]) rfl).2 _ _ _ _ ⟨.bl _,H,I,rfl,q⟩
theorem qL(G:GoodC cx X sc)(hN:X.N=U.map (·.1)):∀(n:Nat){e:Expr}{d:D},evC cx n sc U e=some d->Ev X U e d/\∀b,d=.bl b->EvT X U e b
 | 0,e,d,h=>by simp[evC] at h
 | n+1,e,d,h=>by
  have ih:∀e d,evC cx n sc U e=some d->Ev X U e d/\∀b,d=.bl b->EvT X U e b:=λe d h=>qL G hN n h;have ihp:∀e d,evC cx n sc U e=some d->Ev X U e d/\aH e=true:=λe d h=>⟨(ih e d h).1,dB h⟩;have val:∀{e d},(∀whole,isTrue e X.env whole=(do let v <- whole;standAt e.pos;holding [v] (truthy v)))->Ev X U e d->Ev X U e d/\∀b,d=.bl b->EvT X U e b:=λhe h1=>⟨h1,λb hb=>by subst hb;exact Aq h1 he⟩;simp only[evC] at h;split at h
  .split at h
   .rename_i hp
    rw[Y2z] at hp;split at h
    .rename_i d' hl
     cases h;refine val (λ_=>rfl) (Al hN ?_ hp.1 hl);exact .inl (by rw[G.sce];simpa using hp.2)
    .cases h
   .cases h
  .exact val (λ_=>rfl) (vh h)
  .obtain⟨x,h1,h⟩:=bw h
   obtain⟨y,h2,h⟩:=bw h;exact val (λ_=>rfl) (vm (ih _ _ h1).1 (ih _ _ h2).1 h)
  .obtain⟨x,h1,h⟩:=bw h
   obtain⟨b,h2,rfl⟩:=O0z.mp h
   cases x<;>simp[asB] at h2
   subst h2;refine⟨Hw (ih _ _ h1).1,λc hc=>?_⟩;cases hc;exact Ar ((ih _ _ h1).2 _ rfl)
  .obtain⟨h1,h2⟩:=lY (λe _ d hd=>ih e d hd) h
   exact⟨h1,λb hb=>(h2 b hb).t⟩
  .obtain⟨i,h1,h⟩:=bw h
   obtain⟨j,h2,h⟩:=bw h;cases h;have h1':=jw h1;have h2':=jw h2
   have hu:X.A.units<cLine:=by have:=G.un;omega
   refine⟨gk (ih _ _ h1').1 (ih _ _ h2').1 (zj (G6 hu) au au (cJ (dB h2'))) λu v H Hs Q hs r1 r2 hq=>⟨i,j,aQ r1,aQ r2,hq _ H Hs (.refl hs) (by simp[Rep])⟩,λc' hc' Y H Hs Q hs hst hq=>?_⟩;cases hc';refine(jC (G6 hu) au au (cJ (dB h2'))).sem ((ih _ _ h1').1 Y H Hs _ hs hst λu H1 Hs1 E1 r1=>(ih _ _ h2').1 Y H1 Hs1 _ E1.sub (hst.same E1.vis) λv H2 Hs2 E2 r2=>?_);exact⟨i,j,aQ r1,aQ r2,_,rfl,hq H2 Hs2 (E1.trans E2)⟩
  .obtain⟨ds,h1,h⟩:=bw h
   split at h
   .rename_i hz
    cases h;exact val (λ_=>rfl) (Am (dU (λe _ d hd=>ihp e d hd) h1).1 hz)
   .cases h
  .obtain⟨x,h1,h⟩:=bw h
   obtain⟨i,h2,h⟩:=bw h;obtain⟨us,h3,h⟩:=bw h;have h2':=jw h2;exact val (λ_=>rfl) (oR (ih _ _ h1).1 (ih _ _ h2').1 (dB h2') h3 h)
  .split at h
   .rename_i hb
    have hx:=eq_of_beq hb;obtain⟨d1,h1,h⟩:=bw h;split at h
    .rename_i c
     split at h
     .rename_i hc
      refine val (λ_=>rfl) ?_;split at h
      .rename_i c' hxo
       cases h;obtain⟨pt,rfl,hgl,hin,hd⟩:=Gg hxo
       have hg:Gl X c':=by
        have e:sc.names.lookup c'=some .globalImplicit:=by unfold rQ at hgl;simpa using hgl
        show X.env.scope.names.lookup c'=_;rw[G.sce,e]
       by_cases htop:c'=cx.top
       .subst htop
        obtain⟨C,M,e1,e2,_,_,_,e3,_⟩:=G.exs.cls c hc
        have:xr cx.top c cx.top=true:=by unfold xr;simp
        rw[this];refine tD (cv:=.ref M) (cw:=.ref M) G hx hc (lG hg (G.exs.glob _ _ e2) rfl hd) rfl (λu r=>r) (λC' e=>?_) (ih _ _ h1).1 (dB h1);rw[e] at e1;cases e1;exact e3
       .have hin':cx.exs.contains c'=true:=hin.resolve_right htop
        obtain⟨C,C',e1,e2,e3⟩:=G.exs.sub c c' hc hin'
        have:xr cx.top c c'=(c==c'):=by
         unfold xr
         have:(c'==cx.top)=false:=by simpa using htop
         rw[this,Bool.or_false]
        rw[this];refine tD (cv:=.ref C') (cw:=.ref C') G hx hc (lG hg (G.exs.glob _ _ e2) rfl hd) rfl (λu r=>r) (λC'' e=>?_) (ih _ _ h1).1 (dB h1);rw[e] at e1;cases e1;exact e3
      .split at h
       .rename_i ht
        cases h;obtain⟨t,pt,rfl,ht'⟩:=xO (eq_of_beq ht);obtain⟨hg2,hm2,rfl⟩:=BJ G ht';refine tD (cv:=.ty "ValueError") (cw:=.type "ValueError") G hx hc (sH hg2 hm2 (by decide +kernel) rfl) rfl (λu r=>r) (λC e=>?_) (ih _ _ h1).1 (dB h1);obtain⟨C',M,e1,_,_,_,_,_,e2⟩:=G.exs.cls c hc;rw[e] at e1;cases e1;exact e2
       .cases h
     .cases h
    .cases h
   .cases h
  .split at h
   .rename_i hl
    obtain⟨x,h1,h⟩:=bw h;obtain⟨z,h2,h⟩:=bw h;exact val (λ_=>rfl) (Fi (ih _ _ h1).1 (ih _ _ h2).1 (dB h2) hl h)
   .cases h
  .cases h
def runC(cx:Cxt)(F:Nat)(sc:Scope):List Stmt->Rho->Option D
 | [],_=>none
 | s::r,U=>match s with
  | .Assign [.Name x _] e _=>if sc.names.lookup x==some .local&&(U.map (·.1)).contains x then(match e with
    | .ListComp .. =>none
    | e=>(evC cx F sc U e).bind λd=>runC cx F sc r (gQ U x (.sh d))) else none
  | .If c [.Return (some e) _] [] _=>((evC cx F sc U c).bind asB).bind λb=>if b then evC cx F sc U e else runC cx F sc r U
  | .Return (some e) _=>evC cx F sc U e
  | _=>none
theorem wC{K:Zf}{Hs:Hp}{U:Rho}{Y:St}{x:Str}{i:Nat}{d:D}{v:V}(h:bJ K Hs U Y)(hn:(U.map (·.1)).Nodup)(hi:(U.map (·.1))[i]?=some x)(hl:Y.length=U.length)(r:Rep K Hs d v):bJ K Hs (gQ U x (.sh d)) (Y.set i (some v)):=λj y d' e=>by
 have li:i<Y.length:=by have:=(List.getElem?_eq_some_iff.mp hi).1;rw[hl];simpa using this
 rw[cu hn hi j] at e;split at e
 .rename_i hj
  subst hj;cases e;exact⟨v,by rw[List.getElem?_set_self li],r⟩
 .rename_i hj
  obtain⟨v',q1,q2⟩:=h j y d' e;exact⟨v',by rw[List.getElem?_set_ne (λz=>hj z.symm)];exact q1,q2⟩
theorem sy{F:Nat}(G:GoodC cx X sc):∀(l:List Stmt){U:Rho}{d:D}{Y:St}{H Hs:Hp}{D:Ends},X.N=U.map (·.1)->Y.length=U.length->Same Hs H->bJ X.K Hs U Y->runC cx F sc l U=some d->(∀v H' Hs',Ext Hs H Hs' H'->Rep X.K Hs' d v->D.rt v H')->dO X l D Y H
 | [],U,d,Y,H,Hs,D,hN,hl,hs,hst,h,hq=>by simp[runC] at h
 | s::r,U,d,Y,H,Hs,D,hN,hl,hs,hst,h,hq=>by
  have nd:(U.map (·.1)).Nodup:=by rw[<- hN];exact G.nd
  simp only[runC] at h;split at h
  .rename_i x px e pos
   split at h
   .rename_i hx
    rw[Y2z] at hx
    have lx:sc.names.lookup x=some .local:=by simpa using hx.1
    obtain⟨i,hi⟩:∃i:Nat,(U.map (·.1))[i]?=some x:=List.mem_iff_getElem?.mp (by simpa using hx.2)
    have hlx:X.env.scope.names.lookup x=some .local:=by rw[G.sce];exact lx
    have go:∀d1,evC cx F sc U e=some d1->(∀a b c p,e≠.ListComp a b c p)->runC cx F sc r (gQ U x (.sh d1))=some d->dO X (.Assign [.Name x px] e pos::r) D Y H:=λd1 he hne hr=>by
     refine PSs.sem (aL (iV (i:=i) (te:=jy X e) G.nd (by rw[hN];exact hi) (.inl hlx) au ?_ (.inr hlx)) bD) ?_
     .cases e<;>first | rfl | exact absurd rfl (hne _ _ _ _) | (simp[evC] at he;done) | (cases F<;>simp[evC] at he;done)
     .refine(qL G hN F he).1 Y H Hs _ hs hst λv H1 Hs1 E1 r1=>?_
      exact sy G r (by rw[aX];exact hN) (by rw[V3z,hl];have:=congrArg List.length (aX U x (.sh d1));simpa using this.symm) E1.sub (wC (hst.same E1.vis) nd hi hl r1) hr λv' H2 Hs2 E2 r2=>hq v' H2 Hs2 (E1.trans E2) r2
    split at h
    .cases h
    .rename_i hne
     obtain⟨d1,h1,h2⟩:=Option.bind_eq_some_iff.mp h;exact go d1 h1 (λa b c p z=>hne a b c p z) h2
   .cases h
  .rename_i c e p1 pos
   obtain⟨b,h1,h⟩:=Option.bind_eq_some_iff.mp h;have h1':=fJ h1;refine PSs.sem (aL (lD dw (aY (cN au)) fj) bD) ?_;refine(qL G hN F h1').2 b rfl Y H Hs _ hs hst λH1 Hs1 E1=>?_
   cases b with
   | true =>
    refine oJ ?_;exact(qL G hN F h).1 Y H1 Hs1 _ E1.sub (hst.same E1.vis) λv H2 Hs2 E2 r2=>hq v H2 Hs2 (E1.trans E2) r2
   | false =>
    refine mH ?_;exact sy G r hN hl E1.sub (hst.same E1.vis) h λv' H2 Hs2 E2 r2=>hq v' H2 Hs2 (E1.trans E2) r2
  .rename_i e pos
   refine PSs.sem (aL (cN au) bD) ?_;exact(qL G hN F h).1 Y H Hs _ hs hst λv H2 Hs2 E2 r2=>hq v H2 Hs2 E2 r2
  .cases h
end
end L2
namespace L2
open PySem PySem.Spec PyProof.Rows
abbrev Cx.unc(X:Cx):Cx:={X with calm:=false}
structure RoomS(k:Nat)(A:Around):Prop where
 dp:A.depth+3*k+5<recursionLimit
 un:A.units+16*k+200<cLine
theorem RoomS.deeper{k:Nat}{A:Around}(r:RoomS (k+1) A)(env:Env):RoomS k (A.deeper env) :=
 ⟨by have:=r.dp;show A.depth+1+3*k+5<_;omega,by have:=r.un;show A.units+3+16*k+200<_;omega⟩
theorem RoomS.depth{k:Nat}{A:Around}(r:RoomS k A):A.depth<recursionLimit:=by have:=r.dp;omega
structure FnS(P:Program)(w:World)(K:Zf)(mg:Str->Option Value)(base:Heap)(CX:CXT)(k:Nat)(f:Addr)(fd:FuncData)(ps:List Str)(sp:Sp):Prop where
 len:∀vs H Q E,sp vs H Q E->vs.length=ps.length
 run:∀(A:Around)(outer:List Env)(s:Shared)(H:Hp)(args:Args)(us:List Value)(vs:List V)(Q:VK)(E:XK),RoomS k A->Env0 P w K mg base A outer s H->BindsTo s fd args (ps.zip us)->Vals vs us->sp vs H Q E ->
  codeAny (model P w) A (.call (.ref f) args) (CR CX outer P w H s Q E) s
theorem Ql{CX:CXT}{P:Program}{w:World}{K:Zf}{mg:Str->Option Value}{base:Heap}{k:Nat}{f:Addr}{name qual:Str}{params:Arguments}{body:List Stmt}{scope:Scope}{dV kV doc pm cdv ct oc:Value}{an od:Option Addr}
  {osl:Array (Option Value)} {N ps:List Str} {sp:Sp} (lk:K.lookup f=some ⟨oc,od,.func (W.fnOf name qual params body scope dV kV doc pm an cdv ct),osl⟩) (hcd:W.codeIn K cdv qual=true) (S:FnScope N ps scope)
  (len:∀vs H Q E,sp vs H Q E->vs.length=ps.length)
  (hbody:∀(A:Around)(outer:List Env)(s:Shared)(H:Hp)(vs:List V)(Q:VK)(E:XK), RoomS k (A.deeper (envOfC qual scope s.heap.objs.size f cdv))->sp vs H Q E ->
   ∃t,PSs (eO CX P w K mg base N qual scope f cdv A outer s H E).unc body t/\t {nx:=λ_ H'=>Q .non H',rt:=Q} (start N vs) H) :
  FnS P w K mg base CX (k+1) f (W.fnOf name qual params body scope dV kV doc pm an cdv ct) ps sp:=by
 refine⟨len,λA outer s H args us vs Q E hr e0 hb r hsp=>?_⟩;have hl:=len _ _ _ _ hsp;have KX:K.In s.heap:=e0.mod.kin.keeps λb o e=>(e0.bs b o e).1;have lim:s.heap.NoLimit:=e0.mod.nolimit.keeps λb o e=>(e0.bs b o e).1
 have hkind:∀y∈ps.zip us,scope.names.lookup y.1=some .local\/(scope.names.lookup y.1=some .cell/\((cellsFrom (s.heap.objs.size+1) scope.names []).lookup y.1).isSome=true):=λ⟨n,v⟩ hy=>by
  rcases S.par n (K3z hy).1 with q | q
  .exact .inl q
  .exact .inr ⟨q,L0z _ _ _ (.inl q)⟩
 refine codeAny_call_function hr.depth (KX _ _ lk) rfl S.co S.gen rfl (W.codeRec_of KX hcd) (hb _ _ _ _ ?_);refine wpAny_newFunctionEnv_cells S.kind hkind λenv he s1 x=>?_;subst he;refine⟨lim.keeps x.toInCall.keep,codeAny_func ?_⟩;obtain⟨t,ht,hq⟩:=hbody A outer s H vs Q E (hr.deeper _) hsp;have I:Inv (eO CX P w K mg base N qual scope f cdv A outer s H E).unc [] (start N vs) H s1:=mZ (c:=false) S (λz=>nomatch z) e0 hl r x;refine D5z (ht [] s1 (start N vs) H _ I hq) (λfl s' hs=>?_) λe s' hs=>hs
 have fin:∀{Y':St}{H':Hp}{v:V}{u:Value},Inv (eO CX P w K mg base N qual scope f cdv A outer s H E).unc [] Y' H' s'->RelV v u->Q v H'->CE outer P w H s Q u s' :=
  λ{Y' H' v u} J rv q=>⟨v,H',J.os,J.bare,J.base,J.hok,rv,q⟩
 cases fl with
 | ret u =>
  obtain⟨v,Y',H',J,rv,q⟩:=hs;exact fin J rv q
 | next =>
  obtain⟨Y',H',J,q⟩:=hs;exact fin (v:=V.non) (u:=Value.none) J rfl q
 | brk =>
  obtain⟨_,_,_,q⟩:=hs;exact False.elim q
 | cont =>
  obtain⟨_,_,_,q⟩:=hs;exact False.elim q
section
variable{X:Cx}{z0:List (Addr×Obj)}{Y:St}{H H':Hp}{s s':Shared}{ea C:Addr}
theorem Lk{c n:Str}{b1:Stmt}{bd:List Stmt}{ts:TS}{R:VK}{Mc:Addr}{np hp:Pos}{i:Nat}{Q:Flow->Shared->Prop}(I:Inv X z0 Y H s)(Fl:Fly X.prog X.w X.stack H s H' ea (.ref C) s')(hn:H' ea=none)(hst:X.stack=X.env::X.outer/\X.env.frame=some X.env.locals)
  (hg:Gl X c) (hm:X.mg c=some (.ref Mc)) (hcd:(c==("__debug__":Str))=false) (hx:W.exmOne X.K (.ref C) (.ref Mc)=some true) (nd:X.N.Nodup) (hi:X.N[i]?=some n)
  (ln:X.env.scope.names.lookup n=some .local) (d1:(n==("__debug__":Str))=false) (d2:(n==("__classdict__":Str))=false)
  (hps:PSs (X.inSuite (.ref ea) λ_ _=>False) (b1::bd) ts) (hts:ts {nx:=λ_ _=>False,rt:=R} (Y.set i (some (.ref ea))) (upd H' ea (.ext (isX ea (.ref C)))))
  (k:∀s2 Y2 H2 v u,Inv X z0 Y2 H2 s2->RelV v u->R v H2->Q (.ret u) s2) :
  wpAny (model X.prog X.w) X.A (noteFrame (.ref ea) X.env) (λ_ s₂=>wpAny (model X.prog X.w) X.A (setFlight (.ref ea) none) (λ_ s₃ =>
   wpAny (model X.prog X.w) X.A (handleBy (.ref ea) X.env [.ExceptHandler (some (.Name c np)) (some n) (b1::bd) hp]) Q X.xe s₃) X.xe s₂) X.xe s':=by
 obtain⟨B,a0,fl,hokB,kB,tB⟩:=Fl.fly
 have hfr:X.A.frames=some (X.env::X.outer):=by rw[<- hst.1];exact I.ok.frames
 have fl':Heap.FlyingW B (X.env::X.outer) ea (.ref C) a0 s'.heap:=by rw[<- hst.1];exact fl
 refine wpAny_looks_onW hfr hst.2 fl' λh4 held4 up4=>?_;refine wpAny_landsW held4 λh5 fl5 up5=>?_;have U5:Un (frs X.stack) [] H H' s.heap h5:=Un.fly Fl.un kB tB fl5.1 (zH fl.2.2.1) (up4.trans up5);have I5:Inv X z0 Y H' {s' with heap:=h5}:=Fly.lands I Fl hokB U5 fl5.1;refine wpAny_handleBy_cons (codeAny_handlers_test ?_) (by intro q;cases q);refine f9 (I5.inSuite (.ref ea) X.xe) hg hm ?_ hcd
 have LT:W.Looks (model X.prog X.w) h5 (typeOf (.ref ea)) (.ref C):=by
  obtain⟨ob,hob,hoc⟩:=fl5.there;exact xty hob hoc
 refine(W.exm_one I5.kIn LT hx).here ?_;refine codeAny_handlers_suite_as ?_;refine lands_againW fl5 λh6 fl6 up6=>?_;have U6:Un (frs X.stack) [] H H' s.heap h6:=Un.fly Fl.un kB tB fl6.1 (zH fl.2.2.1) ((up4.trans up5).trans up6)
 have hX6:isX ea (.ref C) h6:=by
  obtain⟨oe,ws,e1,e2,e3,_⟩:=fl6.first
  exact⟨oe,e1,e2,ws,e3⟩
 have hok6:HOk X.prog X.w (upd H' ea (.ext (isX ea (.ref C)))) h6:=λb u e=>by
  by_cases hb:b=ea
  .subst hb;rw[aB] at e;cases e;exact Qe hX6
  .rw[aj hb] at e
   exact((hokB.kept fl6.1) b u e).stay (λ_ _ _ q=>q) (λb' q=>by rw[aj (ak q hn)];exact q) λb' xs q=>by rw[aj (ak q hn)];exact q
 have U6':Un (frs X.stack) [] H (upd H' ea (.ext (isX ea (.ref C)))) s.heap h6:=by
  refine⟨U6.keep,U6.slot,λb o q n hx=>?_,U6.there,λb xs q=>?_,λb o u q=>?_,λb ps q=>?_⟩
  .rw[aj (λz=>by rw[z,Fl.fresh] at q;cases q)]
   exact U6.free b o q n hx
  .have:=U6.tups b xs q
   rw[aj (ak this hn)];exact this
  .have:=U6.frzs b o u q
   rw[aj (ak this hn)];exact this
  .obtain⟨more,e⟩:=U6.tbls b ps q
   exact⟨more,by rw[aj (ak e hn)];exact e⟩
 have I6:Inv X z0 Y (upd H' ea (.ext (isX ea (.ref C)))) {s' with heap:=h6}:=I.call' (s':={s' with heap:=h6}) Fl.os U6' hok6 Fl.bare (λb z=>absurd z (by simp));refine iR (X:=X.inSuite (.ref ea) X.xe) (I6.inSuite (.ref ea) X.xe) nd hi (.inl ln) (v:=.ref ea) rfl (λs7 I7=>?_) (.inr ln)
 have hiY:i<Y.length:=by rw[I.len];exact(List.getElem?_eq_some_iff.mp hi).1
 have I7':Inv (X.inSuite (.ref ea) λ_ _=>False) z0 (Y.set i (some (.ref ea))) (upd H' ea (.ext (isX ea (.ref C)))) s7:=(I7.outSuite I.ok).inSuite _ _;refine D5z (hps z0 s7 _ _ {nx:=λ_ _=>False,rt:=R} I7' hts) (λf s8 h8=>?_) λ_ _ z=>z.elim
 cases f with
 | next=>obtain⟨_,_,_,z⟩:=h8;exact z.elim
 | brk=>obtain⟨_,_,_,z⟩:=h8;exact z.elim
 | cont=>obtain⟨_,_,_,z⟩:=h8;exact z.elim
 | ret u =>
  obtain⟨v8,Y8,H8,I8,rv,q8⟩:=h8;have I8':Inv X z0 Y8 H8 s8:=I8.outSuite I.ok;obtain⟨m,hm8,_⟩:=id I8'.loc;refine wpAny_nameGoes_keeps ln hm8 (by rw[I.ok.kind];rfl) λh9 v hn9 hs9=>?_;exact k _ _ _ _ _ (I8'.unbound (t':=s8.toks+1) nd hi hm8 hn9 hs9) rv q8
end
section
variable{P:Program}{w:World}{K:Zf}{mg:Str->Option Value}{base:Heap}{T:DE.Pg}{F k:Nat}
open DE hiding st
def spC(K:Zf)(c:Str)(d:D):Sp:=λvs H Q _=>vs.length=1/\∃Hs,Same Hs H/\aJ K Hs [.exc c] vs/\∀v H' Hs',Ext Hs H Hs' H'->Rep K Hs' d v->Q v H'
theorem QD{CX:CXT}(X:Text w K mg T){nm:Str}{fd:Fd}{t:Stmt}{a:Addr}{g:FuncData}{c:Str}{d:D}(Fn:Fun K nm nm t a g)(hb:fd.body=aM t)(hs:fd.sc=ao t)(S:FnScope fd.N fd.ps fd.sc)(h1:fd.ps.length=1)
  (hrun:runC (T.cx (aW T F 0)) F fd.sc fd.body (bH fd [.exc c])=some d):FnS P w K mg base CX (k+1) a g fd.ps (spC K c d):=by
 obtain⟨oc,od,kV,doc,pm,an,cdv,ct,osl,rfl,lk,hcd⟩:=Fn.ex;refine Ql lk hcd (by rw[<- hs];exact S) (λvs H Q E h=>by rw[h.1,h1]) λA outer s H vs Q E hr h=>?_;obtain⟨hlv,Hs,hsm,rl,hq⟩:=h;obtain⟨s1,s2,s3⟩:=fU S (by rw[h1];rfl) rl;refine⟨dO _ (aM t),bD,?_⟩;have G:GoodC (T.cx (aW T F 0)) (eO CX P w K mg base fd.N nm (ao t) a cdv A outer s H E).unc fd.sc:=⟨by have:=hr.un;show(A.deeper _).units+100<_;omega,hs.symm,S.nd,X.blt,X.exs⟩;rw[hb] at hrun;refine sy G (aM t) s1 s2 hsm (λi x d' e=>?_) hrun λv H' Hs' E1 r1=>hq v H' Hs' E1 r1;rcases s3 i x _ e with q | ⟨d'',v,q,q1,q2⟩
 .cases q
 .cases q
  exact⟨v,q1,q2⟩
theorem Bw{X:Cx}{i k:Nat}{x:Str}{f:Addr}{fd:FuncData}{sp:Sp}{p pos:Pos}{o:Obj}{E:XK}{Y:St}{H:Hp}{Q:VK}(F:FnOk X.prog X.w X.K X.mg X.base (CX1 X.prog X.w) k f fd [] sp)(hr:Room k X.A)(hN:X.N[i]?=some x)(hv:Vis X.env.scope x)(ho:X.base.get? f=some o)(hd:o.data=.func fd)(hb:Binds X.K fd [] [])(hx:XOk X Y E)
  (hY:Y[i]?=some (some (.ref f))) (hsp:sp [] H Q E) (hdb:(x==("__debug__":Str))=false) (hcd:(x==("__classdict__":Str))=false):jy X (.Call (.Name x p) [] [] pos) Y H Q:=by
 intro z0 s I;refine O1z ?_;refine thn (mU (X:=X) hN hv hdb hcd z0 s Y H (λv H'=>v=.ref f/\H'=H) I ⟨.ref f,hY,rfl,rfl⟩) λu s1 ⟨v,H1,I1,r1,e1,e2⟩=>?_;subst e1 e2;cases (show u=Value.ref f from r1);refine W.callWith_F0 ?_ (yK (us:=[]) (vs:=[]) F hr hb hx I1 .nil hsp);obtain⟨oc,od,dt,sl⟩:=o;cases (show dt=.func fd from hd);exact⟨oc,od,fd,sl,I1.bk _ _ ho⟩
end
end L2
namespace L2
open PySem PySem.Spec PyProof.Rows
open DE hiding st
section
variable{P:Program}{w:World}{K:Zf}{mg:Str->Option Value}{base:Heap}{T:DE.Pg}{F k:Nat}
def spT(K:Zf)(Hs0:Hp)(f:Addr)(d:D):Sp:=λvs H Q _=>vs=[.ref f]/\Same Hs0 H/\∀v H' Hs',Ext Hs0 H Hs' H'->Rep K Hs' d v->Q v H'
theorem Ji{X:Cx}{CX:CXT}{f:Addr}{fd:FuncData}{ps:List Str}{sp:Sp}{E:XK}{z0:List (Addr×Obj)}{Y:St}{H:Hp}{s:Shared}{Q:VK}{us:List Value}{vs:List V}(F:FnS X.prog X.w X.K X.mg X.base CX k f fd ps sp)(hr:RoomS k X.A)(hb:Binds X.K fd ps [])(hx:Passes CX X E)
  (I:Inv X z0 Y H s) (r:Vals vs us) (h:sp vs H Q E):wpAny (model X.prog X.w) X.A (call (.ref f) us) (EP X z0 Y Q) X.xe s:=by
 have hl:(us++([]:List Value)).length=ps.length:=by rw[J3z,<- r.length];exact F.len _ _ _ _ h
 have hb':=hb s us I.kIn hl;rw[J3z] at hb';refine wpAny_call (S4z (F.run X.A X.stack s H ⟨us,[]⟩ us vs Q E hr I.env0 hb' r h) λr s' hq=>?_)
 cases r with
 | error e=>exact hx z0 Y H s e s' I hq
 | ok fl =>
  cases fl with
  | ret u=>exact I.after hq
  | next=>exact False.elim hq
  | brk=>exact False.elim hq
  | cont=>exact False.elim hq
theorem Ih{nm:Str}{t:Stmt}{a ac f:Addr}{g gc fd:FuncData}{dn n c cls c':Str}{p1 p2 p3 np p4 p5 p6 p7 hp pos:Pos}{kd:Nat}{Hs0:Hp}{o:Obj}{d:D}{exs:List Str}{pcs:List Str}
  (Fn:Fun K nm nm t a g) (hbody:aM t=[.Try [.Return (some (.Call (.Name dn p1) [] [] p2)) p3] [.ExceptHandler (some (.Name c np)) (some n) [.Return (some (.Call (.Name cls p4) [.Name n p5] [] p6)) p7] hp] [] [] pos])
  (S:FnScope [dn,n] [dn] (ao t)) (ld:(ao t).names.lookup dn=some .local) (ln:(ao t).names.lookup n=some .local) (lc:(ao t).names.lookup c=some .globalImplicit) (lcls:(ao t).names.lookup cls=some .globalImplicit)
  (hxs:XText K mg exs c) (hin:exs.contains c'=true) (pn:aK n=true) (pd:aK dn=true) (pc:aK c=true) (pcl:(cls==("__debug__":Str))=false)
  (mc:mg cls=some (.ref ac)) (kc:W.keepIn K (.ref ac)=true) (bc:Binds K gc pcs []) (FC:∀(base:Heap),FnS P w K mg base (CX1 P w) 1 ac gc pcs (spC K c' d)) (hpc:pcs.length=1)
  (GD:FnOk P w K mg base (CX1 P w) kd f fd [] (spL K Hs0 c')) (hkd:1<=kd) (ho:base.get? f=some o) (hd:o.data=.func fd) (hb:Binds K fd [] []) :
  FnOk P w K mg base (CX1 P w) (kd+1) a g [dn] (spT K Hs0 f d):=by
 unfold aK at pn pd pc;rw[Y2z,I5z,I5z] at pn pd pc;refine Fun.okX (N:=[dn,n]) Fn S (λvs H Q E h=>by rw[h.1];rfl) λcdv A outer s H vs Q E hr h=>?_;obtain⟨rfl,hsm,hq⟩:=h;refine⟨dO _ (aM t),bD,?_⟩;rw[hbody];generalize hX:eO (CX1 P w) P w K mg base [dn,n] nm (ao t) a cdv A outer s H E=X
 have xP:X.prog=P:=by rw[<- hX];rfl
 refine PSs.sem (aY jJ) ?_;intro z0 s0 I;obtain⟨C,M,e1,e2,_,_,e3,_⟩:=hxs.cls c' hin;rw[arm_exec_Try];refine E5z (D4z (wpAny_tryStmt_except ?_));subst hX
 let X:=eO (CX1 P w) P w K mg base [dn,n] nm (ao t) a cdv A outer s H E
 let D:Ends:={nx:=λ_ H'=>Q .non H',rt:=Q}
 let hs:List ExceptHandler:=[.ExceptHandler (some (.Name c np)) (some n) [.Return (some (.Call (.Name cls p4) [.Name n p5] [] p6)) p7] hp]
 let xe:Value->Shared->Prop:=λe s₁=>wpAny (model X.prog X.w) X.A (noteFrame e X.env) (λ_ s₂=>wpAny (model X.prog X.w) X.A (setFlight e none) (λ_ s₃=>wpAny (model X.prog X.w) X.A (handleBy e X.env hs) (SP X z0 D) X.xe s₃) X.xe s₂) X.xe s₁
 have I0:Inv (X.pinned (X.pn++z0) xe) [] (start [dn,n] [.ref f]) H s0:=Inv.repin (X:=X) (pn:=X.pn) (z0:=z0) I λp hp=>by simpa using hp
 have run:dO (X.pinned (X.pn++z0) xe) [.Return (some (.Call (.Name dn p1) [] [] p2)) p3] {nx:=λ_ _=>False,rt:=λ_ _=>False} (start [dn,n] [.ref f]) H:=by
  refine PSs.sem (aY (cN au)) ?_;refine Bw (X:=X.pinned (X.pn++z0) xe) (i:=0) (E:=λcls _ H2=>cls=.ref C/\∃Hs2,Ext Hs0 H Hs2 H2) GD hr rfl (.inl ld) ho hd hb ?_ rfl ⟨rfl,hsm,λC2 H2 Hs2 q E2=>⟨?_,Hs2,E2⟩⟩ (by simpa using pd.1) (by simpa using pd.2)
  .intro pins2 H2 s2 e s3 I2 hcx
   obtain⟨ea,cl,H3,rfl,Fl,hn3,rfl,Hs3,E3⟩:=hcx;have I2':Inv (X.pinned (X.pn++z0) X.xe) pins2 (start [dn,n] [.ref f]) H2 s2:=Inv.repin (X:=X) I2 λp hp=>hp;have E4:Ext Hs3 H3 (upd Hs3 ea (.ext (isX ea (.ref C)))) (upd H3 ea (.ext (isX ea (.ref C)))):=Ext.new E3.sub _ hn3;have hm:mg c=some (.ref M):=hxs.glob _ _ e2;refine Lk (X:=X.pinned (X.pn++z0) X.xe) (Mc:=M) (R:=Q) I2' Fl hn3 ⟨rfl,rfl⟩ lc hm (by simpa using pc.1) e3 S.nd (i:=1) rfl ln (by simpa using pn.1) (by simpa using pn.2) (aY (cN au)) ?_ λs4 Y2 H4 v u I4 rv q4=>?_
   ·
    intro pins5 s5 I5;refine O1z (f9 I5 lcls mc ?_ pcl);refine P1z (h₀:=base) I5.ok.mod.kin kc ?_ rfl rfl;have pa:PA ((X.pinned (X.pn++z0) X.xe).inSuite (.ref ea) λ_ _=>False) [.Name n p5] (Io (RM 1) Nm):=aA (mU (i:=1) rfl (.inl ln) (by simpa using pn.1) (by simpa using pn.2)) aO;refine thn (pa p6 pins5 s5 _ _ (λvs H1=>vs=[.ref ea]/\H1=upd H3 ea (.ext (isX ea (.ref C)))) I5 ⟨.ref ea,rfl,rfl,rfl⟩) λus s6 ⟨vs,H6,I6,r6,q6,q7⟩=>⟨I6.kIn,?_⟩;subst q6 q7;refine Ji (E:=E0) (FC base) ⟨by have:=hr.dp;show(A.deeper (envOfC nm (ao t) s.heap.objs.size a cdv)).depth+3*1+5<_;omega,by have:=hr.un;show(A.deeper (envOfC nm (ao t) s.heap.objs.size a cdv)).units+16*1+200<_;omega⟩ bc oA I6 r6 ⟨rfl,upd Hs3 ea (.ext (isX ea (.ref C))),E4.sub,.cons (by simp only[Rep];exact⟨ea,C,rfl,e1,aB⟩) .nil,λv H7 Hs7 E7 r7=>hq v H7 Hs7 ((E3.trans E4).trans E7) r7⟩
   .exact⟨v,Y2,H4,Inv.repin (X:=X) (pn':=X.pn) I4 λp hp=>V0z _ hp,rv,q4⟩
  .have q':W.nsIn K mainGlobals c'=some (some (.ref C2)):=q
   rw[e1] at q';cases q';rfl
 refine D5z (run [] s0 I0) (λfl s1 q=>?_) λe s1 q=>q
 cases fl with
 | next=>obtain⟨_,_,_,z⟩:=q;exact z.elim
 | brk=>obtain⟨_,_,_,z⟩:=q;exact z.elim
 | cont=>obtain⟨_,_,_,z⟩:=q;exact z.elim
 | ret u=>obtain⟨_,_,_,_,_,z⟩:=q;exact z.elim
end
def del(H:Hp)(c:Addr):Hp:=λb=>if b=c then none else H b
theorem fL{H:Hp}{c b:Addr}(h:b≠c):del H c b=H b:=Q5z h
theorem jj{H:Hp}{c:Addr}:del H c c=none:=P5z rfl
theorem oY{H:Hp}{c b:Addr}{o:HO}(h:del H c b=some o):H b=some o/\b≠c:=by
 unfold del at h;split at h
 .cases h
 .rename_i n;exact⟨h,n⟩
theorem d9{H:Hp}{c b:Addr}(h:H b=none):del H c b=none:=by
 unfold del;split
 .rfl
 .exact h
section
variable{X:Cx}{z0:List (Addr×Obj)}{Y:St}{H:Hp}{s:Shared}{c:Addr}{p:Heap->Prop}
theorem Inv.untrack(I:Inv X z0 Y H s)(h:H c=some (.ext p)):Inv X z0 Y (del H c) s:=by
 have ne:∀b o,H b=some o->o≠.ext p->del H c b=some o:=λb o e n=>by
  rw[fL λz=>by rw[z,h] at e;cases e;exact n rfl];exact e
 refine⟨I.ok,I.os,I.bare,⟨I.base.keep,I.base.slot,λb o q n hx=>d9 (I.base.free b o q n hx),I.base.there,λb xs q=>ne b _ (I.base.tups b xs q) (λz=>nomatch z),λb o u q=>ne b _ (I.base.frzs b o u q) (λz=>nomatch z),λb ps q=>?_⟩,I.loc,I.cell,d9 I.free,λx c e=>d9 (I.freeC x c e),λp hp=>?_,λb u e=>?_,I.len⟩
 .obtain⟨more,e⟩:=I.base.tbls b ps q
  exact⟨more,ne b _ e (λz=>nomatch z)⟩
 .obtain⟨a1,a2,a3⟩:=I.pin p hp
  exact⟨a1,d9 a2,a3⟩
 .obtain⟨e1,e2⟩:=oY e
  exact(I.hok b u e1).stay (λ_ v _ q=>q) (λd q=>ne d _ q (λz=>nomatch z)) λd xs q=>ne d _ q (λz=>nomatch z)
theorem Dd{CX:CXT}{k:Nat}{f:Addr}{fd:FuncData}{ps:List Str}{sp:Sp}{E:XK}{Q:VK}{us:List Value}{vs:List V}(h:H c=some (.ext p))(F:FnOk X.prog X.w X.K X.mg (BP s.heap (del H c) (frs X.stack)) CX k f fd ps sp)(hr:Room k X.A)(hb:Binds X.K fd ps [])(hx:Passes CX X E)
  (I:Inv X z0 Y H s) (hfr:c∉frs X.stack) (r:Vals vs us) (hsp:sp vs (del H c) (λv H2=>H2 c=none->Q v (upd H2 c (.ext p))) E):wpAny (model X.prog X.w) X.A (call (.ref f) us) (EP X z0 Y Q) X.xe s:=by
 have J:=I.untrack h
 have hl:us.length=ps.length:=by rw[<- r.length];exact F.len _ _ _ _ hsp
 have hb':=hb s us I.kIn (by rw[J3z];exact hl)
 rw[J3z] at hb';refine wpAny_call (S4z (F.run X.A X.stack s (del H c) ⟨us,[]⟩ us vs _ E hr J.env0Big hb' r hsp) λr s' hq=>?_)
 cases r with
 | error e=>exact hx z0 Y (del H c) s e s' J hq
 | ok fl =>
  cases fl with
  | ret u =>
   obtain⟨v,H2,os,bare,un,hok,rv,q⟩:=hq;obtain⟨pc,⟨oc,eo⟩,st⟩:=I.hok c _ h;have hn2:H2 c=none:=un.free c oc eo jj (by simp);have e2:s'.heap.get? c=some oc:=un.keep c oc eo jj hfr (by simp)
   have kp:∀b o,H2 b=some o->upd H2 c (.ext p) b=some o:=λb o e=>by rw[aj (ak e hn2)];exact e
   refine⟨v,upd H2 c (.ext p),I.call' (s':=s') (ch:=[]) os ⟨λb o q n=>un.keep b o q (d9 n),λb o q n=>un.slot b o q (d9 n),λb o q n hx=>?_,un.there,λb xs q=>?_,λb o u q=>?_,λb ps q=>?_⟩ (λb u e=>?_) bare (λb z=>absurd z (by simp)),rv,q hn2⟩
   .rw[aj λz=>by rw[z,h] at n;cases n]
    exact un.free b o q (d9 n) hx
   .exact kp _ _ (un.tups b xs (by rw[fL λz=>by rw[z,h] at q;cases q];exact q))
   .exact kp _ _ (un.frzs b o u (by rw[fL λz=>by rw[z,h] at q;cases q];exact q))
   .obtain⟨more,e⟩:=un.tbls b ps (by rw[fL λz=>by rw[z,h] at q;cases q];exact q)
    exact⟨more,kp _ _ e⟩
   .by_cases hb:b=c
    .subst hb;rw[aB] at e;cases e
     exact⟨st s.heap s'.heap pc λo q=>by rw[eo] at q;cases q;exact e2,⟨oc,e2⟩,st⟩
    .rw[aj hb] at e
     exact(hok b u e).stay (λ_ v _ q=>q) (λd q=>kp _ _ q) λd xs q=>kp _ _ q
  | next=>exact False.elim hq
  | brk=>exact False.elim hq
  | cont=>exact False.elim hq
end
abbrev noArgs:Arguments:=⟨[],[],none,[],[],none,[]⟩
theorem u0{K:Zf}{qual:Str}{body:Expr}{scope:Scope}{cl:List (Str×Addr)}{pm cdv ct:Value}:Binds K (W.kla_fn "<lambda>" qual noArgs body scope cl pm cdv ct) [] []:=.all λus hl=>by
 have:us=[]:=List.length_eq_zero_iff.mp hl;subst this;rfl
def qJ(lsc:Scope):List Str:=(lsc.names.filter λp=>p.2==.free).map (·.1)
def eX(lsc:Scope)(U:Rho):Rho:=(qJ lsc).map λx=>(x,Mt (U.lookup x))
def Vh:Option Sl->Bool
 | some (.sh _)=>true
 | _=>false
def sX(sc lsc:Scope)(U:Rho):Bool :=
 lsc.kind==.function && !lsc.isCoroutine && !lsc.isGenerator&&lH (lsc.names.map (·.1))&&lH (qJ lsc)&&lsc.names.all λp=>p.2 !=.cell&&(p.2 !=.free||(sc.names.lookup p.1==some .cell&&Vh (U.lookup p.1)))
structure LamOk(sc lsc:Scope)(U:Rho):Prop where
 kind:lsc.kind=.function
 co:lsc.isCoroutine=false
 gen:lsc.isGenerator=false
 nd:(lsc.names.map (·.1)).Nodup
 ndf:(qJ lsc).Nodup
 own:∀x∈lsc.names,x.2≠.cell
 fr:∀x,(x,NameKind.free)∈lsc.names->sc.names.lookup x=some .cell/\∃d,U.lookup x=some (.sh d)
theorem Ep{sc lsc:Scope}{U:Rho}(h:sX sc lsc U=true):LamOk sc lsc U:=by
 unfold sX at h;simp only[Y2z] at h;obtain⟨⟨⟨⟨⟨h1,h2⟩,h3⟩,h4⟩,h5⟩,h6⟩:=h;refine⟨by simpa using h1,by simpa using h2,by simpa using h3,fW h4,fW h5,λx hx=>?_,λx hx=>?_⟩
 .have:=E3z.mp h6 x hx
  rw[Y2z] at this;simpa using this.1
 .have:=E3z.mp h6 _ hx
  rw[Y2z,R3z,Y2z] at this;rcases this.2 with z | ⟨z1,z2⟩
  .simp at z
  .refine⟨by simpa using z1,?_⟩
   unfold Vh at z2;split at z2
   .rename_i d e;exact⟨d,e⟩
   .cases z2
theorem uY{lsc:Scope}{x:Str}:x∈qJ lsc↔(x,NameKind.free)∈lsc.names:=by
 unfold qJ;constructor
 .intro h
  obtain⟨⟨y,k⟩,h1,rfl⟩:=List.mem_map.mp h;obtain⟨h2,h3⟩:=List.mem_filter.mp h1
  have:k=.free:=by simpa using h3
  subst this;exact h2
 .intro h
  exact List.mem_map.mpr ⟨_,List.mem_filter.mpr ⟨h,by simp⟩,rfl⟩
theorem qU{K:Zf}{Hs:Hp}{U:Rho}{Y:St}{N:List Str}(hN:N=U.map (·.1))(hst:bJ K Hs U Y):∀l:List Str,(∀x∈l,∃d,U.lookup x=some (.sh d)) ->
  ∃ws:List V,ws.length=l.length/\(∀(i:Nat) x v,l[i]?=some x->ws[i]?=some v->∃j:Nat,N[j]?=some x/\Y[j]?=some (some v))/\bJ K Hs (l.map λx=>(x,Mt (U.lookup x))) (ws.map some)
 | [],_=>⟨[],rfl,λi x v h=>by simp at h,λi x d h=>by simp at h⟩
 | y::l,h=>by
  obtain⟨ws,h1,h2,h3⟩:=qU hN hst l λx hx=>h x (U0z _ hx);obtain⟨d,hd⟩:=h y K1z;obtain⟨j,e1,e2⟩:=eV hd;obtain⟨v,e3,e4⟩:=hst j y d e1;refine⟨v::ws,by simp[h1],λi x v' a1 a2=>?_,λi x d' a1=>?_⟩
  .cases i with
   | zero =>
    simp at a1 a2;subst a1 a2;exact⟨j,by rw[hN,List.getElem?_map,e1];rfl,e3⟩
   | succ i=>exact h2 i x v' (by simpa using a1) (by simpa using a2)
  .cases i with
   | zero =>
    simp at a1;obtain⟨rfl,a2⟩:=a1;rw[hd] at a2;simp[Mt] at a2;subst a2;exact⟨v,rfl,e4⟩
   | succ i =>
    obtain⟨u,q1,q2⟩:=h3 i x d' (by simpa using a1);exact⟨u,by simpa using q1,q2⟩
structure LCx(X:Cx)(p:Addr×Str):Prop where
 lm:X.lm=some p
 qual:p.2=X.env.qual++"<lambda>"
 code:∃c,X.env.code=.ref c/\W.CodeHd X.base c p.1
 bi:X.base.BuiltinsAt X.mg p.1
 glob:X.env.globals=mainGlobals
 fn:∀x,X.fn x=true
def jR(P:Program)(w:World)(K:Zf)(mg:Str->Option Value)(kd:Nat)(exs:List Str)(cv:Str->Option D)(tn:Str):Prop :=
 (tn==("__debug__":Str))=false/\∃a g dn,mg tn=some (.ref a)/\W.keepIn K (.ref a)=true/\Binds K g [dn] []/\∀(base:Heap)(f:Addr)(fd:FuncData)(o:Obj)(Hs0:Hp)(c':Str)(d:D),exs.contains c'=true->cv c'=some d->FnOk P w K mg base (CX1 P w) kd f fd [] (spL K Hs0 c')->base.get? f=some o->o.data=.func fd->Binds K fd [] []->FnOk P w K mg base (CX1 P w) (kd+1) a g [dn] (spT K Hs0 f d)
section
variable{X:Cx}{U:Rho}{T:Pg}{F k:Nat}{sc:Scope}
theorem vH{z0:List (Addr×Obj)}{Y:St}{H:Hp}{s:Shared}(I:Inv X z0 Y H s)(hfn:∀x,X.fn x=true){x:Str}{c:Addr}{v:Option Value}(hc:X.env.cells.lookup x=some c)(h:s.heap.IsCell c v):(BP s.heap H (frs X.stack)).IsCell c v:=by
 obtain⟨o,h1,h2⟩:=h;refine⟨o,pC h1 (I.freeC x c hc) λz=>?_,h2⟩;rcases L4z.mp (I.stkSub c z) with e | e
 .exact I.cne x c hc e
 .obtain⟨_,o',ho,_⟩:=I.ok.funs.mem e
  exact absurd (I1z (N4z ho) (I.ok.cab x c (hfn x) hc)) (C4z _)
end
end L2
namespace DE
open PySem
def toldOf:Expr->Option (Str×Expr×Scope)
 | .Call (.Name tn _) [.Lambda ⟨[],[],none,[],[],none,[]⟩ body lsc _] [] _=>some (tn,body,lsc)
 | _=>none
end DE
namespace L2
open PySem PySem.Spec PyProof.Rows
open DE hiding st
theorem xZ{e:Expr}{tn:Str}{body:Expr}{lsc:Scope}(h:toldOf e=some (tn,body,lsc)):∃pp lp cp,e=.Call (.Name tn pp) [.Lambda noArgs body lsc lp] [] cp:=by
 unfold toldOf at h;split at h
 .cases h;exact⟨_,_,_,rfl⟩
 .cases h
structure LamP where
 tn:Str
 cv:Str->Option D
section
variable{X:Cx}{U:Rho}{T:Pg}{F k:Nat}{sc:Scope}{Hs0 H0:Hp}{L:LamP}{p:Addr×Str}
end
abbrev Cx.relm(X:Cx)(q:Option (Addr×Str)):Cx:={X with lm:=q}
section
variable{X:Cx}{z0:List (Addr×Obj)}{Y:St}{H:Hp}{s:Shared}{q:Option (Addr×Str)}
theorem Inv.relm(I:Inv X z0 Y H s)(q:Option (Addr×Str)):Inv (X.relm q) z0 Y H s :=
 ⟨⟨I.ok.mod,I.ok.kind,I.ok.glob,I.ok.blt,I.ok.above,I.ok.inj,I.ok.has,I.ok.cab,I.ok.hd,I.ok.frames,I.ok.stk,I.ok.exf,I.ok.bs,I.ok.bsz,I.ok.noex,I.ok.exfs,I.ok.funs,I.ok.frf⟩,I.os,I.bare,I.base,I.loc,I.cell,I.free,I.freeC,I.pin,I.hok,I.len⟩
theorem Inv.unrelm(I:Inv (X.relm q) z0 Y H s):Inv X z0 Y H s :=
 ⟨⟨I.ok.mod,I.ok.kind,I.ok.glob,I.ok.blt,I.ok.above,I.ok.inj,I.ok.has,I.ok.cab,I.ok.hd,I.ok.frames,I.ok.stk,I.ok.exf,I.ok.bs,I.ok.bsz,I.ok.noex,I.ok.exfs,I.ok.funs,I.ok.frf⟩,I.os,I.bare,I.base,I.loc,I.cell,I.free,I.freeC,I.pin,I.hok,I.len⟩
theorem SP.unrelm{D:Ends}{f:Flow}(h:SP (X.relm q) z0 D f s):SP X z0 D f s:=by
 cases f with
 | next=>obtain⟨Y',H',I,z⟩:=h;exact⟨Y',H',I.unrelm,z⟩
 | brk=>obtain⟨Y',H',I,z⟩:=h;exact⟨Y',H',I.unrelm,z⟩
 | cont=>obtain⟨Y',H',I,z⟩:=h;exact⟨Y',H',I.unrelm,z⟩
 | ret u=>obtain⟨v,Y',H',I,r,z⟩:=h;exact⟨v,Y',H',I.unrelm,r,z⟩
end
section
variable{P:Program}{w:World}{K:Zf}{mg:Str->Option Value}{base:Heap}{T:DE.Pg}{F k:Nat}
end
section
variable{P:Program}{w:World}{K:Zf}{mg:Str->Option Value}{T:DE.Pg}{F kd:Nat}
def Vo(T:DE.Pg)(F:Nat)(fd:Fd)(c:Str):Option D:=runC (T.cx (aW T F 0)) F fd.sc fd.body (bH fd [.exc c])
theorem yc{tn cls dn n:Str}{fdT fdC:Fd}{p1 p2 p3 np p4 p5 p6 p7 hp pos:Pos}(Tx:Text w K mg T)(hT:T.defs.lookup tn=some fdT)(hC:T.defs.lookup cls=some fdC)
  (hbody:fdT.body=[.Try [.Return (some (.Call (.Name dn p1) [] [] p2)) p3] [.ExceptHandler (some (.Name T.top np)) (some n) [.Return (some (.Call (.Name cls p4) [.Name n p5] [] p6)) p7] hp] [] [] pos])
  (hN:fdT.N=[dn,n]) (hps:fdT.ps=[dn]) (ld:fdT.sc.names.lookup dn=some .local) (ln:fdT.sc.names.lookup n=some .local) (lc:fdT.sc.names.lookup T.top=some .globalImplicit) (lcls:fdT.sc.names.lookup cls=some .globalImplicit)
  (pn:aK n=true) (pd:aK dn=true) (pc:aK T.top=true) (h1:fdC.ps.length=1) (hkd:1<=kd):jR P w K mg kd T.exs (Vo T F fdC) tn:=by
 have FA:=Tx.fns tn fdT hT;obtain⟨nm,t,a,g,m1,m2,m3,m4,m5⟩:=FA.ex;have FB:=Tx.fns cls fdC hC;obtain⟨nm',t',ac,gc,q1,q2,q3,q4,q5⟩:=FB.ex;have S:=FA.fs;rw[hN,hps,m5] at S;rw[hps] at m3;refine⟨FA.nd,a,g,dn,m1,m2.kp,m3,λbase f fd o Hs0 c' d hin hcv GD ho hd hb=>?_⟩;exact Ih m2 (m4.symm.trans hbody) S (m5▸ld) (m5▸ln) (m5▸lc) (m5▸lcls) Tx.exs hin pn pd pc FB.nd q1 q2.kp q3 (λbase=>QD (k:=0) Tx q2 q4 q5 FB.fs h1 hcv) h1 GD hkd ho hd hb
end
end L2
namespace L2
open PySem PySem.Spec PyProof.Rows
end L2
namespace DE
open PySem
def Ls{α:Type}(m:Nat)(h:Nat->α):List α:=(List.range m).map h
theorem cg{α:Type}{m:Nat}{h:Nat->α}:(Ls m h).length=m:=by simp[Ls]
theorem gC{α:Type}{m i:Nat}{h:Nat->α}(hi:i<m):(Ls m h)[i]?=some (h i):=by simp[Ls,hi]
theorem vU{α:Type}{m:Nat}{h g:Nat->α}(e:∀i,i<m->h i=g i):Ls m h=Ls m g:=by
 unfold Ls;exact H1z λi hi=>e i (List.mem_range.mp hi)
theorem QV{α β:Type}{m:Nat}{h:Nat->α}{f:α->β}:(Ls m h).map f=Ls m λi=>f (h i):=by
 unfold Ls;rw[V4z];rfl
theorem rP{α:Type}{m:Nat}{h:Nat->α}:(Ls m h).reverse=Ls m λi=>h (m-1-i):=by
 apply List.ext_getElem?;intro i
 by_cases hi:i<m
 .rw[List.getElem?_reverse (by rw[cg];exact hi),cg,gC hi,gC (by omega)]
 .rw[List.getElem?_eq_none (by rw[F1z,cg];omega),List.getElem?_eq_none (by rw[cg];omega)]
theorem QT{α β:Type}{m:Nat}{h:Nat->α}{g:Nat->β}:(Ls m h).zip (Ls m g)=Ls m λi=>(h i,g i):=by
 apply List.ext_getElem?;intro i
 by_cases hi:i<m
 .rw[gC hi,List.getElem?_zip_eq_some]
  exact⟨gC hi,gC hi⟩
 .rw[List.getElem?_eq_none (by rw[U3z,cg,cg];omega),List.getElem?_eq_none (by rw[cg];omega)]
theorem pD{α:Type}{m:Nat}{h:Nat->α}:Ls (m+1) h=Ls m h++[h m]:=by
 unfold Ls;rw[List.range_succ,S3z];rfl
theorem HW{m:Nat}{h:Nat->D}{j:Nat}(hj:j<m):atD (Ls m h) (j:Int)=some (h j):=by
 unfold atD ixD;rw[cg,P5z (by omega),P5z (by omega)];simp[gC hj]
theorem gA{l:List D}{j:Nat}{d:D}(h:l[j]?=some d):atD l (j:Int)=some d:=by
 have hj:=(List.getElem?_eq_some_iff.mp h).1;unfold atD ixD;rw[P5z (by omega),P5z (by omega)];simpa using h
theorem qj{n:Nat}:gY 0 (n:Int)=Ls n λk=>.int k:=by
 unfold gY Ls;simp
def Wv(cx:Cxt)(sc:Scope)(U:Rho)(x:Str):Option D:=if aK x then(match sc.names.lookup x with
    | some .local=>(match U.lookup x with | some (.sh d)=>some d | _=>none)
    | some .cell=>(match U.lookup x with | some (.sh d)=>some d | _=>none)
    | some .free=>(match U.lookup x with | some (.sh d)=>some d | _=>none)
    | some .globalImplicit=>cx.cst.lookup x
    | _=>none) else none
def W4(c:Const):Option D:=(match c with
    | .none=>some .non
    | .bool b=>some (.bl b)
    | .int i=>some (.int i)
    | .str x=>some (.str x)
    | _=>none)
section
variable{cx:Cxt}{n:Nat}{sc scope:Scope}{U:Rho}{a b c e:Expr}{es:List Expr}{p q:Pos}{x y z d:D}{ds:List D}{nm:Str}{op op':CmpOp}
theorem xName(h:Wv cx sc U nm=some d):ev cx (n+1) sc U (.Name nm p)=some d:=h
theorem cV{k:Const}{j:Nat}(h:W4 k=some d):ev cx (n+1) sc U (.Constant k j p)=some d:=h
theorem dG{o:Operator}(h1:ev cx n sc U a=some x)(h2:ev cx n sc U b=some y)(h:binop o x y=some d):ev cx (n+1) sc U (.BinOp a o b p)=some d:=by
 simp only[ev,h1,h2];exact h
theorem Rz{t:Bool}(h1:ev cx n sc U a=some (.bl t)):ev cx (n+1) sc U (.UnaryOp .Not a p)=some (.bl (!t)):=by
 simp only[ev,h1];rfl
theorem M8(h1:ev cx n sc U a=some (.bl true)):ev cx (n+1) sc U (.UnaryOp .Not a p)=some (.bl false):=Rz h1
theorem Ry(h1:ev cx n sc U a=some (.bl false)):ev cx (n+1) sc U (.UnaryOp .Not a p)=some (.bl true):=Rz h1
theorem Vu{i:Int}(h1:ev cx n sc U a=some (.int i)):ev cx (n+1) sc U (.UnaryOp .USub a p)=some (.int (-i)):=by
 simp only[ev,h1];rfl
theorem vZ(h1:ev cx n sc U a=some (.bl true))(h2:cT .And (ev cx n sc U) (b::es)=some d):cT .And (ev cx n sc U) (a::b::es)=some d:=by
 simp only[cT,h1];exact h2
theorem Nb(h1:ev cx n sc U a=some (.bl false)):cT .And (ev cx n sc U) (a::b::es)=some (.bl false):=by
 simp only[cT,h1];rfl
theorem Q5(h1:ev cx n sc U a=some (.bl false))(h2:cT .Or (ev cx n sc U) (b::es)=some d):cT .Or (ev cx n sc U) (a::b::es)=some d:=by
 simp only[cT,h1];exact h2
theorem UW(h1:ev cx n sc U a=some (.bl true)):cT .Or (ev cx n sc U) (a::b::es)=some (.bl true):=by
 simp only[cT,h1];rfl
theorem Cp{o:BoolOp}(h1:ev cx n sc U a=some d):cT o (ev cx n sc U) [a]=some d:=h1
theorem jA{o:BoolOp}(h:cT o (ev cx n sc U) es=some d):ev cx (n+1) sc U (.BoolOp o es p)=some d:=h
theorem bx(h1:ev cx n sc U a=some x)(h2:ev cx n sc U b=some y)(h:cmpop op x y=some d):ev cx (n+1) sc U (.Compare a [op] [b] p)=some d:=by
 simp only[ev,h1,h2];exact h
theorem RB(h1:ev cx n sc U a=some x)(h2:ev cx n sc U b=some y)(h:cmpop op x y=some (.bl true))(h3:ev cx n sc U c=some z)(h4:cmpop op' y z=some d)(hp:aH c=true:=by rfl):ev cx (n+1) sc U (.Compare a [op,op'] [b,c] p)=some d:=by
 simp only[ev,h1,h2,h3,hp];show((cmpop op x y).bind asB).bind _=_;rw[h];exact h4
theorem Mp(h1:ev cx n sc U c=some (.bl true))(h2:ev cx n sc U a=some d):ev cx (n+1) sc U (.IfExp c a b p)=some d:=by
 simp only[ev,h1];exact h2
theorem Mq(h1:ev cx n sc U c=some (.bl false))(h2:ev cx n sc U b=some d):ev cx (n+1) sc U (.IfExp c a b p)=some d:=by
 simp only[ev,h1];exact h2
theorem dj{f:Expr->Option D}:jX f []=some []:=rfl
theorem aG{f:Expr->Option D}(h1:f a=some x)(h2:jX f es=some ds):jX f (a::es)=some (x::ds):=by
 simp only[jX,h1,h2];rfl
theorem mL{j:Nat}(h1:jX (ev cx n sc U) es=some ds)(hz:szl ds.length=true):ev cx (n+1) sc U (.Tuple es j p)=some (.tup ds):=by
 simp only[ev,h1];show(if szl ds.length=true then _ else _)=_;rw[P5z hz]
theorem Q6(h1:jX (ev cx n sc U) es=some ds)(hz:szl ds.length=true):ev cx (n+1) sc U (.List es p)=some (.lst ds):=by
 simp only[ev,h1];show(if szl ds.length=true then _ else _)=_;rw[P5z hz]
theorem Ir{x:D}{i:Int}{xs:List D}(h:items x=some xs):Ms x (.int i)=atD xs i:=by cases x<;>simp[items] at h<;>subst h<;>rfl
theorem xIx{i:Int}{xs:List D}(h1:ev cx n sc U a=some x)(h2:ev cx n sc U b=some (.int i))(h3:items x=some xs)(h4:atD xs i=some d)(hs:aH b=true:=by rfl):ev cx (n+1) sc U (.Subscript a b p)=some d:=by
 simp only[ev,h1];show Option.bind _ _=_
 cases b<;>first | (simp[aH] at hs;done) | (simp only[h2];show Ms x (.int i)=some d;rw[Ir h3];exact h4)
theorem vY{y:D}(h1:ev cx n sc U a=some x)(h2:ev cx n sc U b=some y)(h:Ms x y=some d)(hs:aH b=true:=by rfl):ev cx (n+1) sc U (.Subscript a b p)=some d:=by
 simp only[ev,h1];show Option.bind _ _=_
 cases b<;>first | (simp[aH] at hs;done) | (simp only[h2];exact h)
def oI(cx:Cxt)(n:Nat)(sc:Scope)(U:Rho):Option Expr->Option (Option Int)
 | none=>some none
 | some e=>(ev cx n sc U e).bind λd=>(asI d).map some
theorem UJ{us:List D}{lo hi:Option Expr}{l u:Option Int}(h1:ev cx n sc U a=some (.lst us))(h2:oI cx n sc U lo=some l)(h3:oI cx n sc U hi=some u) :
  ev cx (n+1) sc U (.Subscript a (.Slice lo hi none q) p)=some (.lst (Bj us l u)):=by
 unfold oI at h2 h3;simp only[ev,h1,bind,B3z]
 have e:∀(A B:Option (Option Int)),A=some l->B=some u->(A.bind λl=>B.bind λh=>some (D.lst (Bj us l h)))=some (.lst (Bj us l u)):=by
  intro A B ha hb;subst ha hb;rfl
 exact e _ _ h2 h3
theorem O9:oI cx n sc U none=some none:=rfl
theorem O8{i:Int}(h:ev cx n sc U e=some (.int i)):oI cx n sc U (some e)=some (some i):=by
 simp only[oI,h];rfl
theorem iu{B:String}(hg:bZ cx sc nm=some B)(hw:Cy cx sc B es=.al)(hn:(B=="isinstance"||es.isEmpty)=false)(h1:jX (ev cx n sc U) es=some ds)(h:blt B ds=some d):ev cx (n+1) sc U (.Call (.Name nm q) es [] p)=some d:=by
 rw[Bool.or_eq_false_iff] at hn;unfold bZ at hg;split at hg
 .rename_i hgl
  simp only[ev,hgl,hg,O5z];split
  .rename_i he;cases he;simp at hn
  .rename_i he;cases he
   simp only[hw,hn.2,h1,S1z,M5z];exact h
  .rename_i he;cases he
 .cases hg
theorem xTv{xs:List D}(hg:bZ cx sc nm=some "tuple")(hw:Cy cx sc "tuple" es=.tv a)(h1:ev cx n sc U a=some (.tup xs)):ev cx (n+1) sc U (.Call (.Name nm q) es [] p)=some (.tup xs.reverse):=by
 unfold bZ at hg;split at hg
 .rename_i hgl
  simp only[ev,hgl,hg,O5z];split
  .rename_i he;exact absurd he (by decide)
  .rename_i he;cases he
   simp only[hw,h1];rfl
  .rename_i he;cases he
 .cases hg
def isFn(cx:Cxt)(sc:Scope)(nm:Str)(es:List Expr):Bool:=rQ cx sc nm&&(cx.blt.lookup nm).isNone&&cx.fns.contains nm && !es.isEmpty
theorem bf(hf:isFn cx sc nm es=true)(h1:jX (ev cx n sc U) es=some ds)(h:cx.call nm ds=some d):ev cx (n+1) sc U (.Call (.Name nm q) es [] p)=some d:=by
 unfold isFn at hf;rw[Y2z,Y2z,Y2z] at hf;obtain⟨⟨⟨h2,h3⟩,h4⟩,h5⟩:=hf
 have h3':cx.blt.lookup nm=none:=by simpa using h3
 simp only[ev,h2,h3',h4,h5,J4z,O5z,h1];exact h
theorem wR1{tup:Bool}{j:Int}(hw:v7 cx sc e=.r1 a)(h1:ev cx n sc U a=some (.int j))(hz:pZ j=true):evI cx tup (ev cx n sc U) sc e=some (gY 0 j):=by
 unfold evI;rw[hw];simp only[h1,B3z,asI];show(if pZ j=true then _ else _)=_;rw[P5z hz]
theorem wZp{xs ys:List D}(hw:v7 cx sc e=.zp a b)(h1:ev cx n sc U a=some (.tup xs))(h2:ev cx n sc U b=some (.tup ys)):evI cx true (ev cx n sc U) sc e=some ((xs.zip ys).map λq=>.tup [q.1,q.2]):=by
 unfold evI;rw[hw];simp only[h1,h2,bind,B3z];rfl
theorem wRv{tup:Bool}{xs:List D}(hw:v7 cx sc e=.rv a)(h1:ev cx n sc U a=some (.tup xs)):evI cx tup (ev cx n sc U) sc e=some xs.reverse:=by
 unfold evI;rw[hw];simp only[h1,B3z,tupI];rfl
theorem wSq{tup:Bool}{xs:List D}(hw:v7 cx sc e=.sq)(h1:ev cx n sc U e=some x)(h2:items x=some xs):evI cx tup (ev cx n sc U) sc e=some xs:=by
 unfold evI;rw[hw];simp only[h1,B3z];exact z7 h2
theorem bM{f:D->Option (Option D)}{h g:Nat->D}:∀{m:Nat},(∀i,i<m->f (h i)=some (some (g i)))->bR f (Ls m h)=some (Ls m g):=by
 have key:∀(l:List Nat),(∀i∈l,f (h i)=some (some (g i)))->bR f (l.map h)=some (l.map g):=by
  intro l
  induction l with
  | nil=>intro _;rfl
  | cons i r ih =>
   intro hi;simp only[E4z,bR,hi i K1z,ih λj hj=>hi j (U0z _ hj)];rfl
 intro m hm;exact key _ λi hi=>hm i (List.mem_range.mp hi)
def cF(cx:Cxt)(n:Nat)(sc scope:Scope)(U:Rho)(tg elt:Expr)(ifs:List Expr):D->Option (Option D):=λd=>do
 let U1 <- fH scope tg d (cI scope U)
 let b <- mJ (ev cx n (qg scope sc) U1) ifs
 if b then(ev cx n (qg scope sc) U1 elt).map some else some none
theorem ju{tg elt:Expr}{U1:Rho}(h1:fH scope tg x (cI scope U)=some U1)(h2:ev cx n (qg scope sc) U1 elt=some d):cF cx n sc scope U tg elt [] x=some (some d):=by
 simp only[cF,h1,mJ];show Option.map some (ev cx n (qg scope sc) U1 elt)=_;rw[h2];rfl
theorem Lq{tg elt:Expr}{U1:Rho}{t:Bool}(h1:fH scope tg x (cI scope U)=some U1)(h3:ev cx n (qg scope sc) U1 c=some (.bl t))(h2:ev cx n (qg scope sc) U1 elt=some d):cF cx n sc scope U tg elt [c] x=some (if t then some d else none):=by
 simp only[cF,h1,mJ,h3,h2,bind,B3z,asB]
 cases t<;>rfl
theorem ig{tg elt iter:Expr}{ifs:List Expr}{l out:List D}(hok:jl sc scope=true)(hI:evI cx (eY tg) (ev cx n sc U) sc iter=some l)(hz:szl l.length=true)(hgo:bR (cF cx n sc scope U tg elt ifs) l=some out) :
  ev cx (n+1) sc U (.ListComp elt [⟨tg,iter,ifs,0⟩] scope p)=some (.lst out):=by
 simp only[ev,hok,hI];show(if szl l.length=true then(bR (cF cx n sc scope U tg elt ifs) l).bind (λout=>some (D.lst out)) else none)=some (D.lst out);rw[P5z hz,hgo];rfl
variable{F:Nat}{f:Rho->Stmt->Option Fl}{r:List Stmt}{fl:Fl}{m:Nat}
abbrev blk(cx:Cxt)(F m:Nat)(sc:Scope):List Stmt->Rho->Option Fl:=iT (λU s=>st cx F m sc U s)
theorem gR:blk cx F m sc [] U=some (.nxt U):=rfl
def rW(cx:Cxt)(F m:Nat)(sc:Scope)(r:List Stmt):Fl->Option Fl
 | .ret d=>some (.ret d)
 | .nxt U'=>blk cx F m sc r U'
theorem gSt{s:Stmt}{fl1:Fl}(h:st cx F m sc U s=some fl1)(k:rW cx F m sc r fl1=some fl):blk cx F m sc (s::r) U=some fl:=by
 show(st cx F m sc U s).bind _=_;rw[h]
 cases fl1<;>exact k
theorem fK(h:ev cx F sc (frz F e U) e=some d):blk cx F (m+1) sc (.Return (some e) p::r) U=some (.ret d):=by
 refine gSt (fl1:=.ret d) ?_ rfl;simp only[st,h];rfl
theorem jY{px:Pos}(ho:(ownIn sc nm&&(U.map (·.1)).contains nm)=true)(h:ev cx F sc (frz F e U) e=some d)(k:blk cx F (m+1) sc r (gQ (frz F e U) nm (nR e d))=some fl)(hoo:(ooE cx sc e&&DG (frz F e U) nm)=false:=by rfl)(hno:(bW e && !pG (frz F e U) nm)=false:=by rfl)(hle:Mz cx sc e=false:=by rfl)(hrd:rdA e=false:=by rfl):blk cx F (m+1) sc (.Assign [.Name nm px] e p::r) U=some fl:=by
 refine gSt (fl1:=.nxt _) ?_ k;simp only[st,h,P5z ho,hoo,hno,hle,hrd,Bool.false_and,S1z,M5z];rfl
theorem gTup{es:List Expr}{j:Nat}{U':Rho}{l:List D}(hs:(swp sc es e).isSome=true)(h:ev cx F sc (frz F e U) e=some d)(hl:tupI d=some l)(hb:bindNames sc es l (frz F e U)=some U')(k:blk cx F (m+1) sc r U'=some fl):blk cx F (m+1) sc (.Assign [.Tuple es j q] e p::r) U=some fl:=by
 refine gSt (fl1:=.nxt _) ?_ k;simp only[st,h,hs,Bool.true_or,O5z,hl,bind,B3z,hb,M3z]
def pH:Expr->Bool
 | .Call (.Name ..) _ _ _=>true
 | _=>false
theorem Cu(hx:pH e=true)(h:ev cx F sc (frz F e U) e=some d)(k:blk cx F (m+1) sc r (frz F e U)=some fl):blk cx F (m+1) sc (.Expr e p::r) U=some fl:=by
 unfold pH at hx;split at hx
 .refine gSt (fl1:=.nxt _) ?_ k
  simp only[st,h,M3z]
 .cases hx
theorem Vm{px ap cp:Pos}{M:Str}{ds:List D}(hx:(frz F e U).lookup nm=some (.ow ds))(ho:(ownIn sc nm&&aK nm&&ap.endLine==cp.line)=true)(hM:(M=="append")=true)(hz:szl (ds.length+1)=true)(h:ev cx F sc (frz F e U) e=some d)(k:blk cx F (m+1) sc r (gQ (frz F e U) nm (.ow (ds++[d])))=some fl) :
  blk cx F (m+1) sc (.Expr (.Call (.Attribute (.Name nm px) M ap) [e] [] cp) p::r) U=some fl:=by
 refine gSt (fl1:=.nxt _) ?_ k;simp only[st,hx,ho,hM,hz,J4z,O5z,h,M3z]
theorem j6{A B:List Stmt}{fl1:Fl}(h:ev cx F sc (frz F c U) c=some (.bl true))(k:blk cx F m sc A U=some fl1)(k2:rW cx F (m+1) sc r fl1=some fl):blk cx F (m+1) sc (.If c A B p::r) U=some fl:=by
 refine gSt ?_ k2;have k':iT (λU s=>st cx F m sc U s) A U=some fl1:=k;simp only[st,h,bind,B3z,asB,O5z,k']
theorem tH{A B:List Stmt}{fl1:Fl}(h:ev cx F sc (frz F c U) c=some (.bl false))(k:blk cx F m sc B U=some fl1)(k2:rW cx F (m+1) sc r fl1=some fl):blk cx F (m+1) sc (.If c A B p::r) U=some fl:=by
 refine gSt ?_ k2;have k':iT (λU s=>st cx F m sc U s) B U=some fl1:=k;simp only[st,h,bind,B3z,asB,S1z,M5z,k']
theorem fM{A:List Stmt}(h:ev cx F sc (frz F c U) c=some (.bl false))(k:blk cx F (m+1) sc r U=some fl):blk cx F (m+1) sc (.If c A [] p::r) U=some fl :=
 tH h gR k
theorem Ey{f:D->Rho->Option Fl}{h:Nat->D}{R:Nat->Rho}{N:Nat}(hs:∀i,i<N->f (h i) (R i)=some (.nxt (R (i+1)))):fG f (Ls N h) (R 0)=some (.nxt (R N)):=by
  have key:∀(j i:Nat),i+j=N->fG f ((List.range' i j).map h) (R i)=some (.nxt (R N)):=by
    intro j
    induction j with
    | zero => intro i hi; have : i = N := by omega
              subst this;rfl
    | succ j ih =>
      intro i hi
      rw[Z2z,E4z]
      simp only[fG,hs i (by omega)]
      exact ih (i+1) (by omega)
  have:=key N 0 (by omega)
  rw[<- List.range_eq_range'] at this
  exact this
def fF(cx:Cxt)(F m:Nat)(sc:Scope)(tg:Expr)(body:List Stmt):D->Rho->Option Fl:=λd U=>do let U1 <- fH sc tg d U;iT (λU s=>st cx F m sc U s) body U1
theorem EY{tg:Expr}{body:List Stmt}{U1:Rho}(h1:fH sc tg d U=some U1)(h2:blk cx F m sc body U1=some fl):fF cx F m sc tg body d U=some fl:=by
 have h2':iT (λU s=>st cx F m sc U s) body U1=some fl:=h2;simp only[fF,h1];exact h2'
theorem Vk{tg iter:Expr}{body:List Stmt}{l:List D}{fl1:Fl}(hI:evI cx (eY tg) (ev cx F sc (frz F iter U)) sc iter=some l)(hgo:fG (fF cx F m sc tg body) l (frz F iter U)=some fl1)(k2:rW cx F (m+1) sc r fl1=some fl):blk cx F (m+1) sc (.For tg iter body [] p::r) U=some fl:=by
 refine gSt ?_ k2;have hgo':fG (λd U=>(fH sc tg d U).bind λU1=>iT (λU s=>st cx F m sc U s) body U1) l (frz F iter U)=some fl1:=hgo;simp only[st,hI,bind,B3z,hgo']
abbrev cxN(P:Pg)(F k:Nat):Cxt:=⟨P.cst,P.blt,P.defs.map (·.1),P.exs,P.top,true,aV P F k,jt P F k⟩
theorem FP{P:Pg}{k:Nat}:P.cx (aW P F k)=cxN P F k:=by
 have e1:aV P F k=λf ds=>Rs.val? (aW P F k f ds):=by funext f ds;exact gP
 have e2:jt P F k=λf ds=>Rs.exc? (aW P F k f ds):=by funext f ds;exact kj
 unfold cxN;rw[e1,e2];rfl
theorem fQ{P:Pg}{k:Nat}{f:Str}{fd:Fd}(hf:P.defs.lookup f=some fd)(hl:(ds.length==fd.ps.length)=true)(h:blk (cxN P F k) F F fd.sc fd.body (bH fd ds)=some (.ret d)):aV P F (k+1) f ds=some d:=by
 have h':iT (λU s=>st (cxN P F k) F F fd.sc U s) fd.body (bH fd ds)=some (.ret d):=h;rw[gP];simp only[mq,hf,hl,O5z,rz,FP,h',Rs.val?]
theorem Ie{P:Pg}{k:Nat}{f:Str}{fd:Fd}{U':Rho}(hf:P.defs.lookup f=some fd)(hl:(ds.length==fd.ps.length)=true)(h:blk (cxN P F k) F F fd.sc fd.body (bH fd ds)=some (.nxt U')):aV P F (k+1) f ds=some .non:=by
 have h':iT (λU s=>st (cxN P F k) F F fd.sc U s) fd.body (bH fd ds)=some (.nxt U'):=h;rw[gP];simp only[mq,hf,hl,O5z,rz,FP,h',Rs.val?]
def um(cx:Cxt)(F m:Nat)(sc:Scope)(l:List Stmt)(U:Rho)(c:Str):Prop:=iT (λU s=>st cx F m sc U s) l U=none/\∃U',lq (λU s=>st cx F m sc U s) (λU s=>stx cx F m sc U s) l U=some (c,U')
theorem jT{P:Pg}{k:Nat}{f:Str}{fd:Fd}{c:Str}(hf:P.defs.lookup f=some fd)(hl:(ds.length==fd.ps.length)=true)(h:um (cxN P F k) F F fd.sc fd.body (bH fd ds) c):jt P F (k+1) f ds=some c/\aV P F (k+1) f ds=none:=by
 obtain⟨h1,U',h2⟩:=h;rw[kj,gP];simp only[mq,hf,hl,O5z,rz,FP,h1,h2,Rs.exc?,Rs.val?];trivial
theorem vI{s:Stmt}{U1:Rho}{c:Str}(h1:st cx F m sc U s=some (.nxt U1))(h2:um cx F m sc r U1 c):um cx F m sc (s::r) U c:=by
 obtain⟨h3,U',h4⟩:=h2;refine⟨?_,U',?_⟩
 .show(st cx F m sc U s).bind _=_
  rw[h1];exact h3
 .simp only[lq,h1];exact h4
theorem kE{s:Stmt}{U1:Rho}{c:Str}(h1:st cx F m sc U s=none)(h2:stx cx F m sc U s=some (c,U1)):um cx F m sc (s::r) U c:=by
 refine⟨?_,U1,?_⟩
 .show(st cx F m sc U s).bind _=_
  rw[h1];rfl
 .simp only[lq,h1];exact h2
theorem iH{A B:List Stmt}{cn:Str}{np p1 cpos rp:Pos}{txt:Str}{j:Nat}(h:ev cx F sc (frz F c U) c=some (.bl true))(hr:(cx.rs&&rQ cx sc cn&&cx.exs.contains cn&&aK cn)=true) :
  um cx F (m+2) sc (.If c (.Raise (some (.Call (.Name cn np) [.Constant (.str txt) j p1] [] cpos)) none rp::A) B p::r) U cn:=by
 refine kE (U1:=frz F c U) ?_ ?_
 .simp only[st,h,bind,B3z,asB,O5z]
  rfl
 .simp only[stx,h,B3z,asB,O5z,lq]
  simp only[st,P5z hr]
theorem Rv{cn:Str}(hx:pH e=true)(h:ev cx F sc (frz F e U) e=none)(h2:evx cx F sc (frz F e U) e=some cn):um cx F (m+1) sc (.Expr e p::r) U cn:=by
 refine kE (U1:=frz F e U) ?_ ?_
 .unfold pH at hx
  split at hx
  .simp only[st,h,Option.map_none]
  .cases hx
 .unfold pH at hx
  split at hx
  .simp only[stx,bW,S1z,M5z,h2,M3z]
  .cases hx
theorem Rx{cn:Str}(h:ev cx F sc (frz F e U) e=none)(h2:evx cx F sc (frz F e U) e=some cn):um cx F (m+1) sc (.Return (some e) p::r) U cn:=by
 refine kE (U1:=frz F e U) ?_ ?_
 .simp only[st,h,Option.map_none]
 .simp only[stx,h2,M3z]
theorem kJ{c:Str}(hf:(isFn cx sc nm es&&es.all aH)=true)(h1:jX (ev cx n sc U) es=some ds)(h:cx.callx nm ds=some c)(h0:cx.call nm ds=none):evx cx (n+1) sc U (.Call (.Name nm q) es [] p)=some c/\ev cx (n+1) sc U (.Call (.Name nm q) es [] p)=none:=by
 unfold isFn at hf;simp only[Y2z] at hf;obtain⟨⟨⟨⟨h2,h3⟩,h4⟩,h5⟩,h6⟩:=hf
 have h3':cx.blt.lookup nm=none:=by simpa using h3
 constructor
 .simp only[evx,h2,h5,h6,h4,J4z,O5z,h1,h]
 .simp only[ev,h2,h3',O5z,h4,h5,J4z,h1,bind,B3z,h0]
end
abbrev row(n:Nat)(f:Nat->Int):D:=.tup (Ls n λj=>.int (f j))
abbrev tbl(m n:Nat)(f:Nat->Nat->Int):D:=.tup (Ls m λi=>.tup (Ls n λj=>.int (f i j)))
def yp:Nat->(Nat->Int)->Int
 | 0,_=>0
 | n+1,f=>yp n f+f n
theorem Mf{f:Nat->Int}:∀{n:Nat},rK (Ls n λi=>D.int (f i))=some (Ls n f):=by
 have key:∀l:List Nat,rK (l.map λi=>D.int (f i))=some (l.map f):=by
  intro l
  induction l with
  | nil=>rfl
  | cons a r ih=>simp only[E4z,rK,ih];rfl
 intro n;exact key _
theorem Gp{f:Nat->Int}:∀{n:Nat},(Ls n f).sum=yp n f
 | 0=>rfl
 | n+1=>by rw[pD,List.sum_append,Gp];simp[yp]
theorem Xa{n:Nat}{h:Nat->D}:blt "len" [.tup (Ls n h)]=some (.int n):=by
 show some (D.int ((Ls n h).length:Int))=_;rw[cg]
theorem Vr{n:Nat}{f:Nat->Int}:blt "sum" [.lst (Ls n λi=>.int (f i))]=some (.int (yp n f)):=by
 show(rK (Ls n λi=>D.int (f i))).bind (λis=>some (D.int is.sum))=_;rw[Mf,B3z,Gp]
theorem rJ{l:List D}:blt "tuple" [.lst l]=some (.tup l):=rfl
theorem Cr{n:Nat}(h:n<=100000):szl n=true:=by unfold szl;exact Y3z h
theorem iQ{α:Type}{n:Nat}{h:Nat->α}(hn:n<=100000):szl (Ls n h).length=true:=by rw[cg];exact Cr hn
theorem V9{n:Nat}(h:n<=100000):pZ (n:Int)=true:=by
 unfold pZ;rw[Y3z (by omega),Y3z (by omega)];rfl
theorem oLe{i j:Int}(h:i<=j):cmpop .LtE (.int i) (.int j)=some (.bl true):=by
 show some (D.bl (decide (i<=j)))=_;rw[Y3z h]
theorem oLt{i j:Int}(h:i<j):cmpop .Lt (.int i) (.int j)=some (.bl true):=by
 show some (D.bl (decide (i<j)))=_;rw[Y3z h]
theorem G8{i j:Int}(h:¬ i<j):cmpop .Lt (.int i) (.int j)=some (.bl false):=by
 show some (D.bl (decide (i<j)))=_;rw[F3z h]
theorem Mv{i j:Int}(h:i=j):cmpop .Eq (.int i) (.int j)=some (.bl true):=by
 subst h;show some (D.bl (i==i))=_;rw[T2z]
theorem Pj{i j:Int}(h:i≠j):cmpop .Eq (.int i) (.int j)=some (.bl false):=by
 show some (D.bl (i==j))=_;rw[E1z.mpr h]
theorem Ph{i j:Int}(h:i=j):cmpop .NotEq (.int i) (.int j)=some (.bl false):=by
 subst h;show some (D.bl (!(i==i)))=_;rw[T2z];rfl
theorem HN{i j:Int}(h:small i=true\/small j=true):binop .Mult (.int i) (.int j)=some (.int (i*j)):=by
 show(if(small i||small j||(mid i&&mid j))=true then _ else _)=_;rw[P5z (by rw[R3z,R3z];exact .inl h)]
theorem Rr{i j:Int}(h:0<j):binop .Mod (.int i) (.int j)=some (.int (i%j)):=by
 show(if decide (0<j)=true then _ else _)=_;rw[P5z (Y3z h)]
theorem Xb{i j:Int}(h:0<j)(h':j<1073741824):binop .FloorDiv (.int i) (.int j)=some (.int (i / j)):=by
 show(if(decide (0<j)&&decide (j<1073741824))=true then _ else _)=_;rw[P5z (by rw[Y3z h,Y3z h'];rfl)]
mutual
theorem Az:∀d:D,dep d<1000->deq d d=true
 | .non,_=>rfl
 | .bl b,_=>by simp[deq]
 | .int i,_=>by simp[deq]
 | .str x,_=>by simp[deq]
 | .tup xs,h=>by simp only[deq];exact oU xs (by simp only[dep] at h;omega)
 | .lst xs,h=>by simp only[deq];exact oU xs (by simp only[dep] at h;omega)
 | .exc c,h=>absurd h (by simp[dep])
 | .dic _ _,h=>absurd h (by simp[dep])
 | .obj _,h=>absurd h (by simp[dep])
theorem oU:∀ds:List D,deps ds<1000->qO ds ds=true
 | [],_=>rfl
 | d::ds,h=>by
  simp only[deps] at h;simp only[qO,Az d (by omega),oU ds (by omega),J4z]
end
theorem oEq{x y:D}(h1:dep x<=50)(h2:dep y<=50)(hk:fO x y=true:=by rfl):cmpop .Eq x y=some (.bl (deq x y)):=by
 show(if(decide (dep x<=50)&&decide (dep y<=50)&&fO x y)=true then some (D.bl (deq x y)) else none)=_;rw[Y3z h1,Y3z h2,hk];rfl
theorem jm:∀{xs ys:List D},(∀x∈xs,∀y∈ys,fO x y=true)->o8 xs ys=true
 | [],_,_=>by simp[o8]
 | _::_,[],_=>by simp[o8]
 | x::xs,y::ys,h=>by
  rw[o8,h x (K1z ..) y (K1z ..),jm λa ha b hb=>h a (U0z _ ha) b (U0z _ hb)];rfl
theorem oNe{x y:D}(h1:dep x<=50)(h2:dep y<=50)(hk:fO x y=true:=by rfl):cmpop .NotEq x y=some (.bl (!deq x y)):=by
 show(if(decide (dep x<=50)&&decide (dep y<=50)&&fO x y)=true then some (D.bl (!deq x y)) else none)=_;rw[Y3z h1,Y3z h2,hk];rfl
theorem oX{b:Nat}:∀{l:List D},(∀d∈l,dep d<=b)->deps l<=b
 | [],_=>Z4z _
 | d::r,h=>by
  simp only[deps];exact Nat.max_le.mpr ⟨h d K1z,oX λe he=>h e (U0z _ he)⟩
theorem Lh{n:Nat}{f:Nat->Int}:dep (row n f)<=1:=by
 simp only[dep]
 have:=oX (b:=0) (l:=Ls n λj=>D.int (f j)) λd hd=>by
  unfold Ls at hd;obtain⟨i,_,rfl⟩:=List.mem_map.mp hd;simp[dep]
 omega
theorem tY{m n:Nat}{f:Nat->Nat->Int}:dep (tbl m n f)<=2:=by
 simp only[dep]
 have:=oX (b:=1) (l:=Ls m λi=>D.tup (Ls n λj=>D.int (f i j))) λd hd=>by
  unfold Ls at hd;obtain⟨i,_,rfl⟩:=List.mem_map.mp hd;exact Lh (f:=f i)
 omega
section
variable{cx:Cxt}{n:Nat}{sc scope:Scope}{U:Rho}{a b c e:Expr}{es:List Expr}{p q:Pos}{x y z d:D}{ds:List D}{nm:Str}
theorem Vy{tup:Bool}{j:Nat}(hw:v7 cx sc e=.r1 a)(h1:ev cx n sc U a=some (.int j))(hz:j<=100000):evI cx tup (ev cx n sc U) sc e=some (Ls j λk=>.int k):=by
 rw[wR1 hw h1 (V9 hz),qj]
theorem Q8{m:Nat}{h g:Nat->D}(hw:v7 cx sc e=.zp a b)(h1:ev cx n sc U a=some (.tup (Ls m h)))(h2:ev cx n sc U b=some (.tup (Ls m g))):evI cx true (ev cx n sc U) sc e=some (Ls m λi=>.tup [h i,g i]):=by
 rw[wZp hw h1 h2,QT,QV]
theorem Vx{tup:Bool}{m:Nat}{h:Nat->D}(hw:v7 cx sc e=.rv a)(h1:ev cx n sc U a=some (.tup (Ls m h))):evI cx tup (ev cx n sc U) sc e=some (Ls m λi=>h (m-1-i)):=by
 rw[wRv hw h1,rP]
theorem U3{tup:Bool}{xs:List D}(hw:v7 cx sc e=.sq)(h1:ev cx n sc U e=some (.tup xs)):evI cx tup (ev cx n sc U) sc e=some xs:=wSq hw h1 rfl
theorem Vt{m:Nat}{h:Nat->D}(hg:bZ cx sc nm=some "tuple")(hw:Cy cx sc "tuple" es=.tv a)(h1:ev cx n sc U a=some (.tup (Ls m h))):ev cx (n+1) sc U (.Call (.Name nm q) es [] p)=some (.tup (Ls m λi=>h (m-1-i))):=by
 rw[xTv hg hw h1,rP]
theorem Q7{m j:Nat}{h:Nat->D}(h1:ev cx n sc U a=some (.tup (Ls m h)))(h2:ev cx n sc U b=some (.int j))(hj:j<m)(hs:aH b=true)(hd:h j=d):ev cx (n+1) sc U (.Subscript a b p)=some d:=hd▸xIx h1 h2 rfl (HW hj) hs
theorem Vv{m:Nat}{h:Nat->D}(h1:ev cx n sc U a=some (.tup (Ls m h)))(h2:ev cx n sc U b=some (.int 0))(hj:0<m)(hs:aH b=true)(hd:h 0=d):ev cx (n+1) sc U (.Subscript a b p)=some d:=hd▸xIx h1 h2 rfl (HW (j:=0) hj) hs
end
section
variable{cx:Cxt}{n:Nat}{sc scope:Scope}{U:Rho}{a b c e:Expr}{es:List Expr}{p q:Pos}{x y z d:D}{ds:List D}{nm:Str}
end
theorem Wo{i j:Int}(h:¬ i<=j):cmpop .LtE (.int i) (.int j)=some (.bl false):=by
 show some (D.bl (decide (i<=j)))=_;rw[F3z h]
theorem Wr{i j:Int}:cmpop .LtE (.int i) (.int j)=some (.bl (decide (i<=j))):=rfl
section
variable{cx:Cxt}{n:Nat}{sc scope:Scope}{U:Rho}{a b c e:Expr}{es:List Expr}{p q:Pos}{x y z d:D}{ds:List D}{nm:Str}{F m:Nat}{r:List Stmt}{fl:Fl}{op op':CmpOp}
theorem RD(h1:ev cx n sc U a=some x)(h2:ev cx n sc U b=some y)(h:cmpop op x y=some (.bl false))(hp:aH c=true:=by rfl):ev cx (n+1) sc U (.Compare a [op,op'] [b,c] p)=some (.bl false):=by
 simp only[ev,hp,Bool.not_true,S1z,M5z,h1,h2,bind,B3z,h,asB]
end
section
variable{cx:Cxt}{n:Nat}{sc scope:Scope}{U:Rho}{a b c e:Expr}{es:List Expr}{p q:Pos}{x y z d:D}{ds:List D}{nm:Str}{F m:Nat}{r:List Stmt}{fl:Fl}
end
section
variable{cx:Cxt}{n:Nat}{sc scope:Scope}{U:Rho}{a b c e:Expr}{p q:Pos}
end
theorem LQ{us vs:List D}(h:us.length+vs.length<=100000):binop .Add (.tup us) (.tup vs)=some (.tup (us++vs)):=by
 show(if szl (us.length+vs.length)=true then _ else _)=_;rw[P5z (Cr h)]
theorem Us{l:List D}{t:D->Bool}:blt "all" [.lst (l.map λx=>.bl (t x))]=some (.bl (l.all t)):=by
 have key:∀l:List D,rN (l.map λx=>.bl (t x))=some (l.map t):=by
  intro l
  induction l with
  | nil=>rfl
  | cons a r ih=>simp only[E4z,rN,ih];rfl
 show(rN (l.map λx=>.bl (t x))).bind (λbs=>some (D.bl (bs.all id)))=_;rw[key,B3z,List.all_map];rfl
def nOw:Sl->Bool
 | .ow _=>false
 | .oo _=>false
 | _=>true
def jr(U:Rho):Bool:=U.all λp=>nOw p.2
theorem gj{F:Nat}{e:Expr}{U:Rho}(h:jr U=true):frz F e U=U:=by
 unfold frz
 conv=>rhs;rw[<- C5z U]
 apply H1z;intro p hp;have:=E3z.mp h p hp;obtain⟨x,s⟩:=p
 cases s<;>first | rfl | simp[nOw] at this
theorem Bo{U:Rho}{x:Str}(h:jr U=true):pG U x=true:=by
 unfold pG;rw[E3z];intro p hp;have:=E3z.mp h p hp;obtain⟨y,s⟩:=p
 cases s<;>first | (simp[nOw] at this;done) | simp[Rq]
section
variable{cx:Cxt}{sc:Scope}{U:Rho}{c e:Expr}{p:Pos}{d:D}{nm:Str}{F m:Nat}{r:List Stmt}{fl:Fl}
theorem W6{px:Pos}(hc:jr U=true)(ho:(ownIn sc nm&&(U.map (·.1)).contains nm)=true)(h:ev cx F sc U e=some d)(k:blk cx F (m+1) sc r (gQ U nm (nR e d))=some fl)(hoo:(ooE cx sc e&&DG U nm)=false:=by rfl)(hle:Mz cx sc e=false:=by rfl)(hrd:rdA e=false:=by rfl):blk cx F (m+1) sc (.Assign [.Name nm px] e p::r) U=some fl:=by
 refine jY ho (by rw[gj hc];exact h) ?_ (by rw[gj hc];exact hoo) (by rw[gj hc,Bo hc];simp) hle hrd
 rw[gj hc];exact k
theorem qx(h:bW e=false):ooE cx sc e=false:=by
 cases e<;>first | rfl | exact absurd h (by simp[bW])
theorem pY(h:bW e=false):nR e d=.sh d:=by
 unfold nR;split
 .rw[h];rfl
 .rfl
theorem Ub{px:Pos}{U':Rho}(hf:frz F e U=U')(ho:(ownIn sc nm&&(U.map (·.1)).contains nm)=true)(hfr:bW e=false)(h:ev cx F sc U' e=some d)(k:blk cx F (m+1) sc r (gQ U' nm (.sh d))=some fl)(hle:Mz cx sc e=false:=by rfl)(hrd:rdA e=false:=by rfl):blk cx F (m+1) sc (.Assign [.Name nm px] e p::r) U=some fl:=by
 refine jY ho (by rw[hf];exact h) ?_ (by rw[qx hfr];rfl) (by rw[hfr];rfl) hle hrd
 rw[hf,pY hfr];exact k
theorem Eu{y:Str}{s:Sl}{U:Rho}:frz F e ((y,s)::U)=(match s with | .ow ds=>if fY F y e then(y,.sh (.lst ds)) else(y,.ow ds) | .oo dss=>if fY F y e then(y,.sh (.lst (dss.map .lst))) else(y,.oo dss) | s=>(y,s))::frz F e U:=by
 cases s<;>rfl
theorem Ew{y:Str}{s:Sl}{U:Rho}(h:nOw s=true):frz F e ((y,s)::U)=(y,s)::frz F e U:=by
 cases s<;>first | rfl | simp[nOw] at h
theorem KH{y:Str}{ds:List D}{U:Rho}(h:fY F y e=true):frz F e ((y,.ow ds)::U)=(y,.sh (.lst ds))::frz F e U:=by
 show(if fY F y e=true then _ else _)::_=_;rw[P5z h];rfl
theorem mz{px:Pos}(hc:jr U=true)(ho:(ownIn sc nm&&(U.map (·.1)).contains nm)=true)(hfr:bW e=false)(h:ev cx F sc U e=some d)(k:blk cx F (m+1) sc r (gQ U nm (.sh d))=some fl)(hle:Mz cx sc e=false:=by rfl)(hrd:rdA e=false:=by rfl):blk cx F (m+1) sc (.Assign [.Name nm px] e p::r) U=some fl:=W6 hc ho h (by rw[pY hfr];exact k) (by rw[qx hfr];rfl) hle hrd
theorem W7{A B:List Stmt}{fl1:Fl}(hc:jr U=true)(h:ev cx F sc U c=some (.bl true))(k:blk cx F m sc A U=some fl1)(k2:rW cx F (m+1) sc r fl1=some fl):blk cx F (m+1) sc (.If c A B p::r) U=some fl:=j6 (by rw[gj hc];exact h) k k2
theorem W9{A B:List Stmt}{fl1:Fl}(hc:jr U=true)(h:ev cx F sc U c=some (.bl false))(k:blk cx F m sc B U=some fl1)(k2:rW cx F (m+1) sc r fl1=some fl):blk cx F (m+1) sc (.If c A B p::r) U=some fl:=tH (by rw[gj hc];exact h) k k2
theorem W8{A:List Stmt}(hc:jr U=true)(h:ev cx F sc U c=some (.bl false))(k:blk cx F (m+1) sc r U=some fl):blk cx F (m+1) sc (.If c A [] p::r) U=some fl:=W9 hc h gR k
end
theorem pK{cx:Cxt}{F m:Nat}{sc:Scope}{U:Rho}{e:Expr}{p:Pos}{r:List Stmt}{d:D}{cn:Str}(hx:pH e=true)(h:ev cx F sc (frz F e U) e=some d)(h2:um cx F (m+1) sc r (frz F e U) cn):um cx F (m+1) sc (.Expr e p::r) U cn:=by
 refine vI ?_ h2;unfold pH at hx;split at hx
 .simp only[st,h,M3z]
 .cases hx
theorem M7{cx:Cxt}{F m:Nat}{sc:Scope}{U:Rho}{e:Expr}{p:Pos}{r:List Stmt}{cn:Str}(hx:pH e=true)(h:evx cx F sc (frz F e U) e=some cn/\ev cx F sc (frz F e U) e=none):um cx F (m+1) sc (.Expr e p::r) U cn:=Rv hx h.2 h.1
theorem Pb{a b:Nat}:cmpop .NotEq (.int a) (.int b)=some (.bl (decide (a≠b))):=by
 rw[oNe (by simp[dep]) (by simp[dep])]
 by_cases h:a=b
 .subst h;simp[deq]
 .simp[deq,h];omega
theorem Rh{d:D}(h:dep d<=50)(hk:fO d d=true):cmpop .NotEq d d=some (.bl false):=by
 rw[oNe h h hk,Az d (by omega)];rfl
theorem qQ{α:Type}{f:D->Option (Option D)}{h g:α->D}:∀{l:List α},(∀x∈l,f (h x)=some (some (g x)))->bR f (l.map h)=some (l.map g)
 | [],_=>rfl
 | x::l,q=>by
  simp only[E4z,bR,q x K1z,bind,B3z,qQ (l:=l) λy hy=>q y (U0z _ hy),M3z]
def upd(f:Nat->Nat->Int)(a b:Nat)(v:Int):Nat->Nat->Int:=λi j=>if i=a then(if j=b then v else f i j) else f i j
theorem RG{cx:Cxt}{n:Nat}{sc:Scope}{U:Rho}{a:Expr}{es:List Expr}{nm c:Str}{q p:Pos}(hf:(isFn cx sc nm (a::es)&&(a::es).all aH)=true)(h:evx cx n sc U a=some c/\ev cx n sc U a=none):evx cx (n+1) sc U (.Call (.Name nm q) (a::es) [] p)=some c/\ev cx (n+1) sc U (.Call (.Name nm q) (a::es) [] p)=none:=by
 unfold isFn at hf;simp only[Y2z] at hf;obtain⟨⟨⟨⟨h2,h3⟩,h4⟩,h5⟩,h6⟩:=hf
 have h3':cx.blt.lookup nm=none:=by simpa using h3
 have hm:jX (ev cx n sc U) (a::es)=none:=by simp only[jX,h.2,bind,Option.bind_none]
 have h6':(a::es).all aH=true:=by simpa using h6
 constructor
 .simp only[evx,h2,h5,h6',h4,J4z,O5z,hm,wW,h.2,h.1]
 .simp only[ev,h2,h3',O5z,h4,h5,J4z,hm,bind,Option.bind_none]
theorem xG{cx:Cxt}{F m:Nat}{sc:Scope}{U:Rho}{e:Expr}{p:Pos}{r:List Stmt}{cn:Str}(h:evx cx F sc (frz F e U) e=some cn/\ev cx F sc (frz F e U) e=none):um cx F (m+1) sc (.Return (some e) p::r) U cn:=Rx h.2 h.1
theorem W5{cx:Cxt}{sc:Scope}{U U':Rho}{e:Expr}{p q:Pos}{d:D}{F m j:Nat}{r:List Stmt}{fl:Fl}{es:List Expr}{l:List D}(hc:jr U=true)(hs:(swp sc es e).isSome=true)(h:ev cx F sc U e=some d)(hl:tupI d=some l)(hb:bindNames sc es l U=some U')(k:blk cx F (m+1) sc r U'=some fl):blk cx F (m+1) sc (.Assign [.Tuple es j q] e p::r) U=some fl:=gTup hs (by rw[gj hc];exact h) hl (by rw[gj hc];exact hb) k
theorem Ww{p:Nat}:blt "max" [.int 0,.int ((p:Int)-1)]=some (.int ((p-1:Nat):Int)):=by
 show some (D.int (if(p:Int)-1>0 then(p:Int)-1 else 0))=_;congr 2
 split<;>omega
end DE
namespace L2
open PySem PySem.Spec PyProof.Rows
open DE (D)
structure Cst where
 tabs:List (Str×D)
 don:List D
 und:List D
def pF(l:List (Str×D))(n:Str)(d:D):List (Str×D):=if(l.any λp=>decide (p.1=n))=true then l.map (λp=>if p.1=n then(p.1,d) else p) else l++[(n,d)]
def cP(l:List (Str×D))(n:Str):List (Str×D):=l.filter λp=>decide (p.1≠n)
def bC(l:List (Str×D))(n:Str):Option D:=(l.find? λp=>decide (p.1=n)).map (·.2)
def KvR(K:Zf)(Hs:Hp):List (Str×D)->List (Key×V)->Prop
 | [],kvs=>kvs=[]
 | (n,d)::r,kvs=>∃v q,kvs=(Sum.inr n,v)::q/\Rep K Hs d v/\KvR K Hs r q
section
variable{K:Zf}{Hs Hs' H H':Hp}
theorem KvR.same(e:Same Hs Hs'):∀{l:List (Str×D)}{kvs:List (Key×V)},KvR K Hs l kvs->KvR K Hs' l kvs
 | [],_,h=>h
 | (n,d)::r,_,h=>by
  obtain⟨v,q,rfl,h1,h2⟩:=h;exact⟨v,q,rfl,h1.same e,KvR.same e h2⟩
theorem KvR.length:∀{l:List (Str×D)}{kvs:List (Key×V)},KvR K Hs l kvs->kvs.length=l.length
 | [],_,h=>by cases h;rfl
 | (n,d)::r,_,h=>by
  obtain⟨v,q,rfl,h1,h2⟩:=h;simp[h2.length]
theorem KvR.keys:∀{l:List (Str×D)}{kvs:List (Key×V)},KvR K Hs l kvs->kvs.map (·.1)=(l.map (·.1)).map Sum.inr
 | [],_,h=>by cases h;rfl
 | (n,d)::r,_,h=>by
  obtain⟨v,q,rfl,h1,h2⟩:=h;simp[h2.keys]
theorem KvR.append:∀{l:List (Str×D)}{kvs:List (Key×V)}{n:Str}{d:D}{v:V},KvR K Hs l kvs->Rep K Hs d v->KvR K Hs (l++[(n,d)]) (kvs++[(Sum.inr n,v)])
 | [],_,n,d,v,h,r=>by cases h;exact⟨v,[],rfl,r,rfl⟩
 | (m,e)::l,_,n,d,v,h,r=>by
  obtain⟨u,q,rfl,h1,h2⟩:=h;exact⟨u,_,rfl,h1,h2.append r⟩
theorem qG{m n:Str}:((Sum.inr m:Key)=Sum.inr n)↔m=n:=⟨λh=>by cases h;rfl,λh=>by rw[h]⟩
theorem KvR.any{n:Str}:∀{l:List (Str×D)}{kvs:List (Key×V)},KvR K Hs l kvs->(kvs.any λkv=>decide (kv.1=(Sum.inr n:Key)))=(l.any λp=>decide (p.1=n))
 | [],_,h=>by cases h;rfl
 | (m,e)::l,_,h=>by
  obtain⟨u,q,rfl,h1,h2⟩:=h;rw[I4z,I4z,h2.any];congr 1;exact decide_eq_decide.mpr qG
theorem KvR.repl{n:Str}{d:D}{v:V}(r:Rep K Hs d v):∀{l:List (Str×D)}{kvs:List (Key×V)},KvR K Hs l kvs->KvR K Hs (l.map (λp=>if p.1=n then(p.1,d) else p)) (kvs.map (λkv=>if kv.1=(Sum.inr n:Key) then(kv.1,v) else kv))
 | [],_,h=>by cases h;rfl
 | (m,e)::l,_,h=>by
  obtain⟨u,q,rfl,h1,h2⟩:=h;rw[E4z,E4z]
  by_cases hm:m=n
  .rw[P5z hm,P5z (qG.mpr hm)]
   exact⟨v,_,rfl,r,KvR.repl r h2⟩
  .rw[Q5z hm,Q5z (λz=>hm (qG.mp z))]
   exact⟨u,_,rfl,h1,KvR.repl r h2⟩
theorem KvR.put{l:List (Str×D)}{kvs:List (Key×V)}{n:Str}{d:D}{v:V}(h:KvR K Hs l kvs)(r:Rep K Hs d v):KvR K Hs (pF l n d) (putK kvs (Sum.inr n) v):=by
 unfold pF putK;rw[h.any];split
 .exact h.repl r
 .exact h.append r
theorem KvR.drop{n:Str}:∀{l:List (Str×D)}{kvs:List (Key×V)},KvR K Hs l kvs->KvR K Hs (cP l n) (tQ kvs (Sum.inr n))
 | [],_,h=>by cases h;rfl
 | (m,e)::l,_,h=>by
  obtain⟨u,q,rfl,h1,h2⟩:=h;have ih:=KvR.drop (n:=n) h2;unfold cP tQ at ih ⊢
  by_cases hm:m=n
  .rw[I0z (by simpa using hm),I0z (by simpa using hm)]
   exact ih
  .rw[J0z (by simpa using hm),J0z (by simpa using hm)]
   exact⟨u,_,rfl,h1,ih⟩
theorem KvR.get{n:Str}:∀{l:List (Str×D)}{kvs:List (Key×V)},KvR K Hs l kvs->(bC l n=none/\jB kvs (Sum.inr n)=none)\/∃d v,bC l n=some d/\jB kvs (Sum.inr n)=some v/\Rep K Hs d v
 | [],_,h=>by cases h;exact .inl ⟨rfl,rfl⟩
 | (m,e)::l,_,h=>by
  obtain⟨u,q,rfl,h1,h2⟩:=h
  by_cases hm:m=n
  .refine .inr ⟨e,u,?_,iJ (qG.mpr hm),h1⟩
   unfold bC;rw[List.find?_cons_of_pos (by simpa using hm)];rfl
  .rw[iK (λz=>hm (qG.mp z))]
   have:bC ((m,e)::l) n=bC l n:=by
    unfold bC;rw[List.find?_cons_of_neg (by simpa using hm)]
   rw[this];exact h2.get
end
abbrev nT:Str:="tables"
abbrev nD:Str:="done"
abbrev nU:Str:="undone"
theorem n1:¬ (nT=nD):=by decide +kernel
theorem n2:¬ (nT=nU):=by decide +kernel
theorem n3:¬ (nD=nU):=by decide +kernel
abbrev fl1(d:Addr):List (Str×V):=[(nT,.ref d)]
abbrev fl2(d dn:Addr):List (Str×V):=[(nT,.ref d),(nD,.ref dn)]
abbrev qK(d dn un:Addr):List (Str×V):=[(nT,.ref d),(nD,.ref dn),(nU,.ref un)]
theorem Wm(d dn:Addr):oh nD (.ref dn) (fl1 d)=fl2 d dn:=by
 show(if nT=nD then _ else _)=_;rw[Q5z n1];rfl
theorem put2(d dn un:Addr):oh nU (.ref un) (fl2 d dn)=qK d dn un:=by
 show(if nT=nU then _ else(nT,V.ref d)::(if nD=nU then _ else _))=_;rw[Q5z n2,Q5z n3];rfl
theorem put3(d dn un un':Addr):oh nU (.ref un') (qK d dn un)=qK d dn un':=by
 show(if nT=nU then _ else(nT,V.ref d)::(if nD=nU then _ else(nD,V.ref dn)::(if nU=nU then _ else _)))=_;rw[Q5z n2,Q5z n3,P5z rfl]
theorem sW(d dn un:Addr):(qK d dn un).lookup nT=some (.ref d):=by rfl
theorem Ek(d dn un:Addr):(qK d dn un).lookup nD=some (.ref dn):=by rfl
theorem Kg(d dn un:Addr):(qK d dn un).lookup nU=some (.ref un):=by rfl
structure CRep(K:Zf)(C:Addr)(Hs H:Hp)(p d dn un:Addr)(S:Cst):Prop where
 ob:∃dx,H p=some (.ins C dx (qK d dn un))
 dc:∃kvs,H d=some (.dK kvs)/\KvR K Hs S.tabs kvs
 dl:∃vs,H dn=some (.lst vs)/\aJ K Hs S.don vs
 ul:∃vs,H un=some (.lst vs)/\aJ K Hs S.und vs
 ne:dn≠un
 hp:Hs p=none
 hd:Hs d=none
 hn:Hs dn=none
 hu:Hs un=none
structure ExtM(p d dn un un':Addr)(Hs H Hs' H':Hp):Prop where
 vis:Same Hs Hs'
 all:∀b o,H b=some o->b≠p->b≠d->b≠dn->b≠un->H' b=some o
 sub:Same Hs' H'
 hid:∀b o,H b=some o->b≠p->b≠d->b≠dn->b≠un->Hs b=none->Hs' b=none
 nu:un'=un\/H un'=none
theorem bV{H H1:Hp}(E:Same H H1){b:Addr}(z:H1 b=none):H b=none:=by
 cases q:H b with
 | none=>rfl
 | some o=>rw[E _ _ q] at z;cases z
section
variable{K:Zf}{C:Addr}{Hs H Hs1 H1 Hs2 H2:Hp}{p d dn un un1 un2:Addr}{S:Cst}
theorem CRep.ext(S0:CRep K C Hs H p d dn un S)(E:Ext Hs H Hs1 H1):CRep K C Hs1 H1 p d dn un S:=by
 obtain⟨⟨dx,a1⟩,⟨kvs,b1,b2⟩,⟨vs,c1,c2⟩,⟨us,d1,d2⟩,e,f1,f2,f3,f4⟩:=S0;exact⟨⟨dx,E.all _ _ a1⟩,⟨kvs,E.all _ _ b1,b2.same E.vis⟩,⟨vs,E.all _ _ c1,aJ.same E.vis _ _ c2⟩,⟨us,E.all _ _ d1,aJ.same E.vis _ _ d2⟩,e,E.hid _ _ a1 f1,E.hid _ _ b1 f2,E.hid _ _ c1 f3,E.hid _ _ d1 f4⟩
theorem ExtM.of(E:Ext Hs H Hs1 H1):ExtM p d dn un un Hs H Hs1 H1:=⟨E.vis,λb o e _ _ _ _=>E.all b o e,E.sub,λb o e _ _ _ _=>E.hid b o e,.inl rfl⟩
theorem ExtM.trans(M:ExtM p d dn un un1 Hs H Hs1 H1)(N:ExtM p d dn un1 un2 Hs1 H1 Hs2 H2)(hu:un2=un1\/H un2=none\/un2=un):ExtM p d dn un un2 Hs H Hs2 H2:=by
 have nu:∀b o,H b=some o->b≠un->b≠un1:=λb o e h z=>by
  rcases M.nu with q | q
  .exact h (z.trans q)
  .rw[z,q] at e;cases e
 refine⟨M.vis.trans N.vis,λb o e a1 a2 a3 a4=>N.all b o (M.all b o e a1 a2 a3 a4) a1 a2 a3 (nu b o e a4),N.sub,λb o e a1 a2 a3 a4 n=>N.hid b o (M.all b o e a1 a2 a3 a4) a1 a2 a3 (nu b o e a4) (M.hid b o e a1 a2 a3 a4 n),?_⟩;rcases hu with h | h | h
 .rw[h];exact M.nu
 .exact .inr h
 .exact .inl h
theorem ExtM.pre(E:Ext Hs H Hs1 H1)(M:ExtM p d dn un un2 Hs1 H1 Hs2 H2):ExtM p d dn un un2 Hs H Hs2 H2:=by
 refine(ExtM.of E).trans M ?_;rcases M.nu with z | z
 .exact .inl z
 .exact .inr (.inl (bV E.all z))
theorem CRep.npd(S0:CRep K C Hs H p d dn un S):p≠d:=by obtain⟨⟨dx,a1⟩,⟨kvs,b1,b2⟩,_⟩:=S0;exact oG a1 b1 (by intro z;cases z)
theorem CRep.npn(S0:CRep K C Hs H p d dn un S):p≠dn:=by obtain⟨⟨dx,a1⟩,_,⟨vs,b1,b2⟩,_⟩:=S0;exact oG a1 b1 (by intro z;cases z)
theorem CRep.npu(S0:CRep K C Hs H p d dn un S):p≠un:=by obtain⟨⟨dx,a1⟩,_,_,⟨vs,b1,b2⟩,_⟩:=S0;exact oG a1 b1 (by intro z;cases z)
theorem CRep.ndn(S0:CRep K C Hs H p d dn un S):d≠dn:=by obtain⟨_,⟨dx,a1,_⟩,⟨vs,b1,b2⟩,_⟩:=S0;exact oG a1 b1 (by intro z;cases z)
theorem CRep.ndu(S0:CRep K C Hs H p d dn un S):d≠un:=by obtain⟨_,⟨dx,a1,_⟩,_,⟨vs,b1,b2⟩,_⟩:=S0;exact oG a1 b1 (by intro z;cases z)
theorem iD{a:Addr}{o:HO}(hs:Same Hs H)(ha:a=d\/a=dn\/a=un)(n:Hs a=none):ExtM p d dn un un Hs H Hs (upd H a o):=by
 refine⟨.refl _,λb u e a1 a2 a3 a4=>?_,λb u e=>?_,λ_ _ _ _ _ _ _ z=>z,.inl rfl⟩
 .rw[aj (by rcases ha with h | h | h<;>rw[h]<;>assumption)];exact e
 .rw[aj (λz=>by rw[z,n] at e;cases e)];exact hs b u e
theorem CRep.setD{t:List (Str×D)}{kvs:List (Key×V)}(S0:CRep K C Hs H p d dn un S)(r:KvR K Hs t kvs):CRep K C Hs (upd H d (.dK kvs)) p d dn un {S with tabs:=t}:=by
 have h1:=S0.npd;have h2:=S0.ndn;have h3:=S0.ndu
 obtain⟨⟨dx,a1⟩,⟨ks,b1,b2⟩,⟨vs,c1,c2⟩,⟨us,d1,d2⟩,e,f1,f2,f3,f4⟩:=S0;exact⟨⟨dx,by rw[aj h1];exact a1⟩,⟨kvs,aB,r⟩,⟨vs,by rw[aj h2.symm];exact c1,c2⟩,⟨us,by rw[aj h3.symm];exact d1,d2⟩,e,f1,f2,f3,f4⟩
theorem CRep.setN{l:List D}{vs:List V}(S0:CRep K C Hs H p d dn un S)(r:aJ K Hs l vs):CRep K C Hs (upd H dn (.lst vs)) p d dn un {S with don:=l}:=by
 have h1:=S0.npn;have h2:=S0.ndn
 obtain⟨⟨dx,a1⟩,⟨ks,b1,b2⟩,⟨vs,c1,c2⟩,⟨us,d1,d2⟩,e,f1,f2,f3,f4⟩:=S0;exact⟨⟨dx,by rw[aj h1];exact a1⟩,⟨ks,by rw[aj h2];exact b1,b2⟩,⟨_,aB,r⟩,⟨us,by rw[aj e.symm];exact d1,d2⟩,e,f1,f2,f3,f4⟩
theorem CRep.setU{l:List D}{vs:List V}(S0:CRep K C Hs H p d dn un S)(r:aJ K Hs l vs):CRep K C Hs (upd H un (.lst vs)) p d dn un {S with und:=l}:=by
 have h1:=S0.npu;have h2:=S0.ndu
 obtain⟨⟨dx,a1⟩,⟨ks,b1,b2⟩,⟨vs,c1,c2⟩,⟨us,d1,d2⟩,e,f1,f2,f3,f4⟩:=S0;exact⟨⟨dx,by rw[aj h1];exact a1⟩,⟨ks,by rw[aj h2];exact b1,b2⟩,⟨vs,by rw[aj e];exact c1,c2⟩,⟨_,aB,r⟩,e,f1,f2,f3,f4⟩
theorem CRep.newU{dx:Addr}(hs:Same Hs H)(S0:CRep K C Hs H p d dn un S)(hu:H un1=none):CRep K C Hs (upd (upd H un1 (.lst [])) p (.ins C dx (qK d dn un1))) p d dn un1 {S with und:=[]}/\ExtM p d dn un un1 Hs H Hs (upd (upd H un1 (.lst [])) p (.ins C dx (qK d dn un1))):=by
 have h1:=S0.npd;have h2:=S0.npn;have h3:=S0.npu
 obtain⟨⟨dx',a1⟩,⟨ks,b1,b2⟩,⟨vs,c1,c2⟩,⟨us,d1,d2⟩,e,f1,f2,f3,f4⟩:=S0;have k1:=ak a1 hu;have k2:=ak b1 hu;have k3:=ak c1 hu;refine⟨⟨⟨dx,aB⟩,⟨ks,by rw[aj h1.symm,aj k2];exact b1,b2⟩,⟨vs,by rw[aj h2.symm,aj k3];exact c1,c2⟩,⟨[],by rw[aj k1.symm,aB],.nil⟩,k3,f1,f2,f3,bV hs hu⟩,.refl _,λb u q a1 a2 a3 a4=>?_,λb u q=>?_,λ_ _ _ _ _ _ _ z=>z,.inr hu⟩
 .rw[aj a1,aj (ak q hu)];exact q
 .rw[aj (λz=>by rw[z,f1] at q;cases q),aj (ak (hs _ _ q) hu)];exact hs b u q
end
end L2
namespace M82
open PySem L2 DE
def top(i:Nat):Stmt:=PySem.Challenge.pw_minortables_k82_whole_cases_back.main.body.getD i (.Pass ⟨0,0,0,0⟩)
def aZ(t:Stmt):Fd:=⟨(bQ t).args.map (·.arg),(bQ t).args.map (·.arg)++(((ao t).names.filter λp=>(p.2==.local||p.2==.cell) && !((bQ t).args.map (·.arg)).contains p.1).map (·.1)),ao t,aM t⟩
noncomputable def cs:List (Str×D):=[("MOST_LINES",.int 4),("MOST_NUMBER",.int 99),("LETTERS",.str "abcdefghijklmnopqrstuvwxyz"),("MOST_LETTERS",.int 4)]
noncomputable def bl:List (Str×String):=[("len","len"),("all","all"),("sum","sum"),("tuple","tuple"),("list","list"),("dict","dict"),("min","min"),("max","max"),("int","int"),("bool","bool"),("str","str"),("isinstance","isinstance"),("range","range"),("zip","zip"),("reversed","reversed"),("sorted","sorted"),("ValueError","ValueError")]
structure Rw where
 (x:Str) (i:Nat) (f:Addr) (m:Value)
def m0:Value:=.str "minortables.checks" 342
def m1:Value:=.str "minortables.tables" 413
def m2:Value:=.str "minortables.joining" 484
def m3:Value:=.str "minortables.cases" 502
noncomputable def m4:Value:=.str "law_minortables_k82_whole_cases_back" 682
def r1:List Rw:=[⟨"is_whole",13,137,m0⟩,⟨"is_short_tuple",15,151,m0⟩,⟨"has_lines",16,156,m0⟩,⟨"numbers_of",17,163,m0⟩,⟨"has_table_form",18,168,m0⟩,⟨"need_table",19,175,m0⟩,⟨"is_small_row",24,194,m1⟩,⟨"is_table",25,199,m1⟩,⟨"columns_of",27,209,m1⟩,⟨"turned",28,216,m1⟩,⟨"flipped",29,221,m1⟩,⟨"is_name",41,265,m3⟩,⟨"need_name",42,272,m3⟩,⟨"_law_class",50,431,m4⟩,⟨"_law_told",51,438,m4⟩,⟨"_law_all_of",56,467,m4⟩,⟨"law",57,474,m4⟩]
def r2:List Rw:=[⟨"need_same_size",20,182,m0⟩,⟨"need_size",21,189,m0⟩,⟨"column_of",26,204,m1⟩,⟨"row_by_column",30,226,m1⟩,⟨"row_by_columns",31,231,m1⟩,⟨"times",32,236,m1⟩,⟨"row_plus",33,241,m1⟩,⟨"plus",34,246,m1⟩,⟨"set_below",36,253,m2⟩,⟨"set_beside",37,260,m2⟩,⟨"_law_cell",46,405,m4⟩,⟨"_law_times",49,424,m4⟩,⟨"_law_deed",52,445,m4⟩,⟨"_law_behind",54,455,m4⟩,⟨"_law_did",55,462,m4⟩]
def r3:List Rw:=[⟨"is_whole_within",14,144,m0⟩,⟨"joined",43,279,m3⟩,⟨"_law_pick",47,412,m4⟩,⟨"_law_made",53,450,m4⟩]
def r4:List Rw:=[⟨"_law_table",48,417,m4⟩]
def ro:List Rw:=r1++r2++r3++r4
def df:List (Str×Fd):=ro.map λr=>(r.x,aZ (top r.i))
noncomputable def xs:List Str:=["NoTable","NoFit","NoPlace","NoStep","NoSteps","NoText","NoName","NoBack"]
def T:Pg:=⟨cs,bl,df,xs,"MinorError"⟩
def BnO(nm:Str)(t:Stmt):Prop:=∀(kV doc pm:Value)(an:Option Addr)(cdv ct:Value)(us:List Value),us.length=(aZ t).ps.length->bindArgs (W.fnOf nm nm (bQ t) (aM t) (ao t) .none kV doc pm an cdv ct) ⟨us,[]⟩=pure ((aZ t).ps.zip us)
def fsB(fd:Fd):Bool:=decide (fd.sc.kind=.function) && !fd.sc.isCoroutine && !fd.sc.isGenerator&&decide fd.N.Nodup&&decide (fd.N.take fd.ps.length=fd.ps)&&fd.ps.all (λx=>decide (fd.sc.names.lookup x=some .local)||decide (fd.sc.names.lookup x=some .cell))&&fd.sc.names.all λy=>decide (y.2≠.free)
theorem KD{fd:Fd}(h:fsB fd=true):FnScope fd.N fd.ps fd.sc:=by
 unfold fsB at h;simp only[Y2z,J2z,I2z,E3z,R3z] at h;obtain⟨⟨⟨⟨⟨⟨h1,h2⟩,h3⟩,h4⟩,h5⟩,h6⟩,h7⟩:=h;exact⟨h1,h2,h3,h4,h5,h6,h7⟩
theorem Qj{K:Zf}{h:Heap}{mg:Str->Option Value}{x nm:Str}{t:Stmt}(X:K.In h)(G:h.Ns mainGlobals mg)(f:Addr)(dc pm cd:Value)(hb:BnO nm t)(a:W.nsIn K mainGlobals x=some (some (.ref f)))
  (l:K.lookup f=some ⟨.type "function",none,.func (W.fnOf nm nm (bQ t) (aM t) (ao t) .none .none dc pm none cd .none),#[]⟩) (c:(W.codeIn K cd nm&&W.keepIn K (.ref f)&&fsB (aZ t) && !(x==("__debug__":Str)))=true):FunAt K mg x (aZ t):=by
 simp only[Y2z,I2z] at c;obtain⟨⟨⟨c,k⟩,hs⟩,hd⟩:=c;exact⟨⟨nm,t,f,_,M4z X G a,fun_mk l c k,(fun_mk l c k).binds hb,rfl,rfl⟩,KD hs,hd⟩
theorem len1{us:List Value}(h:us.length=1):∃a,us=[a]:=List.length_eq_one_iff.mp h
theorem len2{us:List Value}(h:us.length=2):∃a b,us=[a,b]:=by cases us with | nil=>cases h | cons a r=>obtain⟨b,z⟩:=len1 (us:=r) (Nat.succ.inj h);exact⟨a,b,congrArg (List.cons a) z⟩
theorem Rk{us:List Value}(h:us.length=3):∃a b c,us=[a,b,c]:=by cases us with | nil=>cases h | cons a r=>obtain⟨b,c,z⟩:=len2 (us:=r) (Nat.succ.inj h);exact⟨a,b,c,congrArg (List.cons a) z⟩
theorem Tt{us:List Value}(h:us.length=4):∃a b c d,us=[a,b,c,d]:=by cases us with | nil=>cases h | cons a r=>obtain⟨b,c,d,z⟩:=Rk (us:=r) (Nat.succ.inj h);exact⟨a,b,c,d,congrArg (List.cons a) z⟩
theorem b55:BnO "_law_did" (top 55):=λ_ _ _ _ _ _ _ h=>by obtain⟨_,_,rfl⟩:=len2 h;rfl
theorem b57:BnO "law" (top 57):=λ_ _ _ _ _ _ _ h=>by obtain⟨_,rfl⟩:=len1 h;rfl
theorem in_of{α:Type}{Q:Str->α->Prop}:∀{l:List (Str×α)},(∀p∈l,Q p.1 p.2)->∀f fd,l.lookup f=some fd->Q f fd
 | (y,e)::r,hp,f,fd,h=>by
  rw[S2z] at h
  cases hb:f==y with
  | true =>
   rw[hb] at h
   have e1:f=y:=by simpa using hb
   cases h;subst e1;exact hp _ K1z
  | false =>
   rw[hb] at h;exact in_of (λp hm=>hp p (U0z _ hm)) f fd h
theorem aC{α:Type}{Q:α->Prop}{a:α}{l:List α}(h:Q a)(t:∀p∈l,Q p):∀p∈a::l,Q p:=List.forall_mem_cons.mpr ⟨h,t⟩
theorem aN{α:Type}{Q:α->Prop}:∀p∈([]:List α),Q p:=List.forall_mem_nil _
theorem cA{K:Zf}{h:Heap}{mg:Str->Option Value}{x:Str}{i:Int}(X:K.In h)(G:h.Ns mainGlobals mg)(tk:Tok)(e:W.nsIn K mainGlobals x=some (some (.int i tk))):∃v u,(∀H,Rep K H (D.int i) v)/\mg x=some u/\RelV v u:=⟨.int i,_,λ_=>by simp[Rep],M4z X G e,⟨_,rfl⟩⟩
theorem cS{K:Zf}{h:Heap}{mg:Str->Option Value}{x y:Str}(X:K.In h)(G:h.Ns mainGlobals mg)(tk:Tok)(e:W.nsIn K mainGlobals x=some (some (.str y tk))):∃v u,(∀H,Rep K H (D.str y) v)/\mg x=some u/\RelV v u:=⟨.str y,_,λ_=>by simp[Rep],M4z X G e,⟨_,rfl⟩⟩
theorem bA{K:Zf}{h:Heap}{mg:Str->Option Value}{x:Str}{b:String}(X:K.In h)(G:h.Ns mainGlobals mg)(e:W.nsIn K mainGlobals x=some none)(q:x=Str.ofString b):mg x=none/\x=Str.ofString b:=⟨W.mg_none_of X G e,q⟩
theorem bn1:∀r∈r1,BnO r.x (top r.i):=λr hr kV doc pm an cdv ct us h=>by
 obtain⟨a,rfl⟩:=len1 (h.trans (L2z (E3z.mp (show(r1.all λr=>decide ((aZ (top r.i)).ps.length=1))=true by rfl') r hr)));exact List.map_inj_left.mp (show(r1.map λr=>bindArgs (W.fnOf r.x r.x (bQ (top r.i)) (aM (top r.i)) (ao (top r.i)) .none kV doc pm an cdv ct) ⟨[a],[]⟩)=r1.map λr=>pure ((aZ (top r.i)).ps.zip [a]) by rfl') r hr
theorem bn2:∀r∈r2,BnO r.x (top r.i):=λr hr kV doc pm an cdv ct us h=>by
 obtain⟨a,b,rfl⟩:=len2 (h.trans (L2z (E3z.mp (show(r2.all λr=>decide ((aZ (top r.i)).ps.length=2))=true by rfl') r hr)));exact List.map_inj_left.mp (show(r2.map λr=>bindArgs (W.fnOf r.x r.x (bQ (top r.i)) (aM (top r.i)) (ao (top r.i)) .none kV doc pm an cdv ct) ⟨[a,b],[]⟩)=r2.map λr=>pure ((aZ (top r.i)).ps.zip [a,b]) by rfl') r hr
theorem bn3:∀r∈r3,BnO r.x (top r.i):=λr hr kV doc pm an cdv ct us h=>by
 obtain⟨a,b,c,rfl⟩:=Rk (h.trans (L2z (E3z.mp (show(r3.all λr=>decide ((aZ (top r.i)).ps.length=3))=true by rfl') r hr)));exact List.map_inj_left.mp (show(r3.map λr=>bindArgs (W.fnOf r.x r.x (bQ (top r.i)) (aM (top r.i)) (ao (top r.i)) .none kV doc pm an cdv ct) ⟨[a,b,c],[]⟩)=r3.map λr=>pure ((aZ (top r.i)).ps.zip [a,b,c]) by rfl') r hr
theorem bn4:∀r∈r4,BnO r.x (top r.i):=λr hr kV doc pm an cdv ct us h=>by
 obtain⟨a,b,c,d,rfl⟩:=Tt (h.trans (L2z (E3z.mp (show(r4.all λr=>decide ((aZ (top r.i)).ps.length=4))=true by rfl') r hr)));exact List.map_inj_left.mp (show(r4.map λr=>bindArgs (W.fnOf r.x r.x (bQ (top r.i)) (aM (top r.i)) (ao (top r.i)) .none kV doc pm an cdv ct) ⟨[a,b,c,d],[]⟩)=r4.map λr=>pure ((aZ (top r.i)).ps.zip [a,b,c,d]) by rfl') r hr
theorem bns:∀r∈ro,BnO r.x (top r.i):=λr h=>(List.mem_append.mp h).elim (λh=>(List.mem_append.mp h).elim (λh=>(List.mem_append.mp h).elim (λh=>bn1 r h) (bn2 r)) (bn3 r)) (bn4 r)
theorem KC{K:Zf}{h:Heap}{mg:Str->Option Value}(X:K.In h)(G:h.Ns mainGlobals mg)(e1:(ro.map λr=>W.nsIn K mainGlobals r.x)=ro.map λr=>some (some (.ref r.f)))
  (e2:(ro.map λr=>K.lookup r.f)=ro.map λr=>some ⟨.type "function",none,.func (W.fnOf r.x r.x (bQ (top r.i)) (aM (top r.i)) (ao (top r.i)) .none .none .none r.m none (.ref (r.f-1)) .none),#[]⟩)
  (e3:(ro.all λr=>W.codeIn K (.ref (r.f-1)) r.x&&W.keepIn K (.ref r.f)&&fsB (aZ (top r.i)) && !(r.x==("__debug__":Str)))=true):∀p∈df,FunAt K mg p.1 p.2:=λp hp=>by
 obtain⟨r,hr,rfl⟩:=List.mem_map.mp hp;exact Qj X G r.f .none r.m (.ref (r.f-1)) (bns r hr) (List.map_inj_left.mp e1 r hr) (List.map_inj_left.mp e2 r hr) (E3z.mp e3 r hr)
theorem Lw{K:Zf}{h:Heap}{mg:Str->Option Value}(X:K.In h)(G:h.Ns mainGlobals mg)(e1:(bl.map λp=>W.nsIn K mainGlobals p.1)=bl.map λ_=>some none):∀p∈bl,mg p.1=none/\p.1=Str.ofString p.2:=λp hp =>
 bA X G (List.map_inj_left.mp e1 p hp) (List.map_inj_left.mp (show(bl.map λp=>p.1)=bl.map λp=>Str.ofString p.2 by rfl') p hp)
end M82
local macro_rules | `(tactic| walk_at "xs") => `(tactic| first | exact DE.Xa | exact DE.bLenL | exact DE.Vr | rfl | assumption | omega)
local macro_rules | `(tactic| walk_at "xm") => `(tactic| first | exact DE.dj | (refine' DE.aG ?hA ?hB; (case hA=>walk_at "xv"); (case hB=>walk_at "xm")))
local macro_rules | `(tactic| walk_at "xi") => `(tactic| first
 | (refine' DE.U3 ?hA ?hB; (case hA=>rfl); (case hB=>walk_at "xv"))
 | (refine' DE.wSq ?hA ?hB ?hC; (case hA=>rfl); (case hB=>walk_at "xv"); (case hC=>rfl))
 | (refine' DE.Vy ?hA ?hB ?hC; (case hA=>rfl); (case hB=>walk_at "xv"); (case hC=>omega))
 | (refine' DE.Q8 ?hA ?hB ?hC; (case hA=>rfl); (case hB=>walk_at "xv"); (case hC=>walk_at "xv"))
 | (refine' DE.Vx ?hA ?hB; (case hA=>rfl); (case hB=>walk_at "xv"))
 | (refine' DE.wEnL ?hA ?hB; (case hA=>rfl); (case hB=>walk_at "xv")))
local macro_rules | `(tactic| walk_at "xl") => `(tactic| (refine' DE.ig ?hA ?hB ?hC (DE.bM ?hD); (case hA=>rfl); (case hB=>walk_at "xi"); (case hC=>(exact DE.iQ (by omega))); (case hD=>(intro i hi; refine' DE.ju ?hE ?hF; (case hE=>rfl); (case hF=>walk_at "xv")))))
local macro_rules | `(tactic| walk_at "xv") => `(tactic| first
 | exact DE.xName rfl
 | exact DE.cV rfl
 | (refine' DE.dG ?hA ?hB ?hC; (case hA=>walk_at "xv"); (case hB=>walk_at "xv"); (case hC=>walk_at "xs"))
 | (refine' DE.bx ?hA ?hB ?hC; (case hA=>walk_at "xv"); (case hB=>walk_at "xv"); (case hC=>walk_at "xs"))
 | (refine' DE.Vv ?hA ?hB ?hC ?hD ?hE; (case hA=>walk_at "xv"); (case hB=>walk_at "xv"); (case hC=>omega); (case hD=>rfl); (case hE=>rfl))
 | (refine' DE.Q7 ?hA ?hB ?hC ?hD ?hE; (case hA=>walk_at "xv"); (case hB=>walk_at "xv"); (case hC=>omega); (case hD=>rfl); (case hE=>rfl))
 | (refine' DE.xIxLl ?hA ?hB ?hC ?hD ?hE; (case hA=>walk_at "xv"); (case hB=>walk_at "xv"); (case hC=>omega); (case hD=>rfl); (case hE=>rfl))
 | (refine' DE.xIsi ?hA ?hB ?hC ?hD ?hE ?hF ?hG; (case hA=>rfl); (case hB=>rfl); (case hC=>rfl); (case hD=>walk_at "xv"); (case hE=>rfl); (case hF=>rfl); (case hG=>rfl))
 | (refine' DE.iu ?hA ?hB ?hC ?hD ?hE; (case hA=>rfl); (case hB=>rfl); (case hC=>rfl); (case hD=>walk_at "xm"); (case hE=>walk_at "xs"))
 | (refine' DE.bf ?hA ?hB ?hC; (case hA=>rfl); (case hB=>walk_at "xm"); (case hC=>walk_at "xc"))
 | (refine' DE.Vt ?hA ?hB ?hC; (case hA=>rfl); (case hB=>rfl); (case hC=>walk_at "xv"))
 | (refine' DE.mL ?hA ?hB; (case hA=>walk_at "xm"); (case hB=>rfl))
 | (refine' DE.Q6 ?hA ?hB; (case hA=>walk_at "xm"); (case hB=>rfl))
 | walk_at "xl"
 | (refine' DE.Vu ?hA; (case hA=>walk_at "xv"))
 | (refine' DE.Rz ?hA; (case hA=>walk_at "xv")))
local macro_rules|`(tactic|nofun)=>`(tactic|walk_at "xv")
namespace L2
open PySem PySem.Spec PyProof.Rows
open DE (D)
inductive MR where
 | val (d:D) (S:Cst)
 | exc (c:Str)
def Ge(K:Zf)(C p d dn un:Addr)(Hs H:Hp)(Q:VK)(E:XK):MR->Prop
 | .val r S=>∀v H' Hs' un',ExtM p d dn un un' Hs H Hs' H'->CRep K C Hs' H' p d dn un' S->Rep K Hs' r v->Q v H'
 | .exc c=>∀Cc H' Hs',W.nsIn K mainGlobals c=some (some (.ref Cc))->Ext Hs H Hs' H'->E (.ref Cc) none H'
def spM(K:Zf)(C:Addr)(n:Nat)(f:Cst->List D->Option MR):Sp:=λvs H Q E=>∃(p d dn un:Addr)(Hs:Hp)(S:Cst)(ds:List D)(us:List V)(o:MR),
 vs=.ref p::us/\ds.length=n/\Same Hs H/\CRep K C Hs H p d dn un S/\aJ K Hs ds us/\f S ds=some o/\Ge K C p d dn un Hs H Q E o
theorem iw{K:Zf}{C:Addr}{n:Nat}{f:Cst->List D->Option MR}{vs:List V}{H:Hp}{Q:VK}{E:XK}(h:spM K C n f vs H Q E):vs.length=n+1:=by
 obtain⟨p,d,dn,un,Hs,S,ds,us,o,rfl,e,_,_,r,_⟩:=h;rw[P2z,<- r.length,e]
def nW(S:Cst)(n:Str):D->Option Cst
 | .non=>if(bC S.tabs n).isSome then some {S with tabs:=cP S.tabs n} else none
 | .obj _=>none
 | t=>if decide (S.tabs.length<1000) then some {S with tabs:=pF S.tabs n t} else none
def cW(w n:Str)(old t:D):D:=.tup [.str w,.str n,old,t]
def doS(S:Cst)(w n:Str)(t:D):Option Cst:=if decide (S.don.length<1000) then nW {S with don:=S.don++[cW w n ((bC S.tabs n).getD .non) t],und:=[]} n t else none
structure CTxt(K:Zf)(mg:Str->Option Value)(C:Addr):Prop where
 cl:Cls K C
 nT:jx K C nT
 nD:jx K C nD
 nU:jx K C nU
 mgC:mg "Case"=some (.ref C)
def bY(P:Program)(w:World)(K:Zf)(mg:Str->Option Value)(C:Addr)(nm:Str)(ps:List Str)(k:Nat)(sp:Sp):Prop :=
 ∃f fd,Meth K C nm f/\Binds K fd ps []/\∀base:Heap,FnOk P w K mg base (CX1 P w) k f fd ps sp
def iG(P:Program)(w:World)(K:Zf)(mg:Str->Option Value)(nm:Str)(ps:List Str)(k:Nat)(sp:Sp):Prop :=
 ∃f fd,mg nm=some (.ref f)/\W.keepIn K (.ref f)=true/\Binds K fd ps []/\∀base:Heap,FnOk P w K mg base (CX1 P w) k f fd ps sp
theorem gK{P:Program}{w:World}{K:Zf}{mg:Str->Option Value}{T:DE.Pg}{F k:Nat}{f:Str}{fd:DE.Fd}(X:Text w K mg T)(h:T.defs.lookup f=some fd):iG P w K mg f fd.ps k (spX K (vR (DE.aW T F k)) (xR (DE.aW T F k)) f fd.ps):=by
 have FA:=X.fns f fd h;obtain⟨nm',t',a',g',m1,m2,m3,m4,m5⟩:=FA.ex;exact⟨a',g',m1,m2.kp,m3,λbase=>Cj X k nm' f fd t' a' g' h m2 m4 m5 FA.fs⟩
section
variable{P:Program}{w:World}{K:Zf}{mg:Str->Option Value}{base:Heap}{N:List Str}{qual:Str}{scope:Scope}{f:Addr}{cd:Value}{A:Around}{outer:List Env}{s:Shared}{H:Hp}{E:XK}
theorem jZ{x top:Str}{exs:List Str}{np cpos pos p1:Pos}{txt:Str}{j:Nat}(XT:XText K mg exs top)(hin:exs.contains x=true)(hh:(A.deeper (envOfC qual scope s.heap.objs.size f cd)).handled=none)(hg:Gl (eO (CX1 P w) P w K mg base N qual scope f cd A outer s H E) x)(hd:(x==("__debug__":Str))=false) :
  PS (eO (CX1 P w) P w K mg base N qual scope f cd A outer s H E) (.Raise (some (.Call (.Name x np) [.Constant (.str txt) j p1] [] cpos)) none pos) (λ_ _ H1=>∀C,W.nsIn K mainGlobals x=some (some (.ref C))->E (.ref C) none H1):=by
 intro z0 s1 Y H1 D I h;obtain⟨C,M,e1,_,e2,_⟩:=XT.cls x hin;exact uN I hh hg (XT.glob _ _ e1) hd e2 λs2 h' e args I2 hm=>mR I2 hm (h C e1)
end
end L2
namespace M82
open PySem PySem.Spec PyProof.Rows L2
open DE (D)
abbrev iU:Stmt:=top 44
abbrev yH:Stmt:=inClass iU 1
abbrev sDo:Stmt:=inClass iU 2
section
variable{P:Program}{w:World}{K:Zf}{mg:Str->Option Value}{base:Heap}{C:Addr}
def CW(K:Zf)(C:Addr):Sp:=λvs H Q _=>∃(p d dn un:Addr)(n:Str)(t:D)(v:V)(Hs:Hp)(S S':Cst),vs=[.ref p,.str n,v]/\Same Hs H/\CRep K C Hs H p d dn un S/\Rep K Hs t v/\nW S n t=some S' /\
 ∀H',ExtM p d dn un un Hs H Hs H'->CRep K C Hs H' p d dn un S'->Q .non H'
theorem scS:FnScope ["self","name","table"] ["self","name","table"] (ao yH):=⟨rfl,rfl,rfl,by decide +kernel,rfl,by decide +kernel,by decide +kernel⟩
theorem O5{f:Addr}{fd:FuncData}(F:Fun K "set_to" "Case.set_to" yH f fd)(T:CTxt K mg C):FnOk P w K mg base (CX1 P w) 1 f fd ["self","name","table"] (CW K C):=by
  refine F.okX scS (λvs H Q E h=>?_) (λcdv A outer s H vs Q E hr h=>?_)
  . obtain⟨p,d,dn,un,n,t,v,Hs,S,S',rfl,_⟩:=h
    rfl
  . obtain⟨p,d,dn,un,n,t,v,Hs,S,S',rfl,hs,S0,rt,h,k⟩:=h
    have hu:=Es hr
    obtain⟨dx,h1⟩:=S0.ob
    obtain⟨kvs,h2,h3⟩:=S0.dc
    refine⟨_,aY (lD (yR (Ou (pv 2))) (aY (cC (Ds (dZ (pv 0) rfl) (pv 1) ?m1))) (aY (Jx hu (dZ (pv 0) rfl) (pv 1) (pv 2) rfl))),?_⟩
    case m1=>exact⟨rfl,rfl,rfl,rfl⟩
    by_cases hn:t=.non
    . subst hn
      have ev:=n8 rt
      subst ev
      refine⟨_,rfl,true,rfl,oJ ?_⟩
      simp only[nW] at h
      split at h
      . rename_i hg
        cases h
        rcases h3.get (n:=n) with⟨z,_⟩ | ⟨d',v,_,e2,_⟩
        . rw[z] at hg;cases hg
        . exact⟨_,rfl,p,C,dx,_,_,rfl,h1,T.cl,T.nT,sW _ _ _,d,rfl,.inl ⟨_,.inl h2⟩,_,rfl,kvs,Sum.inr n,v,h2,rfl,e2,k _ (iD hs (.inl rfl) S0.hd) (S0.setD h3.drop)⟩
      . cases h
    . have hv:v≠.non:=λz=>hn (by
        have e:=u9 rt
        rw[z,Y3z rfl] at e
        cases t<;>first | rfl | simp[DE.Kr] at e)
      have h':S.tabs.length<1000/\S'={S with tabs:=pF S.tabs n t}:=by
        cases t<;>simp[nW] at h hn ⊢ <;> exact⟨h.1,h.2.symm⟩
      obtain⟨h4,rfl⟩:=h'
      refine⟨_,rfl,false,by rw[F3z hv],mH ?_⟩
      have hl : kvs.length < sizeLine := by have := h3.length; have : (1000 : Nat) <= sizeLine := by decide
                                            omega
      exact⟨_,rfl,_,rfl,p,C,dx,_,_,rfl,h1,T.cl,T.nT,sW _ _ _,_,rfl,d,_,rfl,QX.k (k:=Sum.inr n) h2 hl,k _ (iD hs (.inl rfl) S0.hd) (S0.setD (h3.put rt))⟩
def Iz(K:Zf)(C:Addr):Sp:=λvs H Q _=>∃(p d dn un:Addr)(wd n:Str)(t:D)(v:V)(Hs:Hp)(S S':Cst),vs=[.ref p,.str wd,.str n,v]/\Same Hs H/\CRep K C Hs H p d dn un S/\Rep K Hs t v/\doS S wd n t=some S' /\
 ∀H' Hs' un',ExtM p d dn un un' Hs H Hs' H'->CRep K C Hs' H' p d dn un' S'->Q .non H'
theorem scD:FnScope ["self","word","name","table"] ["self","word","name","table"] (ao sDo):=⟨rfl,rfl,rfl,by decide +kernel,rfl,by decide +kernel,by decide +kernel⟩
theorem Ti{f:Addr}{fd:FuncData}(F:Fun K "do" "Case.do" sDo f fd)(T:CTxt K mg C)(G:bY P w K mg C "set_to" ["self","name","table"] 1 (CW K C)):FnOk P w K mg base (CX1 P w) 2 f fd ["self","word","name","table"] (Iz K C):=by
 obtain⟨g,gd,mG,bG,GS⟩:=G;refine F.okX scD (λvs H Q E h=>?_) (λcdv A outer s H vs Q E hr h=>?_)
 .obtain⟨p,d,dn,un,wd,n,t,v,Hs,S,S',rfl,_⟩:=h
  rfl
 .obtain⟨p,d,dn,un,wd,n,t,v,Hs,S,S',rfl,hs,S0,rt,h,k⟩:=h
  have hu:=Es hr;obtain⟨dx,h1⟩:=S0.ob;obtain⟨kvs,h2,h3⟩:=S0.dc;obtain⟨ls,h4,h5⟩:=S0.dl
  refine⟨_,aL (cC (wF H0z D0z E0z jc (dZ (pv 0) rfl) (aA (qt (aA (pv 1) (aA (pv 2) (aA (Dv hu (dZ (pv 0) rfl) (pv 2) ?m1) (aA (pv 3) aO))))) aO)))
   (aL (uP (pv 0) (qw aO) rfl)
   (aY (cC (cU (pv 0) T.cl mG (GS _) hr bG .nil aP (aA (pv 2) (aA (pv 3) aO)))))),?_⟩
  case m1=>exact⟨rfl,rfl,rfl,rfl⟩
  unfold doS at h;split at h
  .rename_i hl
   have hl':S.don.length<1000:=L2z hl
   have lin:(1000:Nat)<=sizeLine:=by decide
   have hll:=h5.length;refine⟨_,rfl,p,C,dx,_,_,rfl,h1,T.cl,T.nD,Ek _ _ _,.inl ⟨rfl,_,SqL.of h4⟩,_,rfl,_,rfl,_,rfl,p,C,dx,_,_,rfl,h1,T.cl,T.nT,sW _ _ _,d,rfl,.inl ⟨_,.inl h2⟩,_,rfl,_,uy.k (k:=Sum.inr n) h2,_,rfl,(by show 4<=sizeLine;decide),λx hx=>?_⟩;have E1:Ext Hs H _ _:=Ext.new hs (.tup [.str wd,.str n,(jB kvs (Sum.inr n)).getD .non,v]) hx;have S1:=S0.ext E1
   have rold:Rep K Hs ((bC S.tabs n).getD .non) ((jB kvs (Sum.inr n)).getD .non):=by
    rcases h3.get (n:=n) with⟨z1,z2⟩ | ⟨d',v',z1,z2,z3⟩
    .rw[z1,z2];simp[Rep]
    .rw[z1,z2];exact z3
   have rst:Rep K (upd Hs x (.tup [.str wd,.str n,(jB kvs (Sum.inr n)).getD .non,v])) (cW wd n ((bC S.tabs n).getD .non) t) (.ref x):=by
    simp only[cW,Rep];exact⟨x,_,rfl,.inl (.inl aB),aJ.same E1.vis _ _ (.cons (by simp[Rep]) (.cons (by simp[Rep]) (.cons rold (.cons rt .nil))))⟩
   have l1:=E1.all _ _ h4;have S2:=S1.setN (aJ.append (aJ.same E1.vis _ _ h5) (.cons rst .nil));have M2:=(iD (p:=p) (d:=d) (dn:=dn) (un:=un) (o:=.lst (ls++[.ref x])) E1.sub (.inr (.inl rfl)) S1.hn).pre E1;refine⟨dn,_,_,rfl,rfl,l1,(by omega),?_⟩;refine⟨by decide,λun' hun=>?_⟩;obtain⟨dx2,p2⟩:=S2.ob;have npu:p≠un':=ak p2 hun;refine⟨_,rfl,p,C,dx2,_,rfl,(by rw[aj npu];exact p2),T.cl,T.nU,(by show 3<1000;decide),?_⟩;rw[put3];obtain⟨S3,M3⟩:=S2.newU (dx:=dx2) M2.sub hun
   have hun0:H un'=none:=by
    have hne:un'≠dn:=λz=>by rw[z,aB] at hun;cases hun
    rw[aj hne] at hun;exact bV E1.all hun
   have M4:=M2.trans M3 (.inr (.inl hun0));exact⟨_,rfl,p,dx2,_,rfl,aB,rfl,_,rfl,_,rfl,p,d,dn,un',n,t,v,_,_,S',rfl,M4.sub,S3,rt.same E1.vis,h,λH' M5 S5=>k H' _ un' (M4.trans M5 (.inl rfl)) S5⟩
  .cases h
end
end M82
namespace L2
open PySem PySem.Spec PyProof.Rows
open DE (D)
theorem FnOk.weak{P:Program}{w:World}{K:Zf}{mg:Str->Option Value}{base:Heap}{CX:CXT}{k:Nat}{f:Addr}{fd:FuncData}{ps:List Str}{sp sp':Sp}(F:FnOk P w K mg base CX k f fd ps sp)(h:∀vs H Q E,sp' vs H Q E->sp vs H Q E):FnOk P w K mg base CX k f fd ps sp' :=
 ⟨λvs H Q E q=>F.len vs H Q E (h _ _ _ _ q),λA outer s H args us vs Q E a b c d e=>F.run A outer s H args us vs Q E a b c d (h _ _ _ _ e)⟩
def Xf(K:Zf)(Hs H:Hp)(Q:VK)(E:XK):Sum D Str->Prop
 | .inl r=>∀v H' Hs',Ext Hs H Hs' H'->Rep K Hs' r v->Q v H'
 | .inr c=>∀Cc H' Hs',W.nsIn K mainGlobals c=some (some (.ref Cc))->Ext Hs H Hs' H'->E (.ref Cc) none H'
def spR(K:Zf)(C:Addr)(n:Nat)(f:Cst->List D->Option (Sum D Str)):Sp:=λvs H Q E=>∃(p d dn un:Addr)(Hs:Hp)(S:Cst)(ds:List D)(us:List V)(o:Sum D Str),
 vs=.ref p::us/\ds.length=n/\Same Hs H/\CRep K C Hs H p d dn un S/\aJ K Hs ds us/\f S ds=some o/\Xf K Hs H Q E o
theorem nO{K:Zf}{C:Addr}{n:Nat}{f:Cst->List D->Option (Sum D Str)}{vs:List V}{H:Hp}{Q:VK}{E:XK}(h:spR K C n f vs H Q E):vs.length=n+1:=by
 obtain⟨p,d,dn,un,Hs,S,ds,us,o,rfl,e,_,_,r,_⟩:=h;rw[P2z,<- r.length,e]
def toM(S:Cst):Sum D Str->MR
 | .inl d=>.val d S
 | .inr c=>.exc c
theorem NZ{K:Zf}{C:Addr}{n:Nat}{f:Cst->List D->Option (Sum D Str)}{vs:List V}{H:Hp}{Q:VK}{E:XK}(h:spM K C n (λS ds=>(f S ds).map (toM S)) vs H Q E):spR K C n f vs H Q E:=by
 obtain⟨p,d,dn,un,Hs,S,ds,us,o,rfl,e,hs,S0,r,ho,k⟩:=h;obtain⟨o',h1,rfl⟩:=O0z.mp ho;refine⟨p,d,dn,un,Hs,S,ds,us,o',rfl,e,hs,S0,r,h1,?_⟩
 cases o' with
 | inl r=>exact λv H' Hs' E1 r1=>k v H' Hs' un (.of E1) (S0.ext E1) r1
 | inr c=>exact k
section
variable(call:Str->List D->Option D)(callx:Str->List D->Option Str)
def ndN(x:D):Option (Sum Str Str):=match callx "need_name" [x] with
 | some c=>some (.inr c)
 | none=>match call "need_name" [x],x with
  | some _,.str s=>some (.inl s)
  | _,_=>none
def jz(S:Cst):List D->Option (Sum D Str)
 | [n]=>match ndN call callx n with
  | some (.inr c)=>some (.inr c)
  | some (.inl s)=>match bC S.tabs s with
   | some d=>some (.inl d)
   | none=>some (.inr "NoName")
  | none=>none
 | _=>none
def Ke(S:Cst):List D->Option MR
 | [n,t]=>match call "is_table" [t] with
  | some (.bl false)=>some (.exc "NoTable")
  | some (.bl true)=>match ndN call callx n with
   | some (.inr c)=>some (.exc c)
   | some (.inl s)=>(doS S "put" s t).map (.val (.bl (bC S.tabs s).isSome))
   | none=>none
  | _=>none
 | _=>none
def lK(S:Cst):List D->Option MR
 | [.str s]=>match jz call callx S [.str s] with
  | some (.inl d)=>(doS S "take" s .non).map (.val d)
  | some (.inr c)=>some (.exc c)
  | none=>none
 | [n]=>match jz call callx S [n] with
  | some (.inr c)=>some (.exc c)
  | _=>none
 | _=>none
def doF(fn wd:Str)(S:Cst)(s:Str)(d:D):Option MR:=match callx fn [d] with
 | some c=>some (.exc c)
 | none=>match call fn [d] with
  | some t=>(doS S wd s t).map (.val t)
  | none=>none
def fu(fn wd:Str)(S:Cst):List D->Option MR
 | [.str s]=>match jz call callx S [.str s] with
  | some (.inl d)=>doF call callx fn wd S s d
  | some (.inr c)=>some (.exc c)
  | none=>none
 | [n]=>match jz call callx S [n] with
  | some (.inr c)=>some (.exc c)
  | _=>none
 | _=>none
theorem J8{x:D}{c:Str}(h:ndN call callx x=some (.inr c)):callx "need_name" [x]=some c:=by
 unfold ndN at h;split at h
 .rename_i c' e;cases h;exact e
 .split at h
  .cases h
  .cases h
theorem DR{x:D}{s:Str}(h:ndN call callx x=some (.inl s)):x=.str s/\∃d,call "need_name" [x]=some d:=by
 unfold ndN at h;split at h
 .cases h
 .split at h
  .cases h;exact⟨rfl,_,by assumption⟩
  .cases h
end
end L2
namespace M82
open PySem PySem.Spec PyProof.Rows L2
open DE (D)
abbrev Sd:Stmt:=inClass iU 3
abbrev R9:Stmt:=inClass iU 4
abbrev Jd:Stmt:=inClass iU 5
section
variable{P:Program}{w:World}{K:Zf}{mg:Str->Option Value}{base:Heap}{C:Addr}{call:Str->List D->Option D}{callx:Str->List D->Option Str}{kk:Nat}{exs:List Str}{tp:Str}
theorem scT:FnScope ["self","name"] ["self","name"] (ao R9):=⟨rfl,rfl,rfl,by decide +kernel,rfl,by decide +kernel,by decide +kernel⟩
theorem O4{f:Addr}{fd:FuncData}(F:Fun K "table_of" "Case.table_of" R9 f fd)(T:CTxt K mg C)(XT:XText K mg exs tp)(hin:exs.contains "NoName"=true)(GN:iG P w K mg "need_name" ["thing"] kk (spX K call callx "need_name" ["thing"])) :
  FnOk P w K mg base (CX1 P w) (kk+1) f fd ["self","name"] (spR K C 1 (jz call callx)):=by
 obtain⟨fn,fdn,mgN,kN,bN,gN⟩:=GN;refine F.okX scT (λvs H Q E h=>nO h) (λcdv A outer s H vs Q E hr h=>?_);obtain⟨p,d,dn,un,Hs,S,ds,us,o,rfl,e,hs,S0,r,ho,k⟩:=h;obtain⟨x,rfl⟩:∃x,ds=[x]:=List.length_eq_one_iff.mp e
 obtain⟨v,rfl,rv⟩:∃v,us=[v]/\Rep K Hs x v:=by
  simp only[aJ] at r;obtain⟨v,q,rfl,r1,rfl⟩:=r;exact⟨v,rfl,r1⟩
 have hu:=Es hr
 refine⟨_,aL (cC (dR (gN _) hr rfl mgN kN bN .nil aP (aA (pv 1) aO)))
  (aL (lD (yR (zq hu (pv 1) (dZ (pv 0) rfl))) (aY (jZ XT hin hr.hd rfl (by decide +kernel))) fj)
  (aY (cN (JK hu (dZ (pv 0) rfl) (pv 1) (λ_ _=>rfl))))),?_⟩
 simp only[jz] at ho;refine⟨_,rfl,rfl,Hs,[x],hs,.cons rv .nil,?_⟩;split at ho
 .rename_i c hn
  cases ho;exact .inr ⟨c,J8 _ _ hn,k⟩
 .rename_i sn hn
  obtain⟨rfl,dd,hc⟩:=DR _ _ hn;refine .inl ⟨dd,hc,λv1 H1 Hs1 E1 _=>?_⟩;cases (show v=.str sn by simpa[Rep] using rv);have S1:=S0.ext E1;obtain⟨dx,h1⟩:=S1.ob;obtain⟨kvs,h2,h3⟩:=S1.dc;refine⟨_,rfl,_,rfl,p,C,dx,_,_,rfl,h1,T.cl,T.nT,sW _ _ _,d,_,rfl,uy.k (k:=Sum.inr sn) h2,?_⟩;rcases h3.get (n:=sn) with⟨z1,z2⟩ | ⟨d',v',z1,z2,z3⟩
  .rw[z1] at ho
   cases ho;rw[z2];exact⟨true,rfl,oJ λCc hC=>k Cc H1 Hs1 hC E1⟩
  .rw[z1] at ho
   cases ho;rw[z2];exact⟨false,rfl,mH ⟨_,rfl,p,C,dx,_,_,rfl,h1,T.cl,T.nT,sW _ _ _,_,rfl,d,v',rfl,z2▸uy.k (k:=Sum.inr sn) h2,k v' H1 Hs1 E1 z3⟩⟩
 .cases ho
end
abbrev Jc:Stmt:=inClass iU 7
abbrev Jg:Stmt:=inClass iU 8
theorem repL1{K:Zf}{Hs:Hp}{x:D}{us:List V}(r:aJ K Hs [x] us):∃v,us=[v]/\Rep K Hs x v:=by
 simp only[aJ] at r;obtain⟨v,q,rfl,r1,rfl⟩:=r;exact⟨v,rfl,r1⟩
theorem repL2{K:Zf}{Hs:Hp}{x y:D}{us:List V}(r:aJ K Hs [x,y] us):∃v u,us=[v,u]/\Rep K Hs x v/\Rep K Hs y u:=by
 simp only[aJ] at r;obtain⟨v,q,rfl,r1,u,q',rfl,r2,rfl⟩:=r;exact⟨v,u,rfl,r1,r2⟩
section
variable{P:Program}{w:World}{K:Zf}{mg:Str->Option Value}{base:Heap}{C:Addr}{call:Str->List D->Option D}{callx:Str->List D->Option Str}{kk:Nat}{exs:List Str}{tp:Str}
theorem scP:FnScope ["self","name","table","had"] ["self","name","table"] (ao Sd):=⟨rfl,rfl,rfl,by decide +kernel,rfl,by decide +kernel,by decide +kernel⟩
theorem O6{f:Addr}{fd:FuncData}(F:Fun K "put" "Case.put" Sd f fd)(T:CTxt K mg C)(XT:XText K mg exs tp)(hin:exs.contains "NoTable"=true)(hkk:2<=kk)(GN:iG P w K mg "need_name" ["thing"] kk (spX K call callx "need_name" ["thing"]))
  (GT:iG P w K mg "is_table" ["thing"] kk (spX K call callx "is_table" ["thing"])) (GO:bY P w K mg C "do" ["self","word","name","table"] 2 (Iz K C)):FnOk P w K mg base (CX1 P w) (kk+1) f fd ["self","name","table"] (spM K C 2 (Ke call callx)):=by
 obtain⟨fn,fdn,mgN,kN,bN,gN⟩:=GN;obtain⟨ft,fdt,mgT,kT,bT,gT⟩:=GT;obtain⟨fo,fdo,mO,bO,gO⟩:=GO;refine F.okX scP (λvs H Q E h=>iw h) (λcdv A outer s H vs Q E hr h=>?_);obtain⟨p,d,dn,un,Hs,S,ds,us,o,rfl,e,hs,S0,r,ho,k⟩:=h
 obtain⟨x,t,rfl⟩:∃x t,ds=[x,t]:=by
  obtain⟨x,q,rfl⟩:=List.exists_cons_of_length_eq_add_one e;obtain⟨t,rfl⟩:=List.length_eq_one_iff.mp (by simpa using e);exact⟨x,t,rfl⟩
 obtain⟨v,u,rfl,rv,ru⟩:=repL2 r;have hu:=Es hr;have hr2:Room 2 _:=hr.mono hkk
 refine⟨_,aL (lD (yQ (yP (dR (gT _) hr rfl mgT kT bT .nil aP (aA (pv 2) aO)))) (aY (jZ XT hin hr.hd rfl (by decide +kernel))) fj)
  (aL (cC (dR (gN _) hr rfl mgN kN bN .nil aP (aA (pv 1) aO)))
  (aL (iV (i:=3) scP.nd rfl (Or.inl rfl) (Oq (Ox hu (pv 1) (dZ (pv 0) rfl))))
  (aL (cC (cU (pv 0) T.cl mO (gO _) hr2 bO .nil aP (aA lF (aA (pv 1) (aA (pv 2) aO)))))
  (aY (cN (pv 3)))))),?_⟩
 simp only[Ke] at ho;refine⟨_,rfl,rfl,Hs,[t],hs,.cons ru .nil,?_⟩;split at ho
 .rename_i ht
  cases ho;refine .inl ⟨_,ht,λv1 H1 Hs1 E1 r1=>?_⟩;cases dH r1;exact⟨false,rfl,oJ λCc hC=>k Cc H1 Hs1 hC E1⟩
 .rename_i ht
  refine .inl ⟨_,ht,λv1 H1 Hs1 E1 r1=>?_⟩;cases dH r1;refine⟨true,rfl,mH ?_⟩;refine⟨_,rfl,rfl,Hs1,[x],E1.sub,.cons (rv.same E1.vis) .nil,?_⟩;split at ho
  .rename_i c hn
   cases ho;exact .inr ⟨c,J8 _ _ hn,λCc H2 Hs2 hC E2=>k Cc H2 Hs2 hC (E1.trans E2)⟩
  .rename_i sn hn
   obtain⟨rfl,dd,hc⟩:=DR _ _ hn;obtain⟨S',hd,rfl⟩:=O0z.mp ho;refine .inl ⟨dd,hc,λv2 H2 Hs2 E2 _=>?_⟩;cases (show v=.str sn by simpa[Rep] using rv);have E12:=E1.trans E2;have S1:=S0.ext E12;obtain⟨dx,h1⟩:=S1.ob;obtain⟨kvs,h2,h3⟩:=S1.dc;refine⟨_,rfl,_,rfl,p,C,dx,_,_,rfl,h1,T.cl,T.nT,sW _ _ _,d,_,rfl,uy.k (k:=Sum.inr sn) h2,?_⟩;refine⟨_,rfl,p,dx,_,rfl,h1,rfl,_,rfl,_,rfl,p,d,dn,un,"put",sn,t,u,Hs2,S,S',rfl,E12.sub,S1,ru.same E12.vis,hd,λH3 Hs3 un3 M3 S3=>?_⟩;refine⟨_,rfl,k _ H3 Hs3 un3 (M3.pre E12) S3 ?_⟩;rcases h3.get (n:=sn) with⟨z1,z2⟩ | ⟨d',v',z1,z2,z3⟩
   .rw[z1,z2];simp[Rep]
   .rw[z1,z2];simp[Rep]
  .cases ho
 .cases ho
theorem scK:FnScope ["self","name","table"] ["self","name"] (ao Jd):=⟨rfl,rfl,rfl,by decide +kernel,rfl,by decide +kernel,by decide +kernel⟩
theorem rZ{S:Cst}{x d:D}(h:jz call callx S [x]=some (.inl d)):∃s,x=.str s:=by
 simp only[jz] at h;split at h
 .cases h
 .rename_i s e;exact⟨s,(DR _ _ e).1⟩
 .cases h
theorem JZ{f:Addr}{fd:FuncData}(F:Fun K "take" "Case.take" Jd f fd)(T:CTxt K mg C)(hkk:1<=kk)(GT:bY P w K mg C "table_of" ["self","name"] (kk+1) (spR K C 1 (jz call callx)))(GO:bY P w K mg C "do" ["self","word","name","table"] 2 (Iz K C)) :
  FnOk P w K mg base (CX1 P w) (kk+2) f fd ["self","name"] (spM K C 1 (lK call callx)):=by
 obtain⟨ft,fdt,mT,bT,gT⟩:=GT;obtain⟨fo,fdo,mO,bO,gO⟩:=GO;refine F.okX scK (λvs H Q E h=>iw h) (λcdv A outer s H vs Q E hr h=>?_);obtain⟨p,d,dn,un,Hs,S,ds,us,o,rfl,e,hs,S0,r,ho,k⟩:=h;obtain⟨x,rfl⟩:∃x,ds=[x]:=List.length_eq_one_iff.mp e;obtain⟨v,rfl,rv⟩:=repL1 r;have hr2:Room 2 _:=hr.mono (by omega);obtain⟨dx,h1⟩:=S0.ob
 refine⟨_,aL (iV (i:=2) scK.nd rfl (Or.inl rfl) (cU (pv 0) T.cl mT (gT _) hr bT .nil aP (aA (pv 1) aO)))
  (aL (cC (cU (pv 0) T.cl mO (gO _) hr2 bO .nil aP (aA lF (aA (pv 1) (aA G4 aO)))))
  (aY (cN (pv 2)))),?_⟩
 refine⟨_,rfl,p,dx,_,rfl,h1,rfl,_,rfl,p,d,dn,un,Hs,S,[x],[v],?_⟩
 cases hm:jz call callx S [x] with
 | none=>cases x<;>simp[lK,hm] at ho
 | some o' =>
  refine⟨o',rfl,rfl,hs,S0,.cons rv .nil,rfl,?_⟩
  cases o' with
  | inr c =>
   have:o=.exc c:=by cases x<;>simp[lK,hm] at ho<;>exact ho.symm
   subst this;exact k
  | inl t =>
   obtain⟨sn,rfl⟩:=rZ hm;simp only[lK,hm] at ho;obtain⟨S',hd,rfl⟩:=O0z.mp ho;cases (show v=.str sn by simpa[Rep] using rv);intro v1 H1 Hs1 E1 r1;have S1:=S0.ext E1;obtain⟨dx1,h2⟩:=S1.ob;refine⟨_,rfl,p,dx1,_,rfl,h2,rfl,_,rfl,p,d,dn,un,"take",sn,.non,.non,Hs1,S,S',rfl,E1.sub,S1,by simp[Rep],hd,λH3 Hs3 un3 M3 S3=>?_⟩;exact⟨_,rfl,k _ H3 Hs3 un3 (M3.pre E1) S3 (r1.same M3.vis)⟩
theorem scU:FnScope ["self","name","table"] ["self","name"] (ao Jc):=⟨rfl,rfl,rfl,by decide +kernel,rfl,by decide +kernel,by decide +kernel⟩
theorem JX{f:Addr}{fd:FuncData}(F:Fun K "turn" "Case.turn" Jc f fd)(T:CTxt K mg C)(hkk:1<=kk)(GF:iG P w K mg "turned" ["table"] kk (spX K call callx "turned" ["table"]))(GT:bY P w K mg C "table_of" ["self","name"] (kk+1) (spR K C 1 (jz call callx)))(GO:bY P w K mg C "do" ["self","word","name","table"] 2 (Iz K C)) :
  FnOk P w K mg base (CX1 P w) (kk+2) f fd ["self","name"] (spM K C 1 (fu call callx "turned" "turn")):=by
 obtain⟨ff,fdf,mgF,kF,bF,gF⟩:=GF;obtain⟨ft,fdt,mT,bT,gT⟩:=GT;obtain⟨fo,fdo,mO,bO,gO⟩:=GO;refine F.okX scU (λvs H Q E h=>iw h) (λcdv A outer s H vs Q E hr h=>?_);obtain⟨p,d,dn,un,Hs,S,ds,us,o,rfl,e,hs,S0,r,ho,k⟩:=h;obtain⟨x,rfl⟩:∃x,ds=[x]:=List.length_eq_one_iff.mp e;obtain⟨v,rfl,rv⟩:=repL1 r;have hr2:Room 2 _:=hr.mono (by omega);have hr1:Room kk _:=hr.mono (by omega);obtain⟨dx,h1⟩:=S0.ob
 refine⟨_,aL (iV (i:=2) scU.nd rfl (Or.inl rfl) (dR (gF _) hr1 rfl mgF kF bF .nil aP (aA (cU (pv 0) T.cl mT (gT _) hr bT .nil aP (aA (pv 1) aO)) aO)))
  (aL (cC (cU (pv 0) T.cl mO (gO _) hr2 bO .nil aP (aA lF (aA (pv 1) (aA (pv 2) aO)))))
  (aY (cN (pv 2)))),?_⟩
 refine⟨_,rfl,p,dx,_,rfl,h1,rfl,_,rfl,p,d,dn,un,Hs,S,[x],[v],?_⟩
 cases hm:jz call callx S [x] with
 | none=>cases x<;>simp[fu,hm] at ho
 | some o' =>
  refine⟨o',rfl,rfl,hs,S0,.cons rv .nil,rfl,?_⟩
  cases o' with
  | inr c =>
   have:o=.exc c:=by cases x<;>simp[fu,hm] at ho<;>exact ho.symm
   subst this;exact k
  | inl t =>
   obtain⟨sn,rfl⟩:=rZ hm;simp only[fu,hm,doF] at ho;cases (show v=.str sn by simpa[Rep] using rv);intro v1 H1 Hs1 E1 r1;refine⟨rfl,Hs1,[t],E1.sub,.cons r1 .nil,?_⟩;split at ho
   .rename_i c hc
    cases ho;exact .inr ⟨c,hc,λCc H2 Hs2 hC E2=>k Cc H2 Hs2 hC (E1.trans E2)⟩
   .split at ho
    .rename_i t' ht
     obtain⟨S',hd,rfl⟩:=O0z.mp ho;refine .inl ⟨t',ht,λv2 H2 Hs2 E2 r2=>?_⟩;have E12:=E1.trans E2;have S1:=S0.ext E12;obtain⟨dx1,h2⟩:=S1.ob;refine⟨_,rfl,p,dx1,_,rfl,h2,rfl,_,rfl,_,rfl,p,d,dn,un,"turn",sn,t',v2,Hs2,S,S',rfl,E12.sub,S1,r2,hd,λH3 Hs3 un3 M3 S3=>?_⟩;exact⟨_,rfl,k _ H3 Hs3 un3 (M3.pre E12) S3 (r2.same M3.vis)⟩
    .cases ho
theorem scF:FnScope ["self","name","table"] ["self","name"] (ao Jg):=⟨rfl,rfl,rfl,by decide +kernel,rfl,by decide +kernel,by decide +kernel⟩
theorem J3{f:Addr}{fd:FuncData}(F:Fun K "flip" "Case.flip" Jg f fd)(T:CTxt K mg C)(hkk:1<=kk)(GF:iG P w K mg "flipped" ["table"] kk (spX K call callx "flipped" ["table"]))(GT:bY P w K mg C "table_of" ["self","name"] (kk+1) (spR K C 1 (jz call callx)))(GO:bY P w K mg C "do" ["self","word","name","table"] 2 (Iz K C)) :
  FnOk P w K mg base (CX1 P w) (kk+2) f fd ["self","name"] (spM K C 1 (fu call callx "flipped" "flip")):=by
 obtain⟨ff,fdf,mgF,kF,bF,gF⟩:=GF;obtain⟨ft,fdt,mT,bT,gT⟩:=GT;obtain⟨fo,fdo,mO,bO,gO⟩:=GO;refine F.okX scF (λvs H Q E h=>iw h) (λcdv A outer s H vs Q E hr h=>?_);obtain⟨p,d,dn,un,Hs,S,ds,us,o,rfl,e,hs,S0,r,ho,k⟩:=h;obtain⟨x,rfl⟩:∃x,ds=[x]:=List.length_eq_one_iff.mp e;obtain⟨v,rfl,rv⟩:=repL1 r;have hr2:Room 2 _:=hr.mono (by omega);have hr1:Room kk _:=hr.mono (by omega);obtain⟨dx,h1⟩:=S0.ob
 refine⟨_,aL (iV (i:=2) scF.nd rfl (Or.inl rfl) (dR (gF _) hr1 rfl mgF kF bF .nil aP (aA (cU (pv 0) T.cl mT (gT _) hr bT .nil aP (aA (pv 1) aO)) aO)))
  (aL (cC (cU (pv 0) T.cl mO (gO _) hr2 bO .nil aP (aA lF (aA (pv 1) (aA (pv 2) aO)))))
  (aY (cN (pv 2)))),?_⟩
 refine⟨_,rfl,p,dx,_,rfl,h1,rfl,_,rfl,p,d,dn,un,Hs,S,[x],[v],?_⟩
 cases hm:jz call callx S [x] with
 | none=>cases x<;>simp[fu,hm] at ho
 | some o' =>
  refine⟨o',rfl,rfl,hs,S0,.cons rv .nil,rfl,?_⟩
  cases o' with
  | inr c =>
   have:o=.exc c:=by cases x<;>simp[fu,hm] at ho<;>exact ho.symm
   subst this;exact k
  | inl t =>
   obtain⟨sn,rfl⟩:=rZ hm;simp only[fu,hm,doF] at ho;cases (show v=.str sn by simpa[Rep] using rv);intro v1 H1 Hs1 E1 r1;refine⟨rfl,Hs1,[t],E1.sub,.cons r1 .nil,?_⟩;split at ho
   .rename_i c hc
    cases ho;exact .inr ⟨c,hc,λCc H2 Hs2 hC E2=>k Cc H2 Hs2 hC (E1.trans E2)⟩
   .split at ho
    .rename_i t' ht
     obtain⟨S',hd,rfl⟩:=O0z.mp ho;refine .inl ⟨t',ht,λv2 H2 Hs2 E2 r2=>?_⟩;have E12:=E1.trans E2;have S1:=S0.ext E12;obtain⟨dx1,h2⟩:=S1.ob;refine⟨_,rfl,p,dx1,_,rfl,h2,rfl,_,rfl,_,rfl,p,d,dn,un,"flip",sn,t',v2,Hs2,S,S',rfl,E12.sub,S1,r2,hd,λH3 Hs3 un3 M3 S3=>?_⟩;exact⟨_,rfl,k _ H3 Hs3 un3 (M3.pre E12) S3 (r2.same M3.vis)⟩
    .cases ho
end
end M82
namespace L2
open PySem PySem.Spec PyProof.Rows
open DE (D)
section
variable(call:Str->List D->Option D)(callx:Str->List D->Option Str)
def jL(S:Cst)(n:D)(x y w:D):Option MR:=match callx "joined" [w,x,y] with
 | some c=>some (.exc c)
 | none=>match call "joined" [w,x,y] with
  | some t=>match call "is_table" [t] with
   | some (.bl false)=>some (.exc "NoFit")
   | some (.bl true)=>match n with
    | .str s=>(doS S "join" s t).map (.val t)
    | _=>none
   | _=>none
  | none=>none
def mF(S:Cst):List D->Option MR
 | [n,w,a,b]=>match ndN call callx n with
  | some (.inr c)=>some (.exc c)
  | some (.inl _)=>match jz call callx S [a] with
   | some (.inr c)=>some (.exc c)
   | some (.inl x)=>match jz call callx S [b] with
    | some (.inr c)=>some (.exc c)
    | some (.inl y)=>jL call callx S n x y w
    | none=>none
   | none=>none
  | none=>none
 | _=>none
end
def undo(l:List D):Option (List D×Str×Str×D×D):=match l.getLast? with
 | some (.tup [.str w,.str n,o,t])=>some (l.dropLast,w,n,o,t)
 | _=>none
def lM(S:Cst):List D->Option MR
 | []=>match S.don with
  | []=>some (.exc "NoBack")
  | _=>if decide (S.und.length<1000) then match undo S.don with
   | some (l,w,n,o,t)=>(nW {S with don:=l,und:=S.und++[cW w n o t]} n o).map (.val (.str w))
   | none=>none else none
 | _=>none
def fZ(S:Cst):List D->Option MR
 | []=>match S.und with
  | []=>some (.exc "NoBack")
  | _=>if decide (S.don.length<1000) then match undo S.und with
   | some (l,w,n,o,t)=>(nW {S with und:=l,don:=S.don++[cW w n o t]} n t).map (.val (.str w))
   | none=>none else none
 | _=>none
def iz(S:Cst):List D->Option (Sum D Str)
 | []=>some (.inl (.tup [.int S.don.length,.int S.und.length]))
 | _=>none
def jK(S:Cst):List D->Option (Sum D Str)
 | []=>if decide (S.tabs.length<64) then(DE.Gs (S.tabs.map (·.1))).map λl=>.inl (.lst (l.map .str)) else none
 | _=>none
theorem xM{K:Zf}{Hs:Hp}{l l':List D}{vs:List V}{w n:Str}{o t:D}(r:aJ K Hs l vs)(h:undo l=some (l',w,n,o,t)):∃v,vs[vs.length-1]?=some v/\Rep K Hs (cW w n o t) v/\aJ K Hs l' vs.dropLast:=by
 unfold undo at h;split at h
 .rename_i e
  cases h;rw[List.getLast?_eq_getElem?] at e;obtain⟨v,h1,h2⟩:=r.get e;refine⟨v,by rw[<- r.length];exact h1,h2,?_⟩;rw[List.dropLast_eq_take,List.dropLast_eq_take,<- r.length];exact r.take _
 .cases h
end L2
namespace M82
open PySem PySem.Spec PyProof.Rows L2
open DE (D)
abbrev Jf:Stmt:=inClass iU 0
abbrev Je:Stmt:=inClass iU 6
abbrev uK:Stmt:=inClass iU 9
abbrev sGo:Stmt:=inClass iU 10
abbrev Jh:Stmt:=inClass iU 11
abbrev yJ:Stmt:=inClass iU 12
abbrev n6:Stmt:=inClass iU 13
theorem Jq{K:Zf}{Hs:Hp}{x y z t:D}{us:List V}(r:aJ K Hs [x,y,z,t] us):∃v u q s,us=[v,u,q,s]/\Rep K Hs x v/\Rep K Hs y u/\Rep K Hs z q/\Rep K Hs t s:=by
 simp only[aJ] at r;obtain⟨v,_,rfl,r1,u,_,rfl,r2,q,_,rfl,r3,s,_,rfl,r4,rfl⟩:=r;exact⟨v,u,q,s,rfl,r1,r2,r3,r4⟩
section
variable{P:Program}{w:World}{K:Zf}{mg:Str->Option Value}{base:Heap}{C:Addr}{call:Str->List D->Option D}{callx:Str->List D->Option Str}{kk:Nat}{exs:List Str}{tp:Str}
theorem scJ:FnScope ["self","name","word","one","other","table"] ["self","name","word","one","other"] (ao Je):=⟨rfl,rfl,rfl,by decide +kernel,rfl,by decide +kernel,by decide +kernel⟩
theorem J1{f:Addr}{fd:FuncData}(F:Fun K "join" "Case.join" Je f fd)(T:CTxt K mg C)(XT:XText K mg exs tp)(hin:exs.contains "NoFit"=true)(hkk:1<=kk)(GN:iG P w K mg "need_name" ["thing"] kk (spX K call callx "need_name" ["thing"]))(GB:iG P w K mg "is_table" ["thing"] kk (spX K call callx "is_table" ["thing"]))
  (GF:iG P w K mg "joined" ["word","one","other"] kk (spX K call callx "joined" ["word","one","other"])) (GT:bY P w K mg C "table_of" ["self","name"] (kk+1) (spR K C 1 (jz call callx))) (GO:bY P w K mg C "do" ["self","word","name","table"] 2 (Iz K C)) :
  FnOk P w K mg base (CX1 P w) (kk+2) f fd ["self","name","word","one","other"] (spM K C 4 (mF call callx)):=by
 obtain⟨fn,fdn,mgN,kN,bN,gN⟩:=GN;obtain⟨fb,fdb,mgB,kB,bB,gB⟩:=GB;obtain⟨ff,fdf,mgF,kF,bF,gF⟩:=GF;obtain⟨ft,fdt,mT,bT,gT⟩:=GT;obtain⟨fo,fdo,mO,bO,gO⟩:=GO;refine F.okX scJ (λvs H Q E h=>iw h) (λcdv A outer s H vs Q E hr h=>?_);obtain⟨p,d,dn,un,Hs,S,ds,us,o,rfl,e,hs,S0,r,ho,k⟩:=h
 match ds,e with
 | [n,wd,a,b],_ =>
 obtain⟨vn,vw,va,vb,rfl,rn,rw',ra,rb⟩:=Jq r;have hr2:Room 2 _:=hr.mono (by omega);have hr1:Room kk _:=hr.mono (by omega)
 refine⟨_,aL (cC (dR (gN _) hr1 rfl mgN kN bN .nil aP (aA (pv 1) aO)))
  (aL (iV (i:=5) scJ.nd rfl (Or.inl rfl) (dR (gF _) hr1 rfl mgF kF bF .nil aP (aA (pv 2) (aA (cU (pv 0) T.cl mT (gT _) hr bT .nil aP (aA (pv 3) aO)) (aA (cU (pv 0) T.cl mT (gT _) hr bT .nil aP (aA (pv 4) aO)) aO)))))
  (aL (lD (yQ (yP (dR (gB _) hr1 rfl mgB kB bB .nil aP (aA (pv 5) aO)))) (aY (jZ XT hin hr.hd rfl (by decide +kernel))) fj)
  (aL (cC (cU (pv 0) T.cl mO (gO _) hr2 bO .nil aP (aA lF (aA (pv 1) (aA (pv 5) aO)))))
  (aY (cN (pv 5)))))),?_⟩
 simp only[mF] at ho;refine⟨_,rfl,rfl,Hs,[n],hs,.cons rn .nil,?_⟩;split at ho
 .rename_i c hn
  cases ho;exact .inr ⟨c,J8 _ _ hn,k⟩
 .rename_i sn hn
  obtain⟨rfl,dd,hc⟩:=DR _ _ hn;cases (show vn=.str sn by simpa[Rep] using rn);refine .inl ⟨dd,hc,λv1 H1 Hs1 E1 _=>?_⟩;have S1:=S0.ext E1;obtain⟨dx1,q1⟩:=S1.ob;refine⟨_,rfl,_,rfl,p,dx1,_,rfl,q1,rfl,_,rfl,p,d,dn,un,Hs1,S,[a],[va],?_⟩
  cases hm:jz call callx S [a] with
  | none=>rw[hm] at ho;cases ho
  | some o1 =>
   rw[hm] at ho;refine⟨o1,rfl,rfl,E1.sub,S1,.cons (ra.same E1.vis) .nil,rfl,?_⟩
   cases o1 with
   | inr c=>cases ho;exact λCc H2 Hs2 hC E2=>k Cc H2 Hs2 hC (E1.trans E2)
   | inl x =>
    intro v2 H2 Hs2 E2 r2;have E12:=E1.trans E2;have S2:=S0.ext E12;obtain⟨dx2,q2⟩:=S2.ob;refine⟨_,rfl,p,dx2,_,rfl,q2,rfl,_,rfl,p,d,dn,un,Hs2,S,[b],[vb],?_⟩
    cases hm2:jz call callx S [b] with
    | none=>simp only[hm2] at ho;cases ho
    | some o2 =>
     simp only[hm2] at ho;refine⟨o2,rfl,rfl,E2.sub,S2,.cons (rb.same E12.vis) .nil,rfl,?_⟩
     cases o2 with
     | inr c=>cases ho;exact λCc H2 Hs2 hC E2=>k Cc H2 Hs2 hC (E12.trans E2)
     | inl y =>
      intro v3 H3 Hs3 E3 r3;have E13:=E12.trans E3;simp only[jL] at ho;refine⟨rfl,Hs3,[wd,x,y],E3.sub,.cons (rw'.same E13.vis) (.cons (r2.same E3.vis) (.cons r3 .nil)),?_⟩;split at ho
      .rename_i c hc
       cases ho;exact .inr ⟨c,hc,λCc H2 Hs2 hC E2=>k Cc H2 Hs2 hC (E13.trans E2)⟩
      .split at ho
       .rename_i t ht
        refine .inl ⟨t,ht,λv4 H4 Hs4 E4 r4=>?_⟩;have E14:=E13.trans E4;refine⟨_,rfl,rfl,Hs4,[t],E4.sub,.cons r4 .nil,?_⟩;split at ho
        .rename_i hb
         cases ho;refine .inl ⟨_,hb,λv5 H5 Hs5 E5 r5=>?_⟩;cases dH r5;exact⟨false,rfl,oJ λCc hC=>k Cc H5 Hs5 hC (E14.trans E5)⟩
        .rename_i hb
         refine .inl ⟨_,hb,λv5 H5 Hs5 E5 r5=>?_⟩;cases dH r5;refine⟨true,rfl,mH ?_⟩;obtain⟨S',hd,rfl⟩:=O0z.mp ho;have E15:=E14.trans E5;have S5:=S0.ext E15;obtain⟨dx5,q5⟩:=S5.ob;refine⟨_,rfl,p,dx5,_,rfl,q5,rfl,_,rfl,_,rfl,p,d,dn,un,"join",sn,t,v4,Hs5,S,S',rfl,E15.sub,S5,r4.same E5.vis,hd,λH6 Hs6 un6 M6 S6=>?_⟩;exact⟨_,rfl,k _ H6 Hs6 un6 (M6.pre E15) S6 (r4.same (E5.vis.trans M6.vis))⟩
        .cases ho
       .cases ho
 .cases ho
end
def mGo(bk:Bool)(S:Cst):Option MR:=if bk then lM S [] else fZ S []
def Ra(K:Zf)(C:Addr):Sp:=λvs H Q E=>∃(p d dn un:Addr)(Hs:Hp)(S:Cst)(bk:Bool)(o:MR),vs=[.ref p,.ref (if bk=true then dn else un),.ref (if bk=true then un else dn),.int (if bk=true then 2 else 3)]/\Same Hs H/\CRep K C Hs H p d dn un S/\mGo bk S=some o/\Ge K C p d dn un Hs H Q E o
section
variable{P:Program}{w:World}{K:Zf}{mg:Str->Option Value}{base:Heap}{C:Addr}{kk:Nat}{exs:List Str}{tp:Str}
theorem scG:FnScope ["self","some","others","place","step"] ["self","some","others","place"] (ao sGo):=⟨rfl,rfl,rfl,by decide +kernel,rfl,by decide +kernel,by decide +kernel⟩
theorem Tg{f:Addr}{fd:FuncData}(F:Fun K "go" "Case.go" sGo f fd)(T:CTxt K mg C)(XT:XText K mg exs tp)(hin:exs.contains "NoBack"=true)(hlen:mg "len"=none)(G:bY P w K mg C "set_to" ["self","name","table"] 1 (CW K C)):FnOk P w K mg base (CX1 P w) 2 f fd ["self","some","others","place"] (Ra K C):=by
 obtain⟨g,gd,mG,bG,GS⟩:=G;refine F.okX scG (λvs H Q E h=>by obtain⟨p,d,dn,un,Hs,S,bk,o,rfl,_⟩:=h;rfl) (λcdv A outer s H vs Q E hr h=>?_);obtain⟨p,d,dn,un,Hs,S,bk,o,rfl,hs,S0,ho,k⟩:=h
 refine⟨_,aL (lD (yR (Ow (bU eF rfl hlen PySem.boot_len (aA (pv 1) aO)) mV)) (aY (jZ XT hin hr.hd rfl (by decide +kernel))) fj)
  (aL (iV (i:=4) scG.nd rfl (Or.inl rfl) (Ot H0z PySem.F.slot_list_pop PySem.F.type_list_pop Py (pv 1)))
  (aL (cC (wF H0z D0z E0z jc (pv 2) (aA (pv 4) aO)))
  (aL (cC (cU (pv 0) T.cl mG (GS _) hr bG .nil aP (aA (yZ u5 (pv 4) mV (λ_ _=>rfl)) (aA (yZ u5 (pv 4) (pv 3) (λ_ _=>rfl)) aO))))
  (aY (cN (yZ u5 (pv 4) mV (λ_ _=>rfl))))))),?_⟩
 cases bk with
 | true =>
  obtain⟨la,a1,a2⟩:=S0.dl;obtain⟨lb,b1,b2⟩:=S0.ul;have la':=a2.length;have lb':=b2.length
  replace ho:lM S []=some o:=ho
  simp only[lM] at ho;refine⟨_,rfl,dn,la,rfl,.inl (SqL.of a1),?_⟩;refine⟨_,_,rfl,rfl,?_⟩;split at ho
  .rename_i hnil
   cases ho
   have e0:((la.length:Nat):Int)=0:=by rw[<- la',hnil];rfl
   exact⟨true,congrArg V.bl (Y3z e0),oJ λCc hC=>k Cc H Hs hC (.refl hs)⟩
  .rename_i hne
   split at ho
   .rename_i hl
    split at ho
    .rename_i l wd n old t hun
     obtain⟨S',hd,rfl⟩:=O0z.mp ho;obtain⟨v,e1,rst,rl⟩:=xM a2 hun
     have lpos:0<la.length:=Nat.pos_of_ne_zero λz=>by rw[<- la'] at z;exact hne (List.length_eq_zero_iff.mp z)
     have e0:¬ ((la.length:Nat):Int)=0:=by omega
     refine⟨false,congrArg V.bl (F3z e0),mH ?_⟩;refine⟨_,rfl,.inl ⟨rfl,_,SqL.of a1⟩,dn,la,v,rfl,rfl,a1,e1,?_⟩;have S1:=S0.setN rl;have M1:=iD (p:=p) (d:=d) (dn:=dn) (un:=un) (o:=.lst la.dropLast) hs (.inr (.inl rfl)) S0.hn;obtain⟨lb2,c1,c2⟩:=S1.ul
     have ee:lb2=lb:=by
      rw[aj (S0.ne.symm)] at c1;rw[b1] at c1;cases c1;rfl
     subst ee;have lz:lb2.length<sizeLine:=I1z (by rw[<- lb'];exact L2z hl) (show(1000:Nat)<=sizeLine by decide);refine⟨_,rfl,.inl ⟨rfl,_,SqL.of c1⟩,_,rfl,un,lb2,v,rfl,rfl,c1,lz,?_⟩;have S2:=S1.setU (aJ.append c2 (.cons rst .nil));have M2:=M1.trans (iD (p:=p) (d:=d) (dn:=dn) (un:=un) (o:=.lst (lb2++[v])) M1.sub (.inr (.inr rfl)) S1.hu) (.inl rfl);obtain⟨dx2,q2⟩:=S2.ob;simp only[cW,Rep] at rst;obtain⟨x,ws,rfl,sq,rws⟩:=rst;obtain⟨w1,w2,w3,w4,rfl,g1,g2,g3,g4⟩:=Jq rws;have sq2:SqT K _ x [w1,w2,w3,w4]:=M2.sub.tup sq;cases (show w2=.str n by simpa[Rep] using g2);refine⟨_,rfl,p,dx2,_,rfl,q2,rfl,_,rfl,x,_,1,_,rfl,rfl,sq2,rfl,_,rfl,_,rfl,x,_,2,_,rfl,rfl,sq2,rfl,?_⟩;refine⟨p,d,dn,un,n,old,_,Hs,_,S',rfl,M2.sub,S2,g3,hd,λH3 M3 S3=>?_⟩;refine⟨_,rfl,x,_,0,_,rfl,rfl,M3.sub.tup sq,rfl,k _ H3 Hs un (M2.trans M3 (.inl rfl)) S3 g1⟩
    .cases ho
   .cases ho
 | false =>
  obtain⟨la,a1,a2⟩:=S0.ul;obtain⟨lb,b1,b2⟩:=S0.dl;have la':=a2.length;have lb':=b2.length
  replace ho:fZ S []=some o:=ho
  simp only[fZ] at ho;refine⟨_,rfl,un,la,rfl,.inl (SqL.of a1),?_⟩;refine⟨_,_,rfl,rfl,?_⟩;split at ho
  .rename_i hnil
   cases ho
   have e0:((la.length:Nat):Int)=0:=by rw[<- la',hnil];rfl
   exact⟨true,congrArg V.bl (Y3z e0),oJ λCc hC=>k Cc H Hs hC (.refl hs)⟩
  .rename_i hne
   split at ho
   .rename_i hl
    split at ho
    .rename_i l wd n old t hun
     obtain⟨S',hd,rfl⟩:=O0z.mp ho;obtain⟨v,e1,rst,rl⟩:=xM a2 hun
     have lpos:0<la.length:=Nat.pos_of_ne_zero λz=>by rw[<- la'] at z;exact hne (List.length_eq_zero_iff.mp z)
     have e0:¬ ((la.length:Nat):Int)=0:=by omega
     refine⟨false,congrArg V.bl (F3z e0),mH ?_⟩;refine⟨_,rfl,.inl ⟨rfl,_,SqL.of a1⟩,un,la,v,rfl,rfl,a1,e1,?_⟩;have S1:=S0.setU rl;have M1:=iD (p:=p) (d:=d) (dn:=dn) (un:=un) (o:=.lst la.dropLast) hs (.inr (.inr rfl)) S0.hu;obtain⟨lb2,c1,c2⟩:=S1.dl
     have ee:lb2=lb:=by
      rw[aj (S0.ne)] at c1;rw[b1] at c1;cases c1;rfl
     subst ee;have lz:lb2.length<sizeLine:=I1z (by rw[<- lb'];exact L2z hl) (show(1000:Nat)<=sizeLine by decide);refine⟨_,rfl,.inl ⟨rfl,_,SqL.of c1⟩,_,rfl,dn,lb2,v,rfl,rfl,c1,lz,?_⟩;have S2:=S1.setN (aJ.append c2 (.cons rst .nil));have M2:=M1.trans (iD (p:=p) (d:=d) (dn:=dn) (un:=un) (o:=.lst (lb2++[v])) M1.sub (.inr (.inl rfl)) S1.hn) (.inl rfl);obtain⟨dx2,q2⟩:=S2.ob;simp only[cW,Rep] at rst;obtain⟨x,ws,rfl,sq,rws⟩:=rst;obtain⟨w1,w2,w3,w4,rfl,g1,g2,g3,g4⟩:=Jq rws;have sq2:SqT K _ x [w1,w2,w3,w4]:=M2.sub.tup sq;cases (show w2=.str n by simpa[Rep] using g2);refine⟨_,rfl,p,dx2,_,rfl,q2,rfl,_,rfl,x,_,1,_,rfl,rfl,sq2,rfl,_,rfl,_,rfl,x,_,3,_,rfl,rfl,sq2,rfl,?_⟩;refine⟨p,d,dn,un,n,t,_,Hs,_,S',rfl,M2.sub,S2,g4,hd,λH3 M3 S3=>?_⟩;refine⟨_,rfl,x,_,0,_,rfl,rfl,M3.sub.tup sq,rfl,k _ H3 Hs un (M2.trans M3 (.inl rfl)) S3 g1⟩
    .cases ho
   .cases ho
end
section
variable{P:Program}{w:World}{K:Zf}{mg:Str->Option Value}{base:Heap}{C:Addr}{kk:Nat}{exs:List Str}{tp:Str}
theorem scB:FnScope ["self"] ["self"] (ao Jh):=⟨rfl,rfl,rfl,by decide +kernel,rfl,by decide +kernel,by decide +kernel⟩
theorem scO:FnScope ["self"] ["self"] (ao yJ):=⟨rfl,rfl,rfl,by decide +kernel,rfl,by decide +kernel,by decide +kernel⟩
theorem J4{f:Addr}{fd:FuncData}(F:Fun K "back" "Case.back" Jh f fd)(T:CTxt K mg C)(G:bY P w K mg C "go" ["self","some","others","place"] 2 (Ra K C)):FnOk P w K mg base (CX1 P w) 3 f fd ["self"] (spM K C 0 lM):=by
 obtain⟨g,gd,mG,bG,GS⟩:=G;refine F.okX scB (λvs H Q E h=>iw h) (λcdv A outer s H vs Q E hr h=>?_);obtain⟨p,d,dn,un,Hs,S,ds,us,o,rfl,e,hs,S0,r,ho,k⟩:=h;cases List.length_eq_zero_iff.mp e;cases (show us=[] by simpa[aJ] using r);obtain⟨dx,h1⟩:=S0.ob;refine⟨_,aY (cN (cU (pv 0) T.cl mG (GS _) hr bG .nil aP (aA (dZ (pv 0) rfl) (aA (dZ (pv 0) rfl) (aA mV aO))))),?_⟩;exact⟨_,rfl,p,dx,_,rfl,h1,rfl,_,rfl,p,C,dx,_,_,rfl,h1,T.cl,T.nD,Ek _ _ _,_,rfl,p,C,dx,_,_,rfl,h1,T.cl,T.nU,Kg _ _ _,p,d,dn,un,Hs,S,true,o,rfl,hs,S0,ho,k⟩
theorem DN{f:Addr}{fd:FuncData}(F:Fun K "forth" "Case.forth" yJ f fd)(T:CTxt K mg C)(G:bY P w K mg C "go" ["self","some","others","place"] 2 (Ra K C)):FnOk P w K mg base (CX1 P w) 3 f fd ["self"] (spM K C 0 fZ):=by
 obtain⟨g,gd,mG,bG,GS⟩:=G;refine F.okX scO (λvs H Q E h=>iw h) (λcdv A outer s H vs Q E hr h=>?_);obtain⟨p,d,dn,un,Hs,S,ds,us,o,rfl,e,hs,S0,r,ho,k⟩:=h;cases List.length_eq_zero_iff.mp e;cases (show us=[] by simpa[aJ] using r);obtain⟨dx,h1⟩:=S0.ob;refine⟨_,aY (cN (cU (pv 0) T.cl mG (GS _) hr bG .nil aP (aA (dZ (pv 0) rfl) (aA (dZ (pv 0) rfl) (aA mV aO))))),?_⟩;exact⟨_,rfl,p,dx,_,rfl,h1,rfl,_,rfl,p,C,dx,_,_,rfl,h1,T.cl,T.nU,Kg _ _ _,_,rfl,p,C,dx,_,_,rfl,h1,T.cl,T.nD,Ek _ _ _,p,d,dn,un,Hs,S,false,o,rfl,hs,S0,ho,k⟩
theorem scN:FnScope ["self"] ["self"] (ao uK):=⟨rfl,rfl,rfl,by decide +kernel,rfl,by decide +kernel,by decide +kernel⟩
theorem DK{f:Addr}{fd:FuncData}(F:Fun K "names" "Case.names" uK f fd)(T:CTxt K mg C)(hsrt:mg "sorted"=none):FnOk P w K mg base (CX1 P w) 1 f fd ["self"] (spR K C 0 jK):=by
 refine F.okX scN (λvs H Q E h=>nO h) (λcdv A outer s H vs Q E hr h=>?_);obtain⟨p,d,dn,un,Hs,S,ds,us,o,rfl,e,hs,S0,r,ho,k⟩:=h;cases List.length_eq_zero_iff.mp e;cases (show us=[] by simpa[aJ] using r);obtain⟨dx,h1⟩:=S0.ob;obtain⟨kvs,h2,h3⟩:=S0.dc;simp only[jK] at ho;split at ho
 .rename_i h4
  obtain⟨l,h5,h6⟩:=O0z.mp ho;cases h6;refine⟨_,aY (cN (bU (qW rfl) rfl hsrt (by decide +kernel) (aA (dZ (pv 0) rfl) aO))),?_⟩;refine⟨_,rfl,p,C,dx,_,_,rfl,h1,T.cl,T.nT,sW _ _ _,d,kvs,_,rfl,h2,h3.keys,?_,λa ss ha hp hss=>?_⟩
  .rw[I3z]
   exact L2z h4
  .cases DE.yC h5 hp hss
   have rl:aJ K Hs (l.map D.str) (l.map V.str):=by
    clear h5 hp hss k ho
    induction l with
    | nil=>exact .nil
    | cons a l ih=>exact .cons (by simp[Rep]) ih
   exact lJ (X:=eO (CX1 P w) P w K mg base ["self"] "Case.names" (ao uK) f cdv A outer s H E) hs rl ha λv H' Hs' E1 r1=>k v H' Hs' E1 r1
 .cases ho
theorem scC:FnScope ["self"] ["self"] (ao n6):=⟨rfl,rfl,rfl,by decide +kernel,rfl,by decide +kernel,by decide +kernel⟩
theorem zA{f:Addr}{fd:FuncData}(F:Fun K "counts" "Case.counts" n6 f fd)(T:CTxt K mg C)(hlen:mg "len"=none):FnOk P w K mg base (CX1 P w) 1 f fd ["self"] (spR K C 0 iz):=by
 refine F.okX scC (λvs H Q E h=>nO h) (λcdv A outer s H vs Q E hr h=>?_);obtain⟨p,d,dn,un,Hs,S,ds,us,o,rfl,e,hs,S0,r,ho,k⟩:=h;cases List.length_eq_zero_iff.mp e;cases (show us=[] by simpa[aJ] using r);obtain⟨dx,h1⟩:=S0.ob;obtain⟨ls,h2,h3⟩:=S0.dl;obtain⟨lu,h4,h5⟩:=S0.ul;simp only[iz] at ho;cases ho;refine⟨_,aY (cN (qt (aA (bU eF rfl hlen PySem.boot_len (aA (dZ (pv 0) rfl) aO)) (aA (bU eF rfl hlen PySem.boot_len (aA (dZ (pv 0) rfl) aO)) aO)))),?_⟩;refine⟨_,rfl,p,C,dx,_,_,rfl,h1,T.cl,T.nD,Ek _ _ _,dn,_,rfl,.inl (SqL.of h2),_,rfl,p,C,dx,_,_,rfl,h1,T.cl,T.nU,Kg _ _ _,un,_,rfl,.inl (SqL.of h4),(by show 2<=sizeLine;decide),λa ha=>?_⟩;exact fX (X:=eO (CX1 P w) P w K mg base ["self"] "Case.counts" (ao n6) f cdv A outer s H E) hs (.cons (by simp[Rep,h3.length]) (.cons (by simp[Rep,h5.length]) .nil)) ha λv H' Hs' E1 r1=>k v H' Hs' E1 r1
def Gu(K:Zf)(C:Addr):Sp:=λvs H Q _=>∃(p dx:Addr)(Hs:Hp),vs=[.ref p]/\H p=some (.ins C dx [])/\Same Hs H/\Hs p=none/\∀(d dn un:Addr)(H':Hp),CRep K C Hs H' p d dn un ⟨[],[],[]⟩->H d=none->H dn=none->H un=none->(∀b o,H b=some o->b≠p->H' b=some o)->Q .non H'
theorem scI:FnScope ["self"] ["self"] (ao Jf):=⟨rfl,rfl,rfl,by decide +kernel,rfl,by decide +kernel,by decide +kernel⟩
theorem J2{f:Addr}{fd:FuncData}(F:Fun K "__init__" "Case.__init__" Jf f fd)(T:CTxt K mg C):FnOk P w K mg base (CX1 P w) 1 f fd ["self"] (Gu K C):=by
 refine F.okX scI (λvs H Q E h=>?_) (λcdv A outer s H vs Q E hr h=>?_)
 .obtain⟨p,dx,Hs,rfl,_⟩:=h
  rfl
 .obtain⟨p,dx,Hs,rfl,hp,hs,hsp,k⟩:=h
  refine⟨_,aL (uP (pv 0) Dt rfl) (aL (uP (pv 0) (qw aO) rfl) (aY (uP (pv 0) (qw aO) rfl))),?_⟩;intro d hd;have npd:p≠d:=ak hp hd;refine⟨_,rfl,p,C,dx,[],rfl,(by rw[aj npd];exact hp),T.cl,T.nT,(by show 0<1000;decide),⟨by decide,λdn hdn=>?_⟩⟩
  have npn:p≠dn:=λz=>by subst z;rw[aB] at hdn;cases hdn
  have nnd:dn≠d:=λz=>by subst z;rw[aj npn.symm,aB] at hdn;cases hdn
  refine⟨_,rfl,p,C,dx,fl1 d,rfl,(by rw[aj npn,aB];rfl),T.cl,T.nD,(by show 1<1000;decide),⟨by decide,λun hun=>?_⟩⟩
  rw[Wm] at hun ⊢
  have npu:p≠un:=λz=>by subst z;rw[aB] at hun;cases hun
  have nun:un≠dn:=λz=>by subst z;rw[aj npu.symm,aB] at hun;cases hun
  have nud:un≠d:=λz=>by subst z;rw[aj npu.symm,aj nun,aj npu.symm,aB] at hun;cases hun
  refine⟨_,rfl,p,C,dx,fl2 d dn,rfl,(by rw[aj npu,aB]),T.cl,T.nU,(by show 2<1000;decide),?_⟩
  rw[put2]
  have hdn0:H dn=none:=by rw[aj npn.symm,aj nnd] at hdn;exact hdn
  have hun0:H un=none:=by rw[aj npu.symm,aj nun,aj npu.symm,aj nud] at hun;exact hun
  refine k d dn un _ ⟨⟨dx,aB⟩,⟨[],?_,rfl⟩,⟨[],?_,.nil⟩,⟨[],?_,.nil⟩,nun.symm,hsp,bV hs hd,bV hs hdn0,bV hs hun0⟩ hd hdn0 hun0 λb o e hb=>?_
  .rw[aj npd.symm,aj nud.symm,aj npd.symm,aj nnd.symm,aj npd.symm,aB]
  .rw[aj npn.symm,aj nun.symm,aj npn.symm,aB]
  .rw[aj npu.symm,aB]
  .rw[aj hb,aj (ak e hun0),aj hb,aj (ak e hdn0),aj hb,aj (ak e hd)];exact e
end
end M82
namespace L2
open PySem PySem.Spec PyProof.Rows
open DE hiding st
abbrev nF:=List (Str×Nat×(Cst->List D->Option MR))
theorem oK{T:Pg}{F k k':Nat}{X:Cx}{sc:Scope}(Tx:Text X.w X.K X.mg T)(hk:k<=k')(h1:X.calm=true)(h2:Room k' X.A)(h3:X.env.scope=sc)(h4:sc.kind=.function)(h5:X.N.Nodup):Good (T.cx (aW T F k)) k' X sc :=
  { calm:=h1, room:=h2, sce:=h3, kind:=h4, nd:=h5, cst:=Tx.cst, blt:=Tx.blt, exs:=Tx.exs, kw:=Tx.kw
    fns:=λf' hf'=>by
      obtain⟨fd',hl'⟩:=gJ (l:=T.defs) hf'
      have FA:=Tx.fns f' fd' hl'
      obtain⟨nm',t',a',g',m1,m2,m3,m4,m5⟩:=FA.ex
      exact⟨FA.nd,a',g',fd'.ps,λds d h=>gM hl' ds _ (iI h),λds c h=>gM hl' ds _ (jg h),m1,m2.kp,m3,(Cj Tx k nm' f' fd' t' a' g' hl' m2 m4 m5 FA.fs).mono hk⟩ }
def isNm:Expr->Bool
 | .Name _ _=>true
 | _=>false
structure CaseOk(P:Program)(w:World)(K:Zf)(mg:Str->Option Value)(k:Nat)(C:Addr)(ms:nF):Prop where
 cl:Cls K C
 met:∀m n f,ms.lookup m=some (n,f)->(qK 0 0 0).lookup m=none/\∃ps,bY P w K mg C m ps k (spM K C n f)
def Ed(cx:Cxt)(F:Nat)(sc:Scope)(U:Rho):Expr->Option (Addr×Str×List D)
 | .Call (.Attribute o m ap) args [] cp=>match ev cx F sc U o with
  | some (.obj a)=>if isNm o&&ap.endLine==cp.line&&decide (args.length<30) then(jX (ev cx F sc U) args).map λds=>(a,m,ds) else none
  | _=>none
 | _=>none
def Tq(ms:nF)(S:Cst):Addr×Str×List D->Option (Addr×MR):=λq=>match ms.lookup q.2.1 with
 | some (n,f)=>if q.2.2.length==n then(f S q.2.2).map λo=>(q.1,o) else none
 | none=>none
def Ri(cx:Cxt)(ms:nF)(F:Nat)(sc:Scope)(U:Rho)(S:Cst)(e:Expr):Option (Addr×MR):=(Ed cx F sc U e).bind (Tq ms S)
theorem Ge.pre{K:Zf}{C p d dn un:Addr}{Hs H Hs1 H1:Hp}{Q:VK}{E:XK}{o:MR}(h:Ge K C p d dn un Hs H Q E o)(E1:Ext Hs H Hs1 H1):Ge K C p d dn un Hs1 H1 Q E o:=by
 cases o with
 | val r S=>exact λv H' Hs' un' M S' r'=>h v H' Hs' un' (M.pre E1) S' r'
 | exc c=>exact λCc H' Hs' hC E2=>h Cc H' Hs' hC (E1.trans E2)
theorem PK(a b c:Addr){m:Str}(h:(qK 0 0 0).lookup m=none):(qK a b c).lookup m=none:=by
 simp only[qK,List.lookup] at h ⊢
 cases e1:m==nT<;>cases e2:m==nD<;>cases e3:m==nU<;>simp[e1,e2,e3] at h ⊢
theorem wX{l:List (Bool×Sem Value)}(h:l.any (·.1)=false):l.all (λq => !q.1)=true:=by
 rw[E3z];intro q hq;rw[List.any_eq_false] at h;simpa using h q hq
theorem Bu{x m:Str}{px ap cp:Pos}{args:List Expr}{env:Env}(hp:(backTo cp (starEach args env)).any (·.1)=false)(hl:args.length<30)(hline:(ap.endLine==cp.line)=true) :
  eval (.Call (.Attribute (.Name x px) m ap) args [] cp) env=(do
   let ov <- eval (.Name x px) env
   standAt ap.atName
   let (f,first) <- holding [ov] (getMethod ov m (do return (<- importBound (.Name x px) env).getD true))
   callWith cp f first (backTo cp (starEach args env)) (backToKw cp (keywordEach [] env))):=by
 have hf:methodCallForm (args.length+([]:List Keyword).length) (backTo cp (starEach args env)) (backToKw cp (keywordEach [] env))=true:=by
  unfold methodCallForm;rw[wX hp];show(true&&true&&decide (args.length<30))=true;rw[Y3z hl];rfl
 show(do
  let ov <- attributeBase (.Name x px) m env (eval (.Name x px) env)
  standAt ap.atName
  methodCall (.Name x px) m ap cp env ov (args.length+([]:List Keyword).length) (backTo cp (starEach args env)) (backToKw cp (keywordEach [] env)))=_
 unfold methodCall;rw[hf];unfold methodCallPos;rw[P5z (by rw[hline];rfl)];rfl
theorem j4{cx:Cxt}{k:Nat}{X:Cx}{sc:Scope}{U:Rho}{F kM:Nat}{p C d dn un:Addr}{S:Cst}{e:Expr}{m:Str}{ds:List D}{ps:List Str}{sp:Sp}{Y:St}{H Hs:Hp}{Q:VK}{E:XK}(G:Good cx k X sc)(hN:X.N=U.map (·.1))(cl:Cls X.K C)(nf:(qK 0 0 0).lookup m=none)(MO:bY X.prog X.w X.K X.mg C m ps kM sp)(hr:Room kM X.A)(hx:Passes (CX1 X.prog X.w) X E)
  (h:Ed cx F sc U e=some (p,m,ds)) (hs:Same Hs H) (hst:bJ X.K Hs U Y) (S0:CRep X.K C Hs H p d dn un S) (k:∀H1 Hs1 vs,Ext Hs H Hs1 H1->aJ X.K Hs1 ds vs->sp (.ref p::vs) H1 Q E):jy X e Y H Q/\aH e=true:=by
 unfold Ed at h;split at h
 .rename_i o m' ap args cp
  split at h
  .rename_i a ha
   split at h
   .rename_i hp
    rw[Y2z,Y2z] at hp;obtain⟨⟨hnm,hline⟩,hl30⟩:=hp;have hl30:args.length<30:=L2z hl30;obtain⟨ds',h1,h2⟩:=O0z.mp h;cases h2
    cases o with
    | Name x px =>
     have hn:=(dh cx F G hN ha).1;obtain⟨hA,hpl⟩:=dU (X:=X) (U:=U) (λe _ d he=>⟨(dh cx F G hN he).1,aU he⟩) h1;obtain⟨g,gd,mG,bG,GS⟩:=MO;refine⟨?_,rfl⟩
     cases args with
     | nil =>
      simp only[jX,K2z] at h1;subst h1;refine(Dp au cl mG (GS _) hr bG .nil hx (Bu rfl hl30 hline)).sem (hn Y H Hs _ hs hst λv H1 Hs1 E1 r1=>?_);cases (show v=.ref p by simpa[Rep] using r1);obtain⟨dx,h3⟩:=(S0.ext E1).ob;exact⟨p,dx,_,rfl,h3,PK _ _ _ nf,k H1 Hs1 [] E1 .nil⟩
     | cons e1 es =>
      refine(cU au cl mG (GS _) hr bG .nil hx cR (aq (hpl e1 (by simp))) (dJ λe' he=>hpl e' (U0z _ he)) (Bu (dJ hpl) hl30 hline)).sem (hn Y H Hs _ hs hst λv H1 Hs1 E1 r1=>?_);cases (show v=.ref p by simpa[Rep] using r1);obtain⟨dx,h3⟩:=(S0.ext E1).ob;refine⟨p,dx,_,rfl,h3,PK _ _ _ nf,hA Y H1 Hs1 _ E1.sub (hst.same E1.vis) λvs H2 Hs2 E2 r2=>?_⟩;rw[J3z];exact k H2 Hs2 vs (E1.trans E2) r2
    | _=>cases hnm
   .cases h
  .cases h
 .cases h
theorem wG{cx:Cxt}{F:Nat}{sc:Scope}{U:Rho}{e:Expr}{q:Addr×Str×List D}(h:Ed cx F sc U e=some q):aH e=true:=by
 unfold Ed at h;split at h
 .rfl
 .cases h
theorem Kd{P:Program}{w:World}{K:Zf}{mg:Str->Option Value}{kM:Nat}{C p p' d dn un:Addr}{ms:nF}{S:Cst}{m:Str}{ds:List D}{o:MR}{Hs H:Hp}{Q:VK}{E:XK}(CO:CaseOk P w K mg kM C ms)(h:Tq ms S (p',m,ds)=some (p,o))(hs:Same Hs H)(S0:CRep K C Hs H p d dn un S)(k:Ge K C p d dn un Hs H Q E o) :
  p'=p/\(qK 0 0 0).lookup m=none/\∃ps sp,bY P w K mg C m ps kM sp/\∀H1 Hs1 vs,Ext Hs H Hs1 H1->aJ K Hs1 ds vs->sp (.ref p::vs) H1 Q E:=by
 unfold Tq at h;split at h
 .rename_i n f hm
  split at h
  .rename_i hl
   obtain⟨o',h2,h5⟩:=O0z.mp h;cases h5;obtain⟨nf,ps,MO⟩:=CO.met m n f hm;exact⟨rfl,nf,ps,_,MO,λH1 Hs1 vs E1 r=>⟨_,d,dn,un,Hs1,S,ds,vs,_,rfl,by simpa using hl,E1.sub,S0.ext E1,r,h2,k.pre E1⟩⟩
  .cases h
 .cases h
theorem zL{cx:Cxt}{k:Nat}{X:Cx}{sc:Scope}{U:Rho}{ms:nF}{F kM:Nat}{p C d dn un:Addr}{S:Cst}{e:Expr}{o:MR}{Y:St}{H Hs:Hp}{Q:VK}{E:XK}(G:Good cx k X sc)(hN:X.N=U.map (·.1))(CO:CaseOk X.prog X.w X.K X.mg kM C ms)(hr:Room kM X.A)(hx:Passes (CX1 X.prog X.w) X E)
  (h:Ri cx ms F sc U S e=some (p,o)) (hs:Same Hs H) (hst:bJ X.K Hs U Y) (S0:CRep X.K C Hs H p d dn un S) (k:Ge X.K C p d dn un Hs H Q E o):jy X e Y H Q/\aH e=true:=by
 obtain⟨⟨p',m,ds⟩,h1,h2⟩:=Option.bind_eq_some_iff.mp h;obtain⟨rfl,nf,ps,sp,MO,q⟩:=Kd CO h2 hs S0 k;exact j4 G hN CO.cl nf MO hr hx h1 hs hst S0 q
def big(Hs H:Hp)(p d dn un:Addr):Hp:=λb=>match Hs b with
 | some o=>some o
 | none=>if b=p\/b=d\/b=dn\/b=un then H b else none
def mix(A B:Hp):Hp:=λb=>match A b with
 | some o=>some o
 | none=>B b
section
variable{Hs H:Hp}{p d dn un:Addr}
theorem uq:Same Hs (big Hs H p d dn un):=λb o e=>by unfold big;rw[e]
theorem BK(hs:Same Hs H):Same (big Hs H p d dn un) H:=λb o e=>by
 unfold big at e;split at e
 .rename_i q;cases e;exact hs _ _ q
 .split at e
  .exact e
  .cases e
theorem vK{b:Addr}{o:HO}(h:b=p\/b=d\/b=dn\/b=un)(n:Hs b=none)(e:H b=some o):big Hs H p d dn un b=some o:=by
 unfold big;rw[n];simp only;rw[P5z h];exact e
theorem BL{b:Addr}(h:¬ (b=p\/b=d\/b=dn\/b=un))(n:Hs b=none):big Hs H p d dn un b=none:=by
 unfold big;rw[n];simp only;rw[Q5z h]
theorem CRep.big{K:Zf}{C:Addr}{S:Cst}{H1:Hp}(S0:CRep K C Hs H p d dn un S)(sm:Same (big Hs H p d dn un) H1):CRep K C Hs H1 p d dn un S:=by
 obtain⟨⟨dx,a1⟩,⟨kvs,b1,b2⟩,⟨vs,c1,c2⟩,⟨us,d1,d2⟩,e,f1,f2,f3,f4⟩:=S0;exact⟨⟨dx,sm _ _ (vK (.inl rfl) f1 a1)⟩,⟨kvs,sm _ _ (vK (.inr (.inl rfl)) f2 b1),b2⟩,⟨vs,sm _ _ (vK (.inr (.inr (.inl rfl))) f3 c1),c2⟩,⟨us,sm _ _ (vK (.inr (.inr (.inr rfl))) f4 d1),d2⟩,e,f1,f2,f3,f4⟩
theorem Ka{Hb H1 Hs' H':Hp}(v:Same Hs Hb)(s:Same Hb H1)(E:Ext Hs H1 Hs' H'):Ext Hb H1 (mix Hs' Hb) H':=by
 have key:∀b,Hs b=none->∀o,Hb b=some o->Hs' b=none:=λb n o e=>E.hid b o (s _ _ e) n;refine⟨λb o e=>?_,E.all,λb o e=>?_,λb o e n=>?_⟩
 .unfold mix
  cases q:Hs b with
  | none=>rw[key b q o e];exact e
  | some o' =>
   have:=v _ _ q;rw[e] at this;cases this;rw[E.vis _ _ q]
 .unfold mix at e
  split at e
  .rename_i q;cases e;exact E.sub _ _ q
  .exact E.all _ _ (s _ _ e)
 .unfold mix
  rw[E.hid b o e (bV v n)];exact n
end
theorem CRep.noext{C p d dn un:Addr}{S:Cst}{K:Zf}{Hs H:Hp}{b:Addr}{φ:Heap->Prop}(S0:CRep K C Hs H p d dn un S)(h:H b=some (.ext φ)):¬ (b=p\/b=d\/b=dn\/b=un):=by
 obtain⟨⟨dx,a1⟩,⟨kvs,b1,b2⟩,⟨vs,c1,c2⟩,⟨us,d1,d2⟩,_⟩:=S0;rintro(rfl | rfl | rfl | rfl)
 .rw[a1] at h;cases h
 .rw[b1] at h;cases h
 .rw[c1] at h;cases h
 .rw[d1] at h;cases h
section
variable{K:Zf}{lm:Option (Addr×Str)}{Hs0 H0 Hs H Hs' H':Hp}{U:Rho}{Y:St}{C p d dn un un':Addr}{S S':Cst}
theorem CRep.oG(S0:CRep K C Hs H p d dn un S){b:Addr}(h:H b=none):b≠p/\b≠d/\b≠dn/\b≠un:=by
 obtain⟨⟨dx,a1⟩,⟨kvs,b1,b2⟩,⟨vs,c1,c2⟩,⟨us,d1,d2⟩,_⟩:=S0
 refine⟨?_,?_,?_,?_⟩<;>rintro rfl
 .rw[a1] at h;cases h
 .rw[b1] at h;cases h
 .rw[c1] at h;cases h
 .rw[d1] at h;cases h
theorem Hd.rebase{H0':Hp}(h:Hd K lm Hs0 H0 Hs H U Y)(vis:Same Hs Hs')(ext:Ext Hs' H0' Hs' H')(key:∀b vs,H b=some (.lst vs)->Hs b=none->H0 b=none->H' b=some (.lst vs)/\Hs' b=none/\H0' b=none)(lam:∀q,lm=some q->H0' q.1=none/\∃l,LamT H' q.1 q.2 l/\Hs' q.1=none/\∀r∈l,Hs' r.2=none):Hd K lm Hs' H0' Hs' H' U Y:=by
 refine⟨ext,h.len,h.sh.same vis,λi x ds e=>?_,h.dis,λi x dss e=>?_,lam⟩
 .obtain⟨a,vs,h1,h2,h3,h4,h5⟩:=h.ow i x ds e
  obtain⟨k1,k2,k3⟩:=key a _ h2 h4 h5;exact⟨a,vs,h1,k1,aJ.same vis ds vs h3,k2,k3⟩
 .exact h.oo i x dss e
end
section
variable{X:Cx}{e:Expr}{Y:St}{H:Hp}
theorem mQ{Q R:Bool->Hp->Prop}(h:nM X e Y H Q)(q:∀v H',Q v H'->R v H'):nM X e Y H R:=λz0 s I=>thn (h z0 s I) λv s1 ⟨H1,I1,q1⟩=>⟨H1,I1,q _ _ q1⟩
end
end L2
namespace M82
open PySem PySem.Spec PyProof.Rows L2
open DE (D)
def MF(K:Zf)(C:Addr)(m qual:Str)(st:Stmt):Prop:=∃f fd,Meth K C m f/\Fun K m qual st f fd
theorem jD{K:Zf}{C:Addr}{x qual:Str}{st:Stmt}(f:Addr)(pm cdv:Value)(y:W.findIn K (.ref C) x=some (some (.ref f)))(i:W.isFn K (.ref f)=true)(l:K.lookup f=some ⟨.type "function",none,.func (W.fnOf x qual (bQ st) (aM st) (ao st) .none .none .none pm none cdv .none),#[]⟩)
  (c:W.codeIn K cdv qual=true) (k:W.keepIn K (.ref f)=true):MF K C x qual st:=⟨f,_,⟨y,i,k⟩,fun_mk l c k⟩
def cl:Str->List D->Option D:=vR (DE.aW T 60 34)
def clx:Str->List D->Option Str:=xR (DE.aW T 60 34)
def ms:nF:=[("put",2,Ke cl clx),("take",1,lK cl clx),("table_of",1,λS ds=>(jz cl clx S ds).map (toM S)),("turn",1,fu cl clx "turned" "turn"),("flip",1,fu cl clx "flipped" "flip"),("join",4,mF cl clx),("names",0,λS ds=>(jK S ds).map (toM S)),("counts",0,λS ds=>(iz S ds).map (toM S)),("back",0,lM),("forth",0,fZ)]
structure CaseTxt(K:Zf)(mg:Str->Option Value)(C:Addr):Prop where
 t:CTxt K mg C
 set:MF K C "set_to" "Case.set_to" yH
 doo:MF K C "do" "Case.do" sDo
 put:MF K C "put" "Case.put" Sd
 tab:MF K C "table_of" "Case.table_of" R9
 take:MF K C "take" "Case.take" Jd
 join:MF K C "join" "Case.join" Je
 turn:MF K C "turn" "Case.turn" Jc
 flip:MF K C "flip" "Case.flip" Jg
 names:MF K C "names" "Case.names" uK
 go:MF K C "go" "Case.go" sGo
 back:MF K C "back" "Case.back" Jh
 forth:MF K C "forth" "Case.forth" yJ
 counts:MF K C "counts" "Case.counts" n6
section
variable{P:Program}{w:World}{K:Zf}{mg:Str->Option Value}{C:Addr}
theorem Wx{us:List Value}{n:Nat}(h:us.length=n)(hn:n=5:=by rfl):∃a b c d e,us=[a,b,c,d,e]:=by
 subst hn
 match us,h with
 | [a,b,c,d,e],_=>exact⟨a,b,c,d,e,rfl⟩
theorem Kc{ms:nF}{k:Nat}(h:∀p∈ms,(qK 0 0 0).lookup p.1=none/\∃ps,bY P w K mg C p.1 ps k (spM K C p.2.1 p.2.2)):∀m n f,ms.lookup m=some (n,f)->(qK 0 0 0).lookup m=none/\∃ps,bY P w K mg C m ps k (spM K C n f):=λm n f hl=>by
 induction ms with
 | nil=>cases hl
 | cons q r ih =>
  obtain⟨y,n',f'⟩:=q;rw[S2z] at hl;split at hl
  .rename_i e
   cases hl;have:=eq_of_beq e;subst this;exact h _ (K1z ..)
  .exact ih (λp hp=>h p (U0z _ hp)) hl
theorem jd{m:Str}{ps:List Str}{j k:Nat}{sp:Sp}(h:bY P w K mg C m ps j sp)(hk:j<=k):bY P w K mg C m ps k sp:=by
 obtain⟨f,fd,a,b,c⟩:=h;exact⟨f,fd,a,b,λbase=>(c base).mono hk⟩
theorem zM{m:Str}{ps:List Str}{k n:Nat}{f:Cst->List D->Option (Sum D Str)}(h:bY P w K mg C m ps k (spR K C n f)):bY P w K mg C m ps k (spM K C n λS ds=>(f S ds).map (toM S)):=by
 obtain⟨f,fd,a,b,c⟩:=h;exact⟨f,fd,a,b,λbase=>(c base).weak λvs H Q E q=>NZ q⟩
theorem Vi(TX:Text w K mg T)(Y:CaseTxt K mg C):bY P w K mg C "table_of" ["self","name"] 35 (spR K C 1 (jz cl clx)):=by
 have nn:iG P w K mg "need_name" ["thing"] 34 (spX K cl clx "need_name" ["thing"]):=gK (F:=60) TX (show T.defs.lookup ("need_name":Str)=some (aZ (top 42)) by rfl');obtain⟨fs,ds,ms1,Fs⟩:=Y.tab;exact⟨fs,ds,ms1,Fs.binds λ_ _ _ _ _ _ us hl=>by obtain⟨_,_,rfl⟩:=len2 hl;rfl,λbase=>O4 Fs Y.t TX.exs (by rfl') nn⟩
theorem Vj(TX:Text w K mg T)(Y:CaseTxt K mg C):bY P w K mg C "names" ["self"] 1 (spR K C 0 jK):=by
 obtain⟨fs,ds,ms1,Fs⟩:=Y.names;exact⟨fs,ds,ms1,Fs.binds λ_ _ _ _ _ _ us hl=>by obtain⟨_,rfl⟩:=len1 hl;rfl,λbase=>DK Fs Y.t (TX.blt "sorted" "sorted" (by rfl')).1⟩
theorem Vl(TX:Text w K mg T)(Y:CaseTxt K mg C):bY P w K mg C "counts" ["self"] 1 (spR K C 0 iz):=by
 obtain⟨fs,ds,ms1,Fs⟩:=Y.counts;exact⟨fs,ds,ms1,Fs.binds λ_ _ _ _ _ _ us hl=>by obtain⟨_,rfl⟩:=len1 hl;rfl,λbase=>zA Fs Y.t (TX.blt "len" "len" (by rfl')).1⟩
theorem HJ(TX:Text w K mg T)(Y:CaseTxt K mg C):CaseOk P w K mg 36 C ms:=by
 have nn:iG P w K mg "need_name" ["thing"] 34 (spX K cl clx "need_name" ["thing"]):=gK (F:=60) TX (show T.defs.lookup ("need_name":Str)=some (aZ (top 42)) by rfl');have it:iG P w K mg "is_table" ["thing"] 34 (spX K cl clx "is_table" ["thing"]):=gK (F:=60) TX (show T.defs.lookup ("is_table":Str)=some (aZ (top 25)) by rfl');have tu:iG P w K mg "turned" ["table"] 34 (spX K cl clx "turned" ["table"]):=gK (F:=60) TX (show T.defs.lookup ("turned":Str)=some (aZ (top 28)) by rfl');have fl:iG P w K mg "flipped" ["table"] 34 (spX K cl clx "flipped" ["table"]):=gK (F:=60) TX (show T.defs.lookup ("flipped":Str)=some (aZ (top 29)) by rfl');have jo:iG P w K mg "joined" ["word","one","other"] 34 (spX K cl clx "joined" ["word","one","other"]):=gK (F:=60) TX (show T.defs.lookup ("joined":Str)=some (aZ (top 43)) by rfl');obtain⟨fs,ds,ms1,Fs⟩:=Y.set;have GS:bY P w K mg C "set_to" ["self","name","table"] 1 (CW K C):=⟨fs,ds,ms1,Fs.binds λ_ _ _ _ _ _ us hl=>by obtain⟨_,_,_,rfl⟩:=Rk hl;rfl,λbase=>O5 Fs Y.t⟩;obtain⟨fs,ds,ms1,Fs⟩:=Y.doo;have GO:bY P w K mg C "do" ["self","word","name","table"] 2 (Iz K C):=⟨fs,ds,ms1,Fs.binds λ_ _ _ _ _ _ us hl=>by obtain⟨_,_,_,_,rfl⟩:=Tt hl;rfl,λbase=>Ti Fs Y.t GS⟩;have GT:=Vi (P:=P) TX Y;obtain⟨fs,ds,ms1,Fs⟩:=Y.put;have GP:bY P w K mg C "put" ["self","name","table"] 35 (spM K C 2 (Ke cl clx)):=⟨fs,ds,ms1,Fs.binds λ_ _ _ _ _ _ us hl=>by obtain⟨_,_,_,rfl⟩:=Rk hl;rfl,λbase=>O6 Fs Y.t TX.exs (by rfl') (by omega) nn it GO⟩;obtain⟨fs,ds,ms1,Fs⟩:=Y.take;have GK:bY P w K mg C "take" ["self","name"] 36 (spM K C 1 (lK cl clx)):=⟨fs,ds,ms1,Fs.binds λ_ _ _ _ _ _ us hl=>by obtain⟨_,_,rfl⟩:=len2 hl;rfl,λbase=>JZ Fs Y.t (by omega) GT GO⟩;obtain⟨fs,ds,ms1,Fs⟩:=Y.turn;have GU:bY P w K mg C "turn" ["self","name"] 36 (spM K C 1 (fu cl clx "turned" "turn")):=⟨fs,ds,ms1,Fs.binds λ_ _ _ _ _ _ us hl=>by obtain⟨_,_,rfl⟩:=len2 hl;rfl,λbase=>JX Fs Y.t (by omega) tu GT GO⟩;obtain⟨fs,ds,ms1,Fs⟩:=Y.flip;have GF:bY P w K mg C "flip" ["self","name"] 36 (spM K C 1 (fu cl clx "flipped" "flip")):=⟨fs,ds,ms1,Fs.binds λ_ _ _ _ _ _ us hl=>by obtain⟨_,_,rfl⟩:=len2 hl;rfl,λbase=>J3 Fs Y.t (by omega) fl GT GO⟩;obtain⟨fs,ds,ms1,Fs⟩:=Y.join;have GJ:bY P w K mg C "join" ["self","name","word","one","other"] 36 (spM K C 4 (mF cl clx)):=⟨fs,ds,ms1,Fs.binds λ_ _ _ _ _ _ us hl=>by obtain⟨_,_,_,_,_,rfl⟩:=Wx hl;rfl,λbase=>J1 Fs Y.t TX.exs (by rfl') (by omega) nn it jo GT GO⟩;obtain⟨fs,ds,ms1,Fs⟩:=Y.go;have GG:bY P w K mg C "go" ["self","some","others","place"] 2 (Ra K C):=⟨fs,ds,ms1,Fs.binds λ_ _ _ _ _ _ us hl=>by obtain⟨_,_,_,_,rfl⟩:=Tt hl;rfl,λbase=>Tg Fs Y.t TX.exs (by rfl') (TX.blt "len" "len" (by rfl')).1 GS⟩;obtain⟨fs,ds,ms1,Fs⟩:=Y.back;have GB:bY P w K mg C "back" ["self"] 3 (spM K C 0 lM):=⟨fs,ds,ms1,Fs.binds λ_ _ _ _ _ _ us hl=>by obtain⟨_,rfl⟩:=len1 hl;rfl,λbase=>J4 Fs Y.t GG⟩;obtain⟨fs,ds,ms1,Fs⟩:=Y.forth;have GH:bY P w K mg C "forth" ["self"] 3 (spM K C 0 fZ):=⟨fs,ds,ms1,Fs.binds λ_ _ _ _ _ _ us hl=>by obtain⟨_,rfl⟩:=len1 hl;rfl,λbase=>DN Fs Y.t GG⟩;have GN:=Vj (P:=P) TX Y;have GC:=Vl (P:=P) TX Y;refine⟨Y.t.cl,Kc λp hp=>?_⟩;simp only[ms,L4z,A3z,or_false] at hp;rcases hp with rfl | rfl | rfl | rfl | rfl | rfl | rfl | rfl | rfl | rfl
 .exact⟨by rfl',_,jd GP (by omega)⟩
 .exact⟨by rfl',_,GK⟩
 .exact⟨by rfl',_,jd (zM GT) (by omega)⟩
 .exact⟨by rfl',_,GU⟩
 .exact⟨by rfl',_,GF⟩
 .exact⟨by rfl',_,GJ⟩
 .exact⟨by rfl',_,jd (zM GN) (by omega)⟩
 .exact⟨by rfl',_,jd (zM GC) (by omega)⟩
 .exact⟨by rfl',_,jd GB (by omega)⟩
 .exact⟨by rfl',_,jd GH (by omega)⟩
end
end M82
namespace L2
open PySem PySem.Spec PyProof.Rows
open DE hiding st
section
variable{P:Program}{w:World}{K:Zf}{mg:Str->Option Value}{base:Heap}
def R8(f:Addr)(sp:Sp):Sp:=λvs H Q _=>vs=[.ref f]/\sp [] H Q E0
theorem CK{nm:Str}{t:Stmt}{a f:Addr}{g fd:FuncData}{dn n:Str}{p1 p2 p3 pos:Pos}{h0:ExceptHandler}{kd:Nat}{o:Obj}{sp:Sp}
  (Fn:Fun K nm nm t a g) (hbody:aM t=[.Try [.Return (some (.Call (.Name dn p1) [] [] p2)) p3] [h0] [] [] pos])
  (S:FnScope [dn,n] [dn] (ao t)) (ld:(ao t).names.lookup dn=some .local) (pd:aK dn=true)
  (GD:FnOk P w K mg base (CX1 P w) kd f fd [] sp) (ho:base.get? f=some o) (hd:o.data=.func fd) (hb:Binds K fd [] []) :
  FnOk P w K mg base (CX1 P w) (kd+1) a g [dn] (R8 f sp):=by
 unfold aK at pd;rw[Y2z,I5z,I5z] at pd;refine Fun.okX (N:=[dn,n]) Fn S (λvs H Q E h=>by rw[h.1];rfl) λcdv A outer s H vs Q E hr h=>?_;obtain⟨rfl,hsp⟩:=h;refine⟨dO _ (aM t),bD,?_⟩;rw[hbody];generalize hX:eO (CX1 P w) P w K mg base [dn,n] nm (ao t) a cdv A outer s H E=X;refine PSs.sem (aY jJ) ?_;intro z0 s0 I;rw[arm_exec_Try];refine E5z (D4z (wpAny_tryStmt_except ?_));subst hX
 let X:=eO (CX1 P w) P w K mg base [dn,n] nm (ao t) a cdv A outer s H E
 let D:Ends:={nx:=λ_ _=>False,rt:=Q}
 let xe:Value->Shared->Prop:=λe s₁=>wpAny (model X.prog X.w) X.A (noteFrame e X.env) (λ_ s₂=>wpAny (model X.prog X.w) X.A (setFlight e none) (λ_ s₃=>wpAny (model X.prog X.w) X.A (handleBy e X.env [h0]) (SP X z0 {nx:=λ_ H'=>Q .non H',rt:=Q}) X.xe s₃) X.xe s₂) X.xe s₁
 have I0:Inv (X.pinned (X.pn++z0) xe) [] (start [dn,n] [.ref f]) H s0:=Inv.repin (X:=X) (pn:=X.pn) (z0:=z0) I λp hp=>by simpa using hp
 have run:dO (X.pinned (X.pn++z0) xe) [.Return (some (.Call (.Name dn p1) [] [] p2)) p3] D (start [dn,n] [.ref f]) H:=by
  refine PSs.sem (aY (cN au)) ?_;refine Bw (X:=X.pinned (X.pn++z0) xe) (i:=0) (E:=E0) GD hr rfl (.inl ld) ho hd hb ?_ rfl hsp (by simpa using pd.1) (by simpa using pd.2);intro pins2 H2 s2 e s3 I2 hcx;obtain⟨_,_,_,_,_,_,z⟩:=hcx;exact z.elim
 refine D5z (run [] s0 I0) (λfl s1 q=>?_) λe s1 q=>q
 cases fl with
 | next=>obtain⟨_,_,_,z⟩:=q;exact z.elim
 | brk=>obtain⟨_,_,_,z⟩:=q;exact z.elim
 | cont=>obtain⟨_,_,_,z⟩:=q;exact z.elim
 | ret u =>
  obtain⟨v,Y',H',I',r,z⟩:=q;exact⟨v,Y',H',Inv.repin (X:=X) (pn':=X.pn) I' λp hp=>by simpa using hp,r,z⟩
end
def Mx(cx:Cxt)(ms:nF)(F:Nat)(sc:Scope)(U:Rho)(S:Cst):Expr->Option (Addr×MR)
 | .IfExp c a b _=>match (ev cx F sc U c).bind asB with
  | some t=>Ri cx ms F sc U S (if t then a else b)
  | none=>none
 | e=>Ri cx ms F sc U S e
theorem Ef{cx:Cxt}{k:Nat}{X:Cx}{sc:Scope}{U:Rho}{ms:nF}{F kM:Nat}{p C d dn un:Addr}{S:Cst}{e:Expr}{o:MR}{Y:St}{H Hs:Hp}{Q:VK}{E:XK}(G:Good cx k X sc)(hN:X.N=U.map (·.1))(CO:CaseOk X.prog X.w X.K X.mg kM C ms)(hr:Room kM X.A)(hx:Passes (CX1 X.prog X.w) X E)
  (h:Mx cx ms F sc U S e=some (p,o)) (hs:Same Hs H) (hst:bJ X.K Hs U Y) (S0:CRep X.K C Hs H p d dn un S) (k:Ge X.K C p d dn un Hs H Q E o):jy X e Y H Q:=by
 unfold Mx at h;split at h
 .split at h
  .rename_i t hc
   refine(uT dw au au).sem ((dh cx F G hN (fJ hc)).2 t rfl Y H Hs _ hs hst λH1 Hs1 E1=>?_);have m:=λe' (h':Ri cx ms F sc U S e'=some (p,o))=>(zL G hN CO hr hx h' E1.sub (hst.same E1.vis) (S0.ext E1) (k.pre E1)).1
   cases t with
   | true=>exact oJ (m _ h)
   | false=>exact mH (m _ h)
  .cases h
 .exact(zL G hN CO hr hx h hs hst S0 k).1
def U9(K:Zf)(C p d dn un:Addr)(Hs H0:Hp)(o:MR):Sp:=λvs H Q E=>vs=[]/\Same (big Hs H0 p d dn un) H/\Ge K C p d dn un Hs H Q E o
section
variable{P:Program}{w:World}{K:Zf}{mg:Str->Option Value}{base:Heap}{T:Pg}{F k:Nat}
theorem zR(X:Text w K mg T){f c':Addr}{name qual:Str}{params:Arguments}{body:Expr}{scope:Scope}{pm ctv:Value}{cl:List (Str×Addr)}{ws:List V}{U:Rho}{Hs H0:Hp}{o:MR}{ms:nF}{p C d dn un:Addr}{S:Cst}
  (lk:base.get? f=some (W.kla_obj name qual params body scope cl pm c' ctv)) (hcd:base.CodeRec (.ref c') qual) (L:LamNames base scope (U.map (·.1)) ws cl) (hnd:(U.map (·.1)).Nodup)
  (hr:bJ K Hs U (ws.map some)) (CO:CaseOk P w K mg k C ms) (S0:CRep K C Hs H0 p d dn un S) (he:Mx (T.cx (aW T F k)) ms F scope U S body=some (p,o)) :
  FnOk P w K mg base (CX1 P w) (k+1) f (W.kla_fn name qual params body scope cl pm (.ref c') ctv) [] (U9 K C p d dn un Hs H0 o):=by
 refine PL lk hcd L (λvs H Q E h=>by rw[h.1];rfl) λA outer s H Q E hroom h=>?_
 obtain⟨_,hsm,hE⟩:=h;refine⟨jy _ body,au,?_⟩
 have G:Good (T.cx (aW T F k)) k (o7 (CX1 P w) P w K mg base (U.map (·.1)) qual scope f (.ref c') cl A outer s H E) scope :=
  oK X (X4z _) rfl hroom rfl L.kind hnd
 exact Ef G rfl CO hroom Dy he (uq.trans hsm) hr (S0.big hsm) hE
end
structure Made(p:Addr×Str)(H H1:Hp)(l l1:List (Pos×Addr))(c1:Addr):Prop where
 tab:LamT H1 p.1 p.2 l1
 cod:H1 c1=some (vW c1 p.2)
 ne:c1≠p.1
 old:H c1=none\/∃q∈l,q.2=c1
 new:∀q∈l1,q∈l\/q.2=c1
 keep:∀b o,b≠p.1->H b=some o->H1 b=some o
section
variable{X:Cx}{U:Rho}{T:Pg}{F k:Nat}{sc:Scope}
theorem xW{tn dn:Str}{a:Addr}{g:FuncData}{body:Expr}{lsc:Scope}{lp pp cp:Pos}{p:Addr×Str}{Y:St}{H Hr:Hp}{Q:VK}{spx:Addr->Sp}(L:LCx X p)(hN:X.N=U.map (·.1))(hsc:X.env.scope=sc)(hr:Room (k+3) X.A)(hdb:(tn==("__debug__":Str))=false)(hm:X.mg tn=some (.ref a))(hk:W.keepIn X.K (.ref a)=true)(hbG:Binds X.K g [dn] [])
  (hgl:sc.names.lookup tn=some .globalImplicit) (ok:sX sc lsc U=true)
  (hFT:∀(base:Heap)(f c1:Addr)(pm ctv:Value)(cl:List (Str×Addr))(ws:List V), base.get? f=some (W.kla_obj "<lambda>" (X.env.qual++"<lambda>") noArgs body lsc cl pm c1 ctv)->base.CodeRec (.ref c1) (X.env.qual++"<lambda>")->LamNames base lsc ((eX lsc U).map (·.1)) ws cl->((eX lsc U).map (·.1)).Nodup->bJ X.K Hr (eX lsc U) (ws.map some) ->
   FnOk X.prog X.w X.K X.mg base (CX1 X.prog X.w) (k+2) a g [dn] (spx f))
  (hst:bJ X.K Hr U Y) {l:List (Pos×Addr)} (hT:LamT H p.1 p.2 l)
  (hq:∀f c1 H1 l1,Made p H H1 l l1 c1->spx f [.ref f] (del H1 c1) (λv H2=>H2 c1=none->Q v (upd H2 c1 (vW c1 p.2))) E0):jy X (.Call (.Name tn pp) [.Lambda noArgs body lsc lp] [] cp) Y H Q:=by
 intro z0 s I;have O:=Ep ok;obtain⟨c,hcode,C⟩:=L.code
 have hg:Gl X tn:=by show X.env.scope.names.lookup tn=_;rw[hsc];exact hgl
 have free:∀x,(x,NameKind.free)∈lsc.names->∃cc,X.env.cells.lookup x=some cc:=λx hx=>I.ok.has x (.inl (by show X.env.scope.names.lookup x=_;rw[hsc];exact(O.fr x hx).1))
 have hcl:=gq (env:=X.env) (scope:=lsc) free;obtain⟨ws,w1,w2,w3⟩:=qU hN hst (qJ lsc) λx hx=>(O.fr x (uY.mp hx)).2;refine O1z (f9 I hg hm ?_ hdb);refine P1z (h₀:=X.base) I.ok.mod.kin hk ?_ rfl rfl;show wpAny _ _ (spliced ((false,eval (.Lambda noArgs body lsc lp) X.env)::backTo cp (starEach [] X.env))) _ _ s;rw[L.qual] at hT;refine N1z (Kl I rfl hcode C hcl L.bi L.glob hT λf c1 ctv pm s' H1 l1 J T1 hc1 hcP hold hnew keep1 e1 e4 hf1 keep=>?_);refine C2z ⟨J.kIn,?_⟩;have J':=J.untrack hc1;have stk:∀b∈frs X.stack,H1 b=none:=λb hb=>J.stkFree b hb
 have hfr:c1∉frs X.stack:=λz=>by rw[stk c1 z] at hc1;cases hc1
 have ff:f∉frs X.stack:=λz=>by
  rcases L4z.mp (I.stkSub f z) with e | e
  .exact absurd (I1z I.lt (by rw[<- e];exact e4)) (C4z _)
  .exact I.nofs e4 e
 have rec':(BP s'.heap (del H1 c1) (frs X.stack)).CodeRec (.ref c1) (X.env.qual++"<lambda>"):=by
  obtain⟨c2,oc,vs,t,a1,a2,a3,a4⟩:=vW.rec J.hok hc1;cases a1;exact⟨c1,oc,vs,t,rfl,pC a2 jj hfr,a3,a4⟩
 have inC:=(pq (cells:=X.env.cells) I.ok.inj lsc.names [] O.nd free (by simp) (by simp)).2;have lk:∀x cc,(jq X.env.cells lsc.names []).lookup x=some cc->X.env.cells.lookup x=some cc:=λx cc e=>inC _ (D1z e)
 have has:∀x,(x,NameKind.free)∈lsc.names->∃cc,(jq X.env.cells lsc.names []).lookup x=some cc:=λx hx=>by
  obtain⟨cc,h1⟩:=kh (cells:=X.env.cells) lsc.names [] hx;exact gJ (List.contains_iff_mem.mpr (List.mem_map.mpr ⟨_,h1,rfl⟩))
 have eN:(eX lsc U).map (·.1)=qJ lsc:=by unfold eX;rw[V4z];exact C5z (qJ lsc)
 obtain⟨m,hns,hloc⟩:=J.loc
 have LN:LamNames (BP s'.heap (del H1 c1) (frs X.stack)) lsc ((eX lsc U).map (·.1)) ws (jq X.env.cells lsc.names []):=by
  rw[eN];refine⟨O.kind,O.co,O.gen,O.own,w1,λi x v a1 a2=>?_,λx y cc a1 a2=>I.ok.inj x y cc (lk x cc a1) (lk y cc a2),λx e=>has x (D1z e),λx cc a1=>?_⟩
  .have hx:(x,NameKind.free)∈lsc.names:=uY.mp (List.mem_of_getElem? a1)
   obtain⟨j,b4,b5⟩:=w2 i x v a1 a2
   have kx:X.env.kindOf x=some .cell:=by show X.env.scope.names.lookup x=_;rw[hsc];exact(O.fr x hx).1
   obtain⟨u,ru,lku⟩:=hloc j x v b4 b5 (.inr (.inl kx));obtain⟨cc,hcc⟩:=has x hx;refine⟨cG O.nd hx,cc,u,hcc,ru,?_⟩;rcases lku with⟨z,_⟩ | ⟨_,c3,z1,z2⟩
   .rw[kx] at z;cases z
   .rw[lk x cc hcc] at z1;cases z1
    exact vH J' L.fn (lk x cc hcc) z2
  .obtain⟨v,hv⟩:=J.cell x cc (lk x cc a1)
   exact⟨v,vH J' L.fn (lk x cc a1) hv⟩
 have ef:(BP s'.heap (del H1 c1) (frs X.stack)).get? f=some (W.kla_obj "<lambda>" (X.env.qual++"<lambda>") noArgs body lsc (jq X.env.cells lsc.names []) pm c1 ctv):=pC e1 (d9 hf1) ff;have FT:=hFT _ f c1 pm ctv _ ws ef rec' LN (by rw[eN];exact O.ndf) (by unfold eX;exact w3);refine Dd (vs:=[.ref f]) hc1 FT (hr.mono (by omega)) hbG oA J hfr (.cons rfl .nil) ?_;have:=hq f c1 H1 l1 ⟨by rw[L.qual];exact T1,by rw[L.qual];exact hc1,hcP,hold,hnew,keep1⟩;rw[L.qual] at this;exact this
end
structure ExtB(pl:Addr×Str)(l:List (Pos×Addr))(p d dn un un':Addr)(Hs H Hs' H':Hp):Prop where
 vis:Same Hs Hs'
 all:∀b o,H b=some o->b≠pl.1->b≠p->b≠d->b≠dn->b≠un->H' b=some o
 sub:Same Hs' H'
 hid:∀b o,H b=some o->b≠p->b≠d->b≠dn->b≠un->Hs b=none->Hs' b=none
 nu:un'=un\/H un'=none
 lam:∃l',LamT H' pl.1 pl.2 l'/\Hs' pl.1=none/\∀q∈l',Hs' q.2=none/\((∃r∈l,r.2=q.2)\/H q.2=none)
def rO(P:Program)(w:World)(K:Zf)(mg:Str->Option Value)(kd:Nat)(tn:Str):Prop :=
 (tn==("__debug__":Str))=false/\∃a g dn,mg tn=some (.ref a)/\W.keepIn K (.ref a)=true/\Binds K g [dn] []/\∀(base:Heap)(f:Addr)(fd:FuncData)(o:Obj)(sp:Sp),FnOk P w K mg base (CX1 P w) kd f fd [] sp->base.get? f=some o->o.data=.func fd->Binds K fd [] []->FnOk P w K mg base (CX1 P w) (kd+1) a g [dn] (R8 f sp)
section
variable{X:Cx}{U:Rho}{T:Pg}{F k:Nat}{sc:Scope}{pl:Addr×Str}{ms:nF}{C p d dn un:Addr}{S S':Cst}
theorem pR{tn dnm:Str}{a:Addr}{g:FuncData}{body:Expr}{lsc:Scope}{lp pp cp:Pos}{r:D}{Y:St}{H Hs:Hp}{Q:VK}{spx:Addr->Sp}(Lc:LCx X pl)(hN:X.N=U.map (·.1))(hsc:X.env.scope=sc)(hr:Room (k+3) X.A)(hdb:(tn==("__debug__":Str))=false)(hm:X.mg tn=some (.ref a))(hk:W.keepIn X.K (.ref a)=true)(hbG:Binds X.K g [dnm] [])
  (hgl:sc.names.lookup tn=some .globalImplicit) (ok:sX sc lsc U=true)
  (hFT:∀(base:Heap)(f c1:Addr)(pm ctv:Value)(cl:List (Str×Addr))(ws:List V),base.get? f=some (W.kla_obj "<lambda>" (X.env.qual++"<lambda>") noArgs body lsc cl pm c1 ctv)->base.CodeRec (.ref c1) (X.env.qual++"<lambda>")->LamNames base lsc ((eX lsc U).map (·.1)) ws cl->((eX lsc U).map (·.1)).Nodup->bJ X.K Hs (eX lsc U) (ws.map some)->FnOk X.prog X.w X.K X.mg base (CX1 X.prog X.w) (k+2) a g [dnm] (spx f))
  (hsp:∀f H1 (Q:VK),Same (big Hs H p d dn un) H1->(∀v H2 Hs2 un',ExtM p d dn un un' Hs H1 Hs2 H2->CRep X.K C Hs2 H2 p d dn un' S'->Rep X.K Hs2 r v->Q v H2)->spx f [.ref f] H1 Q E0)
  (S0:CRep X.K C Hs H p d dn un S) (hs:Same Hs H) (hst:bJ X.K Hs U Y) {l:List (Pos×Addr)} (hT:LamT H pl.1 pl.2 l) (n1:Hs pl.1=none) (n2:∀q∈l,Hs q.2=none)
  (hq:∀v H' Hs' un',ExtB pl l p d dn un un' Hs H Hs' H'->CRep X.K C Hs' H' p d dn un' S'->Rep X.K Hs' r v->Q v H'):jy X (.Call (.Name tn pp) [.Lambda noArgs body lsc lp] [] cp) Y H Q:=by
 have nx:∀b φ,H b=some (.ext φ)->b≠p/\b≠d/\b≠dn/\b≠un:=λb φ e=>by
  have:=S0.noext e;exact⟨λz=>this (.inl z),λz=>this (.inr (.inl z)),λz=>this (.inr (.inr (.inl z))),λz=>this (.inr (.inr (.inr z)))⟩
 refine xW (spx:=spx) Lc hN hsc hr hdb hm hk hbG hgl ok hFT hst hT λf c1 H1 l1 MD=>?_
 have bc:big Hs H p d dn un c1=none:=by
  rcases MD.old with z | ⟨q,hq',z⟩
  .cases e:big Hs H p d dn un c1 with
   | none=>rfl
   | some o=>rw[BK hs _ _ e] at z;cases z
  .rw[<- z];exact BL (S0.noext (hT.cod q hq')) (n2 q hq')
 have bP:big Hs H p d dn un pl.1=none:=BL (S0.noext hT.tab) n1
 have sm:Same (big Hs H p d dn un) (del H1 c1):=λb o e=>by
  rw[fL (λz=>by rw[z,bc] at e;cases e)]
  exact MD.keep b o (λz=>by rw[z,bP] at e;cases e) (BK hs b o e)
 refine hsp f _ _ sm λv H2 Hs2 un' M S2 r2 hn2=>?_
 have up:∀b o,H2 b=some o->(upd H2 c1 (vW c1 pl.2)) b=some o:=λb o e=>by rw[aj (ak e hn2)];exact e
 have hn3:Hs2 c1=none:=by
  cases e:Hs2 c1 with
  | none=>rfl
  | some o=>rw[M.sub _ _ e] at hn2;cases hn2
 have tb:(del H1 c1) pl.1=_:=(fL MD.ne.symm).trans MD.tab.tab;obtain⟨x1,x2,x3,x4⟩:=nx _ _ hT.tab
 have dl:∀b o,b≠pl.1->b≠c1->H b=some o->(del H1 c1) b=some o:=λb o h1 h2 e=>by rw[fL h2];exact MD.keep b o h1 e
 refine hq v _ Hs2 un' ⟨M.vis,λb o e h0 h1 h2 h3 h4=>?_,λb o e=>up b o (M.sub b o e),λb o e h1 h2 h3 h4 n=>?_,?_,l1,⟨?_,λq hq'=>?_⟩,M.hid _ _ tb x1 x2 x3 x4 n1,λq hq'=>?_⟩ (S2.ext ⟨.refl _,up,λb o e=>up b o (M.sub b o e),λ_ _ _ z=>z⟩) r2
 .by_cases z:b=c1
  .subst z;rw[aB,<- MD.cod];exact MD.keep b o h0 e
  .exact up b o (M.all b o (dl b o h0 z e) h1 h2 h3 h4)
 .by_cases z:b=c1
  .rw[z];exact hn3
  .by_cases z2:b=pl.1
   .rw[z2];exact M.hid _ _ tb x1 x2 x3 x4 n1
   .exact M.hid b o (dl b o z2 z e) h1 h2 h3 h4 n
 .rcases M.nu with z | z
  .exact .inl z
  .right
   cases e:H un' with
   | none=>rfl
   | some o =>
    obtain⟨us,u1,_⟩:=S2.ul
    have nc:un'≠c1:=λy=>by rw[y,hn2] at u1;cases u1
    by_cases y:un'=pl.1
    .rw[y,tb] at z;cases z
    .rw[dl un' o y nc e] at z;cases z
 .exact up _ _ (M.all _ _ tb x1 x2 x3 x4)
 .by_cases z:q.2=c1
  .rw[z,aB]
  .rcases MD.new q hq' with z1 | z1
   .obtain⟨y1,y2,y3,y4⟩:=nx _ _ (hT.cod q z1)
    exact up _ _ (M.all _ _ (by rw[fL z];exact MD.tab.cod q hq') y1 y2 y3 y4)
   .exact absurd z1 z
 .refine⟨?_,?_⟩
  .by_cases z:q.2=c1
   .rw[z];exact hn3
   .rcases MD.new q hq' with z1 | z1
    .obtain⟨y1,y2,y3,y4⟩:=nx _ _ (hT.cod q z1)
     exact M.hid _ _ (by rw[fL z];exact MD.tab.cod q hq') y1 y2 y3 y4 (n2 q z1)
    .exact absurd z1 z
  .rcases MD.new q hq' with z1 | z1
   .exact .inl ⟨q,z1,rfl⟩
   .rw[z1]
    rcases MD.old with z2 | ⟨r,z2,z3⟩
    .exact .inr z2
    .exact .inl ⟨r,z2,z3⟩
theorem xV{tn:Str}{body:Expr}{lsc:Scope}{lp pp cp:Pos}{r:D}{Y:St}{H Hs:Hp}{Q:VK}(Tx:Text X.w X.K X.mg T)(Lc:LCx X pl)(hN:X.N=U.map (·.1))(hsc:X.env.scope=sc)(hr:Room (k+3) X.A)(TV:rO X.prog X.w X.K X.mg (k+1) tn)
  (hgl:sc.names.lookup tn=some .globalImplicit) (ok:sX sc lsc U=true) (CO:CaseOk X.prog X.w X.K X.mg k C ms) (S0:CRep X.K C Hs H p d dn un S) (he:Mx (T.cx (aW T F k)) ms F lsc (eX lsc U) S body=some (p,.val r S'))
  (hs:Same Hs H) (hst:bJ X.K Hs U Y) {l:List (Pos×Addr)} (hT:LamT H pl.1 pl.2 l) (n1:Hs pl.1=none) (n2:∀q∈l,Hs q.2=none)
  (hq:∀v H' Hs' un',ExtB pl l p d dn un un' Hs H Hs' H'->CRep X.K C Hs' H' p d dn un' S'->Rep X.K Hs' r v->Q v H'):jy X (.Call (.Name tn pp) [.Lambda noArgs body lsc lp] [] cp) Y H Q:=by
 obtain⟨hdb,a,g,dnm,hm,hk,hbG,hG⟩:=TV;exact pR (spx:=λf=>R8 f (U9 X.K C p d dn un Hs H (.val r S'))) Lc hN hsc hr hdb hm hk hbG hgl ok (λbase f c1 pm ctv cl ws a1 a2 a3 a4 a5=>hG base f _ _ _ (zR Tx a1 a2 a3 a4 a5 CO S0 he) a1 rfl u0) (λf H1 Q sm k=>⟨rfl,rfl,sm,k⟩) S0 hs hst hT n1 n2 hq
end
section
variable{X:Cx}{U:Rho}{T:Pg}{F k:Nat}{sc:Scope}{Hs0 H0:Hp}{L:LamP}{pl:Addr×Str}{ms:nF}{C p d dn un:Addr}{S:Cst}
theorem xX{tn c' x:Str}{body:Expr}{lsc:Scope}{lp pp cp:Pos}{cv:Str->Option D}{Y:St}{H Hs:Hp}{Q:VK}(Tx:Text X.w X.K X.mg T)(Lc:LCx X pl)(hN:X.N=U.map (·.1))(hsc:X.env.scope=sc)(hr:Room (k+3) X.A)(TA:jR X.prog X.w X.K X.mg (k+1) T.exs cv tn)
  (hgl:sc.names.lookup tn=some .globalImplicit) (ok:sX sc lsc U=true) (CO:CaseOk X.prog X.w X.K X.mg k C ms) (S0:CRep X.K C Hs H p d dn un S) (he:Mx (T.cx (aW T F k)) ms F lsc (eX lsc U) S body=some (p,.exc c')) (hin:T.exs.contains c'=true) (hcv:cv c'=some (.str x))
  (hs:Same Hs H) (hst:bJ X.K Hs U Y) {l:List (Pos×Addr)} (hT:LamT H pl.1 pl.2 l) (n1:Hs pl.1=none) (n2:∀q∈l,Hs q.2=none)
  (hq:∀v H' Hs' un',ExtB pl l p d dn un un' Hs H Hs' H'->CRep X.K C Hs' H' p d dn un' S->Rep X.K Hs' (.str x) v->Q v H'):jy X (.Call (.Name tn pp) [.Lambda noArgs body lsc lp] [] cp) Y H Q:=by
 obtain⟨hdb,a,g,dnm,hm,hk,hbG,hG⟩:=TA;refine pR (spx:=λf=>spT X.K (big Hs H p d dn un) f (.str x)) Lc hN hsc hr hdb hm hk hbG hgl ok (λbase f c1 pm ctv cl ws a1 a2 a3 a4 a5=>hG base f _ _ _ c' _ hin hcv ((zR Tx a1 a2 a3 a4 a5 CO S0 he).weak λvs H1 Q1 E1 h=>⟨h.1,h.2.1,λCc H' Hs' hC e=>h.2.2 Cc H' _ hC (Ka uq h.2.1 e)⟩) a1 rfl u0) (λf H1 Q sm k=>⟨rfl,sm,λv H2 Hs2 E r=>?_⟩) S0 hs hst hT n1 n2 hq;have vv:Same Hs Hs2:=uq.trans E.vis;have E':Ext Hs H1 Hs H2:=⟨.refl _,E.all,λb o e=>E.sub b o (vv b o e),λ_ _ _ z=>z⟩;exact k v H2 Hs un (.of E') ((S0.big sm).ext E') (by simpa[Rep] using r)
def Km(cx:Cxt)(L:LamP)(ms:nF)(S:Cst)(F:Nat)(sc:Scope)(U:Rho)(e:Expr):Option (Addr×D×Cst) :=
 match toldOf e with
 | some (tn,body,lsc)=>if tn==L.tn&&sc.names.lookup tn==some .globalImplicit&&sX sc lsc U then
   match Mx cx ms F lsc (eX lsc U) S body with
   | some (a,.val r S')=>some (a,r,S')
   | some (a,.exc c)=>if cx.exs.contains c then(match L.cv c with
    | some (.str x)=>some (a,.str x,S)
    | _=>none) else none
   | none=>none
  else none
 | none=>none
theorem oH{e:Expr}{r:D}{S':Cst}{Y:St}{H Hs:Hp}{Q:VK}(Tx:Text X.w X.K X.mg T)(Lc:LCx X pl)(hN:X.N=U.map (·.1))(hsc:X.env.scope=sc)(hr:Room (k+3) X.A)(TA:jR X.prog X.w X.K X.mg (k+1) T.exs L.cv L.tn)(TV:rO X.prog X.w X.K X.mg (k+1) L.tn)
  (CO:CaseOk X.prog X.w X.K X.mg k C ms) (S0:CRep X.K C Hs H p d dn un S) (h:Km (T.cx (aW T F k)) L ms S F sc U e=some (p,r,S'))
  (hs:Same Hs H) (hst:bJ X.K Hs U Y) {l:List (Pos×Addr)} (hT:LamT H pl.1 pl.2 l) (n1:Hs pl.1=none) (n2:∀q∈l,Hs q.2=none)
  (hq:∀v H' Hs' un',ExtB pl l p d dn un un' Hs H Hs' H'->CRep X.K C Hs' H' p d dn un' S'->Rep X.K Hs' r v->Q v H'):jy X e Y H Q:=by
 unfold Km at h;split at h
 .rename_i tn body lsc ht
  obtain⟨pp,lp,cp,rfl⟩:=xZ ht;split at h
  .rename_i hc
   rw[Y2z,Y2z] at hc
   have etn:tn=L.tn:=by simpa using hc.1.1
   subst etn;split at h
   .rename_i a r' S1 hm
    cases h;exact xV Tx Lc hN hsc hr TV (by simpa using hc.1.2) hc.2 CO S0 hm hs hst hT n1 n2 hq
   .rename_i a c hm
    split at h
    .rename_i hin
     split at h
     .rename_i x hcv
      cases h;exact xX Tx Lc hN hsc hr TA (by simpa using hc.1.2) hc.2 CO S0 hm hin hcv hs hst hT n1 n2 hq
     .cases h
    .cases h
   .cases h
  .cases h
 .cases h
end
section
variable{X:Cx}{U:Rho}{T:Pg}{F k:Nat}{sc:Scope}{L:LamP}{pl:Addr×Str}{ms:nF}{C p d dn un:Addr}{S S':Cst}
theorem ExtB.pre{un':Addr}{l:List (Pos×Addr)}{Hs H Hs1 H1 Hs2 H2:Hp}(E:Ext Hs H Hs1 H1)(B:ExtB pl l p d dn un un' Hs1 H1 Hs2 H2):ExtB pl l p d dn un un' Hs H Hs2 H2 :=
 ⟨E.vis.trans B.vis,λb o e=>B.all b o (E.all b o e),B.sub,λb o e h1 h2 h3 h4 n=>B.hid b o (E.all b o e) h1 h2 h3 h4 (E.hid b o e n),B.nu.imp id λz=>bV E.all z,let ⟨l',a1,a2,a3⟩:=B.lam;⟨l',a1,a2,λq hq=>⟨(a3 q hq).1,(a3 q hq).2.imp id λz=>bV E.all z⟩⟩⟩
def Qx(cx:Cxt)(L:LamP)(ms:nF)(S:Cst)(F:Nat)(sc:Scope)(U:Rho):List Stmt->Option (Addr×D×Cst)
 | .If c [.Return (some e) _] [] _::r=>match (ev cx F sc U c).bind asB with
  | some t=>if t then Km cx L ms S F sc U e else Qx cx L ms S F sc U r
  | none=>none
 | .Return (some e) _::_=>Km cx L ms S F sc U e
 | _=>none
theorem vq{D0:Ends}{r:D}{Y:St}(G:Good (T.cx (aW T F k)) (k+3) X sc)(Tx:Text X.w X.K X.mg T)(Lc:LCx X pl)(hN:X.N=U.map (·.1))(TA:jR X.prog X.w X.K X.mg (k+1) T.exs L.cv L.tn)(TV:rO X.prog X.w X.K X.mg (k+1) L.tn)(CO:CaseOk X.prog X.w X.K X.mg k C ms) :
    ∀(b:List Stmt){H Hs:Hp}{l:List (Pos×Addr)}, Qx (T.cx (aW T F k)) L ms S F sc U b=some (p, r, S')->CRep X.K C Hs H p d dn un S->Same Hs H->bJ X.K Hs U Y->LamT H pl.1 pl.2 l->Hs pl.1=none->(∀q∈l, Hs q.2=none) ->
      (∀v H' Hs' un',ExtB pl l p d dn un un' Hs H Hs' H'->CRep X.K C Hs' H' p d dn un' S'->Rep X.K Hs' r v->D0.rt v H')->dO X b D0 Y H
  | [],_,_,_,h,_,_,_,_,_,_,_=>by cases h
  | s::b,H,Hs,l,h,S0,hs,hst,hT,n1,n2,hq=>by
    unfold Qx at h
    split at h
    . rename_i heq
      cases heq
      refine PSs.sem (aL jJ bD) ?_
      split at h
      . rename_i t hc
        refine PS.sem (lD dw bD fj) ((dh _ F G hN (fJ hc)).2 t rfl Y H Hs _ hs hst λH1 Hs1 E1=>?_)
        have S1:=S0.ext E1
        have T1:=hT.same E1.all
        have m1:=E1.hid _ _ hT.tab n1
        have m2:∀q∈l,Hs1 q.2=none:=λq hq'=>E1.hid _ _ (hT.cod q hq') (n2 q hq')
        have q1:∀v H' Hs' un',ExtB pl l p d dn un un' Hs1 H1 Hs' H'->CRep X.K C Hs' H' p d dn un' S'->Rep X.K Hs' r v->D0.rt v H':=λv H' Hs' un' B=>hq v H' Hs' un' (B.pre E1)
        cases t with
        | true=>exact oJ (PSs.sem (aY (cN au)) (oH Tx Lc hN G.sce G.room TA TV CO S1 h E1.sub (hst.same E1.vis) T1 m1 m2 q1))
        | false=>exact mH (vq G Tx Lc hN TA TV CO b h S1 E1.sub (hst.same E1.vis) T1 m1 m2 q1)
      . cases h
    . rename_i heq
      cases heq
      exact PSs.sem (aL (cN au) bD) (oH Tx Lc hN G.sce G.room TA TV CO S0 h hs hst hT n1 n2 hq)
    . cases h
end
def IK(K:Zf)(C:Addr)(pl:Addr×Str)(g:Addr->Cst->D->Option (Addr×D×Cst)):Sp:=λvs H Q _=>∃(p d dn un:Addr)(Hs:Hp)(S S':Cst)(x r:D)(u:V)(l:List (Pos×Addr)),
 vs=[.ref p,u]/\Same Hs H/\CRep K C Hs H p d dn un S/\Rep K Hs x u/\LamT H pl.1 pl.2 l/\Hs pl.1=none/\(∀q∈l,Hs q.2=none)/\g p S x=some (p,r,S') /\
 ∀v H' Hs' un',ExtB pl l p d dn un un' Hs H Hs' H'->CRep K C Hs' H' p d dn un' S'->Rep K Hs' r v->Q v H'
section
variable{P:Program}{w:World}{K:Zf}{mg:Str->Option Value}{base:Heap}{T:DE.Pg}{F k:Nat}
theorem Qw{fd:Fd}{t:Stmt}{f c Pt C:Addr}{nm:Str}{dV kV doc pm ct oc:Value}{an od:Option Addr}{osl:Array (Option Value)}{L:LamP}{ms:nF}(Tx:Text w K mg T)(lk:K.lookup f=some ⟨oc,od,.func (W.fnOf nm nm (bQ t) (aM t) (ao t) dV kV doc pm an (.ref c) ct),osl⟩)(hcd:W.codeIn K (.ref c) nm=true)
  (hb:fd.body=aM t) (hs:fd.sc=ao t) (S:FnScope fd.N fd.ps fd.sc) (h1:fd.ps.length=2) (hC:W.CodeHd base c Pt) (hbm:base.BuiltinsAt mg Pt)
  (TA:jR P w K mg (k+1) T.exs L.cv L.tn) (TV:rO P w K mg (k+1) L.tn) (CO:CaseOk P w K mg k C ms) {qn:Str} (hqn:∀n a,qn=(envOfC nm (ao t) n a (.ref c)).qual++"<lambda>") :
  FnOk P w K mg base (CX1 P w) (k+4) f (W.fnOf nm nm (bQ t) (aM t) (ao t) dV kV doc pm an (.ref c) ct) fd.ps (IK K C (Pt,qn) λp S x=>Qx (T.cx (aW T F k)) L ms S F fd.sc (bH fd [.obj p,x]) fd.body):=by
 refine KJ (N:=fd.N) lk hcd (by rw[<- hs];exact S) (λvs H Q E h=>by obtain⟨p,d,dn,un,Hs,S1,S2,x,r,u,l,rfl,_⟩:=h;rw[h1];rfl) λA outer s H vs Q E hr h=>?_
 obtain⟨p,d,dn,un,Hs,S1,S2,x,r,u,l,rfl,hsm,S0,rx,hT,n1,n2,hg,hq⟩:=h
 let pl:Addr×Str:=(Pt,qn)
 let X0:=eO (CX1 P w) P w K mg base fd.N nm (ao t) f (.ref c) A outer s H E
 let X:=X0.nox.relm (some pl)
 have G:Good (T.cx (aW T F k)) (k+3) X fd.sc :=
  oK Tx (by omega) rfl hr hs.symm S.kind S.nd
 have LC:LCx X pl:=⟨rfl,hqn _ _,⟨c,rfl,hC⟩,hbm,rfl,λ_=>rfl⟩;have rl:aJ K Hs [.obj p,x] [.ref p,u]:=.cons (by simp[Rep]) (.cons rx .nil);obtain⟨s1,s2,s3⟩:=fU S (ds:=[.obj p,x]) (by rw[h1];rfl) rl
 have hst:bJ K Hs (bH fd [.obj p,x]) (start fd.N [.ref p,u]):=λi y dd e=>by
  rcases s3 i y _ e with q | ⟨d',v,q,q1,q2⟩
  .cases q
  .cases q
   exact⟨v,q1,q2⟩
 refine⟨λD Y H=>∀z0 s0,Inv X z0 Y H s0->wpAny (model X.prog X.w) X.A (execs (aM t) X.env) (SP X z0 D) X.xe s0,λz0 s0 Y H1 D I h=>?_,?_⟩
 .exact D5z (h z0 s0 ((I.wish _).relm _)) (λfl s' z=>z.unrelm.unwish) λ_ _ z=>False.elim z
 .rw[hb] at hg
  exact vq (X:=X) G Tx LC s1 TA TV CO (aM t) hg S0 hsm hst hT n1 n2 hq
end
section
variable{P:Program}{w:World}{K:Zf}{mg:Str->Option Value}{T:DE.Pg}{kd:Nat}
theorem CN{tn dn n:Str}{fdT:Fd}{p1 p2 p3 pos:Pos}{h0:ExceptHandler}(Tx:Text w K mg T)(hT:T.defs.lookup tn=some fdT)(hbody:fdT.body=[.Try [.Return (some (.Call (.Name dn p1) [] [] p2)) p3] [h0] [] [] pos])
  (hN:fdT.N=[dn,n]) (hps:fdT.ps=[dn]) (ld:fdT.sc.names.lookup dn=some .local) (pd:aK dn=true):rO P w K mg kd tn:=by
 have FA:=Tx.fns tn fdT hT;obtain⟨nm,t,a,g,m1,m2,m3,m4,m5⟩:=FA.ex;have S:=FA.fs;rw[hN,hps,m5] at S;rw[hps] at m3;exact⟨FA.nd,a,g,dn,m1,m2.kp,m3,λbase f fd o sp GD ho hd hb=>CK m2 (m4.symm.trans hbody) S (m5▸ld) pd GD ho hd hb⟩
end
section
variable(call:Str->List D->Option D)(callx:Str->List D->Option Str)
def Nj(S:Cst)(n:D):Option D:=match jz call callx S [n] with
 | some (.inl t)=>some (.tup [n,t])
 | _=>none
def Rj(S:Cst):List D->Option (Sum D Str)
 | []=>match jK S [] with
  | some (.inl (.lst l))=>if szl l.length then(bR (λd=>(Nj call callx S d).map some) l).bind λout=>(iY out).map λq=>.inl (tW (Mw q)) else none
  | _=>none
 | _=>none
end
open Classical in
def elE(cx:Cxt)(F:Nat)(sc:Scope)(p:Addr)(g:D->Option D)(a b:Expr)(U:Rho)(_:Expr):Option D:=match ev cx F sc U a with
 | some n=>if Ed cx F sc U b=some (p,("table_of":Str),[n]) then g n else none
 | none=>none
theorem jP{f g:D->Option (Option D)}:∀(l:List D),(∀d∈l,f d=g d)->bR f l=bR g l
 | [],_=>rfl
 | d::r,h=>by
  simp only[bR];rw[h d (K1z ..),jP r λd hd=>h d (U0z _ hd)]
section
variable{P:Program}{w:World}{K:Zf}{mg:Str->Option Value}{base:Heap}{T:DE.Pg}{F k:Nat}
theorem Ci{fd:Fd}{t:Stmt}{f C:Addr}{g:FuncData}{nm:Str}{call:Str->List D->Option D}{callx:Str->List D->Option Str}{a b iter tg:Expr}{scope:Scope}{kt:Nat}{p1 tp lp cp rp:Pos}{U1:Addr->D->Rho}{q1 q2:List Str}(Tx:Text w K mg T)(Fn:Fun K nm nm t f g)
  (hb:aM t=[.Return (some (.Call (.Name "dict" p1) [.ListComp (.Tuple [a,b] kt tp) [⟨tg,iter,[],0⟩] scope lp] [] cp)) rp]) (hs:fd.sc=ao t) (S:FnScope fd.N fd.ps fd.sc) (h1:fd.ps.length=1)
  (hgl:fd.sc.names.lookup ("dict":Str)=some .globalImplicit) (hmg:mg "dict"=none) (hok:jl fd.sc scope=true) (cl:Cls K C)
  (GN:bY P w K mg C "names" q1 k (spR K C 0 jK)) (GT:bY P w K mg C "table_of" q2 k (spR K C 1 (jz call callx)))
  (hI:∀p:Addr,Ed (T.cx (aW T F k)) F fd.sc (bH fd [.obj p]) iter=some (p,("names":Str),[]))
  (hB:∀(p:Addr) d,fH scope tg d (cI scope (bH fd [.obj p]))=some (U1 p d))
  (he1:∀p d,ev (T.cx (aW T F k)) F (qg scope fd.sc) (U1 p d) a=some d) (he2:∀p d,Ed (T.cx (aW T F k)) F (qg scope fd.sc) (U1 p d) b=some (p,("table_of":Str),[d])) :
  FnOk P w K mg base (CX1 P w) (k+1) f g fd.ps (spR K C 0 (Rj call callx)):=by
 refine Fun.okX (N:=fd.N) Fn (by rw[<- hs];exact S) (λvs H Q E h=>by rw[nO h,h1]) λcdv A outer s H vs Q E hr h=>?_
 obtain⟨p,d,dn,un,Hs,S1,ds,us,o,rfl,e,hsm,S0,r,ho,kq⟩:=h;cases List.length_eq_zero_iff.mp e;cases (show us=[] by simpa[aJ] using r);simp only[Rj] at ho;split at ho
 .rename_i l hn
  split at ho
  .rename_i hz
   obtain⟨out,h2,h3⟩:=Option.bind_eq_some_iff.mp ho;obtain⟨q,h4,h5⟩:=O0z.mp h3;cases h5;refine⟨dO _ (aM t),bD,?_⟩;rw[hb];generalize hX:eO (CX1 P w) P w K mg base fd.N nm (ao t) f cdv A outer s H E=X
   have eK:X.K=K:=by rw[<- hX];rfl
   have eP:X.prog=P:=by rw[<- hX];rfl
   have ew:X.w=w:=by rw[<- hX];rfl
   have em:X.mg=mg:=by rw[<- hX];rfl
   have G:Good (T.cx (aW T F k)) k X fd.sc:=by
    subst hX;exact oK Tx (X4z _) rfl hr hs.symm S.kind S.nd
   have rl:aJ K Hs [.obj p] [.ref p]:=.cons (by simp[Rep]) .nil;obtain⟨s1,s2,s3⟩:=fU S (ds:=[.obj p]) (by rw[h1];rfl) rl
   have hN:X.N=(bH fd [.obj p]).map (·.1):=by rw[<- hX];exact s1
   have hst:bJ X.K Hs (bH fd [.obj p]) (start fd.N [.ref p]):=λi y dd e=>by
    rw[eK];rcases s3 i y _ e with q | ⟨d',v,q,q1,q2⟩
    .cases q
    .cases q
     exact⟨v,q1,q2⟩
   have hg:Gl X "dict":=by subst hX;show(ao t).names.lookup ("dict":Str)=_;rw[<- hs];exact hgl
   obtain⟨ok1,ok2,ok3⟩:=gn G hok
   have hw:∀Q',(∀v H' Hs',Ext Hs H Hs' H'->Rep X.K Hs' (.lst l) v->Q' v H')->jy X iter (start fd.N [.ref p]) H Q'/\aH iter=true:=λQ' hq=>by
    subst hX;exact j4 (E:=E0) G hN cl rfl GN hr oA (hI p) hsm hst S0 λH1 Hs1 vs E1 r1=>⟨p,d,dn,un,Hs1,S1,[],vs,_,rfl,rfl,E1.sub,S0.ext E1,r1,hn,λv H' Hs' E2 r2=>hq v H' Hs' (E1.trans E2) r2⟩
   refine PSs.sem (aY (cN au)) ?_;refine(eU (T:="dict") (cL (X:=X)) hg (by rw[em];exact hmg) (by decide +kernel) (aA au aO)).sem ?_;refine PE.sem (zc G.calm ok1 ok2 ok3 uR (λXc C=>⟨lE,uQ,au⟩) (iW (hw (λ_ _=>True) λ_ _ _ _ _=>trivial).2)) ?_;refine m9 (E:=elE (T.cx (aW T F k)) F (qg scope fd.sc) p (Nj call callx S1) a b) (l:=l) (out:=out) G hN hok (λR kR=>?_) hz ?_ (λXc Cc U' hN' e he dd hd=>?_) hst λacc vs Hs' H' E1 a1 a2 a3 ra=>?_
   .refine(yX (tg:=tg) au).sem ((hw _ λv H1 Hs1 E1 r1=>?_).1)
    obtain⟨p,vs,rfl,h1,h2⟩:=cX r1;refine⟨p,rfl,⟨vs,E1.sub.seq h1⟩,kR _ H1 Hs1 E1 λHs' H' e1 e2=>⟨⟨vs,e2.seq (e1.seq h1),by rw[h2.length];exact X4z _⟩,λi d hd=>?_⟩⟩;obtain⟨v,g1,g2⟩:=h2.get hd;refine⟨⟨vs,v,e2.seq (e1.seq h1),g1⟩,λx H2 y=>?_⟩;obtain⟨rfl,y⟩:=y;have:=y vs (e2.seq (e1.seq h1));rw[g1] at this;cases this;exact⟨Hs',.refl e2,Rep.same e1 d v g2⟩
   .rw[<- h2]
    refine jP l λd _=>?_;simp only[ug,hB,elE,he1,he2,mJ,bind,Option.bind];simp
   .obtain rfl:e=.Tuple [a,b] kt tp:=he.elim id λz=>by cases z
    unfold elE at hd;split at hd
    .rename_i n hna
     split at hd
     .rename_i hmb
      unfold Nj at hd;split at hd
      .rename_i tt ht
       cases hd;refine⟨λY1 H1 Hs1 Q1 Ex hst1 hq1=>?_,λb z=>by cases z⟩;have GC:=G.comp Cc hok;refine(qt (aA au (aA au aO (aq ?_)) (aq (aU hna)))).sem ?_
       .exact wG hmb
       .refine(dh _ F GC hN' hna).1 Y1 H1 Hs1 _ Ex.sub hst1 λv1 H2 Hs2 E2 r1=>?_
        have EX:=Ex.trans E2;refine(j4 (E:=E0) (C:=C) (ps:=q2) (kM:=k) (sp:=spR K C 1 (jz call callx)) (d:=d) (dn:=dn) (un:=un) (S:=S1) (Hs:=Hs2) GC hN' (by rw[Cc.K,eK];exact cl) rfl (by rw[Cc.prog,Cc.w,Cc.K,Cc.mg,eP,ew,eK,em];exact GT) (by rw[Cc.A];exact G.room) oA hmb EX.sub (hst1.same E2.vis) (by rw[Cc.K,eK];exact S0.ext EX) λH3 Hs3 vs E3 r3=>⟨p,d,dn,un,Hs3,S1,[n],vs,_,rfl,rfl,E3.sub,S0.ext (EX.trans E3),by rw[<- eK,<- Cc.K];exact r3,ht,λv2 H4 Hs4 E4 r4=>?_⟩).1;have E24:=E3.trans E4;refine⟨by show 2<=sizeLine;decide,λa ha=>fX (X:=Xc) E4.sub (.cons (Rep.same E24.vis n v1 r1) (.cons (by rw[Cc.K,eK];exact r4) .nil)) ha λu H5 Hs5 E5 r5=>hq1 u H5 Hs5 (E2.trans (E24.trans E5)) r5⟩
      .cases hd
     .cases hd
    .cases hd
   .have E2:=E1.shown a1 a2 a3
    have rr:Rep X.K (upd Hs' acc (.lst vs)) (.lst out) (.ref acc):=by
     simp only[Rep];refine⟨acc,vs,rfl,.of aB,aJ.same (λb u e=>?_) out vs ra⟩;rw[aj (ak e a2)];exact e
    exact vg (X:=X) G.calm h4 [.ref acc] H' _ _ E2.sub (.cons rr .nil) λv H5 Hs5 E5 r5=>kq v H5 Hs5 (E2.trans E5) (by rw[<- eK];exact r5)
  .cases ho
 .cases ho
end
theorem wk{P:Addr}{ps:Array Value}{q:Str}:ux P ps≠vW P q:=by
 intro h;have e:(λh:Heap=>h.get? P=some (W.tabObj ps))=λh:Heap=>h.CodeRec (.ref P) q:=HO.ext.inj h
 have g:({objs:=Array.replicate (P+1) ⟨.type "code",none,.fields #[.none,.str q 0],#[]⟩}:Heap).get? P=some ⟨.type "code",none,.fields #[.none,.str q 0],#[]⟩:=by
  unfold Heap.get?;rw[show({objs:=Array.replicate (P+1) ⟨.type "code",none,.fields #[.none,.str q 0],#[]⟩}:Heap).objs[P]?=some ⟨.type "code",none,.fields #[.none,.str q 0],#[]⟩ from by simp]
 have c:=(congrFun e _).mpr ⟨P,_,_,0,rfl,g,rfl,rfl⟩;rw[g] at c;cases c
open Classical in
def BR(Hs H:Hp)(A:Addr->Prop):Hp:=λb=>match Hs b with
 | some o=>some o
 | none=>if A b then H b else none
section
variable{Hs H:Hp}{A:Addr->Prop}
theorem vL(hs:Same Hs H):Same (BR Hs H A) H:=λb o e=>by
 unfold BR at e;split at e
 .rename_i q;cases e;exact hs _ _ q
 .split at e
  .exact e
  .cases e
theorem jH{b:Addr}(h:A b)(n:Hs b=none):BR Hs H A b=H b:=by
 unfold BR;rw[n];exact P5z h
theorem vM{b:Addr}(h:¬ A b)(n:Hs b=none):BR Hs H A b=none:=by
 unfold BR;rw[n];exact Q5z h
end
structure Bs(K:Zf)(C p d dn un:Addr)(pt:Addr×Str)(l:List (Pos×Addr))(S:Cst)(Hs0 H0:Hp):Prop where
 cr:CRep K C Hs0 H0 p d dn un S
 tb:LamT H0 pt.1 pt.2 l
 th:Hs0 pt.1=none
 ch:∀q∈l,Hs0 q.2=none
def BsA(p d dn un:Addr)(pt:Addr×Str)(l:List (Pos×Addr))(b:Addr):Prop:=(b=p\/b=d\/b=dn\/b=un)\/b=pt.1\/∃q∈l,b=q.2
section
variable{K:Zf}{pL pt:Addr×Str}{Hs0 H0 Hs H Hs' H':Hp}{U:Rho}{Y:St}{C p d dn un un':Addr}{S S':Cst}{l l':List (Pos×Addr)}
theorem Bs.core(c:CRep K C Hs H p d dn un S)(t:LamT H pt.1 pt.2 l)(th:Hs pt.1=none)(ch:∀q∈l,Hs q.2=none):Bs K C p d dn un pt l S Hs (BR Hs H (BsA p d dn un pt l)):=by
 obtain⟨⟨dx,a1⟩,⟨kvs,b1,b2⟩,⟨vs,c1,c2⟩,⟨us,d1,d2⟩,e,f1,f2,f3,f4⟩:=c;refine⟨⟨⟨dx,?_⟩,⟨kvs,?_,b2⟩,⟨vs,?_,c2⟩,⟨us,?_,d2⟩,e,f1,f2,f3,f4⟩,⟨?_,λq hq=>?_⟩,th,ch⟩
 .rw[jH (.inl (.inl rfl)) f1];exact a1
 .rw[jH (.inl (.inr (.inl rfl))) f2];exact b1
 .rw[jH (.inl (.inr (.inr (.inl rfl)))) f3];exact c1
 .rw[jH (.inl (.inr (.inr (.inr rfl)))) f4];exact d1
 .rw[jH (.inr (.inl rfl)) th];exact t.tab
 .rw[jH (.inr (.inr ⟨q,hq,rfl⟩)) (ch q hq)];exact t.cod q hq
theorem Hd.stepA(h:Hd K (some pL) Hs0 H0 Hs H U Y)(B:Bs K C p d dn un pt l S Hs0 H0)(vis:Same Hs Hs')(sub:Same Hs' H')(c:CRep K C Hs' H' p d dn un' S')(t:LamT H' pt.1 pt.2 l')(th:Hs' pt.1=none)(ch:∀q∈l',Hs' q.2=none)(nu:un'=un\/H un'=none)(nw:∀q∈l',(∃r∈l,r.2=q.2)\/H q.2=none)
  (keep:∀b vs,H b=some (.lst vs)->Hs b=none->b≠p->b≠d->b≠dn->b≠un->H' b=some (.lst vs)/\Hs' b=none)
  (lam:∃l,LamT H' pL.1 pL.2 l/\Hs' pL.1=none/\∀r∈l,Hs' r.2=none):Bs K C p d dn un' pt l' S' Hs' (BR Hs' H' (BsA p d dn un' pt l'))/\Hd K (some pL) Hs' (BR Hs' H' (BsA p d dn un' pt l')) Hs' H' U Y:=by
 refine⟨Bs.core c t th ch,?_⟩;obtain⟨n0,lL,TL,n1,n2⟩:=h.lam pL rfl
 have out:∀b o,H b=some o->H0 b=none->Hs' b=none->BR Hs' H' (BsA p d dn un' pt l') b=none:=λb o e z n=>by
  have ne:=B.cr.oG z;refine vM (λq=>?_) n;rcases q with(q | q | q | q) | q | ⟨r,hr,q⟩
  .exact ne.1 q
  .exact ne.2.1 q
  .exact ne.2.2.1 q
  .rcases nu with w | w
   .exact ne.2.2.2 (q.trans w)
   .rw[q,w] at e;cases e
  .rw[q,B.tb.tab] at z;cases z
  .rcases nw r hr with⟨r',h1,h2⟩ | w
   .rw[q,<- h2,B.tb.cod r' h1] at z;cases z
   .rw[q,w] at e;cases e
 refine h.rebase vis ⟨.refl _,vL sub,sub,λ_ _ _ z=>z⟩ (λb vs e n z=>?_) λq hq=>?_
 .have ne:=B.cr.oG z
  obtain⟨k1,k2⟩:=keep b vs e n ne.1 ne.2.1 ne.2.2.1 ne.2.2.2;exact⟨k1,k2,out b _ e z k2⟩
 .cases hq
  obtain⟨l2,a1,a2,a3⟩:=lam;exact⟨out _ _ TL.tab n0 a2,l2,a1,a2,a3⟩
end
section
variable{K:Zf}{pL pt:Addr×Str}{Hs0 H0 Hs H Hs' H':Hp}{U:Rho}{Y:St}{C p d dn un un':Addr}{S S':Cst}{l lL:List (Pos×Addr)}
theorem CRep.nex(c:CRep K C Hs H p d dn un S){b:Addr}{φ:Heap->Prop}(e:H b=some (.ext φ)):b≠p/\b≠d/\b≠dn/\b≠un:=by
 have:=c.noext e;exact⟨λz=>this (.inl z),λz=>this (.inr (.inl z)),λz=>this (.inr (.inr (.inl z))),λz=>this (.inr (.inr (.inr z)))⟩
theorem vC{P:Addr}{ps:Array Value}{b:Addr}{q:Str}(e:H P=some (ux P ps))(g:H b=some (vW b q)):b≠P:=λz=>by
 subst z;rw[e] at g;exact wk (G3z g)
theorem Hd.cW(h:Hd K (some pL) Hs0 H0 Hs H U Y)(B:Bs K C p d dn un pt l S Hs0 H0)(E:ExtB pt l p d dn un un' Hs H Hs' H')(c:CRep K C Hs' H' p d dn un' S') :
  ∃l' Hb,Bs K C p d dn un' pt l' S' Hs' Hb/\Hd K (some pL) Hs' Hb Hs' H' U Y:=by
 obtain⟨l',t,th,ch⟩:=E.lam;obtain⟨n0,lL,TL,n1,n2⟩:=h.lam pL rfl;have c0:=B.cr.ext h.ext;have tb:=B.tb.same h.ext.all
 have nP:pL.1≠pt.1:=λz=>by rw[z,B.tb.tab] at n0;cases n0
 have kp:∀{b:Addr}{φ:Heap->Prop},H b=some (.ext φ)->b≠pt.1->Hs b=none->H' b=some (.ext φ)/\Hs' b=none:=λ{b φ} e z n=>by
  obtain⟨a1,a2,a3,a4⟩:=c0.nex e;exact⟨E.all b _ e z a1 a2 a3 a4,E.hid b _ e a1 a2 a3 a4 n⟩
 exact⟨l',_,h.stepA B E.vis E.sub c t th (λq hq=>(ch q hq).1) E.nu (λq hq=>(ch q hq).2) (λb vs e n a1 a2 a3 a4=>⟨E.all b _ e (λz=>by rw[z,tb.tab] at e;cases e) a1 a2 a3 a4,E.hid b _ e a1 a2 a3 a4 n⟩)
  ⟨lL,⟨(kp TL.tab nP n1).1,λq hq=>(kp (TL.cod q hq) (vC tb.tab (TL.cod q hq)) (n2 q hq)).1⟩,(kp TL.tab nP n1).2,λq hq=>(kp (TL.cod q hq) (vC tb.tab (TL.cod q hq)) (n2 q hq)).2⟩⟩
theorem Hd.stepT(h:Hd K (some pL) Hs0 H0 Hs H U Y)(B:Bs K C p d dn un pt l S Hs0 H0)(TL:LamT H pL.1 pL.2 lL)(E:ExtB pL lL p d dn un un' Hs H Hs' H')(c:CRep K C Hs' H' p d dn un' S') :
  ∃Hb,Bs K C p d dn un' pt l S' Hs' Hb/\Hd K (some pL) Hs' Hb Hs' H' U Y:=by
 obtain⟨l',t,th,ch⟩:=E.lam;obtain⟨n0,_⟩:=h.lam pL rfl;have c0:=B.cr.ext h.ext;have tb:=B.tb.same h.ext.all
 have nP:pt.1≠pL.1:=λz=>by rw[<- z,B.tb.tab] at n0;cases n0
 have th0:Hs pt.1=none:=h.ext.hid _ _ B.tb.tab B.th;have ch0:∀q∈l,Hs q.2=none:=λq hq=>h.ext.hid _ _ (B.tb.cod q hq) (B.ch q hq)
 have kp:∀{b:Addr}{φ:Heap->Prop},H b=some (.ext φ)->b≠pL.1->Hs b=none->H' b=some (.ext φ)/\Hs' b=none:=λ{b φ} e z n=>by
  obtain⟨a1,a2,a3,a4⟩:=c0.nex e;exact⟨E.all b _ e z a1 a2 a3 a4,E.hid b _ e a1 a2 a3 a4 n⟩
 exact⟨_,h.stepA B E.vis E.sub c ⟨(kp tb.tab nP th0).1,λq hq=>(kp (tb.cod q hq) (vC TL.tab (tb.cod q hq)) (ch0 q hq)).1⟩ (kp tb.tab nP th0).2 (λq hq=>(kp (tb.cod q hq) (vC TL.tab (tb.cod q hq)) (ch0 q hq)).2) E.nu (λq hq=>.inl ⟨q,hq,rfl⟩)
  (λb vs e n a1 a2 a3 a4=>⟨E.all b _ e (λz=>by rw[z,TL.tab] at e;cases e) a1 a2 a3 a4,E.hid b _ e a1 a2 a3 a4 n⟩) ⟨l',t,th,λq hq=>(ch q hq).1⟩⟩
end
abbrev DF:=Addr->Cst->D->Option (Addr×D×Cst)
abbrev RF:=Cst->List D->Option (Sum D Str)
structure GoodT(T:Pg)(F k:Nat)(pt pL:Addr×Str)(C:Addr)(X:Cx)(sc:Scope)(L:LamP)(ms:nF)(fn an:Str)(dF:DF)(aF:RF):Prop where
 s:GoodS (T.cx (aW T F k)) (k+4) X sc
 lc:LCx X pL
 tx:Text X.w X.K X.mg T
 ta:jR X.prog X.w X.K X.mg (k+1) T.exs L.cv L.tn
 tv:rO X.prog X.w X.K X.mg (k+1) L.tn
 co:CaseOk X.prog X.w X.K X.mg k C ms
 cl:Cls X.K C
 dg:sc.names.lookup fn=some .globalImplicit/\(fn==("__debug__":Str))=false
 did:∃a g ps,X.mg fn=some (.ref a)/\W.keepIn X.K (.ref a)=true/\Binds X.K g ps []/\FnOk X.prog X.w X.K X.mg X.base (CX1 X.prog X.w) (k+4) a g ps (IK X.K C pt dF)
 ag:sc.names.lookup an=some .globalImplicit/\(an==("__debug__":Str))=false
 all:∃a g ps,X.mg an=some (.ref a)/\W.keepIn X.K (.ref a)=true/\Binds X.K g ps []/\FnOk X.prog X.w X.K X.mg X.base (CX1 X.prog X.w) (k+4) a g ps (spR X.K C 0 aF)
 cnt:∃ps,bY X.prog X.w X.K X.mg C "counts" ps (k+4) (spR X.K C 0 iz)
structure Wh where
 (C p d dn:Addr) (pt:Addr×Str)
def AtS(X:Cx)(W:Wh)(Hb:Hp)(S:Cst)(U:Rho)(Y:St)(H:Hp):Prop:=∃Hs0 H0 Hs un l,Same Hb Hs/\Bs X.K W.C W.p W.d W.dn un W.pt l S Hs0 H0/\Hd X.K X.lm Hs0 H0 Hs H U Y
def Go(X:Cx)(W:Wh)(ss:List Stmt)(S:Cst)(U:Rho)(Φ:Cst->Rho->Prop):Prop:=∀Hb Y H D0,AtS X W Hb S U Y H->(∀S' U' Y' H',Φ S' U'->X.N=U'.map (·.1)->AtS X W Hb S' U' Y' H'->D0.nx Y' H')->dO X ss D0 Y H
def Chk(X:Cx)(W:Wh)(c:Expr)(S:Cst)(U:Rho)(S':Cst):Prop:=∀Hb Y H (Q:Hp->Prop),AtS X W Hb S U Y H->(∀H',AtS X W Hb S' U Y H'->Q H')->nM X c Y H (λc H'=>c=false/\Q H')
section
variable{X:Cx}{U U':Rho}{T:Pg}{F k:Nat}{sc:Scope}{pL:Addr×Str}{W:Wh}{S S1 S':Cst}{L:LamP}{ms:nF}{fn an:Str}{dF:DF}{aF:RF}{Φ Ψ:Cst->Rho->Prop}{rest:List Stmt}
theorem Hh{Hs0 H0:Hp}{f:Rho->Stmt->Option Fl}{rest:List Stmt}{D0:Ends}{U1:Rho}(hf:∀U s fl,X.N=U.map (·.1)->f U s=some fl->Runs X Hs0 H0 U fl (nZ X s)):∀(pre:List Stmt){U:Rho}{Y:St}{Hs H:Hp},X.N=U.map (·.1)->iT f pre U=some (.nxt U1)->Hd X.K X.lm Hs0 H0 Hs H U Y ->
  (∀Y' Hs' H',Same Hs Hs'->X.N=U1.map (·.1)->Hd X.K X.lm Hs0 H0 Hs' H' U1 Y'->dO X rest D0 Y' H')->dO X (pre++rest) D0 Y H
 | [],U,Y,Hs,H,hN,h,hd,k=>by
  simp only[iT] at h;cases h;exact k Y Hs H (.refl _) hN hd
 | s::r,U,Y,Hs,H,hN,h,hd,k=>by
  simp only[iT] at h;obtain⟨fl,h1,h2⟩:=Option.bind_eq_some_iff.mp h;refine PSs.sem (aL jJ bD) ?_
  cases fl with
  | ret d=>cases h2
  | nxt U'=>exact hf U s _ hN h1 Y H Hs _ hd hN (λU2 Y2 Hs2 H2 q2 sm hN2 h2'=>by cases q2;exact Hh hf r hN2 h2 h2' λY' Hs' H' sm'=>k Y' Hs' H' (sm.trans sm')) (λ_ _ _ _ q=>by cases q)
theorem Go.nil(hN:X.N=U.map (·.1))(h:Φ S U):Go X W [] S U Φ:=λHb Y H D0 a k=>PSs.sem fj (k S U Y H h hN a)
theorem Go.pre(G:GoodT T F k W.pt pL W.C X sc L ms fn an dF aF){pre:List Stmt}(hN:X.N=U.map (·.1))(h:iT (λU s=>DE.st (T.cx (aW T F k)) F F sc U s) pre U=some (.nxt U'))(g:X.N=U'.map (·.1)->Go X W rest S U' Φ):Go X W (pre++rest) S U Φ:=λHb Y H D0 ⟨Hs0,H0,Hs,un,l,a,b,c⟩ q =>
 Hh (Hs0:=Hs0) (H0:=H0) (λU s fl hN h=>yw _ F F G.s hN h) pre hN h c λY1 Hs1 H1 sm hN1 h1=>g hN1 Hb Y1 H1 D0 ⟨Hs0,H0,Hs1,un,l,a.trans sm,b,h1⟩ q
theorem AtS.ev(G:GoodT T F k W.pt pL W.C X sc L ms fn an dF aF)(hN:X.N=U.map (·.1)){Hb:Hp}{Y:St}{H:Hp}(h:AtS X W Hb S U Y H){e:Expr}{d:D}{Q:VK}(he:ev (T.cx (aW T F k)) F sc U e=some d)(q:∀v H' Hs',Same Hb Hs'->Rep X.K Hs' d v->AtS X W Hs' S U Y H'->Q v H'):jy X e Y H Q:=by
 obtain⟨Hs0,H0,Hs,un,l,a,b,c⟩:=h;exact(dh _ F G.s.good hN he).1 Y H Hs _ c.ext.sub c.sh λv H1 Hs1 E1 r1=>q v H1 Hs1 (a.trans E1.vis) r1 ⟨Hs0,H0,Hs1,un,l,.refl _,b,c.step E1⟩
theorem Go.ite(G:GoodT T F k W.pt pL W.C X sc L ms fn an dF aF)(hN:X.N=U.map (·.1)){c:Expr}{t:Bool}{x y:List Stmt}{pos:Pos}(h:ev (T.cx (aW T F k)) F sc U c=some (.bl t))(g:Go X W (bif t then x else y) S U Ψ)(g2:∀S U,X.N=U.map (·.1)->Ψ S U->Go X W rest S U Φ):Go X W (.If c x y pos::rest) S U Φ:=λHb Y H D0 ⟨Hs0,H0,Hs,un,l,a,b,cc⟩ q=>by
 refine PSs.sem (aL (lD dw bD bD) bD) ((dh _ F G.s.good hN h).2 t rfl Y H Hs _ cc.ext.sub cc.sh λH1 Hs1 E1=>?_);have w:AtS X W Hb S U Y H1:=⟨Hs0,H0,Hs1,un,l,a.trans E1.vis,b,cc.step E1⟩
 cases t with
 | true=>exact(P5z rfl).mpr (g Hb Y H1 _ w λS' U' Y' H' z n w'=>g2 S' U' n z Hb Y' H' D0 w' q)
 | false=>exact(Q5z (by simp)).mpr (g Hb Y H1 _ w λS' U' Y' H' z n w'=>g2 S' U' n z Hb Y' H' D0 w' q)
theorem Go.chk{c:Expr}{bd:List Stmt}{pos:Pos}(h:Chk X W c S U S1)(g:Go X W rest S1 U Φ):Go X W (.If c bd [] pos::rest) S U Φ:=λHb Y H D0 a q=>by
 refine PSs.sem (aL (lD dw bD fj) bD) (mQ (h Hb Y H (λH'=>dO X rest D0 Y H') a λH' a'=>g Hb Y H' D0 a' q) λc H' z=>?_);rw[z.1];exact mH z.2
theorem Chk.or{a b:Expr}{pos:Pos}(h:Chk X W a S U S1)(g:Chk X W b S1 U S'):Chk X W (.BoolOp .Or [a,b] pos) S U S':=λHb Y H Q w q=>by
 refine PT.sem (PW.pt (Js dw (Gy dw))) (mQ (h Hb Y H (λH'=>nM X b Y H' (λc H'=>c=false/\Q H')) w λH' a'=>g Hb Y H' Q a' q) λc H' z=>?_);rw[z.1];exact mH z.2
end
section
variable{X:Cx}{U U':Rho}{T:Pg}{F k:Nat}{sc:Scope}{pL:Addr×Str}{W:Wh}{S S1 S':Cst}{L:LamP}{ms:nF}{fn an:Str}{dF:DF}{aF:RF}{Φ Ψ:Cst->Rho->Prop}{rest:List Stmt}{e1 e2 e3:Expr}{x r due:D}{p1 p2 p3:Pos}
theorem Chk.did(G:GoodT T F k W.pt pL W.C X sc L ms fn an dF aF)(hN:X.N=U.map (·.1))(h1:ev (T.cx (aW T F k)) F sc U e1=some (.obj W.p))(h2:ev (T.cx (aW T F k)) F sc U e2=some x)(h3:ev (T.cx (aW T F k)) F sc U e3=some due)
  (hg:dF W.p S x=some (W.p,r,S')) (hc:cmpop .NotEq r due=some (.bl false)):Chk X W (.Compare (.Call (.Name fn p1) [e1,e2] [] p2) [.NotEq] [e3] p3) S U S':=λHb Y H Q ⟨Hs0,H0,Hs,un,l,a0,B,hd⟩ hq=>by
 obtain⟨a,g,ps,m1,m2,m3,FD⟩:=G.did
 have hgl:Gl X fn:=by show X.env.scope.names.lookup fn=_;rw[G.s.good.sce];exact G.dg.1
 obtain⟨hA,hpl⟩:=dU (es:=[e1,e2]) (ds:=[.obj W.p,x]) (X:=X) (U:=U) (λe _ d he=>⟨(dh _ F G.s.good hN he).1,aU he⟩) (by simp[jX,h1,h2]);refine(jC (iZ G.s.good.room G.s.good.kw .NotEq) au au (cJ (aU h3))).sem ?_;refine(dR FD G.s.good.room hgl m1 m2 m3 .nil (E:=E0) oA cR G.dg.2 (aq (hpl e1 (by simp))) (dJ λe' he=>hpl e' (U0z _ he))).sem (hA Y H Hs _ hd.ext.sub hd.sh λvs H1 Hs1 E1 r1=>?_);obtain⟨v,u,rfl,r2,r3⟩:=repL2 r1;cases (show v=.ref W.p by simpa[Rep] using r2);have h1':=hd.step E1;rw[G.lc.lm] at h1';have tb:=B.tb.same h1'.ext.all;refine⟨W.p,W.d,W.dn,un,Hs1,S,S',x,r,u,l,rfl,E1.sub,B.cr.ext h1'.ext,r3,tb,h1'.ext.hid _ _ B.tb.tab B.th,λq hq=>h1'.ext.hid _ _ (B.tb.cod q hq) (B.ch q hq),hg,λv H2 Hs2 un' E2 S2 r4=>?_⟩;obtain⟨l',Hb',B2,h2'⟩:=h1'.cW B E2 S2;refine(dh _ F G.s.good hN h3).1 Y H2 Hs2 _ h2'.ext.sub h2'.sh λw H3 Hs3 E3 r5=>?_;have h3':=h2'.step E3;rw[<- G.lc.lm] at h3';exact⟨Hs3,r,due,_,E3.sub,Rep.same E3.vis r v r4,r5,hc,false,rfl,false,rfl,rfl,hq _ ⟨_,_,Hs3,un',l',a0.trans (E1.vis.trans (E2.vis.trans E3.vis)),B2,h3'⟩⟩
theorem Chk.told(G:GoodT T F k W.pt pL W.C X sc L ms fn an dF aF)(hN:X.N=U.map (·.1))(h1:Km (T.cx (aW T F k)) L ms S F sc U e1=some (W.p,r,S'))(h3:ev (T.cx (aW T F k)) F sc U e3=some due)
  (hc:cmpop .NotEq r due=some (.bl false)):Chk X W (.Compare e1 [.NotEq] [e3] p3) S U S':=λHb Y H Q ⟨Hs0,H0,Hs,un,l,a0,B,hd⟩ hq=>by
 refine(jC (iZ G.s.good.room G.s.good.kw .NotEq) au au (cJ (aU h3))).sem ?_;have hd':=hd;rw[G.lc.lm] at hd';obtain⟨_,lL,TL,n1,n2⟩:=hd'.lam pL rfl;refine oH G.tx G.lc hN G.s.good.sce (G.s.good.room.mono (by omega)) G.ta G.tv G.co (B.cr.ext hd'.ext) h1 hd'.ext.sub hd'.sh TL n1 n2 λv H2 Hs2 un' E2 S2 r4=>?_;obtain⟨Hb',B2,h2'⟩:=hd'.stepT B TL E2 S2;refine(dh _ F G.s.good hN h3).1 Y H2 Hs2 _ h2'.ext.sub h2'.sh λw H3 Hs3 E3 r5=>?_;have h3':=h2'.step E3;rw[<- G.lc.lm] at h3';exact⟨Hs3,r,due,_,E3.sub,Rep.same E3.vis r v r4,r5,hc,false,rfl,false,rfl,rfl,hq _ ⟨_,_,Hs3,un',l,a0.trans (E2.vis.trans E3.vis),B2,h3'⟩⟩
theorem Chk.all{ks ks':List (Sum Int Str)}{ds ds':List D}(G:GoodT T F k W.pt pL W.C X sc L ms fn an dF aF)(hN:X.N=U.map (·.1))(h1:ev (T.cx (aW T F k)) F sc U e1=some (.obj W.p))(h2:ev (T.cx (aW T F k)) F sc U e2=some (.dic ks' ds'))
  (hg:aF S []=some (.inl (.dic ks ds))) (hc:Bd ks ds ks' ds'=true) (z1:∀d∈ds,dep d<=50) (z2:∀d∈ds',dep d<=50) (zk:∀d∈ds,∀d'∈ds',fO d d'=true):Chk X W (.Compare (.Call (.Name an p1) [e1] [] p2) [.NotEq] [e2] p3) S U S:=λHb Y H Q ⟨Hs0,H0,Hs,un,l,a0,B,hd⟩ hq=>by
 obtain⟨a,g,ps,m1,m2,m3,FD⟩:=G.all
 have hgl:Gl X an:=by show X.env.scope.names.lookup an=_;rw[G.s.good.sce];exact G.ag.1
 refine(jC (OD G.s.good.room G.s.good.kw) au au (cJ (aU h2))).sem ?_;refine(dR FD G.s.good.room hgl m1 m2 m3 .nil (E:=E0) oA (aA au aO (aq (aU h1))) G.ag.2 (aq (aU h1)) rfl).sem ((dh _ F G.s.good hN h1).1 Y H Hs _ hd.ext.sub hd.sh λv H1 Hs1 E1 r1=>?_);cases (show v=.ref W.p by simpa[Rep] using r1);have h1':=hd.step E1;refine⟨W.p,W.d,W.dn,un,Hs1,S,[],[],_,rfl,rfl,E1.sub,B.cr.ext h1'.ext,.nil,hg,λv H2 Hs2 E2 r2=>?_⟩;have h2':=h1'.step E2;refine(dh _ F G.s.good hN h2).1 Y H2 Hs2 _ h2'.ext.sub h2'.sh λw H3 Hs3 E3 r5=>?_;exact⟨Hs3,ks,ds,ks',ds',E3.sub,Rep.same E3.vis _ v r2,r5,z1,z2,zk,false,by rw[hc];rfl,rfl,hq _ ⟨_,_,Hs3,un,l,a0.trans (E1.vis.trans (E2.vis.trans E3.vis)),B,h2'.step E3⟩⟩
theorem Chk.cnt(G:GoodT T F k W.pt pL W.C X sc L ms fn an dF aF)(hN:X.N=U.map (·.1))(h1:Ed (T.cx (aW T F k)) F sc U e1=some (W.p,("counts":Str),[]))(h3:ev (T.cx (aW T F k)) F sc U e3=some due)
  (hg:iz S []=some (.inl r)) (hc:cmpop .NotEq r due=some (.bl false)):Chk X W (.Compare e1 [.NotEq] [e3] p3) S U S:=λHb Y H Q ⟨Hs0,H0,Hs,un,l,a0,B,hd⟩ hq=>by
 obtain⟨ps,MO⟩:=G.cnt;have c0:=B.cr.ext hd.ext;refine(jC (iZ G.s.good.room G.s.good.kw .NotEq) au au (cJ (aU h3))).sem (j4 (E:=E0) G.s.good hN G.cl rfl MO G.s.good.room oA h1 hd.ext.sub hd.sh c0 λH1 Hs1 vs E1 r1=>⟨W.p,W.d,W.dn,un,Hs1,S,[],vs,_,rfl,rfl,E1.sub,B.cr.ext (hd.ext.trans E1),r1,hg,λv H2 Hs2 E2 r2=>?_⟩).1;have h2':=(hd.step E1).step E2;refine(dh _ F G.s.good hN h3).1 Y H2 Hs2 _ h2'.ext.sub h2'.sh λw H3 Hs3 E3 r5=>?_;exact⟨Hs3,r,due,_,E3.sub,Rep.same E3.vis r v r2,r5,hc,false,rfl,false,rfl,rfl,hq _ ⟨_,_,Hs3,un,l,a0.trans (E1.vis.trans (E2.vis.trans E3.vis)),B,h2'.step E3⟩⟩
theorem Qk{I:Nat->Cst->Rho->Prop}{tg iter:Expr}{body:List Stmt}{pos:Pos}{Hb:Hp}{Y:St}{H:Hp}{D0:Ends}{l:List D}(G:GoodT T F k W.pt pL W.C X sc L ms fn an dF aF)(hN:X.N=U.map (·.1))(hI:evI (T.cx (aW T F k)) (eY tg) (ev (T.cx (aW T F k)) F sc U) sc iter=some l)
  (hr:∀(i:Nat)(x:D),l[i]?=some x->∀S U,X.N=U.map (·.1)->I i S U->∃U1,fH sc tg x U=some U1/\(X.N=U1.map (·.1)->Go X W body S U1 (I (i+1)))) (h0:I 0 S U) (hd:AtS X W Hb S U Y H)
  (hq:∀S' U' Y' H',I l.length S' U'->X.N=U'.map (·.1)->AtS X W Hb S' U' Y' H'->D0.nx Y' H'):nZ X (.For tg iter body [] pos) D0 Y H:=by
 obtain⟨Hs0,H0,Hs,un,ll,a0,B,hd⟩:=hd;obtain⟨hI',hp⟩:=Av (tg:=tg) (U:=U) G.s.good (λe d h=>⟨(dh _ F G.s.good hN h).1,aU h⟩) hI;refine PS.sem (GQ G.s.pass G.s.good.calm uR lE bD (iW hp)) (hI' Y H Hs _ hd.ext.sub hd.sh λJ H2 Hs2 E2 hJ=>?_)
 let V:Nat->Nat->St->Hp->Prop:=λi m Y H=>m=l.length-i/\i<=l.length/\∃S U,I i S U/\X.N=U.map (·.1)/\AtS X W Hs2 S U Y H
 refine⟨V,⟨l.length,rfl,Z4z _,S,U,h0,hN,Hs0,H0,Hs2,un,ll,.refl _,B,hd.step E2⟩,?_⟩;rintro i m Yi Hi ⟨rfl,hi,Si,Ui,ji,hNi,Hs3,H3,Hs4,un4,l4,sm,B4,h4⟩;obtain⟨stp,go⟩:=hJ Hs4 Hi sm h4.ext.sub
 by_cases hlt:i<l.length
 .have hx:=List.getElem?_eq_getElem hlt
  obtain⟨g1,g2⟩:=go i _ hx;refine .inr ⟨g1,λY' H'=>V (i+1) (l.length-(i+1)) Y' H',λY' H' w=>⟨_,by omega,w⟩,λx H' y=>?_⟩;obtain⟨Hs5,E5,rx⟩:=g2 x H' y;have h5:=h4.step E5;obtain⟨U1,b1,b2⟩:=hr i _ hx Si Ui hNi ji;refine uo G.s.good.calm G.s.own G.s.good.nd h5.ext.sub hNi (j5 (Hs0:=Hs3) (H0:=H3) (H:=H')) b1 h5 rx λY' hN2 h6=>?_;exact b2 hN2 Hs2 Y' H' _ ⟨Hs3,H3,Hs5,un4,l4,sm.trans E5.vis,B4,h6⟩ λS' U' Y7 H7 j' n' a'=>⟨rfl,hlt,S',U',j',n',a'⟩
 .have hi':i=l.length:=by omega
  subst hi';exact .inl ⟨stp,hq Si Ui Yi Hi ji hNi ⟨Hs3,H3,Hs4,un4,l4,a0.trans (E2.vis.trans sm),B4,h4⟩⟩
end
end L2
namespace L2
open PySem PySem.Spec PyProof.Rows
def uH(K:Zf)(l:List Addr):Sp:=λvs H Q _=>∃(a:Addr)(ns:List Int),vs=[.ref a]/\SqL K H a (ns.map V.int)/\ns.length<=63/\(∀P∈l,H P=some (ux P #[]))/\∀H':Hp,(∀P∈l,∃ps,H' P=some (ux P ps))->Q (.bl true) H'
def tbs(l:List Addr)(H:Hp):Hp:=λb=>if b∈l then some (ux b #[]) else H b
section
variable{l:List Addr}{H:Hp}{b:Addr}
theorem Gk(h:b∈l):tbs l H b=some (ux b #[]):=P5z h
theorem kY(h:b∉l):tbs l H b=H b:=Q5z h
end
theorem zP{P:Program}{w:World}{K:Zf}{mg mb:Str->Option Value}{k:Nat}{fa a:Addr}{cs:List (Addr×Addr)}{fd:FuncData}{x:Str}{s₁:Shared}{vs:List Value}{ns:List Int}
  (KX:K.In s₁.heap) (hns:s₁.heap.Ns mainGlobals mg) (hb:s₁.heap.Ns builtinsNs mb) (hbb:∀x:Str,x≠"__name__"->mb x=bootBuiltins x) (hlim:s₁.heap.NoLimit) (hg:s₁.gens = #[])
  (ha:s₁.heap.get? a=some {cls:=.type "list",data:=.seq vs.toArray}) (hi:IntsAre vs ns) (hl:ns.length<=63) (hr:Room k callerA)
  (hT:∀q∈cs,s₁.heap.get? q.2=some (W.tabObj #[])/\K.lookup q.2=none/\W.CodeHd s₁.heap q.1 q.2/\s₁.heap.BuiltinsAt mg q.2)
  (F:∀base:Heap,K.In base->base.Ns mainGlobals mg->(∀q∈cs,W.CodeHd base q.1 q.2/\base.BuiltinsAt mg q.2)->FnOk P w K mg base CX0 k fa fd [x] (uH K (cs.map (·.2)))) (hbind:∀(s:Shared)(u:Value),BindsTo s fd ⟨[u],[]⟩ [(x,u)]) :
  codeAny (model P w) callerA (.call (.ref fa) ⟨[.ref a],[]⟩) (λr s'=>r=.ok (.ret (.bool true))/\OldK s₁.heap s'.heap/\s'.os=s₁.os/\AllBare s'.gens) s₁:=by
 have rv:=pN hi;have lenV:=hi.length
 have hT1:∀b∈cs.map (·.2),s₁.heap.get? b=some (W.tabObj #[]):=λb hb=>by
  obtain⟨q,hq,rfl⟩:=List.mem_map.mp hb;exact(hT q hq).1
 have naP:a∉cs.map (·.2):=λz=>by rw[hT1 a z] at ha;cases ha
 have core:∀H0:Hp,Only H0->SqL K H0 a (ns.map V.int)->HOk P w H0 s₁.heap->(∀b,H0 b≠none->b=a)->(H0 a≠none->K.lookup a=none) ->
   codeAny (model P w) callerA (.call (.ref fa) ⟨[.ref a],[]⟩) (λr s'=>r=.ok (.ret (.bool true))/\OldK s₁.heap s'.heap/\s'.os=s₁.os/\AllBare s'.gens) s₁:=by
  intro H0 hO hS hok hA hK
  have up:∀{b u},H0 b=some u->tbs (cs.map (·.2)) H0 b=some u:=λ{b u} e=>by
   have:b=a:=hA b (by rw[e];simp)
   rw[kY (this▸naP)];exact e
  have hokH:HOk P w (tbs (cs.map (·.2)) H0) s₁.heap:=λb u e=>by
   by_cases hb:b∈cs.map (·.2)
   .rw[Gk hb] at e;cases e;exact Gm (hT1 b hb)
   .rw[kY hb] at e
    exact(hok b u e).stay (λc v _ q=>q) (λc q=>up q) λc zs q=>up q
  have hSH:SqL K (tbs (cs.map (·.2)) H0) a (ns.map V.int):=by
   rcases hS with(e | ⟨o,e⟩) | e
   .exact .inl (.inl (up e))
   .exact .inl (.inr ⟨o,up e⟩)
   .exact .inr e
  have noH:∀{b:Addr},b∉cs.map (·.2)->b≠a->(tbs (cs.map (·.2)) H0) b=none:=λ{b} h1 h2=>by
   rw[kY h1]
   cases q:H0 b with
   | none=>rfl
   | some u=>exact absurd (hA b (by rw[q];simp)) h2
  have un_of:∀{b:Addr}{o:Obj},s₁.heap.get? b=some o->(tbs (cs.map (·.2)) H0) b=none->(xg s₁.heap (tbs (cs.map (·.2)) H0)).get? b=some o:=λe n=>vd e n;have nsK:∀{b:Addr}{m:Str->Option Value},s₁.heap.Ns b m->(xg s₁.heap (tbs (cs.map (·.2)) H0)).Ns b m:=λ{b m} ⟨o,es,ep,e,d,r⟩=>⟨o,es,ep,un_of e (noH (λz=>by rw[hT1 b z] at e;cases e;cases d) (λz=>by rw[z,ha] at e;cases e;cases d)),d,r⟩
  have hKb:K.In (xg s₁.heap (tbs (cs.map (·.2)) H0)):=λb o e=>un_of (KX b o e) (by
   have hbP:b∉cs.map (·.2):=λz=>by
    obtain⟨q,hq,rfl⟩:=List.mem_map.mp z;rw[(hT q hq).2.1] at e;cases e
   rw[kY hbP]
   cases q:H0 b with
   | none=>rfl
   | some u =>
    have e':b=a:=hA b (by rw[q];simp)
    subst e'
    rw[hK (by rw[q];simp)] at e;cases e)
  have hM:Mod K mg (xg s₁.heap (tbs (cs.map (·.2)) H0)):=⟨hKb,nsK hns,⟨mb,nsK hb,hbb⟩,let ⟨mc,h1,h2⟩:=hlim;⟨mc,nsK h1,h2⟩⟩
  have e0:Env0 P w K mg (xg s₁.heap (tbs (cs.map (·.2)) H0)) callerA [] s₁ (tbs (cs.map (·.2)) H0):=⟨rfl,hM,λb o e=>zE e,Nat.le_of_eq (qH _ _),trivial,λb hb=>absurd (show b∈([]:List Addr) from hb) (by simp),hokH,.of_eq hg⟩
  have hCb:∀q∈cs,W.CodeHd (xg s₁.heap (tbs (cs.map (·.2)) H0)) q.1 q.2/\(xg s₁.heap (tbs (cs.map (·.2)) H0)).BuiltinsAt mg q.2:=λq hq=>by
   obtain⟨t1,t2,⟨o,vs',file,tf,flags,tg,inF,text,tt,e1,e2,r⟩,⟨bm,ob,b1,b2,b3,b4,b5,b6,b7,b8⟩⟩:=hT q hq
   exact⟨⟨o,vs',file,tf,flags,tg,inF,text,tt,un_of e1 (noH (λz=>by rw[hT1 _ z] at e1;cases e1;cases e2) (λz=>by rw[z,ha] at e1;cases e1;exact absurd (show Value.type "list"=Value.type "code" from e2) (by decide))),e2,r⟩,
    ⟨bm,ob,b1,b2,b3,b4,un_of b5 (noH (λz=>by rw[hT1 _ z] at b5;cases b5;cases b6) (λz=>by rw[z,ha] at b5;cases b5;exact absurd (show Value.type "list"=Value.type "module" from b6) (by decide))),b6,b7,b8⟩⟩
  refine S4z ((F _ hKb (nsK hns) hCb).run callerA [] s₁ _ ⟨[.ref a],[]⟩ [.ref a] [.ref a] (λv H'=>v=.bl true/\∀P∈cs.map (·.2),∃ps',H' P=some (ux P ps')) (λ_ _ _=>False) hr e0 (hbind s₁ (.ref a)) (.cons rfl .nil) ⟨a,ns,rfl,hSH,hl,λP h=>Gk h,λH' e=>⟨rfl,e⟩⟩) λr s' h=>?_
  cases r with
  | error e=>exact False.elim h
  | ok fl =>
   cases fl with
   | next=>exact False.elim h
   | brk=>exact False.elim h
   | cont=>exact False.elim h
   | ret u =>
    obtain⟨v,H',os,bare,un,hok',r',q,hps⟩:=h;subst q;obtain rfl:u=Value.bool true:=r'
    have keep:∀b o,s₁.heap.get? b=some o->b∉cs.map (·.2)->s'.heap.get? b=some o:=λb o e hbP=>by
     by_cases hba:b=a
     .subst hba
      rcases hO b with z | ⟨ob,zs,z⟩
      .exact un.keep b o e (by rw[kY hbP];exact z) (by intro z;exact absurd (show b∈([]:List Addr) from z) (by simp)) (by simp)
      .have z2:=un.frzs b ob _ (up z)
       obtain⟨e1,_⟩:=hok b _ z;obtain⟨e2,_⟩:=hok' b _ z2;rw[e] at e1;cases e1;exact e2
     .exact un.keep b o e (noH hbP hba) (by intro z;exact absurd (show b∈([]:List Addr) from z) (by simp)) (by simp)
    have tb:∀b o,s₁.heap.get? b=some o->b∈cs.map (·.2)->o=W.tabObj #[]/\(∃c,W.CodeHd s₁.heap c b)/\∃ps',s'.heap.get? b=some (W.tabObj ps'):=λb o e h=>by
     obtain⟨ps',e'⟩:=hps b h;rw[hT1 b h] at e;cases e;obtain⟨q,hq,rfl⟩:=List.mem_map.mp h;exact⟨rfl,⟨q.1,(hT q hq).2.2.1⟩,ps',(hok' _ _ e').1⟩
    refine⟨rfl,⟨λb o e=>?_,λb o e=>?_⟩,os,bare⟩
    .by_cases hbP:b∈cs.map (·.2)
     .obtain⟨rfl,⟨c,hc⟩,ps',hPt⟩:=tb b o e hbP
      exact .inr (.inl ⟨(hc.tab e).isCodeTable,rfl,#[],ps',rfl,by rw[hPt];simp⟩)
     .exact .inl (keep b o e hbP)
    .by_cases hbP:b∈cs.map (·.2)
     .obtain⟨_,_,ps',hPt⟩:=tb b o e hbP
      exact⟨_,hPt⟩
     .exact⟨o,keep b o e hbP⟩
 cases hk:K.lookup a with
 | some o =>
  have e:=KX a o hk;rw[ha] at e;cases e;refine core (λ_=>none) (λ_=>.inl rfl) (.inr ⟨_,vs.toArray,_,hk,rfl,rfl,rfl,by rw[D2z,lenV];exact P4z hl (by decide),by simpa using rv⟩) (λb u z=>by have z':(none:Option HO)=some u:=z;cases z') (λb z=>absurd rfl z) λz=>absurd rfl z
 | none =>
  refine core (λb=>if b=a then some (.frz {cls:=.type "list",data:=.seq vs.toArray} (.lst (ns.map V.int))) else none) (λb=>?_) (.inl (.inr ⟨{cls:=.type "list",data:=.seq vs.toArray},P5z rfl⟩)) (λb u z=>?_) (λb z=>?_) λ_=>hk
  .by_cases hb:b=a
   .exact .inr ⟨_,_,P5z hb⟩
   .exact .inl (Q5z hb)
  .by_cases hb:b=a
   .have z':=(P5z hb).symm.trans z
    cases z';subst hb;exact⟨ha,by rw[I3z];exact P4z hl (by decide),vs,_,rv,ha⟩
   .have z':=(Q5z hb).symm.trans z
    cases z'
  .by_cases hb:b=a
   .exact hb
   .exact absurd (Q5z hb) z
theorem walkN{l:W.OpenLaw}{k:Nat}{q:Program}{loose:List Str}{XP:(Str->Option Value)->Heap->Prop}{YP:World->Heap->Prop}{d:DefRec}{K:Params->Zf}{x:Str}{cs:List (Addr×Addr)}
    (hn:l.most=some 63) (hdf:d.params.defaults=[]) (hr:Room k callerA)
    (hY:∀(w:World)(h:Heap),YP w h->(K w.params).In h/\∀q∈cs,h.get? q.2=some (W.tabObj #[])) (hKP:∀P,∀q∈cs,(K P).lookup q.2=none/\W.codeHdIn (K P) q.1 q.2=true)
    (F:∀(w:World)(mg:Str->Option Value)(fa:Addr)(h:Heap),(K w.params).In h->h.Ns mainGlobals mg->mg d.name=some (.ref fa) ->
      ∃fd:FuncData, (∀(s:Shared)(u:Value), BindsTo s fd ⟨[u], []⟩ [(x, u)]) /\
        ∀base:Heap,(K w.params).In base->base.Ns mainGlobals mg->(∀q∈cs,W.CodeHd base q.1 q.2/\base.BuiltinsAt mg q.2)->FnOk l.prog w (K w.params) mg base CX0 k fa fd [x] (uH (K w.params) (cs.map (·.2)))) :
    W.WalkO q loose XP YP l.row.toRowW d [] (λf vs=>PySem.call f vs):=by
  refine Att.ur hn hdf λw s₀ s₁ mg mb fa o pm cd doc a vs ns G Y ho hd hcd hmg hobj hints hlen hg=>?_
  obtain⟨KX,hT⟩:=hY w _ Y
  obtain⟨fd,hb,hF⟩:=F w mg fa _ KX G.T.g hmg
  obtain⟨bm,ob,b1,b2,b3,b4,b5,b6⟩:=G.T.bmain
  have hbG:bm≠mainGlobals:=λz=>by
    obtain⟨o,es,ep,e,hd,_⟩:=G.T.g
    rw[z,e] at b3;cases b3;rw[hd] at b6;cases b6
  refine zP KX G.T.g G.T.b G.T.builtins G.T.nolimit hg hobj hints hlen hr (λq hq=>⟨hT q hq,(hKP _ q hq).1,W.codeHd_of_K KX (hKP _ q hq).2,⟨bm,ob,b1,b2,hbG,λz=>?_,b3,b4,b5,b6⟩⟩) hF hb
  rw[z,hT q hq] at b3;cases b3;cases b4
end L2
namespace L2
open PySem PySem.Spec PyProof.Rows
open DE hiding st
section
variable{K:Zf}{pL pt:Addr×Str}{Hs0 H0 Hs H H':Hp}{U:Rho}{Y:St}{C p d dn un:Addr}{S:Cst}
theorem Hd.stepM(h:Hd K (some pL) Hs0 H0 Hs H U Y)(all:Same H H')(n1:H p=none)(n2:H d=none)(n3:H dn=none)(n4:H un=none)(c:CRep K C Hs H' p d dn un S)(t:LamT H pt.1 pt.2 [])(th:Hs pt.1=none)(nP:pL.1≠pt.1) :
  ∃Hb,Bs K C p d dn un pt [] S Hs Hb/\Hd K (some pL) Hs Hb Hs H' U Y:=by
 have sub:Same Hs H':=h.ext.sub.trans all;refine⟨_,Bs.core c (t.same all) th (λq hq=>nomatch hq),?_⟩
 have out:∀{b o},H b=some o->b≠pt.1->Hs b=none->BR Hs H' (BsA p d dn un pt []) b=none:=λ{b o} e z n=>vM (λq=>by
  rcases q with(rfl | rfl | rfl | rfl) | q | ⟨r,hr,_⟩
  .rw[n1] at e;cases e
  .rw[n2] at e;cases e
  .rw[n3] at e;cases e
  .rw[n4] at e;cases e
  .exact z q
  .cases hr) n
 refine h.rebase (.refl _) ⟨.refl _,vL sub,sub,λ_ _ _ z=>z⟩ (λb vs e n _=>⟨all b _ e,n,out e (λz=>by rw[z,t.tab] at e;cases e) n⟩) λq hq=>?_
 cases hq;obtain⟨_,l,T,m1,m2⟩:=h.lam _ rfl;exact⟨out T.tab nP m1,l,T.same all,m1,m2⟩
end
set_option genInjectivity false in
structure LawX where
 (ns:List Expr) (e2 e3 e4 tg iter e9:Expr) (loop:List Stmt) (kt k2:Nat) (r3 r4 r5 r7 r8 r9 t3:Pos)
def LawX.body(L:LawX):List Stmt:=[.Assign [.Tuple L.ns L.kt L.r3] (.Tuple [.Call (.Name "Case" L.r4) [] [] L.r5,L.e2,L.e3,L.e4] L.k2 L.r7) L.r8,.For L.tg L.iter L.loop [] L.r9,.Return (some L.e9) L.t3]
structure LawY(T:Pg)(F k:Nat)(X:Cx)(W:Wh)(sc:Scope)(L:LawX)(Us:Rho):Prop where
 ex:∃(d2 d3 d4:D)(l:List D)(U0:Rho)(I:Nat->Cst->Rho->Prop),ev (T.cx (aW T F k)) F sc Us L.e2=some d2/\ev (T.cx (aW T F k)) F sc Us L.e3=some d3/\ev (T.cx (aW T F k)) F sc Us L.e4=some d4/\bindNames sc L.ns [.obj W.p,d2,d3,d4] Us=some U0 /\
  evI (T.cx (aW T F k)) (eY L.tg) (ev (T.cx (aW T F k)) F sc U0) sc L.iter=some l/\I 0 ⟨[],[],[]⟩ U0/\(∀(i:Nat)(x:D),l[i]?=some x->∀S U,X.N=U.map (·.1)->I i S U->∃U1,fH sc L.tg x U=some U1/\(X.N=U1.map (·.1)->Go X W L.loop S U1 (I (i+1)))) /\
  ∀S U,I l.length S U->ev (T.cx (aW T F k)) F sc U L.e9=some (.bl true)
section
variable{P:Program}{w:World}{K:Zf}{mg:Str->Option Value}{base:Heap}{T:DE.Pg}{F k:Nat}
theorem Kh{fd:Fd}{t:Stmt}{f c Pt:Addr}{pt:Addr×Str}{nm qn:Str}{dV kV doc pm ct oc:Value}{an od:Option Addr}{osl:Array (Option Value)}{C fI:Addr}{fdI:FuncData}{L:LawX}{LP:LamP}{ms:nF}{fn al:Str}{dF:DF}{aF:RF}(Tx:Text w K mg T)(lk:K.lookup f=some ⟨oc,od,.func (PySem.W.fnOf nm nm (bQ t) (aM t) (ao t) dV kV doc pm an (.ref c) ct),osl⟩)(hcd:PySem.W.codeIn K (.ref c) nm=true)
    (hb:aM t=L.body) (hs:fd.sc=ao t) (S:FnScope fd.N fd.ps fd.sc) (h1:fd.ps.length=1) (hC:PySem.W.CodeHd base c Pt) (hbm:base.BuiltinsAt mg Pt) (hqn:∀n a,qn=(envOfC nm (ao t) n a (.ref c)).qual++"<lambda>") (nP:Pt≠pt.1)
    (TA:jR P w K mg (k+1) T.exs LP.cv LP.tn) (TV:rO P w K mg (k+1) LP.tn) (CO:CaseOk P w K mg k C ms) (cl:Cls K C)
    (dg:fd.sc.names.lookup fn=some .globalImplicit/\(fn==("__debug__":Str))=false) (did:∃a g ps,mg fn=some (.ref a)/\PySem.W.keepIn K (.ref a)=true/\Binds K g ps []/\FnOk P w K mg base (CX1 P w) (k+4) a g ps (IK K C pt dF))
    (ag:fd.sc.names.lookup al=some .globalImplicit/\(al==("__debug__":Str))=false) (all:∃a g ps,mg al=some (.ref a)/\PySem.W.keepIn K (.ref a)=true/\Binds K g ps []/\FnOk P w K mg base (CX1 P w) (k+4) a g ps (spR K C 0 aF))
    (cnt:∃ps,bY P w K mg C "counts" ps (k+4) (spR K C 0 iz))
    (hmg:mg "Case"=some (.ref C)) (hgl:fd.sc.names.lookup ("Case":Str)=some .globalImplicit) (MK:Mk K C fI) (bI:Binds K fdI ["self"] []) (FI:FnOk P w K mg base (CX1 P w) 1 fI fdI ["self"] (M82.Gu K C)) (hw:∀env:Env,swappedStores [.Tuple L.ns L.kt L.r3] (.Tuple [.Call (.Name "Case" L.r4) [] [] L.r5,L.e2,L.e3,L.e4] L.k2 L.r7) env=pure none)
    (hlaw:∀ns:List Int,ns.length<=63->∀(X:Cx)(W:Wh),W.pt=pt->X.N=fd.N->GoodT T F k W.pt (Pt,qn) W.C X fd.sc LP ms fn al dF aF->LawY T F k X W fd.sc L (bH fd [.lst (ns.map D.int)])) :
    FnOk P w K mg base CX0 (k+5) f (PySem.W.fnOf nm nm (bQ t) (aM t) (ao t) dV kV doc pm an (.ref c) ct) fd.ps (uH K [Pt,pt.1]):=by
  refine KJ (N:=fd.N) lk hcd (by rw[<- hs];exact S) (λvs H Q E h=>by obtain⟨a,ns,rfl,_⟩:=h;rw[h1];rfl) λA outer s H vs Q E hr h=>?_
  obtain⟨a,ns,rfl,hS,hl,hP,hq⟩:=h
  have hP1:=hP Pt (by simp)
  have hP2:=hP pt.1 (by simp)
  let X0:=eO CX0 P w K mg base fd.N nm (ao t) f (.ref c) A outer s H E
  let X:=X0.nox.relm (some (Pt,qn))
  have GS:GoodS (T.cx (aW T F k)) (k+4) X fd.sc :=
           { good:=oK Tx (by omega) rfl hr hs.symm S.kind S.nd
             own:=⟨λx hx=>⟨by
               unfold ownIn at hx
               rw[R3z] at hx
               show(ao t).names.lookup x=_\/(ao t).names.lookup x=_
               rw[<- hs]
               exact hx.imp (λq=>by simpa using q) (λq=>by simpa using q),.inl rfl⟩⟩
             pass:=PassesOwn.never
             stk:=⟨rfl,rfl⟩ }
  have GT:GoodT T F k pt (Pt,qn) C X fd.sc LP ms fn al dF aF:=⟨GS,⟨rfl,hqn _ _,⟨c,rfl,hC⟩,hbm,rfl,λ_=>rfl⟩,Tx,TA,TV,CO,cl,dg,did,ag,all,cnt⟩
  let Hd0:Hp:=del (del H Pt) pt.1
  have dn1:Hd0 Pt=none:=(fL nP).trans jj
  have dn2:Hd0 pt.1=none:=jj
  have sub0:Same Hd0 H:=λb o e=>(oY (oY e).1).1
  have up0:∀{b:Addr}{o:HO},H b=some o->(∀u,o≠.ext u)->Hd0 b=some o:=λ{b o} e n=>by
    show del (del H Pt) pt.1 b=_
    rw[fL (λz=>by rw[z,hP2] at e;cases e;exact n _ rfl),fL (λz=>by rw[z,hP1] at e;cases e;exact n _ rfl)]
    exact e
  have rl:aJ K Hd0 [.lst (ns.map D.int)] [.ref a]:=by
    refine .cons ?_ .nil
    simp only[Rep]
    refine⟨a,ns.map V.int,rfl,?_,uM (λx=>by simp[Rep]) ns⟩
    rcases hS with(e | ⟨o,e⟩) | e
    . exact .inl (.inl (up0 e λu z=>nomatch z))
    . exact .inl (.inr ⟨o,up0 e λu z=>nomatch z⟩)
    . exact .inr e
  obtain⟨s1,s2,s3⟩:=fU S (ds:=[.lst (ns.map D.int)]) (by rw[h1];rfl) rl
  have noow:∀(i:Nat)(x:Str)(ds':List D),(bH fd [.lst (ns.map D.int)])[i]?=some (x,.ow ds')->False:=λi x ds' e=>by
    rcases s3 i x _ e with q | ⟨d',v,q,q1,q2⟩
    . cases q
    . cases q
  have hd:Hd K (some (Pt,qn)) Hd0 Hd0 Hd0 H (bH fd [.lst (ns.map D.int)]) (start fd.N [.ref a]):=by
    refine⟨⟨.refl _,sub0,sub0,λ_ _ _ z=>z⟩,s2,λi x d e=>?_,λi x ds' e=>(noow i x ds' e).elim,λi j x y ds' es a' _ e=>(noow i x ds' e).elim,(λi x dss e=>by
      rcases s3 i x _ e with q | ⟨d',v,q,q1,q2⟩
      . cases q
      . cases q),λp' hp'=>?_⟩
    . rcases s3 i x _ e with q | ⟨d',v,q,q1,q2⟩
      . cases q
      . cases q
        exact⟨v,q1,q2⟩
    . cases hp'
      exact⟨dn1,[],⟨by rw[hP1];rfl,λq hq=>nomatch hq⟩,dn1,λq hq=>nomatch hq⟩
  refine⟨λD Y H=>∀z0 s0,Inv X z0 Y H s0->wpAny (model X.prog X.w) X.A (execs (aM t) X.env) (SP X z0 D) X.xe s0,λz0 s0 Y H1 D I h=>?_,?_⟩
  . exact D5z (h z0 s0 ((I.wish _).relm _)) (λfl s' z=>z.unrelm.unwish) λ_ _ z=>False.elim z
  . rw[hb]
    refine PSs.sem (aL jJ (aL jJ (aY (cN au)))) ?_
    obtain⟨d2,d3,d4,l0,U0,I0,v2,v3,v4,hB,hI,hI0,hgo,hend⟩:=(hlaw ns hl X ⟨C,0,0,0,pt⟩ rfl rfl GT).ex
    refine PS.sem (GR (qt (aA (Dq MK FI (hr.mono (by omega)) (by show(ao t).names.lookup ("Case":Str)=_;rw[<- hs];exact hgl) hmg bI .nil oA) (aA au (aA au (aA au aO (aq (aU v4))) (aq (aU v3))) (aq (aU v2))) rfl)) lE rfl (hw _)) ?_
    clear v2 v3 v4 hB hI hI0 hgo hend d2 d3 d4 l0 U0 I0
    intro b dx hbn hdn hne
    have fr:∀q,(upd (upd H dx (.own b)) b (.ins C dx [])) q=none->H q=none:=λq e=>by
      by_cases q1:q=b
      . subst q1;exact hbn
      . rw[aj q1] at e
        by_cases q2:q=dx
        . subst q2;exact hdn
        . rwa [aj q2] at e
    have up:∀q o,H q=some o->(upd (upd H dx (.own b)) b (.ins C dx [])) q=some o:=λq o e=>by
      rw[aj (ak e hbn),aj (ak e hdn)];exact e
    refine⟨b,dx,Hd0,rfl,aB,λq o e=>up q o (sub0 q o e),sub0.free hbn,λd dn un H2 CR n1 n2 n3 keep=>⟨rfl,?_⟩⟩
    have all':Same H H2:=λq o e=>keep q o (up q o e) (ak e hbn)
    obtain⟨Hb,B,h2⟩:=hd.stepM (pt:=pt) (p:=b) (d:=d) (dn:=dn) (un:=un) all' hbn (fr _ n1) (fr _ n2) (fr _ n3) CR ⟨by rw[hP2];rfl,λq hq=>nomatch hq⟩ dn2 nP
    obtain⟨d2,d3,d4,l0,U0,I0,v2,v3,v4,hB,hI,hI0,hgo,hend⟩:=(hlaw ns hl X ⟨C,b,d,dn,pt⟩ rfl rfl GT).ex
    refine(dh _ F GS.good s1 v2).1 _ _ _ _ h2.ext.sub h2.sh λu2 H3 Hs3 E3 r3=>?_
    have h3:=h2.step E3
    refine(dh _ F GS.good s1 v3).1 _ _ _ _ h3.ext.sub h3.sh λu3 H4 Hs4 E4 r4=>?_
    have h4':=h3.step E4
    refine(dh _ F GS.good s1 v4).1 _ _ _ _ h4'.ext.sub h4'.sh λu4 H5 Hs5 E5 r5=>?_
    have h5:=h4'.step E5
    refine⟨show 4<=sizeLine by decide,λq hqn=>?_⟩
    refine fX (X:=X) (Q:=λx H1=>Hl X (.Tuple L.ns L.kt L.r3) x (start fd.N [.ref a]) H1 _) (ds:=[.obj b,d2,d3,d4]) h5.ext.sub (.cons (show Rep K Hs5 (.obj b) (.ref b) by simp[Rep]) (.cons (Rep.same (E4.vis.trans E5.vis) _ _ r3) (.cons (Rep.same E5.vis _ _ r4) (.cons r5 .nil)))) hqn λu6 H6 Hs6 E6 r6=>?_
    have h6:=h5.step E6
    refine nj (X:=X) (cx:=T.cx (aW T F k)) (k:=k+4) (sc:=fd.sc) GS h6.ext.sub s1 j5 (d:=.tup [.obj b,d2,d3,d4]) rfl hB h6 r6 λY' hN2 h7=>?_
    refine Qk (W:=⟨C,b,d,dn,pt⟩) (Hb:=λ_=>none) GT hN2 hI hgo hI0 ⟨Hd0,Hb,Hs6,un,[],(λ_ _ z=>nomatch z),B,h7⟩ λS' U' Y8 H8 j8 hN8 a8=>?_
    refine AtS.ev GT hN8 a8 (hend S' U' j8) λv H9 Hs9 _ r9 ⟨A1,A2,A3,un9,l9,_,B9,h9⟩=>?_
    cases (show v=.bl true by simpa[Rep] using r9)
    refine hq H9 λP' hP'=>?_
    rcases L4z.mp hP' with rfl | hP'
    . obtain⟨_,lL,TL,_⟩:=h9.lam _ rfl
      exact⟨_,TL.tab⟩
    . cases Z1z.mp hP'
      exact⟨_,(B9.tb.same h9.ext.all).tab⟩
end
end L2
namespace M82
open PySem DE
theorem all2{α:Type}{f g:Nat->α}{n:Nat}(h:(List.range n).map f=(List.range n).foldr (λi l=>g i::l) []){i:Nat}(hi:i<n):f i=g i:=by
 rw[<- List.map_eq_foldr] at h;exact List.map_inj_left.mp h i (List.mem_range.mpr hi)
set_option maxHeartbeats 4000000 in
theorem Ug(k:Nat){m n:Nat}{f:Nat->Nat->Int}(hm:m<8)(hn:n<8):aV T 60 (k+3) "has_table_form" [tbl (m+1) (n+1) f]=some (.bl (decide (m<4)&&decide (n<4))) :=
 all2 (f:=λn=>aV T 60 (k+3) "has_table_form" [tbl (m+1) (n+1) f]) (g:=λn=>some (.bl (decide (m<4)&&decide (n<4)))) (all2 (f:=λm=>(List.range 8).map λn=>aV T 60 (k+3) "has_table_form" [tbl (m+1) (n+1) f]) (g:=λm=>(List.range 8).foldr (λn l=>some (.bl (decide (m<4)&&decide (n<4)))::l) []) (by rfl') hm) hn
theorem vf(k:Nat){m n:Nat}{f:Nat->Nat->Int}(h1:1<=m)(h2:m<=8)(h3:1<=n)(h4:n<=8):aV T 60 (k+3) "has_table_form" [tbl m n f]=some (.bl (decide (m<=4)&&decide (n<=4))):=by
 obtain⟨m,rfl⟩:∃m',m=m'+1:=⟨m-1,by omega⟩;obtain⟨n,rfl⟩:∃n',n=n'+1:=⟨n-1,by omega⟩;exact Ug k (by omega) (by omega)
theorem need_table(k:Nat){m n:Nat}{f:Nat->Nat->Int}(h1:1<=m)(h2:m<=4)(h3:1<=n)(h4:n<=4):aV T 60 (k+4) "need_table" [tbl m n f]=some .non:=by
 refine Ie (fd:=aZ (top 19)) rfl rfl (fM (M8 ?_) gR);have:=vf k (f:=f) h1 (by omega) h3 (by omega);rw[Y3z h2,Y3z h4] at this;refine' bf ?L82a_1a ?L82a_1b ?L82a_1c;(case L82a_1a=>rfl);(case L82a_1b=>walk_at "xm");(case L82a_1c=>exact this)
def within(l m i:Int):Bool:=decide (l<=i)&&decide (i<=m)
theorem lU(k:Nat){i l m:Int}:aV T 60 (k+2) "is_whole_within" [.int i,.int l,.int m]=some (.bl (within l m i)):=by
 refine fQ (fd:=aZ (top 14)) rfl rfl (fK (jA (vZ ?_ (Cp ?_))))
 .exact bf rfl (by walk_at "xm") (show aV T 60 (k+1) "is_whole" [.int i]=some (.bl true) by rfl')
 .by_cases h1:l<=i
  .have e:within l m i=decide (i<=m):=by simp[within,h1]
   rw[e];exact RB (by nofun) (by nofun) (oLe h1) (by nofun) Wr
  .have e:within l m i=false:=by simp[within,h1]
   rw[e];exact RD (by nofun) (by nofun) (Wo h1)
theorem uZ{m:Nat}{h:Nat->D}{x:D}(hx:x∈Ls m h):∃i,i<m/\x=h i:=by
 unfold Ls at hx;obtain⟨i,hi,rfl⟩:=List.mem_map.mp hx;exact⟨i,List.mem_range.mp hi,rfl⟩
theorem column_of(k:Nat){m n j:Nat}{f:Nat->Nat->Int}(hj:j<n)(h2:m<=4):aV T 60 (k+1) "column_of" [tbl m n f,.int j]=some (row m λi=>f i j):=by
 refine fQ (fd:=aZ (top 26)) rfl rfl (fK ?_);refine' iu ?L82a_2a ?L82a_2b ?L82a_2c ?L82a_2d ?L82a_2e;(case L82a_2a=>rfl);(case L82a_2b=>rfl);(case L82a_2c=>rfl);(case L82a_2d=>walk_at "xm");(case L82a_2e=>exact rJ)
theorem columns_of(k:Nat){m n:Nat}{f:Nat->Nat->Int}(h1:1<=m)(h2:m<=4)(h4:n<=4):aV T 60 (k+2) "columns_of" [tbl m n f]=some (tbl n m λi j=>f j i):=by
 refine fQ (fd:=aZ (top 27)) rfl rfl (fK ?_);refine iu rfl rfl rfl (aG ?_ dj) rJ;refine' ig ?L82a_3a ?L82a_3b ?L82a_3c (bM ?L82a_3d);(case L82a_3a=>rfl);(case L82a_3b=>walk_at "xi");(case L82a_3c=>exact iQ (by omega))
 case L82a_3d =>
  intro i hi;refine' ju ?L82a_3e ?L82a_3f;(case L82a_3e=>rfl)
  case L82a_3f =>
   refine' bf ?L82a_4a ?L82a_4b ?L82a_4c;(case L82a_4a=>rfl);(case L82a_4b=>walk_at "xm");(case L82a_4c=>exact column_of _ hi h2)
def Sm(m n:Nat)(f:Nat->Nat->Int):Prop:=∀i j,i<m->j<n->small (f i j)=true
noncomputable def wU(ns:List Int)(k:Nat):Int:=if k<ns.length then ns.getD k 0 else if ns=[] then 0 else ns.getD (k%ns.length) 0*31+k
def d8(ns:List Int)(k:Nat):Int:=(wU ns k+6151*((k:Int)+1))*40692%2147483399
def pickN(ns:List Int)(k many:Nat):Nat:=((d8 ns k*d8 ns k+d8 ns k / 31)%2147483629%(many:Int)).toNat
theorem dI{ns:List Int}{k many:Nat}(h:0<many):pickN ns k many<many:=by
 unfold pickN;have h1:=W3z ((d8 ns k*d8 ns k+d8 ns k / 31)%2147483629) (show(many:Int)≠0 by omega);have h2:=Int.emod_lt_of_pos ((d8 ns k*d8 ns k+d8 ns k / 31)%2147483629) (show(0:Int)<many by omega);omega
abbrev scr(ns:List Int):D:=.lst (ns.map D.int)
theorem nY{ns:List Int}:blt "len" [scr ns]=some (.int (ns.length:Int)):=by
 show some (D.int ((ns.map D.int).length:Int))=_;rw[I3z]
theorem Gw{ns:List Int}{k:Nat}(h:k<ns.length):atD (ns.map D.int) (k:Int)=some (.int (ns.getD k 0)):=by
 refine gA ?_;rw[List.getElem?_map,List.getElem?_eq_getElem h,List.getD_eq_getElem?_getD,List.getElem?_eq_getElem h];rfl
theorem Ja{ns:List Int}:dep (scr ns)<=50:=by
 simp only[dep]
 have:=oX (b:=0) (l:=ns.map D.int) λd hd=>by
  obtain⟨i,_,rfl⟩:=List.mem_map.mp hd;simp[dep]
 omega
theorem cell(k:Nat)(ns:List Int)(kk:Nat):aV T 60 (k+1) "_law_cell" [scr ns,.int kk]=some (.int (wU ns kk)):=by
 unfold wU
 by_cases h:kk<ns.length
 .rw[P5z h]
  refine fQ (fd:=aZ (top 46)) rfl rfl (j6 (fl1:=.ret (.int (ns.getD kk 0))) (bx (by nofun) (iu rfl rfl rfl (by walk_at "xm") nY) (oLt (by omega))) (fK ?_) rfl);exact xIx (by nofun) (by nofun) rfl (Gw h)
 .rw[Q5z h]
  by_cases e:ns=[]
  .subst e
   rw[P5z rfl];refine fQ (fd:=aZ (top 46)) rfl rfl (fM (bx (by nofun) (iu rfl rfl rfl (by walk_at "xm") (nY (ns:=[]))) (G8 (by simp))) (j6 (fl1:=.ret (.int 0)) (bx (by nofun) (by nofun) rfl) (fK (by nofun)) rfl))
  .rw[Q5z e]
   have hl:0<ns.length:=List.length_pos_iff.mpr e;refine fQ (fd:=aZ (top 46)) rfl rfl (fM (bx (by nofun) (iu rfl rfl rfl (by walk_at "xm") nY) (G8 (by omega))) (fM (bx (y:=.lst []) (by nofun) (by nofun) ?_) (fK ?_)))
   .rw[oEq Ja (by simp[dep,deps]) (show fO (scr ns) (.lst [])=true from jm λ_ _ _ h=>nomatch h)]
    cases ns with
    | nil=>exact absurd rfl e
    | cons a r=>rfl
   .refine dG (dG (x:=.int (ns.getD (kk%ns.length) 0)) (xIx (i:=((kk%ns.length:Nat):Int)) (by nofun) ?_ rfl (Gw (Nat.mod_lt _ hl))) (by nofun) (HN (.inr (by decide)))) (by nofun) rfl
    refine dG (by nofun) (iu rfl rfl rfl (by walk_at "xm") nY) ?_;rw[Rr (by omega)];rfl
theorem pick(k:Nat)(ns:List Int)(kk:Nat){many:Nat}(h:0<many):aV T 60 (k+2) "_law_pick" [scr ns,.int kk,.int many]=some (.int ((pickN ns kk many:Nat):Int)):=by
 have d0:=W3z ((wU ns kk+6151*((kk:Int)+1))*40692) (show(2147483399:Int)≠0 by decide);have d1:=Int.emod_lt_of_pos ((wU ns kk+6151*((kk:Int)+1))*40692) (show(0:Int)<2147483399 by decide)
 have e:((pickN ns kk many:Nat):Int)=(d8 ns kk*d8 ns kk+d8 ns kk / 31)%2147483629%(many:Int):=by
  unfold pickN;exact Int.toNat_of_nonneg (W3z _ (by omega))
 rw[e];refine fQ (fd:=aZ (top 47)) rfl rfl (jY rfl (d:=.int (d8 ns kk)) ?_ (fK ?_))
 .refine dG (dG (dG (x:=.int (wU ns kk)) (y:=.int (6151*((kk:Int)+1))) ?_ ?_ rfl) (by nofun) (HN (.inr (by decide)))) (by nofun) (Rr (by decide))
  .refine' bf ?L82a_5a ?L82a_5b ?L82a_5c;(case L82a_5a=>rfl);(case L82a_5b=>walk_at "xm");(case L82a_5c=>exact cell _ ns kk)
  .exact dG (by nofun) (dG (by nofun) (by nofun) rfl) (HN (.inl (by decide)))
 .refine dG (dG (dG (dG (by nofun) (by nofun) (HN (.inl ?_))) (dG (by nofun) (by nofun) (Xb (by decide) (by decide))) rfl) (by nofun) (Rr (by decide))) (by nofun) (Rr (by omega))
  unfold small;unfold d8;rw[Y3z (by omega),Y3z (by omega)];rfl
theorem jU{cx:Cxt}{n:Nat}{sc:Scope}{U:Rho}{e:Expr}{d d':D}(h:ev cx n sc U e=some d)(q:d=d'):ev cx n sc U e=some d':=q▸h
def w6:Nat->Nat
 | 0=>0
 | 1=>0
 | 2=>1
 | _=>4
theorem Kf(p:Nat):w6 p<=4:=by unfold w6;split<;>omega
def Cq(ns:List Int)(at':Nat):Nat->Nat->Int:=λi j=>((pickN ns (at'+1+8*i+j) (6+w6 (pickN ns at' 4)):Nat):Int)-((w6 (pickN ns at' 4):Nat):Int)
def Sq:Nat->Sl
 | 0=>.no
 | i+1=>.sh (.int i)
def Rb(ns:List Int)(a m n low:Nat)(md:List D)(rw:Sl):Rho:=[("_law_script",.sh (scr ns)),("_law_at",.sh (.int a)),("_law_rows",.sh (.int m)),("_law_columns",.sh (.int n)),("_law_low",.sh (.int low)),("_law_made_here",.ow md),("_law_row",rw)]
theorem table(k:Nat)(ns:List Int)(a:Nat){m n:Nat}(hm:m<=4)(hn:n<=4):aV T 60 (k+3) "_law_table" [scr ns,.int a,.int m,.int n]=some (tbl m n (Cq ns a)):=by
 have hp:=dI (ns:=ns) (k:=a) (many:=4) (by omega);refine fQ (fd:=aZ (top 48)) rfl rfl (jY rfl (d:=.int ((w6 (pickN ns a 4):Nat):Int)) ?_ (jY rfl (d:=.lst []) (by nofun) (Vk (l:=Ls m λi=>.int i) (fl1:=.nxt (Rb ns a m n (w6 (pickN ns a 4)) (Ls m λi=>row n (Cq ns a i)) (Sq m))) ?_ ?_ (fK (iu rfl rfl rfl (by walk_at "xm") rJ)))))
 .refine xIx (x:=.lst [.int 0,.int 0,.int 1,.int 4]) (i:=((pickN ns a 4:Nat):Int)) (by nofun) ?_ rfl ?_
  .refine bf rfl (by walk_at "xm") (pick (k+0) ns a (many:=4) (by omega))
  .generalize pickN ns a 4=p at hp
   match p,hp with
   | 0,_=>rfl
   | 1,_=>rfl
   | 2,_=>rfl
   | 3,_=>rfl
 .walk_at "xi"
 .refine Ey (R:=λi=>Rb ns a m n (w6 (pickN ns a 4)) (Ls i λi=>row n (Cq ns a i)) (Sq i)) λi hi=>?_
  refine EY (U1:=Rb ns a m n (w6 (pickN ns a 4)) (Ls i λi=>row n (Cq ns a i)) (.sh (.int i))) rfl ?_;show _=some (Fl.nxt (Rb ns a m n (w6 (pickN ns a 4)) (Ls (i+1) λi=>row n (Cq ns a i)) (Sq (i+1))));rw[pD];refine Vm (d:=row n (Cq ns a i)) rfl rfl rfl (Cr (by rw[cg];omega)) ?_ rfl;refine iu rfl rfl rfl (aG ?_ dj) rJ;refine' ig ?L82a_6a ?L82a_6b ?L82a_6c (bM ?L82a_6d);(case L82a_6a=>rfl);(case L82a_6b=>walk_at "xi");(case L82a_6c=>exact iQ (by omega))
  case L82a_6d =>
   intro j hj;refine' ju ?L82a_6e ?L82a_6f;(case L82a_6e=>rfl)
   case L82a_6f =>
    refine dG (x:=.int ((pickN ns (a+1+8*i+j) (6+w6 (pickN ns a 4)):Nat):Int)) (bf rfl (aG ?_ (aG ?_ (aG ?_ dj))) (pick (k+0) ns (a+1+8*i+j) (many:=6+w6 (pickN ns a 4)) (by omega))) (by nofun) rfl
    .nofun
    .refine jU (dG (dG (dG (by nofun) (by nofun) rfl) (dG (by nofun) (by nofun) (HN (.inl (by decide)))) rfl) (by nofun) rfl) (congrArg D.int (by omega))
    .refine jU (dG (by nofun) (by nofun) rfl) (congrArg D.int (by omega))
theorem turned(k:Nat){m n:Nat}{f:Nat->Nat->Int}(h1:1<=m)(h2:m<=4)(h3:1<=n)(h4:n<=4):aV T 60 (k+5) "turned" [tbl m n f]=some (tbl n m λi j=>f j i):=by
 refine fQ (fd:=aZ (top 28)) rfl rfl (Cu rfl (d:=.non) ?_ (fK ?_))
 .refine' bf ?L82a_7a ?L82a_7b ?L82a_7c;(case L82a_7a=>rfl);(case L82a_7b=>walk_at "xm");(case L82a_7c=>exact need_table k h1 h2 h3 h4)
 .refine' bf ?L82a_8a ?L82a_8b ?L82a_8c;(case L82a_8a=>rfl);(case L82a_8b=>walk_at "xm");(case L82a_8c=>exact columns_of (k+2) h1 h2 h4)
theorem flipped(k:Nat){m n:Nat}{f:Nat->Nat->Int}(h1:1<=m)(h2:m<=4)(h3:1<=n)(h4:n<=4):aV T 60 (k+5) "flipped" [tbl m n f]=some (tbl m n λi j=>f (m-1-i) (n-1-j)):=by
 refine fQ (fd:=aZ (top 29)) rfl rfl (Cu rfl (d:=.non) ?_ (fK ?_))
 .refine' bf ?L82a_9a ?L82a_9b ?L82a_9c;(case L82a_9a=>rfl);(case L82a_9b=>walk_at "xm");(case L82a_9c=>exact need_table k h1 h2 h3 h4)
 .refine' iu ?L82a_10a ?L82a_10b ?L82a_10c ?L82a_10d ?L82a_10e;(case L82a_10a=>rfl);(case L82a_10b=>rfl);(case L82a_10c=>rfl);(case L82a_10d=>walk_at "xm");(case L82a_10e=>exact rJ)
theorem row_by_column(k:Nat){n:Nat}{f g:Nat->Int}(h4:n<=4)(hs:∀j,j<n->small (f j)=true\/small (g j)=true):aV T 60 (k+1) "row_by_column" [row n f,row n g]=some (.int (yp n λj=>f j*g j)):=by
 refine fQ (fd:=aZ (top 30)) rfl rfl (fK (iu rfl rfl rfl (aG ?_ dj) Vr));refine' ig ?L82a_11a ?L82a_11b ?L82a_11c (bM ?L82a_11d);(case L82a_11a=>rfl);(case L82a_11b=>walk_at "xi");(case L82a_11c=>exact iQ (by omega))
 case L82a_11d =>
  intro j hj;refine' ju ?L82a_11e ?L82a_11f;(case L82a_11e=>rfl)
  case L82a_11f =>
   refine' dG ?a1 ?a2 (HN (hs j hj));(case a1=>nofun);(case a2=>nofun)
theorem row_by_columns(k:Nat){n p:Nat}{f:Nat->Int}{g:Nat->Nat->Int}(h4:n<=4)(h5:p<=4)(hs:∀i j,i<p->j<n->small (f j)=true\/small (g i j)=true):aV T 60 (k+2) "row_by_columns" [row n f,tbl p n g]=some (row p λi=>yp n λj=>f j*g i j):=by
 refine fQ (fd:=aZ (top 31)) rfl rfl (fK (iu rfl rfl rfl (aG ?_ dj) rJ));refine' ig ?L82a_12a ?L82a_12b ?L82a_12c (bM ?L82a_12d);(case L82a_12a=>rfl);(case L82a_12b=>walk_at "xi");(case L82a_12c=>exact iQ (by omega))
 case L82a_12d =>
  intro i hi;refine' ju ?L82a_12e ?L82a_12f;(case L82a_12e=>rfl)
  case L82a_12f =>
   refine' bf ?L82a_13a ?L82a_13b ?L82a_13c;(case L82a_13a=>rfl);(case L82a_13b=>walk_at "xm");(case L82a_13c=>exact row_by_column k h4 (hs i · hi ·))
def mul(n:Nat)(f g:Nat->Nat->Int):Nat->Nat->Int:=λi j=>yp n λl=>f i l*g l j
theorem times(k:Nat){m n p:Nat}{f g:Nat->Nat->Int}(h1:1<=m)(h2:m<=4)(h3:1<=n)(h4:n<=4)(h5:1<=p)(h6:p<=4)(hs:Sm m n f\/Sm n p g):aV T 60 (k+6) "times" [tbl m n f,tbl n p g]=some (tbl m p (mul n f g)):=by
 refine fQ (fd:=aZ (top 32)) rfl rfl (Cu rfl (d:=.non) ?_ (Cu rfl (d:=.non) ?_ (fM (bx (x:=.int n) ?_ ?_ (Ph rfl)) (jY rfl (d:=tbl p n λi j=>g j i) ?_ (fK (iu rfl rfl rfl (aG ?_ dj) rJ))))))
 .refine' bf ?L82a_14a ?L82a_14b ?L82a_14c;(case L82a_14a=>rfl);(case L82a_14b=>walk_at "xm");(case L82a_14c=>exact need_table (k+1) h1 h2 h3 h4)
 .refine' bf ?L82a_15a ?L82a_15b ?L82a_15c;(case L82a_15a=>rfl);(case L82a_15b=>walk_at "xm");(case L82a_15c=>exact need_table (k+1) h3 h4 h5 h6)
 .nofun
 .nofun
 .refine' bf ?L82a_16a ?L82a_16b ?L82a_16c;(case L82a_16a=>rfl);(case L82a_16b=>walk_at "xm");(case L82a_16c=>exact columns_of (k+3) h3 h4 h6)
 .refine' ig ?L82a_17a ?L82a_17b ?L82a_17c (bM ?L82a_17d);(case L82a_17a=>rfl);(case L82a_17b=>walk_at "xi");(case L82a_17c=>exact iQ (by omega))
  case L82a_17d =>
   intro i hi;refine' ju ?L82a_17e ?L82a_17f;(case L82a_17e=>rfl)
   case L82a_17f =>
    refine' bf ?a1 (aG ?a2 (aG ?a3 dj)) (row_by_columns (k+3) (f:=f i) (g:=λi j=>g j i) h4 h6 ?a4);(case a1=>rfl)
    case a2=>nofun
    case a3=>nofun
    case a4=>exact λa b ha hb=>hs.imp (λq=>q i b hi hb) (λq=>q b a hb ha)
theorem row_plus(k:Nat){n:Nat}{f g:Nat->Int}(h4:n<=4):aV T 60 (k+1) "row_plus" [row n f,row n g]=some (row n λj=>f j+g j):=by
 refine fQ (fd:=aZ (top 33)) rfl rfl (fK ?_);refine' iu ?L82a_18a ?L82a_18b ?L82a_18c ?L82a_18d ?L82a_18e;(case L82a_18a=>rfl);(case L82a_18b=>rfl);(case L82a_18c=>rfl);(case L82a_18d=>walk_at "xm");(case L82a_18e=>exact rJ)
theorem yG(k:Nat){m n:Nat}{f g:Nat->Nat->Int}(h1:1<=m):aV T 60 (k+1) "need_same_size" [tbl m n f,tbl m n g]=some .non:=by
 refine Ie (fd:=aZ (top 20)) rfl rfl (fM (jA (Q5 (bx (x:=.int m) ?_ ?_ (Ph rfl)) (Cp (bx (x:=.int n) ?_ ?_ (Ph rfl))))) gR)
 .nofun
 .nofun
 .nofun
 .nofun
theorem plus(k:Nat){m n:Nat}{f g:Nat->Nat->Int}(h1:1<=m)(h2:m<=4)(h3:1<=n)(h4:n<=4):aV T 60 (k+5) "plus" [tbl m n f,tbl m n g]=some (tbl m n λi j=>f i j+g i j):=by
 refine fQ (fd:=aZ (top 34)) rfl rfl (Cu rfl (d:=.non) ?_ (Cu rfl (d:=.non) ?_ (Cu rfl (d:=.non) ?_ (fK (iu rfl rfl rfl (aG ?_ dj) rJ)))))
 .refine' bf ?L82a_19a ?L82a_19b ?L82a_19c;(case L82a_19a=>rfl);(case L82a_19b=>walk_at "xm");(case L82a_19c=>exact need_table k h1 h2 h3 h4)
 .refine' bf ?L82a_20a ?L82a_20b ?L82a_20c;(case L82a_20a=>rfl);(case L82a_20b=>walk_at "xm");(case L82a_20c=>exact need_table k h1 h2 h3 h4)
 .refine' bf ?L82a_21a ?L82a_21b ?L82a_21c;(case L82a_21a=>rfl);(case L82a_21b=>walk_at "xm");(case L82a_21c=>exact yG (k+3) h1)
 .refine' ig ?L82a_22a ?L82a_22b ?L82a_22c (bM ?L82a_22d);(case L82a_22a=>rfl);(case L82a_22b=>walk_at "xi");(case L82a_22c=>exact iQ (by omega))
  case L82a_22d =>
   intro i hi;refine' ju ?L82a_22e ?L82a_22f;(case L82a_22e=>rfl)
   case L82a_22f =>
    refine' bf ?L82a_23a ?L82a_23b ?L82a_23c;(case L82a_23a=>rfl);(case L82a_23b=>walk_at "xm");(case L82a_23c=>exact row_plus (k+3) h4)
theorem need_size(k:Nat){n:Nat}(h1:1<=n)(h4:n<=4):aV T 60 (k+3) "need_size" [.int n,.int 4]=some .non:=by
 refine Ie (fd:=aZ (top 21)) rfl rfl (fM (M8 ?_) gR);have:=lU k (i:=(n:Int)) (l:=1) (m:=4);rw[show within 1 4 (n:Int)=true by unfold within;rw[Y3z (by omega),Y3z (by omega)];rfl] at this;refine' bf ?L82a_24a ?L82a_24b ?L82a_24c;(case L82a_24a=>rfl);(case L82a_24b=>walk_at "xm");(case L82a_24c=>exact this)
theorem qy(k:Nat){n:Nat}(h4:4<n):jt T 60 (k+3) "need_size" [.int n,.int 4]=some "NoFit"/\aV T 60 (k+3) "need_size" [.int n,.int 4]=none:=by
 refine jT (fd:=aZ (top 21)) rfl rfl (iH (Ry ?_) rfl);have:=lU k (i:=(n:Int)) (l:=1) (m:=4);rw[show within 1 4 (n:Int)=false by unfold within;rw[F3z (show ¬ (n:Int)<=4 by omega),B4z]] at this;refine' bf ?L82a_25a ?L82a_25b ?L82a_25c;(case L82a_25a=>rfl);(case L82a_25b=>walk_at "xm");(case L82a_25c=>exact this)
theorem g8{y:Str}{s:Sl}{U:Rho}(h:nOw s=true)(r:jr U=true):jr ((y,s)::U)=true:=by
 unfold jr at r ⊢;rw[K4z,h,r];rfl
section
variable{cx:Cxt}{sc:Scope}{U U':Rho}{e:Expr}{p:Pos}{d:D}{nm:Str}{F m:Nat}{r:List Stmt}{fl:Fl}{y:Str}{s:Sl}{ds:List D}
theorem Kz:frz F e []=[]:=rfl
theorem d7(h:nOw s=true)(q:frz F e U=U'):frz F e ((y,s)::U)=(y,s)::U':=by rw[Ew h,q]
theorem Aj(h:fY F y e=false)(q:frz F e U=U'):frz F e ((y,.ow ds)::U)=(y,.ow ds)::U':=by
 rw[Eu,q];simp only[h,S1z,M5z]
theorem WT(h:fY F y e=true)(q:frz F e U=U'):frz F e ((y,.ow ds)::U)=(y,.sh (.lst ds))::U':=by rw[KH h,q]
theorem Ud{tg iter:Expr}{body:List Stmt}{l:List D}{fl1:Fl}(hf:frz F iter U=U')(hI:evI cx (eY tg) (ev cx F sc U') sc iter=some l)(hgo:fG (fF cx F m sc tg body) l U'=some fl1)(k2:rW cx F (m+1) sc r fl1=some fl):blk cx F (m+1) sc (.For tg iter body [] p::r) U=some fl:=by
 subst hf;exact Vk hI hgo k2
theorem Qi{px ap cp:Pos}{M:Str}(hf:frz F e U=U')(hx:U'.lookup nm=some (.ow ds))(ho:(ownIn sc nm&&aK nm&&ap.endLine==cp.line)=true)(hM:(M=="append")=true)(hz:szl (ds.length+1)=true)(h:ev cx F sc U' e=some d)(k:blk cx F (m+1) sc r (gQ U' nm (.ow (ds++[d])))=some fl) :
  blk cx F (m+1) sc (.Expr (.Call (.Attribute (.Name nm px) M ap) [e] [] cp) p::r) U=some fl:=by
 subst hf;exact Vm hx ho hM hz h k
end
def Ez:Stmt->List Stmt
 | .For _ _ b _ _=>b
 | _=>[]
def MJ:Stmt->Expr
 | .For t _ _ _ _=>t
 | _=>.Name "" ⟨0,0,0,0⟩
def pss:Stmt:=.Pass ⟨0,0,0,0⟩
theorem Ky{cx:Cxt}{sc:Scope}{U U' U2:Rho}{p:Pos}{F m:Nat}{r:List Stmt}{fl:Fl}{tg iter:Expr}{body:List Stmt}{l:List D}(hf:frz F iter U=U')(hI:evI cx (eY tg) (ev cx F sc U') sc iter=some l)(hgo:fG (fF cx F m sc tg body) l U'=some (.nxt U2))(k2:blk cx F (m+1) sc r U2=some fl):blk cx F (m+1) sc (.For tg iter body [] p::r) U=some fl:=Ud hf hI hgo k2
theorem Wt{x:Str}:pG [] x=true:=rfl
theorem J6{x y:Str}{s:Sl}{U:Rho}(h:nOw s=true)(q:pG U x=true):pG ((y,s)::U) x=true:=by
 unfold pG at q ⊢;rw[K4z,q,Bool.and_true]
 cases s<;>first | (simp[nOw] at h;done) | simp[Rq]
theorem Wu{x y:Str}{ds:List D}{U:Rho}(q:pG U x=true):pG ((y,.ow ds)::U) x=true:=by
 unfold pG at q ⊢;rw[K4z,q,Bool.and_true];simp[Rq]
theorem Tn{x:Str}{e:Expr}{U:Rho}(q:pG U x=true):(bW e && !pG U x)=false:=by rw[q];simp
theorem Uc{cx:Cxt}{sc:Scope}{U U':Rho}{e:Expr}{p:Pos}{d:D}{nm:Str}{F m:Nat}{r:List Stmt}{fl:Fl}{px:Pos}(hf:frz F e U=U')(ho:(ownIn sc nm&&(U.map (·.1)).contains nm)=true)(h:ev cx F sc U' e=some d)(k:blk cx F (m+1) sc r (gQ U' nm (nR e d))=some fl)(hoo:(ooE cx sc e&&DG U' nm)=false)(hno:(bW e && !pG U' nm)=false)(hle:Mz cx sc e=false:=by rfl)(hrd:rdA e=false:=by rfl):blk cx F (m+1) sc (.Assign [.Name nm px] e p::r) U=some fl:=by
 subst hf;exact jY ho h k hoo hno hle hrd
theorem lX{f:D->Rho->Option Fl}{h:Nat->D}{P:Nat->Rho->Prop}{N:Nat}(hs:∀i U,i<N->P i U->∃U',P (i+1) U'/\f (h i) U=some (.nxt U')){U:Rho}(h0:P 0 U):∃U',P N U'/\fG f (Ls N h) U=some (.nxt U'):=by
 have key:∀(n a:Nat)(U:Rho),a+n<=N->P a U->∃U',P (a+n) U'/\fG f ((List.range' a n).map h) U=some (.nxt U'):=by
  intro n
  induction n with
  | zero=>intro a U _ hp;exact⟨U,hp,rfl⟩
  | succ n ih =>
   intro a U ha hp;obtain⟨U1,h1,h2⟩:=hs a U (by omega) hp;obtain⟨U2,h3,h4⟩:=ih (a+1) U1 (by omega) h1;refine⟨U2,by rw[show a+(n+1)=a+1+n by omega];exact h3,?_⟩;rw[Z2z,E4z];simp only[fG,h2];exact h4
 obtain⟨U',h1,h2⟩:=key N 0 U (by omega) h0;rw[Nat.zero_add] at h1;refine⟨U',h1,?_⟩;unfold Ls;rw[List.range_eq_range'];exact h2
def jW(o p:D)(md ro li co to k:Sl):Rho:=[("_law_one",.sh o),("_law_other",.sh p),("_law_made_here",md),("_law_row",ro),("_law_line",li),("_law_column",co),("_law_total",to),("_law_k",k)]
def lt1:Stmt:=(aZ (top 49)).body.getD 1 pss
def lt2:Stmt:=(Ez lt1).getD 1 pss
def lt3:Stmt:=(Ez lt2).getD 1 pss
theorem Pz(k:Nat){m n p i j:Nat}{f g:Nat->Nat->Int}{md li:List D}{k0:Sl}(hk:nOw k0=true)(hj:j<p)(hs:∀l,l<n->small (f i l)=true\/small (g l j)=true) :
  ∃k',nOw k'=true/\fG (fF (cxN T 60 k) 60 57 (aZ (top 49)).sc (MJ lt3) (Ez lt3)) (Ls n λl=>.int l) (jW (tbl m n f) (tbl n p g) (.ow md) (.sh (row n (f i))) (.ow li) (.sh (.int j)) (.sh (.int 0)) k0)=some (.nxt (jW (tbl m n f) (tbl n p g) (.ow md) (.sh (row n (f i))) (.ow li) (.sh (.int j)) (.sh (.int (mul n f g i j))) k')):=by
 have st:=lX (f:=fF (cxN T 60 k) 60 57 (aZ (top 49)).sc (MJ lt3) (Ez lt3)) (h:=λl=>.int l) (N:=n) (P:=λl U=>∃k',nOw k'=true/\U=jW (tbl m n f) (tbl n p g) (.ow md) (.sh (row n (f i))) (.ow li) (.sh (.int j)) (.sh (.int (yp l λl=>f i l*g l j))) k') (U:=jW (tbl m n f) (tbl n p g) (.ow md) (.sh (row n (f i))) (.ow li) (.sh (.int j)) (.sh (.int 0)) k0) (λl U hl hP=>by
  obtain⟨k1,hk1,e⟩:=hP;subst e;refine⟨_,⟨.sh (.int l),rfl,rfl⟩,?_⟩;refine EY (U1:=jW (tbl m n f) (tbl n p g) (.ow md) (.sh (row n (f i))) (.ow li) (.sh (.int j)) (.sh (.int (yp l λl=>f i l*g l j))) (.sh (.int l))) rfl ?_;refine jY rfl (d:=.int (yp (l+1) λl=>f i l*g l j)) ?_ rfl;refine dG (x:=.int (yp l λl=>f i l*g l j)) (y:=.int (f i l*g l j)) (by nofun) (dG (x:=.int (f i l)) (y:=.int (g l j)) (Q7 (m:=n) (j:=l) (h:=λl=>.int (f i l)) ?_ ?_ hl rfl rfl) (Q7 (m:=p) (j:=j) (h:=λj=>.int (g l j)) (Q7 (m:=n) (j:=l) (h:=λl=>row p (g l)) ?_ ?_ hl rfl rfl) ?_ hj rfl rfl) (HN (hs l hl))) rfl
  .nofun
  .nofun
  .nofun
  .nofun
  .nofun) ⟨k0,hk,rfl⟩
 obtain⟨U',⟨k',h1,rfl⟩,h2⟩:=st;exact⟨k',h1,h2⟩
theorem PB(k:Nat){m n p i:Nat}{f g:Nat->Nat->Int}{md:List D}{c0 t0 k0:Sl}(hc:nOw c0=true)(ht:nOw t0=true)(hk:nOw k0=true)(n1:1<=n)(n4:n<=4)(p4:p<=4)(hs:∀l j,l<n->j<p->small (f i l)=true\/small (g l j)=true) :
  ∃c' t' k',nOw c'=true/\nOw t'=true/\nOw k'=true/\fG (fF (cxN T 60 k) 60 58 (aZ (top 49)).sc (MJ lt2) (Ez lt2)) (Ls p λl=>.int l) (jW (tbl m n f) (tbl n p g) (.ow md) (.sh (row n (f i))) (.ow []) c0 t0 k0)=some (.nxt (jW (tbl m n f) (tbl n p g) (.ow md) (.sh (row n (f i))) (.ow (Ls p λj=>.int (mul n f g i j))) c' t' k')):=by
 have st:=lX (f:=fF (cxN T 60 k) 60 58 (aZ (top 49)).sc (MJ lt2) (Ez lt2)) (h:=λl=>.int l) (N:=p) (P:=λj U=>∃c' t' k',nOw c'=true/\nOw t'=true/\nOw k'=true/\U=jW (tbl m n f) (tbl n p g) (.ow md) (.sh (row n (f i))) (.ow (Ls j λj=>.int (mul n f g i j))) c' t' k') (U:=jW (tbl m n f) (tbl n p g) (.ow md) (.sh (row n (f i))) (.ow []) c0 t0 k0) (λj U hj hP=>by
  obtain⟨c1,t1,k1,hc1,ht1,hk1,e⟩:=hP;subst e;obtain⟨k2,hk2,go⟩:=Pz k (m:=m) (n:=n) (p:=p) (i:=i) (j:=j) (f:=f) (g:=g) (md:=md) (li:=Ls j λj=>.int (mul n f g i j)) hk1 hj (λl hl=>hs l j hl hj);refine⟨_,⟨.sh (.int j),.sh (.int (mul n f g i j)),k2,rfl,rfl,hk2,rfl⟩,?_⟩;rw[pD];refine EY (U1:=jW (tbl m n f) (tbl n p g) (.ow md) (.sh (row n (f i))) (.ow (Ls j λj=>.int (mul n f g i j))) (.sh (.int j)) t1 k1) rfl ?_;refine Ub (U':=jW (tbl m n f) (tbl n p g) (.ow md) (.sh (row n (f i))) (.ow (Ls j λj=>.int (mul n f g i j))) (.sh (.int j)) t1 k1) (d:=.int 0) (d7 rfl (d7 rfl (Aj rfl (d7 rfl (Aj rfl (d7 rfl (d7 ht1 (d7 hk1 Kz)))))))) rfl rfl (by nofun) ?_;show blk _ _ _ _ _ (jW (tbl m n f) (tbl n p g) (.ow md) (.sh (row n (f i))) (.ow (Ls j λj=>.int (mul n f g i j))) (.sh (.int j)) (.sh (.int 0)) k1)=_;refine Ky (U':=jW (tbl m n f) (tbl n p g) (.ow md) (.sh (row n (f i))) (.ow (Ls j λj=>.int (mul n f g i j))) (.sh (.int j)) (.sh (.int 0)) k1) (l:=Ls n λl=>.int l) (d7 rfl (d7 rfl (Aj rfl (d7 rfl (Aj rfl (d7 rfl (d7 rfl (d7 hk1 Kz)))))))) ?_ go ?_
  .walk_at "xi"
  .refine Qi (U':=jW (tbl m n f) (tbl n p g) (.ow md) (.sh (row n (f i))) (.ow (Ls j λj=>.int (mul n f g i j))) (.sh (.int j)) (.sh (.int (mul n f g i j))) k2) (d:=.int (mul n f g i j)) (d7 rfl (d7 rfl (Aj rfl (d7 rfl (Aj rfl (d7 rfl (d7 rfl (d7 hk2 Kz)))))))) rfl rfl rfl (Cr (by rw[cg];omega)) (by nofun) rfl) ⟨c0,t0,k0,hc,ht,hk,rfl⟩
 obtain⟨U',⟨c',t',k',h1,h2,h3,rfl⟩,h4⟩:=st;exact⟨c',t',k',h1,h2,h3,h4⟩
theorem PJ(k:Nat){m n p:Nat}{f g:Nat->Nat->Int}(m4:m<=4)(n1:1<=n)(n4:n<=4)(p4:p<=4)(hs:∀i l j,i<m->l<n->j<p->small (f i l)=true\/small (g l j)=true) :
  ∃r' l' c' t' k',nOw r'=true/\nOw l'=true/\nOw c'=true/\nOw t'=true/\nOw k'=true/\fG (fF (cxN T 60 k) 60 59 (aZ (top 49)).sc (MJ lt1) (Ez lt1)) (Ls m λi=>row n (f i)) (jW (tbl m n f) (tbl n p g) (.ow []) .no .no .no .no .no)=some (.nxt (jW (tbl m n f) (tbl n p g) (.ow (Ls m λi=>row p (mul n f g i))) r' l' c' t' k')):=by
 have st:=lX (f:=fF (cxN T 60 k) 60 59 (aZ (top 49)).sc (MJ lt1) (Ez lt1)) (h:=λi=>row n (f i)) (N:=m) (P:=λi U=>∃r' l' c' t' k',nOw r'=true/\nOw l'=true/\nOw c'=true/\nOw t'=true/\nOw k'=true/\U=jW (tbl m n f) (tbl n p g) (.ow (Ls i λi=>row p (mul n f g i))) r' l' c' t' k') (U:=jW (tbl m n f) (tbl n p g) (.ow []) .no .no .no .no .no) (λi U hi hP=>by
  obtain⟨r1,l1,c1,t1,k1,hr1,hl1,hc1,ht1,hk1,e⟩:=hP;subst e;obtain⟨c2,t2,k2,hc2,ht2,hk2,go⟩:=PB k (m:=m) (n:=n) (p:=p) (i:=i) (f:=f) (g:=g) (md:=Ls i λi=>row p (mul n f g i)) hc1 ht1 hk1 n1 n4 p4 (λl j hl hj=>hs i l j hi hl hj);refine⟨_,⟨.sh (row n (f i)),.sh (.lst (Ls p λj=>.int (mul n f g i j))),c2,t2,k2,rfl,rfl,hc2,ht2,hk2,rfl⟩,?_⟩;rw[pD];refine EY (U1:=jW (tbl m n f) (tbl n p g) (.ow (Ls i λi=>row p (mul n f g i))) (.sh (row n (f i))) l1 c1 t1 k1) rfl ?_;refine Uc (U':=jW (tbl m n f) (tbl n p g) (.ow (Ls i λi=>row p (mul n f g i))) (.sh (row n (f i))) l1 c1 t1 k1) (d:=.lst []) (d7 rfl (d7 rfl (Aj rfl (d7 rfl (d7 hl1 (d7 hc1 (d7 ht1 (d7 hk1 Kz)))))))) rfl (by nofun) ?_ rfl (Tn (J6 rfl (J6 rfl (Wu (J6 rfl (J6 hl1 (J6 hc1 (J6 ht1 (J6 hk1 Wt)))))))));show blk _ _ _ _ _ (jW (tbl m n f) (tbl n p g) (.ow (Ls i λi=>row p (mul n f g i))) (.sh (row n (f i))) (.ow []) c1 t1 k1)=_;refine Ky (U':=jW (tbl m n f) (tbl n p g) (.ow (Ls i λi=>row p (mul n f g i))) (.sh (row n (f i))) (.ow []) c1 t1 k1) (l:=Ls p λl=>.int l) (d7 rfl (d7 rfl (Aj rfl (d7 rfl (Aj rfl (d7 hc1 (d7 ht1 (d7 hk1 Kz)))))))) ?_ go ?_
  .walk_at "xi"
  .refine Qi (U':=jW (tbl m n f) (tbl n p g) (.ow (Ls i λi=>row p (mul n f g i))) (.sh (row n (f i))) (.sh (.lst (Ls p λj=>.int (mul n f g i j)))) c2 t2 k2) (d:=row p (mul n f g i)) (d7 rfl (d7 rfl (Aj rfl (d7 rfl (WT rfl (d7 hc2 (d7 ht2 (d7 hk2 Kz)))))))) rfl rfl rfl (Cr (by rw[cg];omega)) ?_ rfl
   exact iu rfl rfl rfl (by walk_at "xm") rJ) ⟨.no,.no,.no,.no,.no,rfl,rfl,rfl,rfl,rfl,rfl⟩
 obtain⟨U',⟨r',l',c',t',k',h1,h2,h3,h4,h5,rfl⟩,h6⟩:=st;exact⟨r',l',c',t',k',h1,h2,h3,h4,h5,h6⟩
theorem En(k:Nat){m n p:Nat}{f g:Nat->Nat->Int}(m4:m<=4)(n1:1<=n)(n4:n<=4)(p4:p<=4)(hs:Sm m n f\/Sm n p g):aV T 60 (k+1) "_law_times" [tbl m n f,tbl n p g]=some (tbl m p (mul n f g)):=by
 obtain⟨r',l',c',t',k',h1,h2,h3,h4,h5,go⟩:=PJ k (f:=f) (g:=g) m4 n1 n4 p4 (λi l j hi hl hj=>hs.imp (λq=>q i l hi hl) (λq=>q l j hl hj));refine fQ (fd:=aZ (top 49)) rfl rfl (jY rfl (d:=.lst []) (by nofun) ?_);show blk _ _ _ _ _ (jW (tbl m n f) (tbl n p g) (.ow []) .no .no .no .no .no)=_;refine Ky (U':=jW (tbl m n f) (tbl n p g) (.ow []) .no .no .no .no .no) (l:=Ls m λi=>row n (f i)) (d7 rfl (d7 rfl (Aj rfl (d7 rfl (d7 rfl (d7 rfl (d7 rfl (d7 rfl Kz)))))))) ?_ go ?_
 .walk_at "xi"
 .refine fK (iu rfl rfl rfl (aG (x:=.lst (Ls m λi=>row p (mul n f g i))) ?_ dj) rJ)
  nofun
section
variable{cx:Cxt}{sc:Scope}{U U':Rho}{e:Expr}{p:Pos}{d:D}{nm:Str}{F m:Nat}{r:List Stmt}{fl:Fl}{y:Str}{s:Sl}{ds:List D}
end
theorem QL{n:Nat}{t:Nat->Bool}:blt "all" [.lst (Ls n λi=>.bl (t i))]=some (.bl ((List.range n).all t)):=by
 have:(Ls n λi=>D.bl (t i))=(Ls n λi=>D.int i).map λx=>.bl (match x with | .int i=>t i.toNat | _=>false):=by
  unfold Ls;rw[V4z];rfl
 rw[this,Us];congr 2;unfold Ls;rw[List.all_map];rfl
def okT(m n:Nat)(f:Nat->Nat->Int):Bool:=(decide (m<=4)&&decide (n<=4))&&(List.range m).all λi=>(List.range n).all λj=>within (-99) 99 (f i j)
theorem yD(k:Nat){n:Nat}{f:Nat->Int}(h4:n<=4):aV T 60 (k+3) "is_small_row" [row n f]=some (.bl ((List.range n).all λj=>within (-99) 99 (f j))):=by
 refine fQ (fd:=aZ (top 24)) rfl rfl (fK (iu rfl rfl rfl (aG (ig (l:=Ls n λj=>.int (f j)) rfl (wSq rfl (by nofun) rfl) (iQ (by omega)) (bM (g:=λj=>.bl (within (-99) 99 (f j))) λj hj=>ju rfl ?_)) dj) QL));refine' bf ?L82b_1a ?L82b_1b ?L82b_1c;(case L82b_1a=>rfl);(case L82b_1b=>walk_at "xm");(case L82b_1c=>exact lU k)
theorem is_table(k:Nat){m n:Nat}{f:Nat->Nat->Int}(h1:1<=m)(h2:m<=8)(h3:1<=n)(h4:n<=8):aV T 60 (k+4) "is_table" [tbl m n f]=some (.bl (okT m n f)):=by
 have hf:=vf k (f:=f) h1 h2 h3 h4
 cases hl:(decide (m<=4)&&decide (n<=4)) with
 | false =>
  rw[hl] at hf;rw[show okT m n f=false by unfold okT;rw[hl];rfl];refine fQ (fd:=aZ (top 25)) rfl rfl (fK (jA (Nb ?_)));refine' bf ?L82b_2a ?L82b_2b ?L82b_2c;(case L82b_2a=>rfl);(case L82b_2b=>walk_at "xm");(case L82b_2c=>exact hf)
 | true =>
  rw[hl] at hf;rw[show okT m n f=(List.range m).all λi=>(List.range n).all λj=>within (-99) 99 (f i j) by unfold okT;rw[hl];rfl];rw[Y2z,X1z,X1z] at hl;refine fQ (fd:=aZ (top 25)) rfl rfl (fK (jA (vZ ?_ (Cp ?_))))
  .refine' bf ?L82b_3a ?L82b_3b ?L82b_3c;(case L82b_3a=>rfl);(case L82b_3b=>walk_at "xm");(case L82b_3c=>exact hf)
  .refine iu rfl rfl rfl (aG (ig (l:=Ls m λi=>row n (f i)) rfl (wSq rfl (by nofun) rfl) (iQ (by omega)) (bM (g:=λi=>.bl ((List.range n).all λj=>within (-99) 99 (f i j))) λi hi=>ju rfl ?_)) dj) QL
   refine' bf ?L82b_4a ?L82b_4b ?L82b_4c;(case L82b_4a=>rfl);(case L82b_4b=>walk_at "xm");(case L82b_4c=>exact yD k hl.2)
theorem rR{cx:Cxt}{F m:Nat}{sc:Scope}{U:Rho}{c:Expr}{A r:List Stmt}{p:Pos}{cn:Str}(hc:jr U=true)(h:ev cx F sc U c=some (.bl false))(k:um cx F (m+1) sc r U cn):um cx F (m+1) sc (.If c A [] p::r) U cn :=
 vI (U1:=U) (by
  have:=fM (cx:=cx) (F:=F) (m:=m) (sc:=sc) (r:=[]) (p:=p) (A:=A) (U:=U) (c:=c) (fl:=.nxt U) (by rw[gj hc];exact h) rfl
  unfold blk at this;simp only[iT] at this
  cases q:st cx F (m+1) sc U (.If c A [] p) with
  | none=>rw[q] at this;cases this
  | some fl =>
   rw[q] at this
   cases fl with
   | ret d=>cases this
   | nxt U'=>exact this) k
theorem Cw{cx:Cxt}{F m:Nat}{sc:Scope}{U:Rho}{c:Expr}{A B r:List Stmt}{p:Pos}{cn:Str}(hc:jr U=true)(h:ev cx F sc U c=some (.bl true))(k:um cx F m sc A U cn):um cx F (m+1) sc (.If c A B p::r) U cn:=by
 obtain⟨k1,U',k2⟩:=k;refine kE (U1:=U') ?_ ?_
 .simp only[st,gj hc,h,asB,Option.bind,bind,O5z,k1]
 .simp only[stx,gj hc,h,asB,Option.bind,O5z,k2]
def blw(a:Nat)(f g:Nat->Nat->Int):Nat->Nat->Int:=λi j=>if i<a then f i j else g (i-a) j
theorem Ia{α:Type}{a b:Nat}{h g:Nat->α}:Ls a h++Ls b g=Ls (a+b) λi=>if i<a then h i else g (i-a):=by
 apply List.ext_getElem?;intro i
 by_cases hi:i<a
 .rw[List.getElem?_append_left (by rw[cg];exact hi),gC hi,gC (by omega),P5z hi]
 .rw[List.getElem?_append_right (by rw[cg];omega),cg]
  by_cases h2:i<a+b
  .rw[gC (by omega),gC h2,Q5z hi]
  .rw[List.getElem?_eq_none (by rw[cg];omega),List.getElem?_eq_none (by rw[cg];omega)]
theorem yg{a b n:Nat}{f g:Nat->Nat->Int}:D.tup ((Ls a λi=>row n (f i))++Ls b λi=>row n (g i))=tbl (a+b) n (blw a f g):=by
 rw[Ia];refine congrArg D.tup (vU λi _=>?_);unfold blw
 by_cases h:i<a
 .simp only[h,O5z]
 .simp only[h,M5z]
section
variable{m n p q:Nat}{f g:Nat->Nat->Int}
theorem below(k:Nat)(h1:1<=m)(h2:m<=4)(h3:1<=n)(h4:n<=4)(h5:1<=p)(h6:p<=4)(h:m+p<=4):aV T 60 (k+5) "set_below" [tbl m n f,tbl p n g]=some (tbl (m+p) n (blw m f g)):=by
 refine fQ (fd:=aZ (top 36)) rfl rfl (Cu rfl (d:=.non) ?_ (Cu rfl (d:=.non) ?_ (fM (bx (x:=.int n) ?_ ?_ (Ph rfl)) (Cu rfl (d:=.non) (bf rfl (aG (jU (d':=.int ((m+p:Nat):Int)) (dG (x:=.int m) (y:=.int p) ?_ ?_ rfl) (congrArg D.int (by omega))) (aG ?_ dj)) (need_size (k+1) (by omega) h)) (fK (jU (dG (x:=tbl m n f) (y:=tbl p n g) ?_ ?_ (LQ (by rw[cg,cg];omega))) yg))))))
 .refine' bf ?L82b_5a ?L82b_5b ?L82b_5c;(case L82b_5a=>rfl);(case L82b_5b=>walk_at "xm");(case L82b_5c=>exact need_table k h1 h2 h3 h4)
 .refine' bf ?L82b_6a ?L82b_6b ?L82b_6c;(case L82b_6a=>rfl);(case L82b_6b=>walk_at "xm");(case L82b_6c=>exact need_table k h5 h6 h3 h4)
 .nofun
 .nofun
 .nofun
 .nofun
 .nofun
 .nofun
 .nofun
theorem vN(k:Nat)(h1:1<=m)(h2:m<=4)(h3:1<=n)(h4:n<=4)(h5:1<=p)(h6:p<=4)(h7:1<=q)(h8:q<=4)(h:n≠q\/4<m+p):jt T 60 (k+5) "set_below" [tbl m n f,tbl p q g]=some "NoFit"/\aV T 60 (k+5) "set_below" [tbl m n f,tbl p q g]=none:=by
 by_cases e:n=q
 .subst e
  have ns:=qy (k+1) (n:=m+p) (by omega);refine jT (fd:=aZ (top 36)) rfl rfl (pK rfl (d:=.non) ?_ (pK rfl (d:=.non) ?_ (rR rfl (bx (x:=.int n) ?_ ?_ (Ph rfl)) (M7 rfl (kJ rfl (aG (jU (d':=.int ((m+p:Nat):Int)) (dG (x:=.int m) (y:=.int p) ?_ ?_ rfl) (congrArg D.int (by omega))) (aG ?_ dj)) ns.1 ns.2)))))
  .refine' bf ?L82b_7a ?L82b_7b ?L82b_7c;(case L82b_7a=>rfl);(case L82b_7b=>walk_at "xm");(case L82b_7c=>exact need_table k h1 h2 h3 h4)
  .refine' bf ?L82b_8a ?L82b_8b ?L82b_8c;(case L82b_8a=>rfl);(case L82b_8b=>walk_at "xm");(case L82b_8c=>exact need_table k h5 h6 h3 h4)
  .nofun
  .nofun
  .nofun
  .nofun
  .nofun
 .refine jT (fd:=aZ (top 36)) rfl rfl (pK rfl (d:=.non) ?_ (pK rfl (d:=.non) ?_ (iH (bx (x:=.int n) (y:=.int q) ?_ ?_ (by rw[Pb,Y3z e])) rfl)))
  .refine' bf ?L82b_9a ?L82b_9b ?L82b_9c;(case L82b_9a=>rfl);(case L82b_9b=>walk_at "xm");(case L82b_9c=>exact need_table k h1 h2 h3 h4)
  .refine' bf ?L82b_10a ?L82b_10b ?L82b_10c;(case L82b_10a=>rfl);(case L82b_10b=>walk_at "xm");(case L82b_10c=>exact need_table k h5 h6 h7 h8)
  .nofun
  .nofun
theorem CP(k:Nat)(h1:1<=m)(h2:m<=4)(h3:1<=n)(h4:n<=4)(h5:1<=p)(h6:p<=4)(h7:1<=q)(h8:q<=4)(h:n≠p):jt T 60 (k+5) "times" [tbl m n f,tbl p q g]=some "NoFit"/\aV T 60 (k+5) "times" [tbl m n f,tbl p q g]=none:=by
 refine jT (fd:=aZ (top 32)) rfl rfl (pK rfl (d:=.non) ?_ (pK rfl (d:=.non) ?_ (iH (bx (x:=.int n) (y:=.int p) ?_ ?_ (by rw[Pb,Y3z h])) rfl)))
 .refine' bf ?L82b_11a ?L82b_11b ?L82b_11c;(case L82b_11a=>rfl);(case L82b_11b=>walk_at "xm");(case L82b_11c=>exact need_table k h1 h2 h3 h4)
 .refine' bf ?L82b_12a ?L82b_12b ?L82b_12c;(case L82b_12a=>rfl);(case L82b_12b=>walk_at "xm");(case L82b_12c=>exact need_table k h5 h6 h7 h8)
 .nofun
 .nofun
theorem Jb(k:Nat)(h1:1<=m)(h5:1<=p)(h:m≠p\/n≠q):jt T 60 (k+1) "need_same_size" [tbl m n f,tbl p q g]=some "NoFit"/\aV T 60 (k+1) "need_same_size" [tbl m n f,tbl p q g]=none:=by
 by_cases e:m=p
 .refine jT (fd:=aZ (top 20)) rfl rfl (iH (jA (Q5 (bx (x:=.int m) (y:=.int p) ?_ ?_ (by rw[Pb,F3z (by omega)])) (Cp (bx (x:=.int n) (y:=.int q) ?_ ?_ (by rw[Pb,Y3z (by omega)]))))) rfl)
  .nofun
  .nofun
  .nofun
  .nofun
 .refine jT (fd:=aZ (top 20)) rfl rfl (iH (jA (UW (bx (x:=.int m) (y:=.int p) ?_ ?_ (by rw[Pb,Y3z e])))) rfl)
  .nofun
  .nofun
theorem JB(k:Nat)(h1:1<=m)(h2:m<=4)(h3:1<=n)(h4:n<=4)(h5:1<=p)(h6:p<=4)(h7:1<=q)(h8:q<=4)(h:m≠p\/n≠q):jt T 60 (k+5) "plus" [tbl m n f,tbl p q g]=some "NoFit"/\aV T 60 (k+5) "plus" [tbl m n f,tbl p q g]=none:=by
 have ns:=Jb (k+3) (f:=f) (g:=g) h1 h5 h;refine jT (fd:=aZ (top 34)) rfl rfl (pK rfl (d:=.non) ?_ (pK rfl (d:=.non) ?_ (M7 rfl (kJ rfl (by walk_at "xm") ns.1 ns.2))))
 .refine' bf ?L82b_13a ?L82b_13b ?L82b_13c;(case L82b_13a=>rfl);(case L82b_13b=>walk_at "xm");(case L82b_13c=>exact need_table k h1 h2 h3 h4)
 .refine' bf ?L82b_14a ?L82b_14b ?L82b_14c;(case L82b_14a=>rfl);(case L82b_14b=>walk_at "xm");(case L82b_14c=>exact need_table k h5 h6 h7 h8)
def bsd(a:Nat)(f g:Nat->Nat->Int):Nat->Nat->Int:=λi j=>if j<a then f i j else g i (j-a)
theorem beside(k:Nat)(h1:1<=m)(h2:m<=4)(h3:1<=n)(h4:n<=4)(h7:1<=q)(h8:q<=4)(h:n+q<=4):aV T 60 (k+6) "set_beside" [tbl m n f,tbl m q g]=some (tbl m (n+q) (bsd n f g)):=by
 have t1:=turned k (f:=f) h1 h2 h3 h4;have t2:=turned k (f:=g) h1 h2 h7 h8;have t3:=turned k (m:=n+q) (n:=m) (f:=blw n (λi j=>f j i) (λi j=>g j i)) (by omega) h h1 h2;have b:=below k (f:=λi j=>f j i) (g:=λi j=>g j i) h3 h4 h1 h2 h7 h8 h;exact fQ (fd:=aZ (top 37)) rfl rfl (fK (bf rfl (aG (bf rfl (aG (bf rfl (by walk_at "xm") t1) (aG (bf rfl (by walk_at "xm") t2) dj)) b) dj) t3))
theorem BX(k:Nat)(h1:1<=m)(h2:m<=4)(h3:1<=n)(h4:n<=4)(h5:1<=p)(h6:p<=4)(h7:1<=q)(h8:q<=4)(h:m≠p\/4<n+q):jt T 60 (k+6) "set_beside" [tbl m n f,tbl p q g]=some "NoFit"/\aV T 60 (k+6) "set_beside" [tbl m n f,tbl p q g]=none:=by
 have t1:=turned k (f:=f) h1 h2 h3 h4;have t2:=turned k (f:=g) h5 h6 h7 h8;have b:=vN k (f:=λi j=>f j i) (g:=λi j=>g j i) h3 h4 h1 h2 h7 h8 h5 h6 h;exact jT (fd:=aZ (top 37)) rfl rfl (xG (RG rfl (kJ rfl (aG (bf rfl (by walk_at "xm") t1) (aG (bf rfl (by walk_at "xm") t2) dj)) b.1 b.2)))
end
def wdN:Nat->Str
 | 0=>"times"
 | 1=>"plus"
 | 2=>"beside"
 | _=>"below"
def fnN:Nat->Str
 | 0=>"times"
 | 1=>"plus"
 | 2=>"set_beside"
 | _=>"set_below"
theorem TF(k:Nat){w:Nat}{x y d:D}(hw:w<4)(h:aV T 60 (k+1) (fnN w) [x,y]=some d):aV T 60 (k+2) "joined" [.str (wdN w),x,y]=some d:=by
 match w,hw with
 | 0,_=>exact fQ (fd:=aZ (top 43)) rfl rfl (j6 (fl1:=.ret d) (bx (by nofun) (by nofun) rfl) (fK (bf rfl (by walk_at "xm") h)) rfl)
 | 1,_=>exact fQ (fd:=aZ (top 43)) rfl rfl (fM (bx (by nofun) (by nofun) rfl) (j6 (fl1:=.ret d) (bx (by nofun) (by nofun) rfl) (fK (bf rfl (by walk_at "xm") h)) rfl))
 | 2,_=>exact fQ (fd:=aZ (top 43)) rfl rfl (fM (bx (by nofun) (by nofun) rfl) (fM (bx (by nofun) (by nofun) rfl) (j6 (fl1:=.ret d) (bx (by nofun) (by nofun) rfl) (fK (bf rfl (by walk_at "xm") h)) rfl)))
 | 3,_=>exact fQ (fd:=aZ (top 43)) rfl rfl (fM (bx (by nofun) (by nofun) rfl) (fM (bx (by nofun) (by nofun) rfl) (fM (bx (by nofun) (by nofun) rfl) (j6 (fl1:=.ret d) (bx (by nofun) (by nofun) rfl) (fK (bf rfl (by walk_at "xm") h)) rfl))))
theorem Tz(k:Nat){w:Nat}{x y:D}{c:Str}(hw:w<4)(h:jt T 60 (k+1) (fnN w) [x,y]=some c/\aV T 60 (k+1) (fnN w) [x,y]=none):jt T 60 (k+2) "joined" [.str (wdN w),x,y]=some c/\aV T 60 (k+2) "joined" [.str (wdN w),x,y]=none:=by
 match w,hw with
 | 0,_=>exact jT (fd:=aZ (top 43)) rfl rfl (Cw rfl (bx (by nofun) (by nofun) rfl) (xG (kJ rfl (by walk_at "xm") h.1 h.2)))
 | 1,_=>exact jT (fd:=aZ (top 43)) rfl rfl (rR rfl (bx (by nofun) (by nofun) rfl) (Cw rfl (bx (by nofun) (by nofun) rfl) (xG (kJ rfl (by walk_at "xm") h.1 h.2))))
 | 2,_=>exact jT (fd:=aZ (top 43)) rfl rfl (rR rfl (bx (by nofun) (by nofun) rfl) (rR rfl (bx (by nofun) (by nofun) rfl) (Cw rfl (bx (by nofun) (by nofun) rfl) (xG (kJ rfl (by walk_at "xm") h.1 h.2)))))
 | 3,_=>exact jT (fd:=aZ (top 43)) rfl rfl (rR rfl (bx (by nofun) (by nofun) rfl) (rR rfl (bx (by nofun) (by nofun) rfl) (rR rfl (bx (by nofun) (by nofun) rfl) (Cw rfl (bx (by nofun) (by nofun) rfl) (xG (kJ rfl (by walk_at "xm") h.1 h.2))))))
def Hq(w m n p q:Nat):Bool:=match w with
 | 0=>decide (n=p)
 | 1=>decide (m=p)&&decide (n=q)
 | 2=>decide (m=p)
 | _=>decide (n=q)
def jM(w m p:Nat):Nat:=match w with
 | 3=>m+p
 | _=>m
def jN(w n q:Nat):Nat:=match w with
 | 0=>q
 | 2=>n+q
 | _=>n
def jF(w m n:Nat)(f g:Nat->Nat->Int):Nat->Nat->Int:=match w with
 | 0=>mul n f g
 | 1=>λi j=>f i j+g i j
 | 2=>bsd n f g
 | _=>blw m f g
section
variable{w m n p q:Nat}{f g:Nat->Nat->Int}
theorem zZ(k:Nat)(hw:w<4)(h1:1<=m)(h2:m<=4)(h3:1<=n)(h4:n<=4)(h5:1<=p)(h6:p<=4)(h7:1<=q)(h8:q<=4)(hs:Sm m n f)(h:Hq w m n p q=true)(ha:jM w m p<=4)(hb:jN w n q<=4):aV T 60 (k+8) "joined" [.str (wdN w),tbl m n f,tbl p q g]=some (tbl (jM w m p) (jN w n q) (jF w m n f g)):=by
 refine TF (k+6) hw ?_
 match w,hw with
 | 0,_ =>
  obtain rfl:n=p:=L2z h;exact times (k+1) h1 h2 h3 h4 h7 h8 (.inl hs)
 | 1,_ =>
  have h:(decide (m=p)&&decide (n=q))=true:=h;rw[Y2z,X1z,X1z] at h;obtain⟨rfl,rfl⟩:=h;exact plus (k+2) h1 h2 h3 h4
 | 2,_ =>
  obtain rfl:m=p:=L2z h;exact beside (k+1) h1 h2 h3 h4 h7 h8 hb
 | 3,_ =>
  obtain rfl:n=q:=L2z h;exact below (k+2) h1 h2 h3 h4 h5 h6 ha
theorem z6(k:Nat)(hw:w<4)(h1:1<=m)(h2:m<=4)(h3:1<=n)(h4:n<=4)(h5:1<=p)(h6:p<=4)(h7:1<=q)(h8:q<=4)(h:Hq w m n p q=false\/4<jM w m p\/4<jN w n q):jt T 60 (k+8) "joined" [.str (wdN w),tbl m n f,tbl p q g]=some "NoFit"/\aV T 60 (k+8) "joined" [.str (wdN w),tbl m n f,tbl p q g]=none:=by
 refine Tz (k+6) hw ?_
 match w,hw with
 | 0,_=>exact CP (k+2) h1 h2 h3 h4 h5 h6 h7 h8 (by
   rcases h with h | h | h
   .exact Y1z h
   .exact absurd h (by show ¬ 4<m;omega)
   .exact absurd h (by show ¬ 4<q;omega))
 | 1,_=>exact JB (k+2) h1 h2 h3 h4 h5 h6 h7 h8 (by
   rcases h with h | h | h
   .have h:(decide (m=p)&&decide (n=q))=false:=h
    rw[T0z,K0z,K0z] at h;exact h
   .exact absurd h (by show ¬ 4<m;omega)
   .exact absurd h (by show ¬ 4<n;omega))
 | 2,_=>exact BX (k+1) h1 h2 h3 h4 h5 h6 h7 h8 (by
   rcases h with h | h | h
   .exact .inl (Y1z h)
   .exact absurd h (by show ¬ 4<m;omega)
   .exact .inr h)
 | 3,_=>exact vN (k+2) h1 h2 h3 h4 h5 h6 h7 h8 (by
   rcases h with h | h | h
   .exact .inl (Y1z h)
   .exact .inr h
   .exact absurd h (by show ¬ 4<n;omega))
def rM(x y z:D)(md:Sl):Rho:=[("_law_word",.sh x),("_law_one",.sh y),("_law_other",.sh z),("_law_made_here",md)]
theorem zN(k:Nat){x y z:D}:blk (cxN T 60 k) 60 60 (aZ (top 53)).sc ((aZ (top 53)).body.drop 1) (rM x y z (.sh .non))=some (.ret (.str "no fit")):=by rfl'
theorem Eh(k:Nat){x y z:D}{a b:Nat}{h:Nat->Nat->Int}(h1:1<=a)(h2:a<=8)(h3:1<=b)(h4:b<=8):blk (cxN T 60 (k+4)) 60 60 (aZ (top 53)).sc ((aZ (top 53)).body.drop 1) (rM x y z (.sh (tbl a b h)))=some (.ret (if okT a b h then tbl a b h else .str "no fit")):=by
 have it:=is_table k (f:=h) h1 h2 h3 h4
 cases e:okT a b h with
 | true =>
  rw[e] at it;refine fK (Mp (jA (vZ (bx (by nofun) (by nofun) rfl) (Cp ?_))) (by nofun));refine' bf ?L82c_1a ?L82c_1b ?L82c_1c;(case L82c_1a=>rfl);(case L82c_1b=>walk_at "xm");(case L82c_1c=>exact it)
 | false =>
  rw[e] at it;refine fK (Mq (jA (vZ (bx (by nofun) (by nofun) rfl) (Cp ?_))) (by nofun));refine' bf ?L82c_2a ?L82c_2b ?L82c_2c;(case L82c_2a=>rfl);(case L82c_2b=>walk_at "xm");(case L82c_2c=>exact it)
theorem Jk{a b:Nat}{f g:Nat->Int}:D.tup ((Ls a λj=>.int (f j))++Ls b λj=>.int (g j))=row (a+b) λj=>if j<a then f j else g (j-a):=by
 rw[Ia];refine congrArg D.tup (vU λi _=>?_)
 by_cases h:i<a
 .simp only[h,O5z]
 .simp only[h,M5z]
set_option maxHeartbeats 2000000 in
theorem Em(k:Nat)(hw:w<4)(h1:1<=m)(h2:m<=4)(h3:1<=n)(h4:n<=4)(h5:1<=p)(h6:p<=4)(h7:1<=q)(h8:q<=4)(hs:Sm m n f):aV T 60 (k+5) "_law_made" [.str (wdN w),tbl m n f,tbl p q g]=some (if Hq w m n p q&&okT (jM w m p) (jN w n q) (jF w m n f g) then tbl (jM w m p) (jN w n q) (jF w m n f g) else .str "no fit"):=by
 cases e:Hq w m n p q with
 | false =>
  rw[Bool.false_and]
  match w,hw with
  | 0,_=>exact fQ (fd:=aZ (top 53)) rfl rfl (j6 (fl1:=.nxt (rM _ _ _ (.sh .non))) (bx (by nofun) (by nofun) rfl) (jY rfl (d:=.non) (Mq (bx (x:=.int n) (y:=.int p) (by nofun) (by nofun) (Pj (by have:=Y1z e;omega))) (by nofun)) gR) (zN _))
  | 1,_ =>
   have e:(decide (m=p)&&decide (n=q))=false:=e;rw[T0z,K0z,K0z] at e
   by_cases e2:m=p
   .exact fQ (fd:=aZ (top 53)) rfl rfl (tH (fl1:=.nxt (rM _ _ _ (.sh .non))) (bx (by nofun) (by nofun) rfl) (j6 (fl1:=.nxt (rM _ _ _ (.sh .non))) (bx (by nofun) (by nofun) rfl) (jY rfl (d:=.non) (by nofun) (fM (jA (vZ (bx (x:=.int m) (y:=.int p) (by nofun) (by nofun) (Mv (by omega))) (Cp (bx (x:=.int n) (y:=.int q) (by nofun) (by nofun) (Pj (by omega)))))) gR)) rfl) (zN _))
   .exact fQ (fd:=aZ (top 53)) rfl rfl (tH (fl1:=.nxt (rM _ _ _ (.sh .non))) (bx (by nofun) (by nofun) rfl) (j6 (fl1:=.nxt (rM _ _ _ (.sh .non))) (bx (by nofun) (by nofun) rfl) (jY rfl (d:=.non) (by nofun) (fM (jA (Nb (bx (x:=.int m) (y:=.int p) (by nofun) (by nofun) (Pj (by omega))))) gR)) rfl) (zN _))
  | 2,_=>exact fQ (fd:=aZ (top 53)) rfl rfl (tH (fl1:=.nxt (rM _ _ _ (.sh .non))) (bx (by nofun) (by nofun) rfl) (tH (fl1:=.nxt (rM _ _ _ (.sh .non))) (bx (by nofun) (by nofun) rfl) (tH (fl1:=.nxt (rM _ _ _ (.sh .non))) (bx (by nofun) (by nofun) rfl) (jY rfl (d:=.non) (Mq (bx (x:=.int m) (y:=.int p) (by nofun) (by nofun) (Pj (by have:=Y1z e;omega))) (by nofun)) gR) rfl) rfl) (zN _))
  | 3,_=>exact fQ (fd:=aZ (top 53)) rfl rfl (tH (fl1:=.nxt (rM _ _ _ (.sh .non))) (bx (by nofun) (by nofun) rfl) (tH (fl1:=.nxt (rM _ _ _ (.sh .non))) (bx (by nofun) (by nofun) rfl) (j6 (fl1:=.nxt (rM _ _ _ (.sh .non))) (bx (by nofun) (by nofun) rfl) (jY rfl (d:=.non) (Mq (bx (x:=.int n) (y:=.int q) (by nofun) (by nofun) (Pj (by have:=Y1z e;omega))) (by nofun)) gR) rfl) rfl) (zN _))
 | true =>
  rw[Bool.true_and]
  match w,hw with
  | 0,_ =>
   obtain rfl:n=p:=L2z e;refine fQ (fd:=aZ (top 53)) rfl rfl (j6 (fl1:=.nxt (rM _ _ _ (.sh (tbl m q (mul n f g))))) (bx (by nofun) (by nofun) rfl) (jY rfl (d:=tbl m q (mul n f g)) (Mp (bx (x:=.int n) (y:=.int n) (by nofun) (by nofun) (Mv rfl)) ?_) gR) (Eh k h1 (by omega) h7 (by omega)));refine' bf ?L82c_3a ?L82c_3b ?L82c_3c;(case L82c_3a=>rfl);(case L82c_3b=>walk_at "xm");(case L82c_3c=>exact En (k+3) h2 h3 h4 h8 (.inl hs))
  | 1,_ =>
   have e:(decide (m=p)&&decide (n=q))=true:=e;rw[Y2z,X1z,X1z] at e;obtain⟨rfl,rfl⟩:=e;refine fQ (fd:=aZ (top 53)) rfl rfl (tH (fl1:=.nxt (rM _ _ _ (.sh (tbl m n λi j=>f i j+g i j)))) (bx (by nofun) (by nofun) rfl) (j6 (fl1:=.nxt (rM _ _ _ (.sh (tbl m n λi j=>f i j+g i j)))) (bx (by nofun) (by nofun) rfl) (jY rfl (d:=.non) (by nofun) (j6 (fl1:=.nxt (rM _ _ _ (.sh (tbl m n λi j=>f i j+g i j)))) (jA (vZ (bx (x:=.int m) (y:=.int m) (by nofun) (by nofun) (Mv rfl)) (Cp (bx (x:=.int n) (y:=.int n) (by nofun) (by nofun) (Mv rfl))))) (jY rfl (d:=tbl m n λi j=>f i j+g i j) (iu rfl rfl rfl (aG ?_ dj) rJ) gR) rfl)) rfl) (Eh k h1 (by omega) h3 (by omega)));refine ig (l:=Ls m λi=>.tup [row n (f i),row n (g i)]) rfl (Q8 rfl (by nofun) (by nofun)) (iQ (by omega)) (bM (g:=λi=>row n λj=>f i j+g i j) λi hi=>ju rfl ?_);exact iu rfl rfl rfl (aG (ig (l:=Ls n λj=>.tup [.int (f i j),.int (g i j)]) rfl (Q8 rfl (by nofun) (by nofun)) (iQ (by omega)) (bM (g:=λj=>.int (f i j+g i j)) λj hj=>ju rfl (dG (by nofun) (by nofun) rfl))) dj) rJ
  | 2,_ =>
   obtain rfl:m=p:=L2z e;refine fQ (fd:=aZ (top 53)) rfl rfl (tH (fl1:=.nxt (rM _ _ _ (.sh (tbl m (n+q) (bsd n f g))))) (bx (by nofun) (by nofun) rfl) (tH (fl1:=.nxt (rM _ _ _ (.sh (tbl m (n+q) (bsd n f g))))) (bx (by nofun) (by nofun) rfl) (tH (fl1:=.nxt (rM _ _ _ (.sh (tbl m (n+q) (bsd n f g))))) (bx (by nofun) (by nofun) rfl) (jY rfl (d:=tbl m (n+q) (bsd n f g)) (Mp (bx (x:=.int m) (y:=.int m) (by nofun) (by nofun) (Mv rfl)) (iu rfl rfl rfl (aG ?_ dj) rJ)) gR) rfl) rfl) (Eh k h1 (by omega) (by omega) (by omega)));refine ig (l:=Ls m λi=>.tup [row n (f i),row q (g i)]) rfl (Q8 rfl (by nofun) (by nofun)) (iQ (by omega)) (bM (g:=λi=>row (n+q) (bsd n f g i)) λi hi=>ju rfl ?_);exact jU (dG (x:=row n (f i)) (y:=row q (g i)) (by nofun) (by nofun) (LQ (by rw[cg,cg];omega))) Jk
  | 3,_ =>
   obtain rfl:n=q:=L2z e;refine fQ (fd:=aZ (top 53)) rfl rfl (tH (fl1:=.nxt (rM _ _ _ (.sh (tbl (m+p) n (blw m f g))))) (bx (by nofun) (by nofun) rfl) (tH (fl1:=.nxt (rM _ _ _ (.sh (tbl (m+p) n (blw m f g))))) (bx (by nofun) (by nofun) rfl) (j6 (fl1:=.nxt (rM _ _ _ (.sh (tbl (m+p) n (blw m f g))))) (bx (by nofun) (by nofun) rfl) (jY rfl (d:=tbl (m+p) n (blw m f g)) (Mp (bx (x:=.int n) (y:=.int n) (by nofun) (by nofun) (Mv rfl)) (jU (dG (x:=tbl m n f) (y:=tbl p n g) (by nofun) (by nofun) (LQ (by rw[cg,cg];omega))) yg)) gR) rfl) rfl) (Eh k (by omega) (by omega) h3 (by omega)))
end
def cH(l:List (Str×D)):D:=.dic (l.map λq=>.inr q.1) (l.map (·.2))
def prK(l:List (Str×D)):List D:=l.map λq=>.tup [.str q.1,q.2]
section
variable{l:List (Str×D)}{n:Str}{x:D}
theorem Ru:∀{l:List (Str×D)},(l.map λq=>(Sum.inr q.1:Sum Int Str)).zip (l.map (·.2))=l.map λq=>(Sum.inr q.1,q.2)
 | []=>rfl
 | q::l=>by rw[E4z,E4z,E4z,V1z,Ru]
theorem Q9:kO (l.map λq=>.inr q.1) (l.map (·.2)) (.inr n)=L2.bC l n:=by
 unfold kO L2.bC;rw[Ru,List.find?_map]
 have:((λq:Sum Int Str×D=>decide (q.1=Sum.inr n))∘λq:Str×D=>((Sum.inr q.1:Sum Int Str),q.2))=λp:Str×D=>decide (p.1=n):=by
  funext p;exact decide_eq_decide.mpr ⟨λh=>W4z h,λh=>congrArg Sum.inr h⟩
 rw[this,Option.map_map];rfl
theorem inK:cmpop .In (.str n) (cH l)=some (.bl (L2.bC l n).isSome):=by
 show some (D.bl (kO _ _ _).isSome)=_;rw[Q9]
theorem DY:cmpop .NotIn (.str n) (cH l)=some (.bl (!(L2.bC l n).isSome)):=by
 show some (D.bl (!(kO _ _ _).isSome))=_;rw[Q9]
theorem Mr:Ms (cH l) (.str n)=L2.bC l n:=by
 show kO _ _ _=_;rw[Q9]
theorem zu:∀{l:List (Str×D)},iY (prK l)=some (l.map λq=>(.inr q.1,q.2))
 | []=>rfl
 | q::l=>by
  show(iY (prK l)).map _=_;rw[zu];rfl
theorem Vd:∀{l:List (Str×D)}{a:List (Sum Int Str×D)},(l.map (·.1)).Nodup->(∀q∈l,∀p∈a,p.1≠Sum.inr q.1)->(l.map λq=>((Sum.inr q.1:Sum Int Str),q.2)).foldl (λa q=>putD a q.1 q.2) a=a++l.map λq=>(.inr q.1,q.2)
 | [],a,_,_=>by simp
 | q::l,a,hn,ha=>by
  rw[E4z,L3z] at hn;rw[E4z,List.foldl_cons]
  have e:putD a (.inr q.1) q.2=a++[(.inr q.1,q.2)]:=by
   unfold putD;rw[Q5z];intro h;obtain⟨p,h1,h2⟩:=List.any_eq_true.mp h;exact ha q (K1z ..) p h1 (L2z h2)
  rw[e,Vd hn.2 λr hr p hp=>?_,O2z];rfl
  rcases List.mem_append.mp hp with hp | hp
  .exact ha r (U0z _ hr) p hp
  .rw[Z1z] at hp
   subst hp;intro h;exact hn.1 (List.mem_map.mpr ⟨r,hr,(W4z h).symm⟩)
theorem Vc(h:(l.map (·.1)).Nodup):Mw (l.map λq=>((Sum.inr q.1:Sum Int Str),q.2))=l.map λq=>(.inr q.1,q.2):=Vd h λ_ _ _ h=>nomatch h
theorem Qy(h:(l.map (·.1)).Nodup):blt "dict" [.lst (prK l)]=some (cH l):=by
 show(iY (prK l)).map (λl=>tW (Mw l))=_;rw[zu];show some (tW (Mw _))=_;rw[Vc h];unfold tW cH;rw[V4z,V4z];rfl
theorem Wn{a b:Str}:cmpop .NotEq (.str a) (.str b)=some (.bl (decide (a≠b))):=by
 rw[oNe (by simp[dep]) (by simp[dep])];congr 2;show(!(a==b))=_
 by_cases h:a=b
 .subst h;simp
 .simp[h]
theorem qR{α:Type}{f:D->Option (Option D)}{h g:α->D}{t:α->Bool}:∀{l:List α},(∀q∈l,f (h q)=some (if t q then some (g q) else none))->bR f (l.map h)=some ((l.filter t).map g)
 | [],_=>rfl
 | q::l,hq=>by
  have h1:=hq q (K1z ..);have h2:=qR λr hr=>hq r (U0z _ hr);simp only[E4z,bR,h1]
  cases ht:t q with
  | true=>simp only[O5z,X2z,ht,E4z,h2];rfl
  | false=>simp only[S1z,M5z,X2z,ht];exact h2
theorem get_mem:∀{l:List (Str×D)}{q:Str×D},(l.map (·.1)).Nodup->q∈l->L2.bC l q.1=some q.2
 | p::l,q,hn,h=>by
  rw[E4z,L3z] at hn;unfold L2.bC;rcases L4z.mp h with rfl | h
  .rw[List.find?_cons_of_pos (by simp)];rfl
  .rw[List.find?_cons_of_neg (by
    have:p.1≠q.1:=λz=>hn.1 (List.mem_map.mpr ⟨q,h,z.symm⟩)
    simpa using this)]
   exact get_mem hn.2 h
theorem tO(hn:(l.map (·.1)).Nodup):((L2.cP l n).map (·.1)).Nodup:=hn.sublist (List.filter_sublist.map _)
theorem wDc{cx:Cxt}{k:Nat}{sc:Scope}{U:Rho}{e:Expr}(hw:v7 cx sc e=.sq)(h:ev cx k sc U e=some (cH l)):evI cx false (ev cx k sc U) sc e=some (l.map λq=>.str q.1):=by
 unfold evI;rw[hw];show(ev cx k sc U e).bind mY=_;rw[h];show some ((l.map λq=>(Sum.inr q.1:Sum Int Str)).map kD)=_;rw[V4z];rfl
theorem Vw{cx:Cxt}{k:Nat}{sc:Scope}{U:Rho}{x:Str}{e a:Expr}{q p:Pos}(hg:bZ cx sc x=some "list")(hw:Cy cx sc "list" [e]=.li a)(h:ev cx k sc U a=some (cH l))(hl:l.length<=1000):ev cx (k+1) sc U (.Call (.Name x q) [e] [] p)=some (.lst (prK l)):=by
 unfold bZ at hg;split at hg
 case isFalse=>cases hg
 rename_i h1;simp only[ev,h1,hg,O5z];split
 .rename_i he;exact absurd he (by decide)
 .rename_i he
  cases he;rw[hw];show(ev cx k sc U a).bind TJ=_;rw[h];show(if decide ((l.map λq=>(Sum.inr q.1:Sum Int Str)).length<=1000) then some (D.lst _) else none)=_;rw[I3z,Y3z hl,Ru,V4z];rfl
 .rename_i he;cases he
end
def ifA:Stmt->List Stmt
 | .If _ a _ _=>a
 | _=>[]
def V6:Stmt->Expr
 | .Assign _ e _=>e
 | _=>.Name "" ⟨0,0,0,0⟩
def rB(kn dd:D)(rs md tb:Sl):Rho:=[("_law_known",.sh kn),("_law_deed_here",.sh dd),("_law_rest",rs),("_law_made_here",md),("_law_table_here",tb)]
theorem Ut{us vs:List D}(h:us.length+vs.length<=100000):binop .Add (.lst us) (.lst vs)=some (.lst (us++vs)):=by
 show(if szl (us.length+vs.length) then some (D.lst (us++vs)) else none)=_;rw[P5z (Cr h)]
section
variable{l:List (Str×D)}{n:Str}{ds:List D}{w r:D}
theorem bh(k:Nat)(hn:(l.map (·.1)).Nodup)(hl:l.length<=100)(h:blk (cxN T 60 k) 60 60 (aZ (top 54)).sc ((aZ (top 54)).body.drop 1) (rB (cH l) (.tup (w::.str n::ds)) (.sh (cH (L2.cP l n))) .no .no)=some (.ret r)):aV T 60 (k+1) "_law_behind" [cH l,.tup (w::.str n::ds)]=some r:=by
 refine fQ (fd:=aZ (top 54)) rfl rfl (jY rfl (d:=cH (L2.cP l n)) (iu rfl rfl rfl (aG (ig (l:=l.map λq=>.str q.1) rfl (wDc rfl (by nofun)) (Cr (by rw[I3z];omega)) (qR (t:=λq:Str×D=>decide (q.1≠n)) (g:=λq:Str×D=>.tup [.str q.1,q.2]) λq hq=>Lq rfl (bx (by nofun) (xIx (by nofun) (by nofun) rfl (d:=.str n) ?_) Wn) ?_)) dj) (Qy (tO hn))) h)
 .exact gA (j:=1) rfl
 .exact mL (aG (by nofun) (aG (vY (by nofun) (by nofun) (Mr.trans (get_mem hn hq))) dj)) rfl
theorem fP{l:List D}{x:D}{j:Nat}(h:l[j]?=some x):atD l (j:Int)=some x:=gA h
theorem HY{l:List (Str×D)}{t:D}(hn:(l.map (·.1)).Nodup):((L2.cP l n++[(n,t)]).map (·.1)).Nodup:=by
 rw[S3z,List.nodup_append];refine⟨tO hn,by simp,λa ha b hb=>?_⟩;obtain⟨q,hq,rfl⟩:=List.mem_map.mp ha
 have hb:b=n:=by simpa using hb
 subst hb;exact L2z (List.mem_filter.mp hq).2
theorem Fw:(L2.cP l n).length<=l.length:=List.length_filter_le ..
theorem oF{cx:Cxt}{k:Nat}{sc:Scope}{U:Rho}{x y:Str}{e a:Expr}{t:D}{o p q p2 p3 p4:Pos}(hn:(l.map (·.1)).Nodup)(hl:l.length<=100)(g1:bZ cx sc x=some "dict")(gw:Cy cx sc "dict" [.BinOp (.Call (.Name y q) [e] [] p) .Add (.List [a] p2) p3]=.al)(g2:bZ cx sc y=some "list"){b:Expr}(gi:Cy cx sc "list" [e]=.li b)(h1:ev cx k sc U b=some (cH (L2.cP l n)))(h2:ev cx k sc U a=some (.tup [.str n,t])) :
  ev cx (k+3) sc U (.Call (.Name x o) [.BinOp (.Call (.Name y q) [e] [] p) .Add (.List [a] p2) p3] [] p4)=some (cH (L2.cP l n++[(n,t)])):=by
 have dl:=Fw (l:=l) (n:=n);refine iu g1 gw rfl (aG (jU (dG (Vw g2 gi h1 (by omega)) (Q6 (aG h2 dj) rfl) (Ut ?_)) ?_) dj) (Qy (HY hn))
 .unfold prK
  rw[I3z];show _+1<=_;omega
 .unfold prK
  rw[S3z];rfl
theorem QG(k:Nat){t:D}(hn:(l.map (·.1)).Nodup)(hl:l.length<=100):aV T 60 (k+1) "_law_behind" [cH l,.tup [.str "put",.str n,t]]=some (.tup [cH (L2.cP l n++[(n,t)]),.bl (L2.bC l n).isSome]):=by
 refine bh k hn hl (j6 (fl1:=.ret (.tup [cH (L2.cP l n++[(n,t)]),.bl (L2.bC l n).isSome])) (bx (x:=.str "put") (xIx (by nofun) (by nofun) rfl (fP (j:=0) rfl)) (by nofun) rfl) (fK (mL (aG (oF hn hl rfl rfl rfl rfl (by nofun) (mL (aG (xIx (by nofun) (by nofun) rfl (fP (j:=1) rfl)) (aG (xIx (by nofun) (by nofun) rfl (fP (j:=2) rfl)) dj)) rfl)) (aG (bx (xIx (by nofun) (by nofun) rfl (fP (j:=1) rfl)) (by nofun) inK) dj)) rfl)) rfl)
theorem BW(k:Nat){w:Str}(hn:(l.map (·.1)).Nodup)(hl:l.length<=100)(h1:deq (.str w) (.str "put")=false)(h2:deq (.str w) (.str "join")=false)(h:L2.bC l n=none):aV T 60 (k+1) "_law_behind" [cH l,.tup [.str w,.str n]]=some (.tup [cH l,.str "no name"]):=by
 refine bh k hn hl (fM (bx (x:=.str w) (xIx (by nofun) (by nofun) rfl (fP (j:=0) rfl)) (by nofun) ?_) (fM (bx (x:=.str w) (xIx (by nofun) (by nofun) rfl (fP (j:=0) rfl)) (by nofun) ?_) (j6 (fl1:=.ret (.tup [cH l,.str "no name"])) (bx (xIx (by nofun) (by nofun) rfl (fP (j:=1) rfl)) (by nofun) (DY.trans (by rw[h];rfl))) (fK (mL (aG (by nofun) (aG (by nofun) dj)) rfl)) rfl)))
 .rw[oEq (by simp[dep]) (by simp[dep]),h1]
 .rw[oEq (by simp[dep]) (by simp[dep]),h2]
theorem Lz(k:Nat){t:D}(hn:(l.map (·.1)).Nodup)(hl:l.length<=100)(h:L2.bC l n=some t):aV T 60 (k+1) "_law_behind" [cH l,.tup [.str "take",.str n]]=some (.tup [cH (L2.cP l n),t]) :=
 bh k hn hl (fM (bx (x:=.str "take") (xIx (by nofun) (by nofun) rfl (fP (j:=0) rfl)) (by nofun) rfl) (fM (bx (x:=.str "take") (xIx (by nofun) (by nofun) rfl (fP (j:=0) rfl)) (by nofun) rfl) (fM (bx (xIx (by nofun) (by nofun) rfl (fP (j:=1) rfl)) (by nofun) (DY.trans (by rw[h];rfl))) (mz (d:=t) rfl rfl rfl (vY (by nofun) (xIx (by nofun) (by nofun) rfl (fP (j:=1) rfl)) (Mr.trans h)) (j6 (fl1:=.ret (.tup [cH (L2.cP l n),t])) (bx (x:=.str "take") (xIx (by nofun) (by nofun) rfl (fP (j:=0) rfl)) (by nofun) rfl) (fK (mL (aG (xName rfl) (aG (xName rfl) dj)) rfl)) rfl)))))
theorem UL{cx:Cxt}{k:Nat}{sc:Scope}{U:Rho}{a c:Expr}{us:List D}{p q:Pos}(h1:ev cx k sc U a=some (.tup us))(h2:ev cx k sc U c=some (.int (-1))):ev cx (k+1) sc U (.Subscript a (.Slice none none (some c) q) p)=some (.tup us.reverse):=by
 simp only[ev,h1];show Rc (.tup us) none none ((ev cx k sc U c).bind asI)=_;rw[h2];rfl
def wT:Bool->Str
 | true=>"turn"
 | false=>"flip"
def trn(m q:Nat)(f:Nat->Nat->Int)(w:Bool):D:=match w with
 | true=>tbl q m λi j=>f j i
 | false=>tbl m q λi j=>f (m-1-i) (q-1-j)
theorem Ly(k:Nat){m q:Nat}{f:Nat->Nat->Int}{w:Bool}(h1:1<=m)(h2:m<=4)(h3:1<=q)(h4:q<=4)(hn:(l.map (·.1)).Nodup)(hl:l.length<=100)(h:L2.bC l n=some (tbl m q f)):aV T 60 (k+1) "_law_behind" [cH l,.tup [.str (wT w),.str n]]=some (.tup [cH (L2.cP l n++[(n,trn m q f w)]),trn m q f w]):=by
 have fl:ev (cxN T 60 k) 60 (aZ (top 54)).sc (rB (cH l) (.tup [.str (wT w),.str n]) (.sh (cH (L2.cP l n))) .no (.sh (tbl m q f))) (V6 (((aZ (top 54)).body.drop 1).getD 5 pss))=some (tbl m q λi j=>f (m-1-i) (q-1-j)):=by
  refine iu rfl rfl rfl (aG (jU (ig (l:=(Ls m λi=>row q (f i)).reverse) rfl (U3 rfl (UL (xName rfl) (by nofun))) (by rw[rP];exact iQ (by omega)) (by rw[rP];exact bM (g:=λi=>row q λj=>f (m-1-i) (q-1-j)) λi hi=>ju rfl (jU (UL (xName rfl) (by nofun)) (congrArg D.tup rP)))) rfl) dj) rJ
 have dc:∀{cx:Cxt}{md:D}{F:Nat}{sc:Scope}{U:Rho}{a b:Expr}{j:Nat}{p:Pos},ev cx F sc U a=some (cH (L2.cP l n++[(n,md)]))->ev cx F sc U b=some md->ev cx (F+1) sc U (.Tuple [a,b] j p)=some (.tup [cH (L2.cP l n++[(n,md)]),md]):=λ{_ _ _ _ _ _ _ _ _} x y=>mL (aG x (aG y dj)) rfl
 cases w with
 | false =>
  refine bh k hn hl (fM (bx (x:=.str "flip") (xIx (by nofun) (by nofun) rfl (fP (j:=0) rfl)) (by nofun) rfl) (fM (bx (x:=.str "flip") (xIx (by nofun) (by nofun) rfl (fP (j:=0) rfl)) (by nofun) rfl) (fM (bx (xIx (by nofun) (by nofun) rfl (fP (j:=1) rfl)) (by nofun) (DY.trans (by rw[h];rfl))) (mz (d:=tbl m q f) rfl rfl rfl (vY (by nofun) (xIx (by nofun) (by nofun) rfl (fP (j:=1) rfl)) (Mr.trans h)) (fM (bx (x:=.str "flip") (xIx (by nofun) (by nofun) rfl (fP (j:=0) rfl)) (by nofun) rfl) (jY rfl (d:=tbl m q λi j=>f (m-1-i) (q-1-j)) fl (fM (bx (x:=.str "flip") (xIx (by nofun) (by nofun) rfl (fP (j:=0) rfl)) (by nofun) rfl) (fK (dc (oF hn hl rfl rfl rfl rfl (by nofun) (mL (aG (xIx (by nofun) (by nofun) rfl (fP (j:=1) rfl)) (aG (xName rfl) dj)) rfl)) (xName rfl))))))))))
 | true =>
  refine bh k hn hl (fM (bx (x:=.str "turn") (xIx (by nofun) (by nofun) rfl (fP (j:=0) rfl)) (by nofun) rfl) (fM (bx (x:=.str "turn") (xIx (by nofun) (by nofun) rfl (fP (j:=0) rfl)) (by nofun) rfl) (fM (bx (xIx (by nofun) (by nofun) rfl (fP (j:=1) rfl)) (by nofun) (DY.trans (by rw[h];rfl))) (mz (d:=tbl m q f) rfl rfl rfl (vY (by nofun) (xIx (by nofun) (by nofun) rfl (fP (j:=1) rfl)) (Mr.trans h)) (fM (bx (x:=.str "turn") (xIx (by nofun) (by nofun) rfl (fP (j:=0) rfl)) (by nofun) rfl) (jY rfl (d:=tbl m q λi j=>f (m-1-i) (q-1-j)) fl (j6 (fl1:=.nxt (rB (cH l) (.tup [.str "turn",.str n]) (.sh (cH (L2.cP l n))) (.sh (tbl q m λi j=>f j i)) (.sh (tbl m q f)))) (bx (x:=.str "turn") (xIx (by nofun) (by nofun) rfl (fP (j:=0) rfl)) (by nofun) rfl) (jY rfl (d:=tbl q m λi j=>f j i) (iu rfl rfl rfl (aG ?_ dj) rJ) gR) (fK (dc (oF hn hl rfl rfl rfl rfl (by nofun) (mL (aG (xIx (by nofun) (by nofun) rfl (fP (j:=1) rfl)) (aG (xName rfl) dj)) rfl)) (xName rfl))))))))))
  refine' ig ?L82e_1a ?L82e_1b ?L82e_1c (bM ?L82e_1d);(case L82e_1a=>rfl);(case L82e_1b=>walk_at "xi");(case L82e_1c=>exact iQ (by omega))
  case L82e_1d =>
   intro i hi;refine' ju ?L82e_1e ?L82e_1f;(case L82e_1e=>rfl)
   case L82e_1f =>
    refine' iu ?L82e_2a ?L82e_2b ?L82e_2c ?L82e_2d ?L82e_2e;(case L82e_2a=>rfl);(case L82e_2b=>rfl);(case L82e_2c=>rfl);(case L82e_2d=>walk_at "xm");(case L82e_2e=>exact rJ)
theorem Vq(k:Nat){wd a b:Str}{r:D}(hn:(l.map (·.1)).Nodup)(hl:l.length<=100)(h:blk (cxN T 60 k) 60 59 (aZ (top 54)).sc (ifA (((aZ (top 54)).body.drop 1).getD 1 pss)) (rB (cH l) (.tup [.str "join",.str n,.str wd,.str a,.str b]) (.sh (cH (L2.cP l n))) .no .no)=some (.ret r)):aV T 60 (k+1) "_law_behind" [cH l,.tup [.str "join",.str n,.str wd,.str a,.str b]]=some r :=
 bh k hn hl (fM (bx (x:=.str "join") (xIx (by nofun) (by nofun) rfl (fP (j:=0) rfl)) (by nofun) rfl) (j6 (fl1:=.ret r) (bx (x:=.str "join") (xIx (by nofun) (by nofun) rfl (fP (j:=0) rfl)) (by nofun) rfl) h rfl))
theorem QH(k:Nat){wd a b:Str}(hn:(l.map (·.1)).Nodup)(hl:l.length<=100)(h:L2.bC l a=none\/L2.bC l b=none):aV T 60 (k+1) "_law_behind" [cH l,.tup [.str "join",.str n,.str wd,.str a,.str b]]=some (.tup [cH l,.str "no name"]):=by
 refine Vq k hn hl (j6 (fl1:=.ret (.tup [cH l,.str "no name"])) (jA ?_) (fK (mL (aG (by nofun) (aG (by nofun) dj)) rfl)) rfl)
 cases ha:L2.bC l a with
 | none=>exact UW (bx (xIx (by nofun) (by nofun) rfl (fP (j:=3) rfl)) (by nofun) (DY.trans (by rw[ha];rfl)))
 | some x =>
  have hb:L2.bC l b=none:=h.resolve_left (by rw[ha];simp)
  exact Q5 (bx (xIx (by nofun) (by nofun) rfl (fP (j:=3) rfl)) (by nofun) (DY.trans (by rw[ha];rfl))) (Cp (bx (xIx (by nofun) (by nofun) rfl (fP (j:=4) rfl)) (by nofun) (DY.trans (by rw[hb];rfl))))
theorem QK(k:Nat){wd a b:Str}{x y md:D}{r:D}(hn:(l.map (·.1)).Nodup)(hl:l.length<=100)(ha:L2.bC l a=some x)(hb:L2.bC l b=some y)(hm:aV T 60 k "_law_made" [.str wd,x,y]=some md)
  (h:blk (cxN T 60 k) 60 59 (aZ (top 54)).sc ((ifA (((aZ (top 54)).body.drop 1).getD 1 pss)).drop 2) (rB (cH l) (.tup [.str "join",.str n,.str wd,.str a,.str b]) (.sh (cH (L2.cP l n))) (.sh md) .no)=some (.ret r)):aV T 60 (k+1) "_law_behind" [cH l,.tup [.str "join",.str n,.str wd,.str a,.str b]]=some r :=
 Vq k hn hl (fM (jA (Q5 (bx (xIx (by nofun) (by nofun) rfl (fP (j:=3) rfl)) (by nofun) (DY.trans (by rw[ha];rfl))) (Cp (bx (xIx (by nofun) (by nofun) rfl (fP (j:=4) rfl)) (by nofun) (DY.trans (by rw[hb];rfl)))))) (mz (d:=md) rfl rfl rfl (bf rfl (aG (xIx (by nofun) (by nofun) rfl (fP (j:=2) rfl)) (aG (vY (by nofun) (xIx (by nofun) (by nofun) rfl (fP (j:=3) rfl)) (Mr.trans ha)) (aG (vY (by nofun) (xIx (by nofun) (by nofun) rfl (fP (j:=4) rfl)) (Mr.trans hb)) dj))) hm) h))
theorem QJ(k:Nat){wd a b:Str}{x y:D}(hn:(l.map (·.1)).Nodup)(hl:l.length<=100)(ha:L2.bC l a=some x)(hb:L2.bC l b=some y)(hm:aV T 60 k "_law_made" [.str wd,x,y]=some (.str "no fit")):aV T 60 (k+1) "_law_behind" [cH l,.tup [.str "join",.str n,.str wd,.str a,.str b]]=some (.tup [cH l,.str "no fit"]) :=
 QK k hn hl ha hb hm (j6 (fl1:=.ret (.tup [cH l,.str "no fit"])) (bx (by nofun) (by nofun) rfl) (fK (mL (aG (by nofun) (aG (by nofun) dj)) rfl)) rfl)
theorem LK(k:Nat){wd a b:Str}{x y:D}{m q:Nat}{f:Nat->Nat->Int}(hn:(l.map (·.1)).Nodup)(hl:l.length<=100)(ha:L2.bC l a=some x)(hb:L2.bC l b=some y)(hm:aV T 60 k "_law_made" [.str wd,x,y]=some (tbl m q f)):aV T 60 (k+1) "_law_behind" [cH l,.tup [.str "join",.str n,.str wd,.str a,.str b]]=some (.tup [cH (L2.cP l n++[(n,tbl m q f)]),tbl m q f]) :=
 QK k hn hl ha hb hm (fM (bx (x:=tbl m q f) (y:=.str "no fit") (by nofun) (by nofun) (oEq (P4z tY (by decide)) (by simp[dep]))) (fK (mL (aG (oF hn hl rfl rfl rfl rfl (by nofun) (mL (aG (xIx (by nofun) (by nofun) rfl (fP (j:=1) rfl)) (aG (xName rfl) dj)) rfl)) (aG (xName rfl) dj)) rfl)))
end
def nmN:Nat->Str
 | 0=>"a"
 | 1=>"b"
 | 2=>"gh"
 | _=>"wxyz"
def tkN:Nat->Str
 | 0=>"take"
 | 1=>"turn"
 | _=>"flip"
def nmL:List D:=[.str "a",.str "b",.str "gh",.str "wxyz"]
def wyV(ns:List Int)(a:Nat):Nat:=pickN ns (a+1) 9
def oZ(ns:List Int)(a:Nat):D:=if wyV ns a<3 then .tup [.str "put",.str (nmN (pickN ns a 4)),tbl (1+pickN ns (a+2) 3) (1+pickN ns (a+3) 3) (Cq ns (a+10))]
 else if wyV ns a<6 then .tup [.str (tkN (wyV ns a-3)),.str (nmN (pickN ns a 4))]
 else .tup [.str "join",.str (nmN (pickN ns a 4)),.str (wdN (pickN ns (a+4) 4)),.str (nmN (pickN ns (a+5) 4)),.str (nmN (pickN ns (a+6) 4))]
def rD(ns:List Int)(a:Nat)(nl nm wy ro co wd:Sl):Rho:=[("_law_script",.sh (scr ns)),("_law_at",.sh (.int a)),("_law_names",nl),("_law_name",nm),("_law_way",wy),("_law_rows",ro),("_law_columns",co),("_law_word",wd)]
theorem Ma{p:Nat}(h:p<4):atD nmL (p:Int)=some (.str (nmN p)):=by
 refine gA ?_
 match p,h with
 | 0,_=>rfl
 | 1,_=>rfl
 | 2,_=>rfl
 | 3,_=>rfl
theorem Uu{p:Nat}(h:p<4):atD [.str "times",.str "plus",.str "beside",.str "below"] (p:Int)=some (.str (wdN p)):=by
 refine gA ?_
 match p,h with
 | 0,_=>rfl
 | 1,_=>rfl
 | 2,_=>rfl
 | 3,_=>rfl
theorem Uv{p:Nat}(h:p<3):atD [.str "take",.str "turn",.str "flip"] (p:Int)=some (.str (tkN p)):=by
 refine gA ?_
 match p,h with
 | 0,_=>rfl
 | 1,_=>rfl
 | 2,_=>rfl
section
variable{ns:List Int}{a:Nat}
theorem pk{k j many:Nat}{cx:Cxt}{n:Nat}{sc:Scope}{U:Rho}{e1 e2 e3:Expr}{x:Str}{p q:Pos}(hc:∀d,aV T 60 (k+2) "_law_pick" [scr ns,.int ((a+j:Nat):Int),.int many]=some d->cx.call x [scr ns,.int ((a+j:Nat):Int),.int many]=some d)(hf:isFn cx sc x [e1,e2,e3]=true)(h0:0<many)(h1:ev cx n sc U e1=some (scr ns))(h2:ev cx n sc U e2=some (.int ((a+j:Nat):Int)))(h3:ev cx n sc U e3=some (.int many)):ev cx (n+1) sc U (.Call (.Name x q) [e1,e2,e3] [] p)=some (.int ((pickN ns (a+j) many:Nat):Int)) :=
 bf hf (aG h1 (aG h2 (aG h3 dj))) (hc _ (pick k ns (a+j) h0))
theorem deed(k:Nat):aV T 60 (k+4) "_law_deed" [scr ns,.int a]=some (oZ ns a):=by
 have p4:=λj=>dI (ns:=ns) (k:=a+j) (many:=4) (by omega);have p9:wyV ns a<9:=dI (by omega);have pick0:aV T 60 (k+3) "_law_pick" [scr ns,.int a,.int 4]=some (.int ((pickN ns a 4:Nat):Int)):=pick (k+1) ns a (many:=4) (by omega);refine fQ (fd:=aZ (top 52)) rfl rfl (jY rfl (d:=.lst nmL) (by nofun) (gTup (d:=.tup [.str (nmN (pickN ns a 4)),.int (wyV ns a:Int)]) (l:=[.str (nmN (pickN ns a 4)),.int (wyV ns a:Int)]) (U':=rD ns a (.sh (.lst nmL)) (.sh (.str (nmN (pickN ns a 4)))) (.sh (.int (wyV ns a:Int))) .no .no .no) rfl (mL (aG (xIx (by nofun) (bf rfl (by walk_at "xm") pick0) rfl (Ma (p4 0))) (aG (pk (k:=k+1) (λd h=>h) rfl (by omega) (by nofun) ?_ (by nofun)) dj)) rfl) rfl rfl ?_))
 .exact jU (dG (by nofun) (by nofun) rfl) rfl
 .unfold oZ
  by_cases h3:wyV ns a<3
  .rw[P5z h3]
   have q2:pickN ns (a+2) 3<3:=dI (by omega);have q3:pickN ns (a+3) 3<3:=dI (by omega);refine j6 (fl1:=.ret (.tup [.str "put",.str (nmN (pickN ns a 4)),tbl (1+pickN ns (a+2) 3) (1+pickN ns (a+3) 3) (Cq ns (a+10))])) (bx (by nofun) (by nofun) (oLt (by omega))) (gTup (d:=.tup [.int ((1+pickN ns (a+2) 3:Nat):Int),.int ((1+pickN ns (a+3) 3:Nat):Int)]) (l:=[.int ((1+pickN ns (a+2) 3:Nat):Int),.int ((1+pickN ns (a+3) 3:Nat):Int)]) (U':=rD ns a (.sh (.lst nmL)) (.sh (.str (nmN (pickN ns a 4)))) (.sh (.int (wyV ns a:Int))) (.sh (.int ((1+pickN ns (a+2) 3:Nat):Int))) (.sh (.int ((1+pickN ns (a+3) 3:Nat):Int))) .no) rfl (mL (aG (jU (dG (by nofun) (pk (k:=k+1) (j:=2) (many:=3) (λd h=>h) rfl (by omega) (by nofun) (jU (dG (by nofun) (by nofun) rfl) rfl) (by nofun)) rfl) (congrArg D.int (by omega))) (aG (jU (dG (by nofun) (pk (k:=k+1) (j:=3) (many:=3) (λd h=>h) rfl (by omega) (by nofun) (jU (dG (by nofun) (by nofun) rfl) rfl) (by nofun)) rfl) (congrArg D.int (by omega))) dj)) rfl) rfl rfl (fK (mL (aG (by nofun) (aG (by nofun) (aG (bf rfl (aG (by nofun) (aG (jU (d':=.int ((a+10:Nat):Int)) (dG (by nofun) (by nofun) rfl) rfl) (aG (by nofun) (aG (by nofun) dj)))) (table k ns (a+10) (by omega) (by omega))) dj))) rfl))) rfl
  .rw[Q5z h3]
   by_cases h6:wyV ns a<6
   .rw[P5z h6]
    exact fM (bx (by nofun) (by nofun) (G8 (by omega))) (j6 (fl1:=.ret (.tup [.str (tkN (wyV ns a-3)),.str (nmN (pickN ns a 4))])) (bx (by nofun) (by nofun) (oLt (by omega))) (fK (mL (aG (xIx (x:=.lst [.str "take",.str "turn",.str "flip"]) (i:=((wyV ns a-3:Nat):Int)) (by nofun) (jU (dG (by nofun) (by nofun) rfl) (congrArg D.int (by omega))) rfl (Uv (by omega))) (aG (by nofun) dj)) rfl)) rfl)
   .rw[Q5z h6]
    exact fM (bx (by nofun) (by nofun) (G8 (by omega))) (fM (bx (by nofun) (by nofun) (G8 (by omega))) (jY rfl (d:=.str (wdN (pickN ns (a+4) 4))) (xIx (x:=.lst [.str "times",.str "plus",.str "beside",.str "below"]) (by nofun) (pk (k:=k+1) (j:=4) (many:=4) (λd h=>h) rfl (by omega) (by nofun) (jU (dG (by nofun) (by nofun) rfl) rfl) (by nofun)) rfl (Uu (p4 4))) (fK (mL (aG (by nofun) (aG (by nofun) (aG (by nofun) (aG (xIx (by nofun) (pk (k:=k+1) (j:=5) (many:=4) (λd h=>h) rfl (by omega) (by nofun) (jU (dG (by nofun) (by nofun) rfl) rfl) (by nofun)) rfl (Ma (p4 5))) (aG (xIx (by nofun) (pk (k:=k+1) (j:=6) (many:=4) (λd h=>h) rfl (by omega) (by nofun) (jU (dG (by nofun) (by nofun) rfl) rfl) (by nofun)) rfl (Ma (p4 6))) dj))))) rfl))))
end
end M82
namespace M82
open PySem DE L2
abbrev cx0:Cxt:=T.cx (aW T 60 36)
abbrev LP:LamP:=⟨"_law_told",Vo T 60 (aZ (top 50))⟩
def dF(p:Addr)(S:Cst)(x:D):Option (Addr×D×Cst):=Qx cx0 LP ms S 60 (aZ (top 55)).sc (bH (aZ (top 55)) [.obj p,x]) (aZ (top 55)).body
def tell(S:Cst):Option (Addr×MR)->Option (Addr×D×Cst)
 | some (a,.val r S')=>some (a,r,S')
 | some (a,.exc c)=>if cx0.exs.contains c then(match LP.cv c with
  | some (.str x)=>some (a,.str x,S)
  | _=>none) else none
 | none=>none
section
variable{p:Addr}{S:Cst}{n:Str}{t:D}
set_option maxHeartbeats 4000000 in
theorem Lf:dF p S (.tup [.str "put",.str n,t])=tell S ((Ke cl clx S [.str n,t]).map λo=>(p,o)):=by rfl'
set_option maxHeartbeats 4000000 in
theorem vp:dF p S (.tup [.str "take",.str n])=tell S ((lK cl clx S [.str n]).map λo=>(p,o)):=by rfl'
set_option maxHeartbeats 4000000 in
theorem FJ:dF p S (.tup [.str "turn",.str n])=tell S ((fu cl clx "turned" "turn" S [.str n]).map λo=>(p,o)):=by rfl'
set_option maxHeartbeats 4000000 in
theorem FN:dF p S (.tup [.str "flip",.str n])=tell S ((fu cl clx "flipped" "flip" S [.str n]).map λo=>(p,o)):=by rfl'
set_option maxHeartbeats 4000000 in
theorem oV{w a b:Str}:dF p S (.tup [.str "join",.str n,.str w,.str a,.str b])=tell S ((mF cl clx S [.str n,.str w,.str a,.str b]).map λo=>(p,o)):=by rfl'
set_option maxHeartbeats 4000000 in
theorem rY:tell S (some (p,.exc "NoName"))=some (p,.str "no name",S):=by rfl'
set_option maxHeartbeats 4000000 in
theorem Ii:tell S (some (p,.exc "NoFit"))=some (p,.str "no fit",S):=by rfl'
end
def N4:List Str:=["a","b","gh","wxyz"]
theorem sJ{j:Nat}:nmN j∈N4:=by
 match j with
 | 0=>simp[nmN,N4]
 | 1=>simp[nmN,N4]
 | 2=>simp[nmN,N4]
 | _+3=>simp[nmN,N4]
set_option maxHeartbeats 4000000 in
theorem Pr:(N4.map λn=>ndN cl clx (.str n))=N4.map λn=>some (.inl n):=by rfl'
theorem nd4{n:Str}(h:n∈N4):ndN cl clx (.str n)=some (.inl n):=List.map_inj_left.mp Pr n h
def Mu:Nat->List Str->List (List Str)
 | 0,_=>[[]]
 | k+1,pool=>[]::pool.flatMap λx=>(Mu k (pool.erase x)).map (x::·)
theorem Ab:∀{k:Nat}{l pool:List Str},l.Nodup->(∀x∈l,x∈pool)->l.length<=k->l∈Mu k pool
 | 0,l,pool,_,_,hk=>by
  cases l with
  | nil=>simp[Mu]
  | cons x r=>simp at hk
 | k+1,[],pool,_,_,_=>by simp[Mu]
 | k+1,x::r,pool,hn,hp,hk=>by
  rw[L3z] at hn;unfold Mu;refine U0z _ (List.mem_flatMap.mpr ⟨x,hp x (K1z ..),List.mem_map.mpr ⟨r,Ab hn.2 (λy hy=>?_) (by simpa using hk),rfl⟩⟩);exact(List.mem_erase_of_ne (show y≠x from λz=>hn.1 (z▸hy))).mpr (hp y (U0z _ hy))
theorem zJ:∀{l pool:List Str},l.Nodup->(∀x∈l,x∈pool)->l.length<=pool.length
 | [],_,_,_=>Z4z _
 | x::r,pool,hn,hp=>by
  rw[L3z] at hn;have h1:=zJ (pool:=pool.erase x) hn.2 λy hy=>(List.mem_erase_of_ne (show y≠x from λz=>hn.1 (z▸hy))).mpr (hp y (U0z _ hy));have h2:=List.length_erase_of_mem (hp x (K1z ..));have h3:0<pool.length:=List.length_pos_of_mem (hp x (K1z ..));rw[P2z];omega
set_option maxHeartbeats 4000000 in
theorem JM:(Mu 4 N4).all (λl=>decide (Gs l=some (N4.filter l.contains))&&decide ((N4.filter l.contains).length=l.length))=true:=by decide +kernel
theorem V5{l:List Str}(h1:l.Nodup)(h2:∀x∈l,x∈N4):Gs l=some (N4.filter l.contains)/\(N4.filter l.contains).length=l.length:=by
 have:=E3z.mp JM l (Ab h1 h2 (zJ h1 h2));rw[Y2z,X1z,X1z] at this;exact this
section
variable{l:List (Str×D)}{n x:Str}{t:D}
theorem dz{q:Str×D}:bC (q::l) n=if q.1=n then some q.2 else bC l n:=by
 unfold bC
 by_cases h:q.1=n
 .rw[List.find?_cons_of_pos (by simpa using h),P5z h];rfl
 .rw[List.find?_cons_of_neg (by simpa using h),Q5z h]
theorem m7:∀{l:List (Str×D)},(bC l n).isSome=true↔n∈l.map (·.1)
 | []=>by simp[bC]
 | q::l=>by
  rw[dz,E4z,L4z]
  by_cases h:q.1=n
  .rw[P5z h];exact⟨λ_=>.inl h.symm,λ_=>rfl⟩
  .rw[Q5z h,m7];exact⟨.inr,λz=>z.resolve_left λe=>h e.symm⟩
theorem fC:∀{l:List (Str×D)},bC (cP l n) x=if x=n then none else bC l x
 | []=>by simp[bC,cP]
 | q::l=>by
  have ih:=@fC l;unfold cP at ih ⊢
  by_cases h:q.1=n
  .rw[I0z (by simpa using h),ih,dz]
   by_cases h2:x=n
   .rw[P5z h2,P5z h2]
   .rw[Q5z h2,Q5z h2,Q5z (λz=>h2 (z.symm.trans h))]
  .rw[J0z (by simpa using h),dz,ih,dz]
   by_cases h2:x=n
   .rw[P5z h2,P5z h2,Q5z (λz=>h (z.trans h2))]
   .rw[Q5z h2,Q5z h2]
theorem tG:∀{l:List (Str×D)},bC (l++[(n,t)]) x=match bC l x with
  | some d=>some d
  | none=>if n=x then some t else none
 | []=>by rw[List.nil_append,dz];rfl
 | q::l=>by
  rw[List.cons_append,dz,dz,tG]
  by_cases h:q.1=x
  .rw[P5z h,P5z h]
  .rw[Q5z h,Q5z h]
theorem oM:bC (cP l n++[(n,t)]) x=if x=n then some t else bC l x:=by
 rw[tG,fC]
 by_cases h:x=n
 .rw[P5z h,P5z h,P5z h.symm]
 .rw[Q5z h,Q5z h]
  cases bC l x with
  | none=>exact Q5z λz=>h z.symm
  | some d=>rfl
theorem Ah:∀{l:List (Str×D)},bC (l.map λp=>if p.1=n then(p.1,t) else p) x=if x=n then(bC l x).map (λ_=>t) else bC l x
 | []=>by simp[bC]
 | q::l=>by
  rw[E4z,dz,dz,Ah]
  by_cases h:q.1=n
  .rw[P5z h]
   by_cases h2:x=n
   .rw[P5z h2,P5z h2,P5z (h.trans h2.symm),P5z (show q.1=x from h.trans h2.symm)];rfl
   .rw[Q5z h2,Q5z h2,Q5z (show ¬ q.1=x from λz=>h2 (z.symm.trans h)),Q5z (show ¬ q.1=x from λz=>h2 (z.symm.trans h))]
  .rw[Q5z h]
   by_cases h2:x=n
   .rw[P5z h2,P5z h2,Q5z (λz=>h (z.trans h2)),Q5z (λz=>h (z.trans h2))]
   .rw[Q5z h2,Q5z h2]
theorem Cg:(l.any λp=>decide (p.1=n))=true↔n∈l.map (·.1):=by
 rw[List.any_eq_true,List.mem_map];exact⟨λ⟨q,h1,h2⟩=>⟨q,h1,L2z h2⟩,λ⟨q,h1,h2⟩=>⟨q,h1,Y3z h2⟩⟩
theorem Ai:bC (pF l n t) x=if x=n then some t else bC l x:=by
 unfold pF
 by_cases h:(l.any λp=>decide (p.1=n))=true
 .rw[P5z h,Ah]
  by_cases h2:x=n
  .rw[P5z h2,P5z h2]
   have:=m7.mpr (Cg.mp h);rw[h2];obtain⟨d,hd⟩:=Option.isSome_iff_exists.mp this;rw[hd];rfl
  .rw[Q5z h2,Q5z h2]
 .rw[Q5z h,tG]
  by_cases h2:x=n
  .rw[P5z h2]
   have:bC l x=none:=by
    cases q:bC l x with
    | none=>rfl
    | some d=>exact absurd (Cg.mpr (h2▸m7.mp (by rw[q];rfl))) h
   rw[this];exact P5z h2.symm
  .rw[Q5z h2]
   cases bC l x with
   | none=>exact Q5z λz=>h2 z.symm
   | some d=>rfl
def Tb(t:D):Prop:=∃m q f,t=tbl m q f/\1<=m/\m<=4/\1<=q/\q<=4/\okT m q f=true
structure Keys(l:List (Str×D)):Prop where
 nd:(l.map (·.1)).Nodup
 nm:∀q∈l,q.1∈N4
 tb:∀q∈l,Tb q.2
theorem Keys.len(h:Keys l):l.length<=4:=by
 have:=zJ (pool:=N4) h.nd λx hx=>by
  obtain⟨q,hq,rfl⟩:=List.mem_map.mp hx;exact h.nm q hq
 rw[I3z] at this;exact this
theorem Hj:∀{l:List (Str×D)}{d:D},bC l n=some d->(n,d)∈l
 | q::l,d,h=>by
  rw[dz] at h
  by_cases e:q.1=n
  .rw[P5z e] at h
   cases h;rw[<- e];exact K1z ..
  .rw[Q5z e] at h
   exact U0z _ (Hj h)
theorem Keys.get(h:Keys l){d:D}(g:bC l n=some d):Tb d:=h.tb _ (Hj g)
theorem Keys.drop(h:Keys l):Keys (cP l n):=⟨tO h.nd,λq hq=>h.nm q (List.mem_filter.mp hq).1,λq hq=>h.tb q (List.mem_filter.mp hq).1⟩
theorem Keys.new(h:Keys l)(hn:n∈N4)(ht:Tb t):Keys (cP l n++[(n,t)]):=by
 refine⟨HY h.nd,λq hq=>?_,λq hq=>?_⟩
 .rcases List.mem_append.mp hq with hq | hq
  .exact h.drop.nm q hq
  .rw[Z1z] at hq;subst hq;exact hn
 .rcases List.mem_append.mp hq with hq | hq
  .exact h.drop.tb q hq
  .rw[Z1z] at hq;subst hq;exact ht
theorem Keys.put(h:Keys l)(hn:n∈N4)(ht:Tb t):Keys (pF l n t):=by
 unfold pF
 by_cases g:(l.any λp=>decide (p.1=n))=true
 .rw[P5z g]
  refine⟨?_,λq hq=>?_,λq hq=>?_⟩
  .rw[V4z]
   have:((λx:Str×D=>x.1)∘λp:Str×D=>if p.1=n then(p.1,t) else p)=λp=>p.1:=by
    funext p;show(if p.1=n then(p.1,t) else p).1=p.1
    split<;>rfl
   rw[this];exact h.nd
  .obtain⟨p,hp,rfl⟩:=List.mem_map.mp hq
   split
   .exact h.nm p hp
   .exact h.nm p hp
  .obtain⟨p,hp,rfl⟩:=List.mem_map.mp hq
   split
   .exact ht
   .exact h.tb p hp
 .rw[Q5z g]
  refine⟨?_,λq hq=>?_,λq hq=>?_⟩
  .rw[S3z,List.nodup_append]
   refine⟨h.nd,by simp,λa ha b hb z=>?_⟩
   have hb:b=n:=by simpa using hb
   exact g (Cg.mpr (by rw[<- hb,<- z];exact ha))
  .rcases List.mem_append.mp hq with hq | hq
   .exact h.nm q hq
   .rw[Z1z] at hq;subst hq;exact hn
  .rcases List.mem_append.mp hq with hq | hq
   .exact h.tb q hq
   .rw[Z1z] at hq;subst hq;exact ht
end
theorem FW{f:Str}{ds:List D}:cl f ds=aV T 60 34 f ds:=gP.symm
theorem HD{f:Str}{ds:List D}:clx f ds=jt T 60 34 f ds:=kj.symm
theorem Bm{f:Str}{ds:List D}{d:D}(h:aV T 60 34 f ds=some d):clx f ds=none:=by
 rw[HD,kj];rw[gP] at h
 cases q:aW T 60 34 f ds with
 | none=>rfl
 | some r =>
  rw[q] at h
  cases r with
  | val d=>rfl
  | exc c=>cases h
section
variable{m n:Nat}{f g:Nat->Nat->Int}
theorem iy:okT m n f=true↔m<=4/\n<=4/\∀i j,i<m->j<n -> -99<=f i j/\f i j<=99:=by
 unfold okT within;rw[Y2z,Y2z,X1z,X1z,E3z];constructor
 .rintro⟨⟨h1,h2⟩,h3⟩
  refine⟨h1,h2,λi j hi hj=>?_⟩;have:=E3z.mp (h3 i (List.mem_range.mpr hi)) j (List.mem_range.mpr hj);simpa using this
 .rintro⟨h1,h2,h3⟩
  refine⟨⟨h1,h2⟩,λi hi=>E3z.mpr λj hj=>?_⟩;have:=h3 i j (List.mem_range.mp hi) (List.mem_range.mp hj);simpa using this
theorem G7(h:okT m n f=true):Sm m n f:=λi j hi hj=>by
 have:=(iy.mp h).2.2 i j hi hj;unfold small;rw[Y3z (by omega),Y3z (by omega)];rfl
theorem Ij{ns:List Int}{a:Nat}(h1:m<=4)(h2:n<=4):okT m n (Cq ns a)=true:=iy.mpr ⟨h1,h2,λi j _ _=>by
 have h1:=dI (ns:=ns) (k:=a+1+8*i+j) (many:=6+w6 (pickN ns a 4)) (by omega);have h2:=Kf (pickN ns a 4);unfold Cq
 omega⟩
end
structure J(i:Nat)(S:Cst)(kv:List (Str×D)):Prop where
 k:Keys kv
 s:Keys S.tabs
 e:∀n,bC S.tabs n=bC kv n
 d:S.don.length<=i
section
variable{S:Cst}{n:Str}{w:Str}{kv:List (Str×D)}{i:Nat}
theorem Ba{t:D}(ht:Tb t)(hd:S.don.length<1000)(hl:S.tabs.length<1000):doS S w n t=some ⟨pF S.tabs n t,S.don++[cW w n ((bC S.tabs n).getD .non) t],[]⟩:=by
 obtain⟨m,q,f,rfl,_⟩:=ht;unfold doS;rw[P5z (Y3z hd)];show(if decide (S.tabs.length<1000) then _ else none)=_;rw[P5z (Y3z hl)]
theorem J.put(h:J i S kv){t:D}(hn:n∈N4)(ht:Tb t){x:D}:J (i+1) ⟨pF S.tabs n t,S.don++[x],[]⟩ (cP kv n++[(n,t)]) :=
 ⟨h.k.new hn ht,h.s.put hn ht,λy=>by rw[Ai,oM,h.e],by have:=h.d;simp;omega⟩
theorem J.same(h:J i S kv):J (i+1) S kv:=⟨h.k,h.s,h.e,Nat.le_succ_of_le h.d⟩
theorem U4(hn:n∈N4):jz cl clx S [.str n]=match bC S.tabs n with
  | some d=>some (.inl d)
  | none=>some (.inr "NoName"):=by
 simp only[jz,nd4 hn]<;>cases bC S.tabs n<;>rfl
def ov(kv:List (Str×D))(n:Str):D:=(bC kv n).getD .non
structure Ln(kv:List (Str×D))(n:Str)(kv':List (Str×D)):Prop where
 nm:n∈N4
 ot:∀y,y≠n->bC kv' y=bC kv y
 one:(bC kv n).isSome=true\/(bC kv' n).isSome=true
def noW:D:=.tup [.str "no name",.str "no fit"]
def Nx(S:Cst)(kv:List (Str×D))(dd due:D)(S':Cst)(kv':List (Str×D)):Prop:=(cmpop .NotIn due noW=some (.bl false)/\kv'=kv/\S'=S)\/(cmpop .NotIn due noW=some (.bl true)/\∃w n r,dd=.tup (.str w::r)/\Ln kv n kv'/\S'.don=S.don++[cW w n (ov kv n) (ov kv' n)]/\S'.und=[])
theorem J5{dd:D}:Nx S kv dd (.str "no name") S kv:=.inl ⟨by rfl',rfl,rfl⟩
theorem Tj{dd:D}:Nx S kv dd (.str "no fit") S kv:=.inl ⟨by rfl',rfl,rfl⟩
theorem Ks{t:D}(h:Tb t):cmpop .NotIn t noW=some (.bl true):=by
 obtain⟨m,q,f,rfl,_⟩:=h;have e:decide (dep (tbl m q f)<=50)=true:=Y3z (P4z tY (by decide));show((if decide (dep (tbl m q f)<=50)&&fO (.str "") (tbl m q f) then some _ else none:Option Bool)).map _=_;rw[e];rfl
theorem zF(h:J i S kv){t due:D}{r:List D}(hn:n∈N4)(hd:cmpop .NotIn due noW=some (.bl true)):Nx S kv (.tup (.str w::r)) due ⟨pF S.tabs n t,S.don++[cW w n ((bC S.tabs n).getD .non) t],[]⟩ (cP kv n++[(n,t)]):=by
 refine .inr ⟨hd,w,n,r,rfl,⟨hn,λy hy=>by rw[oM,Q5z hy],.inr (by rw[oM,P5z rfl];rfl)⟩,?_,rfl⟩
 show S.don++[cW w n ((bC S.tabs n).getD .non) t]=_;unfold ov;rw[h.e,oM,P5z rfl];rfl
def Rn(i:Nat)(S:Cst)(kv:List (Str×D))(dd:D):Prop:=∃kv' due S',aV T 60 36 "_law_behind" [cH kv,dd]=some (.tup [cH kv',due])/\(∀p,dF p S dd=some (p,due,S'))/\(dep due<=50/\fO due due=true)/\J (i+1) S' kv'/\Nx S kv dd due S' kv'
theorem m8{t:D}(h:Tb t):dep t<=50:=by
 obtain⟨m,q,f,rfl,_⟩:=h;exact P4z tY (by decide)
theorem vD{t t':D}(h:Tb t)(h':Tb t'):fO t t'=true:=by
 obtain⟨m,q,f,rfl,_⟩:=h;obtain⟨m',q',f',rfl,_⟩:=h';refine jm λa ha b hb=>?_;obtain⟨i,_,rfl⟩:=uZ ha;obtain⟨j,_,rfl⟩:=uZ hb;refine jm λa ha b hb=>?_;obtain⟨i,_,rfl⟩:=uZ ha;obtain⟨j,_,rfl⟩:=uZ hb;rfl
theorem N7(h:J i S kv)(hi:i<100)(hn:n∈N4){t:D}(ht:Tb t):Rn i S kv (.tup [.str "put",.str n,t]):=by
 have l1:=h.k.len;have l2:=h.s.len;have l3:=h.d;refine⟨_,_,⟨pF S.tabs n t,S.don++[cW "put" n ((bC S.tabs n).getD .non) t],[]⟩,QG 35 h.k.nd (by omega),λp=>?_,⟨by simp[dep],rfl⟩,h.put hn ht,zF h hn (by cases bC kv n<;>rfl')⟩;rw[Lf]
 have e:Ke cl clx S [.str n,t]=some (.val (.bl (bC kv n).isSome) ⟨pF S.tabs n t,S.don++[cW "put" n ((bC S.tabs n).getD .non) t],[]⟩):=by
  have it:cl "is_table" [t]=some (.bl true):=by
   obtain⟨m,q,f,rfl,h1,h2,h3,h4,h5⟩:=ht;rw[FW,<- h5];exact is_table 30 h1 (by omega) h3 (by omega)
  simp only[Ke,it,nd4 hn,Ba ht (show S.don.length<1000 by omega) (show S.tabs.length<1000 by omega),h.e,M3z]
 rw[e];rfl
theorem no4(h:bC kv n=none)(hJ:J i S kv)(hn:n∈N4):jz cl clx S [.str n]=some (.inr "NoName"):=by
 rw[U4 hn,hJ.e,h]
theorem Ml{t:D}(h:bC kv n=some t)(hJ:J i S kv)(hn:n∈N4):jz cl clx S [.str n]=some (.inl t):=by
 rw[U4 hn,hJ.e,h]
theorem Jl(h:J i S kv)(hi:i<100)(hn:n∈N4):Rn i S kv (.tup [.str "take",.str n]):=by
 have l1:=h.k.len;have l3:=h.d
 cases g:bC kv n with
 | none =>
  refine⟨kv,_,S,BW 35 h.k.nd (by omega) rfl rfl g,λp=>?_,⟨by simp[dep],rfl⟩,h.same,J5⟩;rw[vp]
  have e:lK cl clx S [.str n]=some (.exc "NoName"):=by
   simp only[lK,no4 g h hn]
  rw[e];exact rY
 | some t =>
  refine⟨_,_,⟨cP S.tabs n,S.don++[cW "take" n ((bC S.tabs n).getD .non) .non],[]⟩,Lz 35 h.k.nd (by omega) g,λp=>?_,⟨m8 (h.k.get g),vD (h.k.get g) (h.k.get g)⟩,⟨h.k.drop,h.s.drop,λy=>by rw[fC,fC,h.e],by simp;omega⟩,.inr ⟨Ks (h.k.get g),"take",n,_,rfl,⟨hn,λy hy=>by rw[fC,Q5z hy],.inl (by rw[g];rfl)⟩,by
   show S.don++[cW "take" n ((bC S.tabs n).getD .non) .non]=_;unfold ov;rw[h.e,fC,P5z rfl]
   rfl,rfl⟩⟩
  rw[vp]
  have e:lK cl clx S [.str n]=some (.val t ⟨cP S.tabs n,S.don++[cW "take" n ((bC S.tabs n).getD .non) .non],[]⟩):=by
   simp only[lK,Ml g h hn];unfold doS;rw[P5z (Y3z (by omega))];show(if(bC S.tabs n).isSome then some _ else none).map _=_;rw[h.e,g];rfl
  rw[e];rfl
def fnT:Bool->Str
 | true=>"turned"
 | false=>"flipped"
theorem Nh{m q:Nat}{f:Nat->Nat->Int}{b:Bool}(h1:1<=m)(h2:m<=4)(h3:1<=q)(h4:q<=4)(h5:okT m q f=true):Tb (trn m q f b):=by
 have h6:=(iy.mp h5).2.2
 cases b with
 | true=>exact⟨q,m,_,rfl,h3,h4,h1,h2,iy.mpr ⟨h4,h2,λi j hi hj=>h6 j i hj hi⟩⟩
 | false=>exact⟨m,q,_,rfl,h1,h2,h3,h4,iy.mpr ⟨h2,h4,λi j hi hj=>h6 _ _ (by omega) (by omega)⟩⟩
theorem Ni{m q:Nat}{f:Nat->Nat->Int}{b:Bool}(h1:1<=m)(h2:m<=4)(h3:1<=q)(h4:q<=4):aV T 60 34 (fnT b) [tbl m q f]=some (trn m q f b):=by
 cases b with
 | true=>exact turned 29 h1 h2 h3 h4
 | false=>exact flipped 29 h1 h2 h3 h4
theorem yN{b:Bool}(h:J i S kv)(hi:i<100)(hn:n∈N4):Rn i S kv (.tup [.str (wT b),.str n]):=by
 have l1:=h.k.len;have l2:=h.s.len;have l3:=h.d
 have dd:∀p,dF p S (.tup [.str (wT b),.str n])=tell S ((fu cl clx (fnT b) (wT b) S [.str n]).map λo=>(p,o)):=λp=>by
  cases b with
  | true=>exact FJ
  | false=>exact FN
 cases g:bC kv n with
 | none =>
  refine⟨kv,_,S,BW 35 h.k.nd (by omega) (by cases b<;>rfl) (by cases b<;>rfl) g,λp=>?_,⟨by simp[dep],rfl⟩,h.same,J5⟩
  rw[dd]
  have e:fu cl clx (fnT b) (wT b) S [.str n]=some (.exc "NoName"):=by
   simp only[fu,no4 g h hn]
  rw[e];exact rY
 | some t =>
  obtain⟨m,q,f,rfl,h1,h2,h3,h4,h5⟩:=h.k.get g;have ht:=Nh (b:=b) h1 h2 h3 h4 h5;have hc:=Ni (f:=f) (b:=b) h1 h2 h3 h4;refine⟨_,_,⟨pF S.tabs n (trn m q f b),S.don++[cW (wT b) n ((bC S.tabs n).getD .non) (trn m q f b)],[]⟩,Ly 35 h1 h2 h3 h4 h.k.nd (by omega) g,λp=>?_,⟨m8 ht,vD ht ht⟩,h.put hn ht,zF h hn (Ks ht)⟩;rw[dd]
  have e:fu cl clx (fnT b) (wT b) S [.str n]=some (.val (trn m q f b) ⟨pF S.tabs n (trn m q f b),S.don++[cW (wT b) n ((bC S.tabs n).getD .non) (trn m q f b)],[]⟩):=by
   simp only[fu,Ml g h hn,doF,Bm hc];rw[FW,hc];simp only[Ba ht (show S.don.length<1000 by omega) (show S.tabs.length<1000 by omega),M3z]
  rw[e];rfl
theorem Jm{a b:Str}{v:Nat}(h:J i S kv)(hi:i<100)(hn:n∈N4)(ha:a∈N4)(hb:b∈N4)(hv:v<4):Rn i S kv (.tup [.str "join",.str n,.str (wdN v),.str a,.str b]):=by
 have l1:=h.k.len;have l2:=h.s.len;have l3:=h.d
 have none_case:bC kv a=none\/bC kv b=none->Rn i S kv (.tup [.str "join",.str n,.str (wdN v),.str a,.str b]):=λg=>by
  refine⟨kv,_,S,QH 35 h.k.nd (by omega) g,λp=>?_,⟨by simp[dep],rfl⟩,h.same,J5⟩;rw[oV]
  have e:mF cl clx S [.str n,.str (wdN v),.str a,.str b]=some (.exc "NoName"):=by
   cases ga:bC kv a with
   | none=>simp only[mF,nd4 hn,no4 ga h ha]
   | some x=>simp only[mF,nd4 hn,Ml ga h ha,no4 (g.resolve_left (by rw[ga];simp)) h hb]
  rw[e];exact rY
 cases ga:bC kv a with
 | none=>exact none_case (.inl ga)
 | some x =>
  cases gb:bC kv b with
  | none=>exact none_case (.inr gb)
  | some y =>
   obtain⟨m,q,f,rfl,h1,h2,h3,h4,h5⟩:=h.k.get ga;obtain⟨m',q',f',rfl,g1,g2,g3,g4,g5⟩:=h.k.get gb;have lm:=Em 30 (g:=f') hv h1 h2 h3 h4 g1 g2 g3 g4 (G7 h5)
   have ej:mF cl clx S [.str n,.str (wdN v),.str a,.str b]=jL cl clx S (.str n) (tbl m q f) (tbl m' q' f') (.str (wdN v)):=by
    simp only[mF,nd4 hn,Ml ga h ha,Ml gb h hb]
   have nofit:(Hq v m q m' q'&&okT (jM v m m') (jN v q q') (jF v m q f f'))=false->jL cl clx S (.str n) (tbl m q f) (tbl m' q' f') (.str (wdN v))=some (.exc "NoFit")->Rn i S kv (.tup [.str "join",.str n,.str (wdN v),.str a,.str b]):=λe1 e2=>by
    rw[e1] at lm;refine⟨kv,_,S,QJ 35 h.k.nd (by omega) ga gb lm,λp=>?_,⟨by simp[dep],rfl⟩,h.same,Tj⟩;rw[oV,ej,e2];exact Ii
   by_cases sz:Hq v m q m' q'=true/\jM v m m'<=4/\jN v q q'<=4
   .obtain⟨z1,z2,z3⟩:=sz
    have jo:=zZ 26 (g:=f') hv h1 h2 h3 h4 g1 g2 g3 g4 (G7 h5) z1 z2 z3
    have k1:1<=jM v m m':=by unfold jM;split<;>omega
    have k3:1<=jN v q q':=by unfold jN;split<;>omega
    have it:cl "is_table" [tbl (jM v m m') (jN v q q') (jF v m q f f')]=some (.bl (okT (jM v m m') (jN v q q') (jF v m q f f'))):=by
     rw[FW];exact is_table 30 k1 (by omega) k3 (by omega)
    have cj:cl "joined" [.str (wdN v),tbl m q f,tbl m' q' f']=some (tbl (jM v m m') (jN v q q') (jF v m q f f')):=by rw[FW];exact jo
    cases ok:okT (jM v m m') (jN v q q') (jF v m q f f') with
    | false =>
     rw[ok] at it;exact nofit (by rw[ok,B4z]) (by simp only[jL,Bm jo,cj,it])
    | true =>
     rw[ok] at it;have ht:Tb (tbl (jM v m m') (jN v q q') (jF v m q f f')):=⟨_,_,_,rfl,k1,z2,k3,z3,ok⟩;rw[z1,ok] at lm;refine⟨_,_,⟨pF S.tabs n (tbl (jM v m m') (jN v q q') (jF v m q f f')),S.don++[cW "join" n ((bC S.tabs n).getD .non) (tbl (jM v m m') (jN v q q') (jF v m q f f'))],[]⟩,LK 35 h.k.nd (by omega) ga gb lm,λp=>?_,⟨m8 ht,vD ht ht⟩,h.put hn ht,zF h hn (Ks ht)⟩;rw[oV,ej]
     have e:jL cl clx S (.str n) (tbl m q f) (tbl m' q' f') (.str (wdN v))=some (.val (tbl (jM v m m') (jN v q q') (jF v m q f f')) ⟨pF S.tabs n (tbl (jM v m m') (jN v q q') (jF v m q f f')),S.don++[cW "join" n ((bC S.tabs n).getD .non) (tbl (jM v m m') (jN v q q') (jF v m q f f'))],[]⟩):=by
      simp only[jL,Bm jo,cj,it,Ba ht (show S.don.length<1000 by omega) (show S.tabs.length<1000 by omega),M3z]
     rw[e];rfl
   .have hno:Hq v m q m' q'=false\/4<jM v m m'\/4<jN v q q':=by
     cases z:Hq v m q m' q' with
     | false=>exact .inl rfl
     | true =>
      right
      by_cases z2:jM v m m'<=4
      .exact .inr (Nat.lt_of_not_le λz3=>sz ⟨z,z2,z3⟩)
      .exact .inl (Nat.lt_of_not_le z2)
    have jn:=z6 26 (f:=f) (g:=f') hv h1 h2 h3 h4 g1 g2 g3 g4 hno;refine nofit ?_ ?_
    .rcases hno with z | z | z
     .rw[z];rfl
     .rw[T0z]
      right
      cases ok:okT (jM v m m') (jN v q q') (jF v m q f f') with
      | false=>rfl
      | true=>exact absurd (iy.mp ok).1 (by omega)
     .rw[T0z]
      right
      cases ok:okT (jM v m m') (jN v q q') (jF v m q f f') with
      | false=>rfl
      | true=>exact absurd (iy.mp ok).2.1 (by omega)
    .have:clx "joined" [.str (wdN v),tbl m q f,tbl m' q' f']=some ("NoFit":Str):=by rw[HD];exact jn.1
     simp only[jL,this]
theorem N8(h:J i S kv)(hi:i<100){ns:List Int}{a:Nat}:Rn i S kv (oZ ns a):=by
 unfold oZ;have p2:pickN ns (a+2) 3<3:=dI (by omega);have p3:pickN ns (a+3) 3<3:=dI (by omega);split
 .exact N7 h hi sJ ⟨_,_,_,rfl,by omega,by omega,by omega,by omega,Ij (by omega) (by omega)⟩
 .split
  .rename_i h3 h6
   have:∀j,j<3->Rn i S kv (.tup [.str (tkN j),.str (nmN (pickN ns a 4))]):=λj hj=>by
    match j,hj with
    | 0,_=>exact Jl h hi sJ
    | 1,_=>exact yN (b:=true) h hi sJ
    | 2,_=>exact yN (b:=false) h hi sJ
   exact this _ (by omega)
  .exact Jm h hi sJ sJ sJ (dI (by omega))
end
abbrev aF:Cst->List D->Option (Sum D Str):=Rj cl clx
section
variable{S:Cst}{kv:List (Str×D)}{i:Nat}
theorem Tw(h:J i S kv):N4.filter (S.tabs.map (·.1)).contains=N4.filter (kv.map (·.1)).contains:=by
 refine List.filter_congr λx _=>?_;rw[Bool.eq_iff_iff,List.contains_iff_mem,List.contains_iff_mem,<- m7,<- m7,h.e]
theorem Keys.srt{l:List (Str×D)}(h:Keys l):Gs (l.map (·.1))=some (N4.filter (l.map (·.1)).contains)/\(N4.filter (l.map (·.1)).contains).length=l.length:=by
 have:=V5 h.nd λx hx=>by
  obtain⟨q,hq,rfl⟩:=List.mem_map.mp hx;exact h.nm q hq
 rw[I3z] at this;exact this
def nms(kv:List (Str×D)):List Str:=N4.filter (kv.map (·.1)).contains
theorem DX(h:J i S kv):jK S []=some (.inl (.lst ((nms kv).map .str))):=by
 have l:=h.s.len;have e:decide (S.tabs.length<64)=true:=Y3z (by omega);simp only[jK,e,O5z,h.s.srt.1,M3z];rw[Tw h];rfl
def vl(kv:List (Str×D))(n:Str):D:=(bC kv n).getD .non
theorem uV{n:Str}(h:n∈nms kv):n∈N4/\bC kv n=some (vl kv n):=by
 obtain⟨h1,h2⟩:=List.mem_filter.mp h;refine⟨h1,?_⟩;have:=m7.mpr (List.contains_iff_mem.mp h2);obtain⟨d,hd⟩:=Option.isSome_iff_exists.mp this;unfold vl;rw[hd];rfl
theorem Pn:(nms kv).Nodup:=List.Nodup.sublist List.filter_sublist (by decide +kernel)
def alK(kv:List (Str×D)):List (Str×D):=(nms kv).map λn=>(n,vl kv n)
theorem QM(h:J i S kv):aF S []=some (.inl (cH (alK kv))):=by
 have l:=h.k.len;have hl:(nms kv).length=kv.length:=h.k.srt.2;have e1:szl ((nms kv).map D.str).length=true:=Cr (by rw[I3z];omega)
 have e2:bR (λd=>(Nj cl clx S d).map some) ((nms kv).map .str)=some (prK (alK kv)):=by
  unfold prK alK;rw[V4z];refine qQ λn hn=>?_;obtain⟨h1,h2⟩:=uV hn;simp only[Nj,Ml h2 h h1,M3z];rfl
 have e3:(alK kv).map (·.1)=nms kv:=by
  unfold alK;rw[V4z];exact C5z _
 simp only[aF,Rj,DX h,e1,O5z,e2,B3z,zu,M3z];rw[Vc (by rw[e3];exact Pn)];unfold tW cH;rw[V4z,V4z];rfl
theorem Uk(h:J i S kv):Bd ((alK kv).map λq=>.inr q.1) ((alK kv).map (·.2)) (kv.map λq=>.inr q.1) (kv.map (·.2))=true:=by
 have hl:(nms kv).length=kv.length:=h.k.srt.2;unfold Bd;rw[I3z,I3z,show(alK kv).length=kv.length by unfold alK;rw[I3z,hl]]
 have key:∀(l:List Str),(∀n∈l,n∈nms kv)->tX (kv.map λq=>.inr q.1) (kv.map (·.2)) ((l.map λn=>(n,vl kv n)).map λq=>.inr q.1) ((l.map λn=>(n,vl kv n)).map (·.2))=true:=by
  intro l
  induction l with
  | nil=>intro _;rfl
  | cons n l ih =>
   intro hn;obtain⟨h1,h2⟩:=uV (hn n (K1z ..));have:=m8 (h.k.get h2)
   show((match kO (kv.map λq=>.inr q.1) (kv.map (·.2)) (.inr n) with
    | some d'=>deq (vl kv n) d'
    | none=>false)&&tX _ _ _ _)=true
   rw[Q9,h2,ih λx hx=>hn x (U0z _ hx)];show(deq (vl kv n) (vl kv n)&&true)=true;rw[j9 _ (by omega)];rfl
 rw[show((alK kv).map λq=>(Sum.inr q.1:Sum Int Str))=((nms kv).map λn=>(n,vl kv n)).map λq=>.inr q.1 from rfl];rw[show(alK kv).map (·.2)=((nms kv).map λn=>(n,vl kv n)).map (·.2) from rfl,key _ λn hn=>hn];simp
theorem QS(h:J i S kv):∀d∈(alK kv).map (·.2),dep d<=50:=λd hd=>by
 obtain⟨q,hq,rfl⟩:=List.mem_map.mp hd;obtain⟨n,hn,rfl⟩:=List.mem_map.mp hq;exact m8 (h.k.get (uV hn).2)
theorem Rt(h:J i S kv):∀d∈(alK kv).map (·.2),∀d'∈kv.map (·.2),fO d d'=true:=λd hd d' hd'=>by
 obtain⟨q,hq,rfl⟩:=List.mem_map.mp hd;obtain⟨n,hn,rfl⟩:=List.mem_map.mp hq;obtain⟨q,hq,rfl⟩:=List.mem_map.mp hd';exact vD (h.k.get (uV hn).2) (h.k.tb q hq)
theorem PN(h:J i S kv):∀d∈kv.map (·.2),dep d<=50:=λd hd=>by
 obtain⟨q,hq,rfl⟩:=List.mem_map.mp hd;exact m8 (h.k.tb q hq)
end
abbrev KV:=List (Str×D)
inductive Pa:List KV->List Str->List D->KV->Prop
 | nil {kv:KV}:Pa [] [] [] kv
 | snoc {R:List KV} {W:List Str} {l:List D} {kv kv':KV} {n w:Str}:Pa R W l kv->Keys kv->Ln kv n kv'->Pa (R++[kv]) (W++[w]) (l++[cW w n (ov kv n) (ov kv' n)]) kv'
inductive Fu:KV->List KV->List Str->List D->Prop
 | nil {kv:KV}:Fu kv [] [] []
 | cons {R:List KV} {W:List Str} {l:List D} {kv kv':KV} {n w:Str}:Fu kv' R W l->Keys kv'->Ln kv n kv'->Fu kv (kv'::R) (w::W) (l++[cW w n (ov kv n) (ov kv' n)])
theorem Pa.len{R:List KV}{W:List Str}{l:List D}{kv:KV}(h:Pa R W l kv):R.length=W.length/\l.length=W.length:=by
 induction h with
 | nil=>exact⟨rfl,rfl⟩
 | snoc _ _ _ ih=>simp[ih.1,ih.2]
theorem Fu.len{R:List KV}{W:List Str}{l:List D}{kv:KV}(h:Fu kv R W l):R.length=W.length/\l.length=W.length:=by
 induction h with
 | nil=>exact⟨rfl,rfl⟩
 | cons _ _ _ ih=>simp[ih.1,ih.2]
structure Z(i:Nat)(S:Cst)(Rp Rf:List KV)(Wp Wf:List Str)(kv:KV):Prop where
 p:Pa Rp Wp S.don kv
 f:Fu kv Rf Wf S.und
 j:J i S kv
 l:Wp.length+Wf.length<=i
section
variable{S:Cst}{kv kv' k1:KV}{i:Nat}{n w:Str}{Rp Rf:List KV}{Wp Wf:List Str}{d u:List D}
theorem Gv(h1:Keys k1)(hs:Keys S.tabs)(he:∀y,bC S.tabs y=bC kv y)(hn:n∈N4)(ot:∀y,y≠n->bC kv y=bC k1 y)(one:(bC k1 n).isSome=true\/(bC kv n).isSome=true):∃tb,nW S n (ov k1 n)=some {S with tabs:=tb}/\Keys tb/\∀y,bC tb y=bC k1 y:=by
 have l:=hs.len
 cases g:bC k1 n with
 | none =>
  have g2:(bC kv n).isSome=true:=one.resolve_left (by rw[g];simp)
  refine⟨cP S.tabs n,?_,hs.drop,λy=>?_⟩
  .unfold ov
   rw[g];show(if(bC S.tabs n).isSome then some _ else none)=_;rw[he,g2];rfl
  .rw[fC]
   by_cases e:y=n
   .rw[P5z e,e,g]
   .rw[Q5z e,he,ot y e]
 | some t =>
  have ht:=h1.get g;refine⟨pF S.tabs n t,?_,hs.put hn ht,λy=>?_⟩
  .unfold ov
   rw[g];obtain⟨m,q,f,rfl,_⟩:=ht;show(if decide (S.tabs.length<1000) then some _ else none)=_;rw[P5z (Y3z (by omega))];rfl
  .rw[Ai]
   by_cases e:y=n
   .rw[P5z e,e,g]
   .rw[Q5z e,he,ot y e]
theorem uD{w n:Str}{o t:D}:undo (d++[cW w n o t])=some (d,w,n,o,t):=by
 unfold undo;rw[List.getLast?_concat,List.dropLast_concat];rfl
theorem Uq(h:Z i S Rp Rf [] Wf kv):lM S []=some (.exc "NoBack"):=by
 have e:S.don=[]:=List.length_eq_zero_iff.mp h.p.len.2;simp only[lM,e]
theorem Uh(h:Z i S Rp Rf Wp [] kv):fZ S []=some (.exc "NoBack"):=by
 have e:S.und=[]:=List.length_eq_zero_iff.mp h.f.len.2;simp only[fZ,e]
theorem bk(h:Z i S Rp Rf (Wp++[w]) Wf kv)(hi:i<100):∃S' R k1,Rp=R++[k1]/\lM S []=some (.val (.str w) S')/\Z (i+1) S' R (kv::Rf) Wp (w::Wf) k1:=by
 obtain⟨p,f,j,l⟩:=h;have lu:=f.len.2;rw[Q1z] at l;generalize hW:Wp++[w]=W at p;generalize hd:S.don=dn at p
 cases p with
 | nil=>simp at hW
 | snoc p0 hk L =>
  rename_i R0 W0 l0 k0 n0 w0;obtain⟨e1,e2⟩:=List.append_inj' hW rfl;cases e1;cases e2;have lp:=p0.len;obtain⟨tb,q1,q2,q3⟩:=Gv (S:={S with don:=l0,und:=S.und++[cW w n0 (ov k0 n0) (ov kv n0)]}) hk j.s j.e L.nm L.ot L.one;refine⟨⟨tb,l0,S.und++[cW w n0 (ov k0 n0) (ov kv n0)]⟩,R0,k0,rfl,?_,⟨p0,f.cons j.k L,⟨hk,q2,q3,?_⟩,?_⟩⟩
  .simp only[lM]
   split
   .rename_i e;exact absurd e (by rw[hd];simp)
   .rw[P5z (Y3z (by omega)),hd,uD]
    show(nW _ n0 (ov k0 n0)).map _=_;rw[q1];rfl
  .show l0.length<=i+1
   omega
  .simp;omega
theorem fo(h:Z i S Rp Rf Wp (w::Wf) kv)(hi:i<100):∃S' R k1,Rf=k1::R/\fZ S []=some (.val (.str w) S')/\Z (i+1) S' (Rp++[kv]) R (Wp++[w]) Wf k1:=by
 obtain⟨p,f,j,l⟩:=h;have lp:=p.len.2;rw[P2z] at l;generalize hW:w::Wf=W at f;generalize hd:S.und=dn at f
 cases f with
 | nil=>simp at hW
 | cons f0 hk L =>
  rename_i R0 W0 l0 k0 n0 w0;cases hW;have lf:=f0.len;obtain⟨tb,q1,q2,q3⟩:=Gv (S:={S with und:=l0,don:=S.don++[cW w n0 (ov kv n0) (ov k0 n0)]}) hk j.s j.e L.nm (λy hy=>(L.ot y hy).symm) L.one.symm;refine⟨⟨tb,S.don++[cW w n0 (ov kv n0) (ov k0 n0)],l0⟩,R0,k0,rfl,?_,⟨p.snoc j.k L,f0,⟨hk,q2,q3,?_⟩,?_⟩⟩
  .simp only[fZ]
   split
   .rename_i e;exact absurd e (by rw[hd];simp)
   .rw[P5z (Y3z (by omega)),hd,uD]
    show(nW _ n0 (ov k0 n0)).map _=_;rw[q1];rfl
  .show(S.don++[_]).length<=i+1
   rw[Q1z,List.length_singleton];omega
  .simp;omega
end
abbrev bdy:List Stmt:=(aZ (top 57)).body
abbrev lSc:Scope:=(aZ (top 57)).sc
def nE:Expr:=.Name "" ⟨0,0,0,0⟩
def eK:Stmt->List Expr
 | .If c _ _ _=>[c]
 | .Assign [t] v _=>[t,v]
 | .For t i _ _ _=>[t,i]
 | .Return (some e) _=>[e]
 | _=>[]
def kid:Expr->List Expr
 | .Compare a _ [b] _=>[a,b]
 | .BoolOp _ [a,b] _=>[a,b]
 | .Tuple l _ _=>l
 | _=>[]
def ifE:Stmt->List Stmt
 | .If _ _ b _=>b
 | _=>[]
def iC(s:Stmt):Expr:=(eK s).getD 0 nE
def e1(s:Stmt):Expr:=(eK s).getD 1 nE
def b0:Stmt:=bdy.getD 0 pss
def b1:Stmt:=bdy.getD 1 pss
def lp:List Stmt:=Ez b1
def s0:Stmt:=lp.getD 0 pss
def s1:Stmt:=lp.getD 1 pss
def s2:Stmt:=lp.getD 2 pss
def s3:Stmt:=(ifE s1).getD 0 pss
def sA(k:Nat):Stmt:=(ifA s1).getD k pss
def sB(k:Nat):Stmt:=(ifA s3).getD k pss
def sC(k:Nat):Stmt:=(ifE s3).getD k pss
def sI(k:Nat):Stmt:=(ifA (sA 3)).getD k pss
def LW:LawX where
 ns:=kid (iC b0)
 e2:=(kid (e1 b0)).getD 1 nE
 e3:=(kid (e1 b0)).getD 2 nE
 e4:=(kid (e1 b0)).getD 3 nE
 tg:=iC b1
 iter:=e1 b1
 e9:=iC (bdy.getD 2 pss)
 loop:=lp
 kt:=0
 k2:=0
 r3:=⟨285,4,285,45⟩
 r4:=⟨285,49,285,53⟩
 r5:=⟨285,49,285,55⟩
 r7:=⟨285,48,285,69⟩
 r8:=⟨285,4,285,69⟩
 r9:=⟨286,4,306,24⟩
 t3:=⟨307,4,307,15⟩
theorem Lr:bdy=LW.body:=by rfl'
def RR(ns:List Int)(R:List KV)(W:List Str)(a:Nat)(p:Addr)(s4 s5 s6 s7 s8:Sl):Rho:=[("_law_script",.sh (scr ns)),("_law_rows",.sh (.lst (R.map cH))),("_law_words",.sh (.lst (W.map D.str))),("_law_at",.sh (.int a)),("_law_k",s4),("_law_way",s5),("_law_deed_here",s6),("_law_known",s7),("_law_due",s8),("_law_case",.sh (.obj p))]
section
variable{ns:List Int}{R:List KV}{W:List Str}{a:Nat}{p:Addr}{s4 s5 s6 s7 s8:Sl}
theorem RR.calm(h4:nOw s4=true)(h5:nOw s5=true)(h6:nOw s6=true)(h7:nOw s7=true)(h8:nOw s8=true):jr (RR ns R W a p s4 s5 s6 s7 s8)=true:=g8 rfl (g8 rfl (g8 rfl (g8 rfl (g8 h4 (g8 h5 (g8 h6 (g8 h7 (g8 h8 (g8 rfl rfl)))))))))
theorem CV:bindNames lSc LW.ns [.obj p,.lst [.dic [] []],.lst [],.int 0] (bH (aZ (top 57)) [scr ns])=some (RR ns [[]] [] 0 p .no .no .no .no .no):=by rfl'
end
abbrev GT(X:Cx)(W:Wh)(pL:Addr×Str):Prop:=GoodT T 60 36 W.pt pL W.C X lSc LP ms "_law_did" "_law_all_of" dF aF
def cmL(e:Expr):Expr:=(kid e).getD 0 nE
def cmR(e:Expr):Expr:=(kid e).getD 1 nE
theorem Tr:lp=[s0,.If (iC s1) [sA 0,sA 1,sA 2,sA 3] [s3] ⟨288,8,304,55⟩,s2]:=by rfl'
theorem Sh:s3=.If (iC s3) [sB 0,sB 1] [sC 0,sC 1] ⟨297,8,304,55⟩:=by rfl'
theorem Uy:sA 3=.If (iC (sA 3)) [sI 0,sI 1,sI 2] [] ⟨293,12,296,37⟩:=by rfl'
def eB:Expr:=cmR (iC (sB 0))
def eC:Expr:=cmR (iC (sC 0))
def eN:Expr:=cmR (cmR (iC s2))
theorem Hy{l:List D}{a:Nat}(h:a<=l.length):Bj l none (some (a:Int))=l.take a:=by
 unfold Bj N5;simp only[List.drop_zero,Nat.sub_zero];rw[Q5z (by omega)];congr 1;omega
section
variable{ns:List Int}{R Rp Rf:List KV}{Ws Wp Wf:List Str}{a i:Nat}{p:Addr}{s4 s5 s6 s7 s8:Sl}{S S':Cst}{kv kv':KV}{dd due:D}
theorem got{α:Type}{A B:List α}{x:α}{f:α->D}:atD ((A++x::B).map f) (A.length:Int)=some (f x):=gA (by simp)
theorem Jj{p1 p2 p3:Pos}(e:Rp.length=Wp.length):ev cx0 60 lSc (RR ns (Rp++kv::Rf) Ws Wp.length p s4 s5 s6 s7 s8) (.Subscript (.Name "_law_rows" p1) (.Name "_law_at" p2) p3)=some (cH kv) :=
 xIx (xs:=(Rp++kv::Rf).map cH) (i:=(Wp.length:Int)) (xName rfl) (xName rfl) rfl (e▸got)
theorem yM{p1 p2 p3:Pos}:ev cx0 58 lSc (RR ns R Ws a p s4 s5 s6 s7 s8) (.Call (.Name "len" p1) [.Name "_law_words" p2] [] p3)=some (.int (Ws.length:Int)) :=
 iu rfl rfl rfl (aG (xName rfl) dj) (show some (D.int ((Ws.map D.str).length:Int))=_ by rw[I3z])
theorem N6:ev cx0 60 lSc (RR ns R (Wp++Wf) Wp.length p s4 s5 s6 s7 s8) eN=some (.tup [.int (Wp.length:Int),.int (Wf.length:Int)]) :=
 mL (aG (xName rfl) (aG (jU (dG yM (xName rfl) rfl) (congrArg D.int (by rw[Q1z];omega))) dj)) rfl
def Iv(ns:List Int)(p:Addr)(i:Nat)(S:Cst)(U:Rho):Prop:=∃Rp Rf Wp Wf kv s4 s5 s6 s7 s8,U=RR ns (Rp++kv::Rf) (Wp++Wf) Wp.length p s4 s5 s6 s7 s8/\Z i S Rp Rf Wp Wf kv/\nOw s4=true/\nOw s5=true/\nOw s6=true/\nOw s7=true/\nOw s8=true
theorem Z.same(h:Z i S Rp Rf Wp Wf kv):Z (i+1) S Rp Rf Wp Wf kv:=⟨h.p,h.f,h.j.same,Nat.le_succ_of_le h.l⟩
variable{X:Cx}{W:Wh}{pL:Addr×Str}
theorem Qt(G:GT X W pL)(hN:X.N=(aZ (top 57)).N)(h:Z i S Rp Rf Wp Wf kv)(h4:nOw s4=true)(h5:nOw s5=true)(h6:nOw s6=true)(h7:nOw s7=true)(h8:nOw s8=true):Go X W [s2] S (RR ns (Rp++kv::Rf) (Wp++Wf) Wp.length W.p s4 s5 s6 s7 s8) (Iv ns W.p i):=by
 have hN':X.N=(RR ns (Rp++kv::Rf) (Wp++Wf) Wp.length W.p s4 s5 s6 s7 s8).map (·.1):=hN.trans (by rfl');refine Go.chk (S1:=S) (.or (S1:=S) (Chk.all (T:=T) (F:=60) (k:=36) G hN' (xName rfl) (Jj h.p.len.1) (QM h.j) (Uk h.j) (QS h.j) (PN h.j) (Rt h.j)) (Chk.cnt (T:=T) (F:=60) (k:=36) G hN' (by rfl') N6 rfl ?_)) (.nil hN' ⟨Rp,Rf,Wp,Wf,kv,s4,s5,s6,s7,s8,rfl,h,h4,h5,h6,h7,h8⟩);rw[h.p.len.2,h.f.len.2];exact Rh (by simp[dep,deps]) rfl
end
theorem Bh:cx0=cxN T 60 36:=FP
section
variable{ns:List Int}{R Rp Rf:List KV}{Ws Wp Wf:List Str}{a i:Nat}{p:Addr}{s4 s5 s6 s7 s8:Sl}{S S':Cst}{kv kv':KV}{dd due:D}{w:Str}
theorem go0(h5:nOw s5=true)(h6:nOw s6=true)(h7:nOw s7=true)(h8:nOw s8=true):iT (λU s=>DE.st cx0 60 60 lSc U s) [s0] (RR ns R Ws a p (.sh (.int i)) s5 s6 s7 s8)=some (.nxt (RR ns R Ws a p (.sh (.int i)) (.sh (.int ((pickN ns (900+i) 7:Nat):Int))) s6 s7 s8)):=by
 rw[Bh];exact mz (cx:=cxN T 60 36) (F:=60) (m:=59) (sc:=lSc) (r:=[]) (d:=.int ((pickN ns (900+i) 7:Nat):Int)) (RR.calm rfl h5 h6 h7 h8) rfl rfl (bf rfl (aG (xName rfl) (aG (jU (d':=.int ((900+i:Nat):Int)) (dG (cV rfl) (xName rfl) rfl) (congrArg D.int (by omega))) (aG (cV rfl) dj))) (pick 34 ns (900+i) (many:=7) (by omega))) rfl
theorem goA(h5:nOw s5=true)(h6:nOw s6=true)(h7:nOw s7=true)(h8:nOw s8=true)(e:Rp.length=a)(hb:aV T 60 36 "_law_behind" [cH kv,oZ ns (1000+60*i)]=some (.tup [cH kv',due])):iT (λU s=>DE.st cx0 60 60 lSc U s) [sA 0,sA 1] (RR ns (Rp++kv::Rf) Ws a p (.sh (.int i)) s5 s6 s7 s8)=some (.nxt (RR ns (Rp++kv::Rf) Ws a p (.sh (.int i)) s5 (.sh (oZ ns (1000+60*i))) (.sh (cH kv')) (.sh due))):=by
 rw[Bh];subst e
 exact mz (cx:=cxN T 60 36) (F:=60) (m:=59) (sc:=lSc) (d:=oZ ns (1000+60*i)) (RR.calm rfl h5 h6 h7 h8) rfl rfl (bf rfl (aG (xName rfl) (aG (jU (d':=.int ((1000+60*i:Nat):Int)) (dG (cV rfl) (dG (cV rfl) (xName rfl) (HN (.inl (by decide)))) rfl) (congrArg D.int (by omega))) dj)) (deed 32))
  (W5 (l:=[cH kv',due]) (U':=RR ns (Rp++kv::Rf) Ws Rp.length p (.sh (.int i)) s5 (.sh (oZ ns (1000+60*i))) (.sh (cH kv')) (.sh due)) (RR.calm (s6:=.sh (oZ ns (1000+60*i))) rfl h5 rfl h7 h8) rfl (bf rfl (aG (xIx (xs:=(Rp++kv::Rf).map cH) (i:=(Rp.length:Int)) (xName rfl) (xName rfl) rfl got) (aG (xName rfl) dj)) hb) rfl rfl rfl)
theorem goI(t:Bool)(h5:nOw s5=true)(e:Rp.length=Wp.length)(l1:Rp.length<1000)(hd:cmpop .NotIn due noW=some (.bl t)){r:List D}(hw:t=true->dd=.tup (.str w::r)):iT (λU s=>DE.st cx0 60 60 lSc U s) [sA 3] (RR ns (Rp++kv::Rf) (Wp++Wf) Wp.length p (.sh (.int i)) s5 (.sh dd) (.sh (cH kv')) (.sh due))=some (.nxt (bif t then RR ns ((Rp++[kv])++[kv']) (Wp++[w]) (Wp++[w]).length p (.sh (.int i)) s5 (.sh dd) (.sh (cH kv')) (.sh due) else RR ns (Rp++kv::Rf) (Wp++Wf) Wp.length p (.sh (.int i)) s5 (.sh dd) (.sh (cH kv')) (.sh due))):=by
 rw[Uy,Bh]
 have hc:ev (cxN T 60 36) 60 lSc (RR ns (Rp++kv::Rf) (Wp++Wf) Wp.length p (.sh (.int i)) s5 (.sh dd) (.sh (cH kv')) (.sh due)) (iC (sA 3))=some (.bl t) :=
  bx (xName rfl) (mL (aG (cV rfl) (aG (cV rfl) dj)) rfl) hd
 cases t with
 | false=>exact W8 (cx:=cxN T 60 36) (F:=60) (m:=59) (sc:=lSc) (r:=[]) (RR.calm rfl h5 rfl rfl rfl) hc gR
 | true =>
  cases hw rfl
  have k1:binop .Add (.lst (Bj ((Rp++kv::Rf).map cH) none (some ((Wp.length:Int)+1)))) (.lst [cH kv'])=some (.lst (((Rp++[kv])++[kv']).map cH)):=by
   rw[show((Wp.length:Int)+1)=((Rp.length+1:Nat):Int) by omega,Hy (by simp)]
   rw[show((Rp++kv::Rf).map cH).take (Rp.length+1)=(Rp++[kv]).map cH by
    rw[<- List.map_take,List.take_append]
    simp[List.take_of_length_le]]
   unfold binop;simp only;rw[P5z (Cr (by simp;omega))];simp
  have k2:binop .Add (.lst (Bj ((Wp++Wf).map D.str) none (some (Wp.length:Int)))) (.lst [.str w])=some (.lst ((Wp++[w]).map D.str)):=by
   rw[Hy (by simp)];rw[show((Wp++Wf).map D.str).take Wp.length=Wp.map D.str by rw[<- List.map_take,List.take_left]];unfold binop;simp only;rw[P5z (Cr (by simp;omega))];simp
  have q1:=RR.calm (ns:=ns) (R:=Rp++kv::Rf) (W:=Wp++Wf) (a:=Wp.length) (p:=p) (s4:=.sh (.int i)) (s5:=s5) (s6:=.sh (.tup (.str w::r))) (s7:=.sh (cH kv')) (s8:=.sh due) rfl h5 rfl rfl rfl;have q2:=RR.calm (ns:=ns) (R:=(Rp++[kv])++[kv']) (W:=Wp++Wf) (a:=Wp.length) (p:=p) (s4:=.sh (.int i)) (s5:=s5) (s6:=.sh (.tup (.str w::r))) (s7:=.sh (cH kv')) (s8:=.sh due) rfl h5 rfl rfl rfl;have q3:=RR.calm (ns:=ns) (R:=(Rp++[kv])++[kv']) (W:=Wp++[w]) (a:=Wp.length) (p:=p) (s4:=.sh (.int i)) (s5:=s5) (s6:=.sh (.tup (.str w::r))) (s7:=.sh (cH kv')) (s8:=.sh due) rfl h5 rfl rfl rfl;refine W7 (cx:=cxN T 60 36) (F:=60) (m:=59) (sc:=lSc) (r:=[]) (fl1:=.nxt (RR ns ((Rp++[kv])++[kv']) (Wp++[w]) (Wp++[w]).length p (.sh (.int i)) s5 (.sh (.tup (.str w::r))) (.sh (cH kv')) (.sh due))) q1 hc ?_ rfl;refine mz (m:=58) (d:=.lst (((Rp++[kv])++[kv']).map cH)) q1 rfl rfl (dG (UJ (xName rfl) O9 (O8 (dG (xName rfl) (cV rfl) rfl))) (Q6 (aG (xName rfl) dj) rfl) k1) ?_;refine mz (m:=58) (d:=.lst ((Wp++[w]).map D.str)) q2 rfl rfl (dG (UJ (xName rfl) O9 (O8 (xName rfl))) (Q6 (aG (xIx (xs:=.str w::r) (i:=((0:Nat):Int)) (xName rfl) (cV rfl) rfl (gA rfl)) dj) rfl) k2) ?_;exact mz (m:=58) (d:=.int ((Wp++[w]).length:Int)) q3 rfl rfl (jU (dG (xName rfl) (cV rfl) rfl) (congrArg D.int (by simp))) rfl
end
section
variable{ns:List Int}{R Rp Rf:List KV}{Ws Wp Wf:List Str}{a i:Nat}{p:Addr}{s4 s5 s6 s7 s8:Sl}{S S':Cst}{kv kv':KV}{dd due:D}{w:Str}
set_option maxHeartbeats 4000000 in
theorem yd:tell S (some (p,.exc "NoBack"))=some (p,.str "no back",S):=by rfl'
set_option maxHeartbeats 4000000 in
theorem Vf:Km cx0 LP ms S 60 lSc (RR ns R Ws a p s4 s5 s6 s7 s8) (cmL (iC (sB 0)))=tell S ((lM S []).map λo=>(p,o)):=by rfl'
set_option maxHeartbeats 4000000 in
theorem Ve:Km cx0 LP ms S 60 lSc (RR ns R Ws a p s4 s5 s6 s7 s8) (cmL (iC (sC 0)))=tell S ((fZ S []).map λo=>(p,o)):=by rfl'
theorem W2:ev cx0 60 lSc (RR ns R Ws 0 p s4 s5 s6 s7 s8) eB=some (.str "no back"):=Mq (bx (xName rfl) (cV rfl) rfl) (cV rfl)
theorem WY:ev cx0 60 lSc (RR ns R (Wp++w::Wf) (Wp.length+1) p s4 s5 s6 s7 s8) eB=some (.str w):=Mp (bx (x:=.int ((Wp.length+1:Nat):Int)) (xName rfl) (cV rfl) (congrArg (λb=>some (D.bl b)) (Y3z (by omega)))) (xIx (xs:=(Wp++w::Wf).map D.str) (i:=(Wp.length:Int)) (xName rfl) (jU (dG (xName rfl) (cV rfl) rfl) (congrArg D.int (by omega))) rfl got)
theorem WX:ev cx0 60 lSc (RR ns R Wp Wp.length p s4 s5 s6 s7 s8) eC=some (.str "no back"):=Mq (bx (xName rfl) yM (G8 (by omega))) (cV rfl)
theorem WW:ev cx0 60 lSc (RR ns R (Wp++w::Wf) Wp.length p s4 s5 s6 s7 s8) eC=some (.str w):=Mp (bx (xName rfl) yM (oLt (by rw[Q1z,P2z];omega))) (xIx (xs:=(Wp++w::Wf).map D.str) (i:=(Wp.length:Int)) (xName rfl) (xName rfl) rfl got)
theorem goB(h4:nOw s4=true)(h5:nOw s5=true)(h6:nOw s6=true)(h7:nOw s7=true)(h8:nOw s8=true):iT (λU s=>DE.st cx0 60 60 lSc U s) [sB 1] (RR ns R Ws a p s4 s5 s6 s7 s8)=some (.nxt (RR ns R Ws (a-1) p s4 s5 s6 s7 s8)):=by
 exact mz (cx:=cx0) (F:=60) (m:=59) (sc:=lSc) (r:=[]) (d:=.int ((a-1:Nat):Int)) (RR.calm h4 h5 h6 h7 h8) rfl rfl (iu rfl rfl rfl (aG (cV rfl) (aG (dG (xName rfl) (cV rfl) rfl) dj)) Ww) rfl
theorem goC(h4:nOw s4=true)(h5:nOw s5=true)(h6:nOw s6=true)(h7:nOw s7=true)(h8:nOw s8=true):iT (λU s=>DE.st cx0 60 60 lSc U s) [sC 1] (RR ns R Ws a p s4 s5 s6 s7 s8)=some (.nxt (RR ns R Ws (min Ws.length (a+1)) p s4 s5 s6 s7 s8)):=by
 refine mz (cx:=cx0) (F:=60) (m:=59) (sc:=lSc) (r:=[]) (d:=.int ((min Ws.length (a+1):Nat):Int)) (RR.calm h4 h5 h6 h7 h8) rfl rfl (iu rfl rfl rfl (aG (iu rfl rfl rfl (aG (xName rfl) dj) (show some (D.int ((Ws.map D.str).length:Int))=some (D.int (Ws.length:Int)) by rw[I3z])) (aG (dG (xName rfl) (cV rfl) rfl) dj)) ?_) rfl;show some (D.int (if(a:Int)+1<(Ws.length:Int) then(a:Int)+1 else(Ws.length:Int)))=_;congr 2
 split<;>omega
variable{X:Cx}{W:Wh}{pL:Addr×Str}
theorem nmR:(RR ns R Ws a p s4 s5 s6 s7 s8).map (·.1)=(aZ (top 57)).N:=by rfl'
theorem brA(G:GT X W pL)(hN:X.N=(aZ (top 57)).N)(hi:i<18)(h:Z i S Rp Rf Wp Wf kv)(h5:nOw s5=true)(h6:nOw s6=true)(h7:nOw s7=true)(h8:nOw s8=true):Go X W [sA 0,sA 1,sA 2,sA 3] S (RR ns (Rp++kv::Rf) (Wp++Wf) Wp.length W.p (.sh (.int i)) s5 s6 s7 s8) (Iv ns W.p (i+1)):=by
 obtain⟨kv',due,S',h1,h2,h3,h4,h9⟩:=N8 (ns:=ns) (a:=1000+60*i) h.j (by omega);have e:=h.p.len.1;have ll:=h.l;refine Go.pre (T:=T) (F:=60) (k:=36) (pre:=[sA 0,sA 1]) G (hN.trans nmR.symm) (goA h5 h6 h7 h8 e h1) λhN2=>?_;refine Go.chk (S1:=S') (Chk.did (T:=T) (F:=60) (k:=36) G hN2 (xName rfl) (xName rfl) (xName rfl) (h2 W.p) (Rh h3.1 h3.2)) ?_;rcases h9 with⟨q1,rfl,rfl⟩ | ⟨q1,w,n,r,q2,q3,q4,q5⟩
 .refine Go.pre (T:=T) (F:=60) (k:=36) (pre:=[sA 3]) (rest:=[]) G hN2 (goI false h5 e (by omega) q1 (w:="") (r:=[]) (λz=>nomatch z)) λhN3=>.nil hN3 ⟨Rp,Rf,Wp,Wf,kv',_,_,_,_,_,rfl,⟨h.p,h.f,h4,by omega⟩,rfl,h5,rfl,rfl,rfl⟩
 .refine Go.pre (T:=T) (F:=60) (k:=36) (pre:=[sA 3]) (rest:=[]) G hN2 (goI true h5 e (by omega) q1 (w:=w) (r:=r) (λ_=>q2)) λhN3=>.nil hN3 ⟨Rp++[kv],[],Wp++[w],[],kv',_,_,_,_,_,by rw[J3z];rfl,⟨?_,?_,h4,?_⟩,rfl,h5,rfl,rfl,rfl⟩
  .rw[q4];exact h.p.snoc h.j.k q3
  .rw[q5];exact .nil
  .simp;omega
theorem brB(G:GT X W pL)(hN:X.N=(aZ (top 57)).N)(hi:i<18)(h:Z i S Rp Rf Wp Wf kv)(h4:nOw s4=true)(h5:nOw s5=true)(h6:nOw s6=true)(h7:nOw s7=true)(h8:nOw s8=true):Go X W [sB 0,sB 1] S (RR ns (Rp++kv::Rf) (Wp++Wf) Wp.length W.p s4 s5 s6 s7 s8) (Iv ns W.p (i+1)):=by
 rcases List.eq_nil_or_concat Wp with rfl | ⟨Wq,w,rfl⟩
 .refine Go.chk (S1:=S) (Chk.told (T:=T) (F:=60) (k:=36) (r:=.str "no back") (S':=S) G (hN.trans nmR.symm) ?_ W2 (by rfl')) ?_
  .exact Vf.trans (by rw[Uq h];exact yd)
  .exact Go.pre (T:=T) (F:=60) (k:=36) (pre:=[sB 1]) (rest:=[]) G (hN.trans nmR.symm) (goB h4 h5 h6 h7 h8) λhN3=>.nil hN3 ⟨Rp,Rf,[],Wf,kv,_,_,_,_,_,rfl,h.same,h4,h5,h6,h7,h8⟩
 .rw[List.concat_eq_append] at h ⊢
  obtain⟨S',R,k1,rfl,q1,q2⟩:=bk (i:=i) h (by omega);rw[show(Wq++[w])++Wf=Wq++w::Wf by simp,show(Wq++[w]).length=Wq.length+1 by simp];refine Go.chk (S1:=S') (Chk.told (T:=T) (F:=60) (k:=36) (r:=.str w) (S':=S') G (hN.trans nmR.symm) ?_ WY (Rh (by simp[dep]) rfl)) ?_
  .exact Vf.trans (by rw[q1];rfl)
  .exact Go.pre (T:=T) (F:=60) (k:=36) (pre:=[sB 1]) (rest:=[]) G (hN.trans nmR.symm) (goB h4 h5 h6 h7 h8) λhN3=>.nil hN3 ⟨R,kv::Rf,Wq,w::Wf,k1,_,_,_,_,_,by rw[O2z];rfl,q2,h4,h5,h6,h7,h8⟩
theorem brC(G:GT X W pL)(hN:X.N=(aZ (top 57)).N)(hi:i<18)(h:Z i S Rp Rf Wp Wf kv)(h4:nOw s4=true)(h5:nOw s5=true)(h6:nOw s6=true)(h7:nOw s7=true)(h8:nOw s8=true):Go X W [sC 0,sC 1] S (RR ns (Rp++kv::Rf) (Wp++Wf) Wp.length W.p s4 s5 s6 s7 s8) (Iv ns W.p (i+1)):=by
 cases Wf with
 | nil =>
  rw[J3z];refine Go.chk (S1:=S) (Chk.told (T:=T) (F:=60) (k:=36) (r:=.str "no back") (S':=S) G (hN.trans nmR.symm) ?_ WX (by rfl')) ?_
  .exact Ve.trans (by rw[Uh h];exact yd)
  .exact Go.pre (T:=T) (F:=60) (k:=36) (pre:=[sC 1]) (rest:=[]) G (hN.trans nmR.symm) (goC h4 h5 h6 h7 h8) λhN3=>.nil hN3 ⟨Rp,Rf,Wp,[],kv,_,_,_,_,_,by rw[J3z,Nat.min_eq_left (by omega)],h.same,h4,h5,h6,h7,h8⟩
 | cons w Wf =>
  obtain⟨S',R,k1,rfl,q1,q2⟩:=fo (i:=i) h (by omega);refine Go.chk (S1:=S') (Chk.told (T:=T) (F:=60) (k:=36) (r:=.str w) (S':=S') G (hN.trans nmR.symm) ?_ WW (Rh (by simp[dep]) rfl)) ?_
  .exact Ve.trans (by rw[q1];rfl)
  .exact Go.pre (T:=T) (F:=60) (k:=36) (pre:=[sC 1]) (rest:=[]) G (hN.trans nmR.symm) (goC h4 h5 h6 h7 h8) λhN3=>.nil hN3 ⟨Rp++[kv],R,Wp++[w],Wf,k1,_,_,_,_,_,by rw[O2z,O2z,Q1z,Q1z,Nat.min_eq_right (by simp)];rfl,q2,h4,h5,h6,h7,h8⟩
theorem Lx{x:D}:fH lSc LW.tg x (RR ns R Ws a p s4 s5 s6 s7 s8)=some (RR ns R Ws a p (.sh x) s5 s6 s7 s8):=by rfl'
theorem round(G:GT X W pL)(hN:X.N=(aZ (top 57)).N)(hi:i<18){U:Rho}(h:Iv ns W.p i S U):∃U1,fH lSc LW.tg (.int i) U=some U1/\(X.N=U1.map (·.1)->Go X W LW.loop S U1 (Iv ns W.p (i+1))):=by
 obtain⟨Rp,Rf,Wp,Wf,kv,s4,s5,s6,s7,s8,rfl,h,h4,h5,h6,h7,h8⟩:=h;refine⟨_,Lx,λhN1=>?_⟩;show Go X W lp S _ _;rw[Tr];refine Go.pre (T:=T) (F:=60) (k:=36) (pre:=[s0]) G hN1 (go0 h5 h6 h7 h8) λhN2=>?_;have hv:∀{t:Bool},cmpop .Lt (.int ((pickN ns (900+i) 7:Nat):Int)) (.int 4)=some (.bl t)->ev cx0 60 lSc (RR ns (Rp++kv::Rf) (Wp++Wf) Wp.length W.p (.sh (.int i)) (.sh (.int ((pickN ns (900+i) 7:Nat):Int))) s6 s7 s8) (iC s1)=some (.bl t):=λ{t} q=>bx (xName rfl) (cV rfl) q
 have fin:∀S U,X.N=U.map (·.1)->Iv ns W.p (i+1) S U->Go X W [s2] S U (Iv ns W.p (i+1)):=λS U _ q=>by
  obtain⟨Rp,Rf,Wp,Wf,kv,s4,s5,s6,s7,s8,rfl,h,h4,h5,h6,h7,h8⟩:=q;exact Qt G hN h h4 h5 h6 h7 h8
 by_cases c:((pickN ns (900+i) 7:Nat):Int)<4
 .exact Go.ite (T:=T) (F:=60) (k:=36) (t:=true) G hN2 (hv (oLt c)) (brA G hN hi h rfl h6 h7 h8) fin
 .refine Go.ite (T:=T) (F:=60) (k:=36) (t:=false) (Ψ:=Iv ns W.p (i+1)) G hN2 (hv (G8 c)) ?_ fin
  show Go X W [s3] S _ _;rw[Sh];have hv:∀{t:Bool},cmpop .Lt (.int ((pickN ns (900+i) 7:Nat):Int)) (.int 6)=some (.bl t)->ev cx0 60 lSc (RR ns (Rp++kv::Rf) (Wp++Wf) Wp.length W.p (.sh (.int i)) (.sh (.int ((pickN ns (900+i) 7:Nat):Int))) s6 s7 s8) (iC s3)=some (.bl t):=λ{t} q=>bx (xName rfl) (cV rfl) q
  by_cases c:((pickN ns (900+i) 7:Nat):Int)<6
  .exact Go.ite (T:=T) (F:=60) (k:=36) (t:=true) G hN2 (hv (oLt c)) (brB G hN hi h rfl rfl h6 h7 h8) λS U n z=>.nil n z
  .exact Go.ite (T:=T) (F:=60) (k:=36) (t:=false) G hN2 (hv (G8 c)) (brC G hN hi h rfl rfl h6 h7 h8) λS U n z=>.nil n z
theorem El(ns:List Int)(hl:ns.length<=63)(X:Cx)(W:Wh)(hN:X.N=(aZ (top 57)).N)(G:GT X W pL):LawY T 60 36 X W lSc LW (bH (aZ (top 57)) [.lst (ns.map D.int)]):=by
 refine⟨.lst [.dic [] []],.lst [],.int 0,gY 0 18,RR ns [[]] [] 0 W.p .no .no .no .no .no,Iv ns W.p,by rfl',by rfl',by rfl',CV,by rfl',⟨[],[],[],[],[],_,_,_,_,_,rfl,⟨.nil,.nil,⟨⟨.nil,(λq h=>nomatch h),(λq h=>nomatch h)⟩,⟨.nil,(λq h=>nomatch h),(λq h=>nomatch h)⟩,λn=>rfl,X4z _⟩,X4z _⟩,rfl,rfl,rfl,rfl,rfl⟩,λi x hx S U n h=>?_,λS U h=>by rfl'⟩;rw[show(18:Int)=((18:Nat):Int) from rfl,qj] at hx
 have hi:i<18:=by
  have:=(List.getElem?_eq_some_iff.mp hx).1
  rwa [cg] at this
 rw[gC hi] at hx;cases hx;exact round G hN hi h
end
theorem Gi:T.defs.lookup ("_law_told":Str)=some (aZ (top 51)):=by rfl'
theorem Um:T.defs.lookup ("_law_class":Str)=some (aZ (top 50)):=by rfl'
theorem Uw:T.defs.lookup ("_law_all_of":Str)=some (aZ (top 56)):=by rfl'
section
variable{P:Program}{w:World}{K:Zf}{mg:Str->Option Value}
theorem Gj(TX:Text w K mg T):jR P w K mg 37 T.exs LP.cv LP.tn :=
 yc (F:=60) (dn:="_law_deed_here") (n:="e") TX Gi Um rfl (by rfl') (by rfl') (by rfl') (by rfl') (by rfl') (by rfl') (by rfl') (by rfl') (by rfl') (by rfl') (by omega)
theorem xY(TX:Text w K mg T):rO P w K mg 37 LP.tn:=CN (dn:="_law_deed_here") (n:="e") TX Gi rfl (by rfl') (by rfl') (by rfl') (by rfl')
def rA(p:Addr)(d:D):Rho:=[(".0",.no),("_law_name",.sh d),("_law_case",.sh (.obj p))]
theorem Ux{C:Addr}(TX:Text w K mg T)(Y:CaseTxt K mg C)(base:Heap):∃a g ps,mg "_law_all_of"=some (.ref a)/\W.keepIn K (.ref a)=true/\Binds K g ps []/\FnOk P w K mg base (CX1 P w) 40 a g ps (spR K C 0 aF):=by
 have FA:=TX.fns "_law_all_of" (aZ (top 56)) Uw;obtain⟨nm,t,a,g,m1,m2,m3,m4,m5⟩:=FA.ex;have GN:=jd (Vj (P:=P) TX Y) (show 1<=36 by omega);have GT:=jd (Vi (P:=P) TX Y) (show 35<=36 by omega);refine⟨a,g,(aZ (top 56)).ps,m1,m2.kp,m3,(Ci (k:=36) (F:=60) (fd:=aZ (top 56)) (U1:=rA) TX m2 (m4.symm.trans (show(aZ (top 56)).body=_ from rfl)) m5 FA.fs rfl (by rfl') (TX.blt "dict" "dict" (by rfl')).1 (by rfl') Y.t.cl GN GT (λp=>by rfl') (λp d=>by rfl') (λp d=>by rfl') (λp d=>by rfl')).mono (by omega)⟩
theorem finN{l:PySem.W.OpenLaw}{h:Heap}{fa C fI:Addr}{fdI:FuncData}(TX:Text w K mg T)(Y:CaseTxt K mg C)(MK:Mk K C fI)(FI:Fun K "__init__" "Case.__init__" Jf fI fdI)(X:K.In h)(G:h.Ns mainGlobals mg)(hfa:mg "law"=some (.ref fa))(f c fD cD Pl Pt:Addr)(nP:Pl≠Pt)(dc pm dcD pmD:Value)(a:PySem.W.nsIn K mainGlobals "law"=some (some (.ref f)))
  (lk:K.lookup f=some ⟨.type "function",none,.func (PySem.W.fnOf "law" "law" (bQ (top 57)) (aM (top 57)) (ao (top 57)) .none .none dc pm none (.ref c) .none),#[]⟩) (cd:PySem.W.codeIn K (.ref c) "law"=true)
  (aD:PySem.W.nsIn K mainGlobals "_law_did"=some (some (.ref fD))) (lkD:K.lookup fD=some ⟨.type "function",none,.func (PySem.W.fnOf "_law_did" "_law_did" (bQ (top 55)) (aM (top 55)) (ao (top 55)) .none .none dcD pmD none (.ref cD) .none),#[]⟩) (cdD:PySem.W.codeIn K (.ref cD) "_law_did"=true) (kD:PySem.W.keepIn K (.ref fD)=true) :
  ∃fd:FuncData,(∀(s:Shared)(v:Value),BindsTo s fd ⟨[v],[]⟩ [("_law_script",v)])/\∀base:Heap,K.In base->base.Ns mainGlobals mg->(∀q∈[(c,Pl),(cD,Pt)],PySem.W.CodeHd base q.1 q.2/\base.BuiltinsAt mg q.2)->FnOk l.prog w K mg base CX0 41 fa fd ["_law_script"] (uH K ([(c,Pl),(cD,Pt)].map (·.2))):=by
 have e:=hfa.symm.trans (M4z X G a);cases e;refine⟨_,λs v=>.of_eq (b57 .none dc pm none (.ref c) .none [v] rfl),λbase _ _ hq=>?_⟩;obtain⟨hC,hbm⟩:=hq (c,Pl) (by simp);obtain⟨hCD,hbD⟩:=hq (cD,Pt) (by simp);have DD:=Qw (P:=l.prog) (k:=36) (F:=60) (fd:=aZ (top 55)) (t:=top 55) (L:=LP) (ms:=ms) (base:=base) (Pt:=Pt) (qn:="_law_did.<locals>.<lambda>") TX lkD cdD rfl rfl (KD (by decide +kernel)) rfl hCD hbD (Gj TX) (xY TX) (HJ TX Y) (λn a=>by rfl');exact Kh (k:=36) (F:=60) (fd:=aZ (top 57)) (t:=top 57) (L:=LW) (LP:=LP) (ms:=ms) (fn:="_law_did") (al:="_law_all_of") (dF:=dF) (aF:=aF) (qn:="law.<locals>.<lambda>") (pt:=(Pt,"_law_did.<locals>.<lambda>")) TX lk cd Lr rfl (KD (by decide +kernel)) rfl hC hbm (λn a=>by rfl') nP (Gj TX) (xY TX) (HJ TX Y) Y.t.cl ⟨by rfl',by rfl'⟩ ⟨fD,_,_,M4z X G aD,kD,(fun_mk lkD cdD kD).binds b55,DD⟩ ⟨by rfl',by rfl'⟩ (Ux TX Y base) ⟨_,jd (Vl TX Y) (by omega)⟩ Y.t.mgC (by rfl') MK (FI.binds λ_ _ _ _ _ _ us hl=>by obtain⟨_,rfl⟩:=len1 hl;rfl) (J2 FI Y.t) (λenv=>by rfl') λns hl X W hW hN GG=>El ns hl X W hN GG
end
end M82
noncomputable section
namespace HS
open PySem PySem.W
theorem goT{p:Program}{w:World}{m:Nat}{a:Option Value}{n:Nat}{x y:Shared}{u:Thread}{c:Code}{o:Pos}{l:List Frame}(h:Fast.tw15667345088766844465 Fast.tw14364793385576792824 p w m a n x u=some (y,⟨Fast.tw11892475500146522536 Fast.tw14364793385576792824 c,c,o,l⟩)):topGo treeTable p w m a n x u=some (y,⟨denote treeTable c,c,o,l⟩):=by
 rw[Fast.te15667345088766844465,B0z,Fast.te11892475500146522536];exact h
theorem V7{p:Program}{w:World}{m:Nat}{a:Option Value}{k n:Nat}{x:Shared}{u:Thread}{y:Option (Flow×Shared×Code×Pos)}(h:Fast.tw14374325043358763698 Fast.tw14364793385576792824 p w m a k n x u=y):segRun treeTable p w m a k n x u=y:=by
 rw[Fast.te14374325043358763698,B0z];exact h
theorem wB{p:Program}{w:World}{m:Nat}{a:Option Value}{k n:Nat}{x:SharedT}{u:Thread}{y:Option (Flow×SharedT×Code×Pos)}(h:Fast.tw10110043849684766642 Fast.tw14364793385576792824 p w m a k n x u=y):segRunT treeTable p w m a k n x u=y:=by
 rw[Fast.te10110043849684766642,B0z];exact h
theorem Vz{p:Program}{w:World}{m:Nat}{a:Option Value}{n:Nat}{x:Shared}{u:Thread}{y:Option Shared}(h:Fast.tw14082659384304107361 Fast.tw14364793385576792824 p w m a n x u=y):topRun treeTable p w m a n x u=y:=by
 rw[Fast.te14082659384304107361,B0z];exact h
theorem Ss{p:Program}{w:World}{m:Nat}{a:Option Value}{n:Nat}{x:Shared}{b l:List Stmt}{E:Env}{c:Code}{o:Pos}{B:List Frame}{y:Option Shared}(e:b=l)(h:topRun treeTable p w m a n x (restOf l E c o B)=y):topRun treeTable p w m a n x (restOf b E c o B)=y:=by
 rw[e];exact h
end HS
namespace H82
open PySem PySem.W HS
noncomputable abbrev p:Program:=PySem.Challenge.pw_minortables_k82_whole_cases_back
abbrev q:Program:=W.view p [0,2,3,4,5,6,7,8,9,10,12,13,14,15,16,17,18,19,20,21,23,24,25,26,27,28,29,30,31,32,33,34,36,37,39,40,41,42,43,44,46,47,48,49,50,51,52,53,54,55,56,57]
abbrev N:Nat:=7636
abbrev lo:List Str:=[]
abbrev z:Value:=.none
noncomputable abbrev r(a:Nat):Value:=.ref a
noncomputable abbrev i(a:Int)(n:Nat):Value:=.int a n
abbrev s(x:Str)(n:Nat):Value:=.str x n
abbrev t(x:String):Value:=.type x
abbrev b(x:String):Value:=.builtin x
abbrev e(P:Params)(x:Str)(n:Nat)(v:Value):DictEntry:=⟨PyData.keyHash P x,.str x n,v⟩
def d(j:Nat):Stmt:=p.main.body.getD j (.Pass ⟨0,0,0,0⟩)
def m(j k:Nat):Stmt:=match d j with | .ClassDef _ _ _ l .. =>l.getD k (.Pass ⟨0,0,0,0⟩) | x=>x
def f(x:Stmt)(qn:Str)(g:Nat)(dV kV dc pm cd ct:Value):FuncData:=match x with | .FunctionDef n a l _ _ _ sc .. =>⟨n,qn,a,.stmts l,sc,g,[],dV,kV,dc,pm,none,cd,ct,0⟩ | _=>default
def y:Obj:=⟨.type "tuple",none,.seq #[] 0,#[]⟩
noncomputable def x:Obj:=⟨.none,none,.fields #[],#[]⟩
noncomputable def tnV:List Str->Nat->List Value | [],_=>[] | a::l,k=>.str a k::tnV l (k+1)
def tn(l:List Str)(k:Nat):Obj:=⟨.type "tuple",none,.seq (tnV l k).toArray 0,#[]⟩
def g(a:Stmt)(n:Str):Obj:=⟨.none,none,.func (f a n 0 z z z z z z),#[]⟩
def u(a:Stmt)(n:Str)(pm:Value)(c:Nat):Obj:=⟨.type "function",none,.func (f a n 3 z z z pm (r c) z),#[]⟩
def c(n:Str)(k:Nat)(l a fl:Int)(q:Nat)(bb:Bool)(h:Int)(q':Nat)(v w v':Value)(k':Nat):Obj:=⟨.type "code",none,.fields #[s n k,s n (k+1),s "/claim/cut.py" (k+2),i l 0,i a 0,i 0 0,i 0 0,i fl 0,r q,.bool bb,i h 0,r q',z,v,w,v',i k' 0,i l 0,s "/claim/cut.py" (k'+1)],#[]⟩
def c2(n m:Str)(k:Nat)(l a fl:Int)(q:Nat)(bb:Bool)(h:Int)(q':Nat)(v w v':Value)(k':Nat):Obj:=⟨.type "code",none,.fields #[s n k,s m (k+1),s "/claim/cut.py" (k+2),i l 0,i a 0,i 0 0,i 0 0,i fl 0,r q,.bool bb,i h 0,r q',z,v,w,v',i k' 0,i l 0,s "/claim/cut.py" (k'+1)],#[]⟩
def I(t:BT):Nat->List Obj->BT | _,[]=>t | n,o::l=>I (t.ins n o) (n+1) l
set_option genInjectivity false in
structure Pl where
 (j b k:Nat) (ns ws:List Str)
def Pl.v(p:Pl):Bool:=p.ns.isEmpty
def Pl.c(p:Pl):Nat:=p.b+if p.v then 3 else 5
def Pl.e(p:Pl):Nat:=p.k+3+p.ns.length+p.ws.length
def pls:Nat->Nat->Nat->List (List Str×List Str)->List Pl
 | _,_,_,[]=>[]
 | j,b,k,(ns,ws)::l=>⟨j,b,k,ns,ws⟩::pls (j+1) (Pl.c ⟨j,b,k,ns,ws⟩+2) (Pl.e ⟨j,b,k,ns,ws⟩+3) l
def nmS:Stmt->Str×Nat×Nat | .FunctionDef n a _ _ _ _ _ _ _ o=>(n,a.args.length,o.line) | _=>("",0,0)
def fo(st:Nat->Stmt)(q:Str)(mt:Value)(p:Pl):List Obj :=
 let G:=st p.j;let h:=nmS G;let n:=q++h.1
 [y,x]++(if p.v then[] else[tn p.ns (p.k+3),tn p.ws (p.k+3+p.ns.length)])++[g G n,c2 h.1 n p.k h.2.2 h.2.1 3 p.b true 181 (p.b+1) (if p.v then z else r (p.b+2)) (if p.v then z else r (p.b+3)) (r (p.c-1)) p.e,u G n mt p.c]
def fe(P:Params)(st:Nat->Stmt)(p:Pl):DictEntry:=e P (nmS (st p.j)).1 (p.e+2) (r (p.c+1))
def fw(st:Nat->Stmt)(p:Pl):List Value:=[i (nmS (st p.j)).2.2 0,i 0 0,r p.c]
def fa(p:Pl):List Nat:=p.b::(if p.v then[] else[p.b+2,p.b+3])++[p.c,p.c+1]
def xn:List Str:=["NoTable","NoFit","NoPlace","NoStep","NoSteps","NoText","NoName","NoBack"]
def R0:List Pl:=pls 0 15 187 [(["k"],[])]
def R1:List Pl:=pls 13 131 346 [(["thing"],[]),(["thing","least","most"],[]),(["thing"],[]),([],[]),(["table","told","row"],[]),([],[]),(["thing"],[]),(["one","other"],[]),(["thing","most"],[])]
def R2:List Pl:=pls 24 190 417 [([],[]),([],[]),([],[]),([],[]),(["table"],[]),([],[]),([],[]),([],[]),([],[]),([],[]),([],[])]
def R3:List Pl:=pls 36 247 486 [(["one","other"],[]),(["one","other"],[])]
def R4:List Pl:=pls 41 261 508 [([],[]),(["thing"],[]),(["word","one","other"],[])]
def R5:List Pl:=pls 0 287 542 [(["self"],[]),(["self","name","table"],[]),(["self","word","name","table"],[]),(["self","name","table","had"],[]),(["self","name"],[]),(["self","name","table"],[]),(["self","name","word","one","other","table"],[]),(["self","name","table"],[]),(["self","name","table"],[]),(["self"],[]),(["self","some","others","place","step"],[]),(["self"],[]),(["self"],[]),(["self"],[]),(["self"],[])]
def R6:List Pl:=pls 46 399 684 [(["_law_script","_law_k"],[]),(["_law_script","_law_k","_law_many","_law_drawn"],[]),([],[]),(["_law_one","_law_other","_law_made_here","_law_row","_law_line","_law_column","_law_total","_law_k"],[]),(["_law_kept","_law_kinds","_law_some"],[]),(["_law_deed_here","e"],[]),(["_law_script","_law_at","_law_names","_law_name","_law_way","_law_rows","_law_columns","_law_word"],[]),([],[]),([],[]),(["_law_case","_law_deed_here"],["_law_case","_law_deed_here"]),([],[]),(["_law_script","_law_rows","_law_words","_law_at","_law_k","_law_way","_law_deed_here","_law_known","_law_due"],["_law_case"])]
def bm(n:String)(v:Value):Obj:=⟨t "builtin_function_or_method",none,.fields #[b n,v],#[]⟩
def su(a:Nat):Obj:=⟨t "super",none,.fields #[r a,r a,r a],#[]⟩
def es(P:Params):List DictEntry:=[e P "__doc__" 166 z,e P "__package__" 167 z,e P "__loader__" 168 (b "__main__.__loader__#opaque"),e P "__spec__" 169 z,e P "__annotations__" 170 (r 6),e P "__builtins__" 171 (r 4),e P "__file__" 173 (s "/claim/cut.py" 172),e P "__cached__" 174 z]++R0.map (fe P d)++[e P "MinorError" 213 (r 31)]++(xn.zipIdx.map λq=>e P q.1 (229+16*q.2) (r (44+12*q.2)))++[e P "MOST_LINES" 345 (i 4 344)]++R1.map (fe P d)++[e P "MOST_NUMBER" 416 (i 99 415)]++R2.map (fe P d)++R3.map (fe P d)++[e P "LETTERS" 505 (s "abcdefghijklmnopqrstuvwxyz" 504),e P "MOST_LETTERS" 507 (i 4 506)]++R4.map (fe P d)++[e P "Case" 681 (r 394)]++R6.map (fe P d)
def og(k n:Nat)(v:Value)(P:Params):Obj:=⟨.type "dict",none,.dict ((e P "__name__" 165 v::es P).take k).toArray n,#[]⟩
def fv:List Value:=R0.flatMap (fw d)++[(i 5 0),(i 0 0),(r 27)]++((List.range 8).flatMap λ(q:Nat)=>[i (7+2*q:Nat) 0,i 0 0,r (40+12*q)])++R1.flatMap (fw d)++R2.flatMap (fw d)++R3.flatMap (fw d)++R4.flatMap (fw d)++[(i 115 0),(i 0 0),(r 285)]++R6.flatMap (fw d)
def o12(n:Nat):Obj:=⟨z,none,.fields (fv.take n).toArray,#[]⟩
def o31(n:Nat):Obj:=⟨(t "type"),none,(.cls ⟨"MinorError",[(t "ValueError")],[(r 31),(t "ValueError"),(t "Exception"),(t "BaseException"),(t "object")],30,"MinorError",true,[],((List.range n).map λ(q:Nat)=>r (44+12*q)),false,none,false⟩),#[some (r 22),none,some (s "MinorError" 196),some (s "MinorError" 204),some (b "ValueError.__new__"),some (.bool true)]⟩
def xb(P:Params)(q:Str×Nat):List Obj :=
 let n:=q.1;let a:=35+12*q.2;let k:=214+16*q.2;let l:Int:=(7+2*q.2:Nat);let mo:=s "minortables.errors" 194
 [⟨t "tuple",none,.seq #[r 31] 0,#[]⟩,bm "type.__prepare__" (t "type"),⟨t "dict",none,.dict #[e P "__module__" (k+7) mo,e P "__qualname__" (k+9) (s n (k+8)),e P "__firstlineno__" (k+11) (i l (k+10)),e P "__static_attributes__" (k+12) (r (a+7))] 4,#[]⟩,y,x,
  c n (k+2) l 0 0 (a+3) false 181 (a+4) z z z (k+5),⟨t "frame",none,.plain,#[some (r (a+5)),some (r 3),some (r (a+2)),none,some mo,none,some (r 0)]⟩,y,⟨t "dict",none,.dict #[e P "__module__" (k+7) mo,e P "__firstlineno__" (k+11) (i l (k+10)),e P "__static_attributes__" (k+12) (r (a+7)),e P "__doc__" (k+13) z] 2,#[]⟩,
  ⟨t "type",none,.cls ⟨n,[r 31],[r (a+9),r 31,t "ValueError",t "Exception",t "BaseException",t "object"],a+8,n,true,[],[],false,none,false⟩,#[some (r a),none,some (s n k),some (s n (k+8)),some (b "ValueError.__new__"),some (.bool true)]⟩,su (a+9),bm "object.__init_subclass__" (r (a+9))]
def ini(P:Params):List Obj:=[boot_o_0 P,boot_o_1 P,boot_o_2 P,boot_o_3 P,boot_o_4 P,boot_o_5 P,boot_o_6 P,boot_o_7 P,boot_o_8 P,boot_o_9 P,boot_o_10 P,y,o12 0,c "<module>" 182 1 0 0 11 false 181 12 z z z 185,⟨(t "frame"),none,.plain,#[some (r 13),some (r 3),some (r 3),none,some (s "__main__" 164),none,some (r 0)]⟩]++R0.flatMap (fo d "" (s "__main__" 164))++[⟨(t "tuple"),none,(.seq #[(t "ValueError")] 0),#[]⟩,bm "type.__prepare__" (t "type"),⟨(t "dict"),none,(.dict #[e P "__module__" 203 (s "minortables.errors" 194),e P "__qualname__" 205 (s "MinorError" 204),e P "__firstlineno__" 207 (i 5 206),e P "__static_attributes__" 208 (r 29)] 4),#[]⟩,y,x,c "MinorError" 198 5 0 0 25 false 181 26 z z z 201,⟨(t "frame"),none,.plain,#[some (r 27),some (r 3),some (r 24),none,some (s "minortables.errors" 194),none,some (r 0)]⟩,y,⟨(t "dict"),none,(.dict #[e P "__module__" 203 (s "minortables.errors" 194),e P "__firstlineno__" 207 (i 5 206),e P "__static_attributes__" 208 (r 29),e P "__weakref__" 210 (r 32),e P "__doc__" 211 z] 3),#[]⟩,o31 0,⟨(t "getset_descriptor"),none,(.fields #[(s "__weakref__" 209),(r 31),(b "ExceptionGroup.__weakref__"),z]),#[]⟩,su 31,bm "object.__init_subclass__" (r 31)]++xn.zipIdx.flatMap (xb P)++R1.flatMap (fo d "" (s "minortables.checks" 342))++R2.flatMap (fo d "" (s "minortables.tables" 413))++R3.flatMap (fo d "" (s "minortables.joining" 484))++R4.flatMap (fo d "" (s "minortables.cases" 502))++[y,bm "type.__prepare__" (t "type"),⟨(t "dict"),none,(.dict ([e P "__module__" 537 (s "minortables.cases" 502),e P "__qualname__" 539 (s "Case" 538),e P "__firstlineno__" 541 (i 115 540)]++R5.map (fe P (m 44))++[e P "__static_attributes__" 674 (r 392)]).toArray 19),#[]⟩,y,⟨z,none,(.fields #[(i 117 0),(i 4 0),(r 292),(i 122 0),(i 4 0),(r 299),(i 128 0),(i 4 0),(r 306),(i 133 0),(i 4 0),(r 313),(i 141 0),(i 4 0),(r 320),(i 147 0),(i 4 0),(r 327),(i 152 0),(i 4 0),(r 334),(i 160 0),(i 4 0),(r 341),(i 165 0),(i 4 0),(r 348),(i 170 0),(i 4 0),(r 355),(i 173 0),(i 4 0),(r 362),(i 181 0),(i 4 0),(r 369),(i 184 0),(i 4 0),(r 376),(i 187 0),(i 4 0),(r 383),(i 190 0),(i 4 0),(r 390)]),#[]⟩,c "Case" 532 115 0 0 283 false 181 284 z z z 535,⟨(t "frame"),none,.plain,#[some (r 285),some (r 3),some (r 282),none,some (s "minortables.cases" 502),none,some (r 0)]⟩]++R5.flatMap (fo (m 44) "Case." (s "minortables.cases" 502))++[tn ["done","tables","undone"] 671,⟨(t "dict"),none,(.dict ([e P "__module__" 537 (s "minortables.cases" 502),e P "__firstlineno__" 541 (i 115 540)]++R5.map (fe P (m 44))++[e P "__static_attributes__" 674 (r 392),e P "__dict__" 676 (r 395),e P "__weakref__" 678 (r 396),e P "__doc__" 679 z]).toArray 4),#[]⟩,⟨(t "type"),none,(.cls ⟨"Case",[(t "object")],[(r 394),(t "object")],393,"Case",true,[],[],false,none,false⟩),#[none,none,some (s "Case" 530),some (s "Case" 538),some (b "object.__new__"),some (.bool true)]⟩,⟨(t "getset_descriptor"),none,(.fields #[(s "__dict__" 675),(r 394),(b "function.__dict__"),(b "function.__dict__#set")]),#[]⟩,⟨(t "getset_descriptor"),none,(.fields #[(s "__weakref__" 677),(r 394),(b "ExceptionGroup.__weakref__"),z]),#[]⟩,su 394,bm "object.__init_subclass__" (r 394)]++R6.flatMap (fo d "" (s "law_minortables_k82_whole_cases_back" 682))
def Tx(t:BT)(P:Params)(n m:Nat):BT:=I t n (((ini P).drop n).take m)
def Ha(P:Params):Heap:=⟨⟨(ini P).take 15⟩,{}⟩
def T0(P:Params):BT:=I .nil 0 ((ini P).take 15)
def T1(P:Params):BT:=Tx (T0 P) P 15 20 |>.set 3 (λ_=>og 11 11 (s "minortables.errors" 194) P) |>.set 12 (λ_=>o12 6)
def T2(P:Params):BT:=Tx (T1 P) P 35 12 |>.set 3 (λ_=>og 12 12 (s "minortables.errors" 194) P) |>.set 12 (λ_=>o12 9) |>.set 31 (λ_=>o31 1)
def T3(P:Params):BT:=Tx (T2 P) P 47 12 |>.set 3 (λ_=>og 13 13 (s "minortables.errors" 194) P) |>.set 12 (λ_=>o12 12) |>.set 31 (λ_=>o31 2)
def T4(P:Params):BT:=Tx (T3 P) P 59 12 |>.set 3 (λ_=>og 14 14 (s "minortables.errors" 194) P) |>.set 12 (λ_=>o12 15) |>.set 31 (λ_=>o31 3)
def T5(P:Params):BT:=Tx (T4 P) P 71 12 |>.set 3 (λ_=>og 15 15 (s "minortables.errors" 194) P) |>.set 12 (λ_=>o12 18) |>.set 31 (λ_=>o31 4)
def T6(P:Params):BT:=Tx (T5 P) P 83 12 |>.set 3 (λ_=>og 16 16 (s "minortables.errors" 194) P) |>.set 12 (λ_=>o12 21) |>.set 31 (λ_=>o31 5)
def T7(P:Params):BT:=Tx (T6 P) P 95 12 |>.set 3 (λ_=>og 17 17 (s "minortables.errors" 194) P) |>.set 12 (λ_=>o12 24) |>.set 31 (λ_=>o31 6)
def T8(P:Params):BT:=Tx (T7 P) P 107 12 |>.set 3 (λ_=>og 18 18 (s "minortables.errors" 194) P) |>.set 12 (λ_=>o12 27) |>.set 31 (λ_=>o31 7)
def T9(P:Params):BT:=Tx (T8 P) P 119 45 |>.set 3 (λ_=>og 25 25 (s "minortables.checks" 342) P) |>.set 12 (λ_=>o12 45) |>.set 31 (λ_=>o31 8)
def T10(P:Params):BT:=Tx (T9 P) P 164 78 |>.set 3 (λ_=>og 40 40 (s "minortables.tables" 413) P) |>.set 12 (λ_=>o12 87)
def T11(P:Params):BT:=Tx (T10 P) P 242 38 |>.set 3 (λ_=>og 48 48 (s "minortables.cases" 502) P) |>.set 12 (λ_=>o12 105)
def T12(P:Params):BT:=Tx (T11 P) P 280 119 |>.set 3 (λ_=>og 49 49 (s "minortables.cases" 502) P) |>.set 12 (λ_=>o12 108)
def T13(P:Params):BT:=Tx (T12 P) P 399 76 |>.set 3 (λ_=>og 61 61 (s "law_minortables_k82_whole_cases_back" 682) P) |>.set 12 (λ_=>o12 144)
def H1(P:Params):Heap:=⟨⟨(((ini P).set 3 (og 61 61 (s "law_minortables_k82_whole_cases_back" 682) P)).set 12 (o12 144)).set 31 (o31 8)⟩,{}⟩
def Sx(T:Params->BT)(n k:Nat)(w:World)(os:OsState):SharedT:=⟨T w.params,n,{},⟨[]⟩,{},k,os⟩
abbrev S0:=Sx T0 15 187
abbrev S1:=Sx T1 35 214
abbrev S2:=Sx T2 47 230
abbrev S3:=Sx T3 59 246
abbrev S4:=Sx T4 71 262
abbrev S5:=Sx T5 83 278
abbrev S6:=Sx T6 95 294
abbrev S7:=Sx T7 107 310
abbrev S8:=Sx T8 119 326
abbrev S9:=Sx T9 164 384
abbrev S10:=Sx T10 242 478
abbrev S11:=Sx T11 280 530
abbrev S12:=Sx T12 399 682
abbrev S13:=Sx T13 475 797
def S(w:World)(os:OsState):Shared:=⟨H1 w.params,⟨[]⟩,{},797,os⟩
def E:Env:={scope:=p.main.scope,locals:=mainNs,globals:=mainNs,cells:=[],code:=(r 13),frame:=some 14}
abbrev C:Code:=.body (behindTheImports p) E
abbrev B:List Frame:=[topFrame ⟨0,0,0,0⟩]
def lx(a b:Nat):List Stmt:=((behindTheImports p).drop a).take b
abbrev l1:=lx 0 3
abbrev l2:=lx 3 1
abbrev l3:=lx 4 1
abbrev l4:=lx 5 1
abbrev l5:=lx 6 1
abbrev l6:=lx 7 1
abbrev l7:=lx 8 1
abbrev l8:=lx 9 1
abbrev l9:=lx 10 8
abbrev l10:=lx 18 16
abbrev l11:=lx 34 10
abbrev l12:=lx 44 1
abbrev l13:=lx 45 13
theorem pre(w:World)(os:OsState):topGo treeTable p w 11 (some (r 6)) 12 ⟨boot_heap w.params,Array.mk [],boot_drawn,boot_toks,os⟩ (topStub p)=some (⟨Ha w.params,⟨[]⟩,{},187,os⟩,⟨denote treeTable C,C,⟨0,0,0,0⟩,B⟩):=goT (by rfl')
theorem blk(w:World)(os:OsState):segRun treeTable p w 11 (some (r 6)) 1 1 ⟨Ha w.params,⟨[]⟩,{},187,os⟩ (blockOf (behindTheImports p) E C ⟨0,0,0,0⟩ B)=some (.next,(S0 w os).abs,C,⟨0,0,0,0⟩):=V7 (by rfl')
abbrev Px(w:World)(os:OsState)(n:Nat)(A B':World->OsState->SharedT)(l:List Stmt)(o o':Pos):Prop:=segRun treeTable p w 11 (some (r 6)) 1 n (A w os).abs (piecesOf l E C o B)=some (.next,(B' w os).abs,C,o')
theorem p1(w:World)(os:OsState):Px w os 225 S0 S1 l1 ⟨0,0,0,0⟩ ⟨5,0,6,8⟩:=K5z (wB (by rfl'))
theorem p2(w:World)(os:OsState):Px w os 214 S1 S2 l2 ⟨5,0,6,8⟩ ⟨7,0,8,8⟩:=K5z (wB (by rfl'))
theorem p3(w:World)(os:OsState):Px w os 214 S2 S3 l3 ⟨7,0,8,8⟩ ⟨9,0,10,8⟩:=K5z (wB (by rfl'))
theorem p4(w:World)(os:OsState):Px w os 214 S3 S4 l4 ⟨9,0,10,8⟩ ⟨11,0,12,8⟩:=K5z (wB (by rfl'))
theorem p5(w:World)(os:OsState):Px w os 214 S4 S5 l5 ⟨11,0,12,8⟩ ⟨13,0,14,8⟩:=K5z (wB (by rfl'))
theorem p6(w:World)(os:OsState):Px w os 214 S5 S6 l6 ⟨13,0,14,8⟩ ⟨15,0,16,8⟩:=K5z (wB (by rfl'))
theorem p7(w:World)(os:OsState):Px w os 214 S6 S7 l7 ⟨15,0,16,8⟩ ⟨17,0,18,8⟩:=K5z (wB (by rfl'))
theorem p8(w:World)(os:OsState):Px w os 214 S7 S8 l8 ⟨17,0,18,8⟩ ⟨19,0,20,8⟩:=K5z (wB (by rfl'))
theorem p9(w:World)(os:OsState):Px w os 378 S8 S9 l9 ⟨19,0,20,8⟩ ⟨35,0,39,15⟩:=K5z (wB (by rfl'))
theorem p10(w:World)(os:OsState):Px w os 397 S9 S10 l10 ⟨35,0,39,15⟩ ⟨78,0,79,69⟩:=K5z (wB (by rfl'))
theorem p11(w:World)(os:OsState):Px w os 209 S10 S11 l11 ⟨78,0,79,69⟩ ⟨105,0,114,37⟩:=K5z (wB (by rfl'))
theorem p12(w:World)(os:OsState):Px w os 682 S11 S12 l12 ⟨105,0,114,37⟩ ⟨115,0,191,16⟩:=K5z (wB (by rfl'))
theorem p13(w:World)(os:OsState):Px w os 379 S12 S13 l13 ⟨115,0,191,16⟩ ⟨284,0,307,15⟩:=K5z (wB (by rfl'))
theorem fin(w:World)(os:OsState):topRun treeTable p w 11 (some (r 6)) 2 (S13 w os).abs ⟨doneF .next,C,⟨284,0,307,15⟩,B⟩=some (S w os):=Vz (by rfl')
abbrev M:Nat:=(12+(1+(225+(214+(214+(214+(214+(214+(214+(214+(378+(397+(209+(682+(379+2)))))))))))))))
theorem lst:behindTheImports p=(l1++(l2++(l3++(l4++(l5++(l6++(l7++(l8++(l9++(l10++(l11++(l12++(l13++[]))))))))))))):=by rfl'
theorem r0(w:World)(os:OsState):topRun treeTable p w 11 (some (r 6)) (225+(214+(214+(214+(214+(214+(214+(214+(378+(397+(209+(682+(379+2))))))))))))) (S0 w os).abs (restOf (l1++(l2++(l3++(l4++(l5++(l6++(l7++(l8++(l9++(l10++(l11++(l12++(l13++[]))))))))))))) E C ⟨0,0,0,0⟩ B)=some (S w os):=L5z (p1 w os) (L5z (p2 w os) (L5z (p3 w os) (L5z (p4 w os) (L5z (p5 w os) (L5z (p6 w os) (L5z (p7 w os) (L5z (p8 w os) (L5z (p9 w os) (L5z (p10 w os) (L5z (p11 w os) (L5z (p12 w os) (L5z (p13 w os) (fin w os)))))))))))))
theorem run(w:World)(os:OsState):topRun treeTable p w 11 (some (r 6)) M ⟨boot_heap w.params,Array.mk [],boot_drawn,boot_toks,os⟩ (topStub p)=some (S w os):=go_top (pre w os) (piece_block (blk w os) (Ss lst (r0 w os)))
def ka:List Addr:=[2,3]++R0.flatMap fa++[22,29,30,31,32]++((List.range 8).flatMap λ(q:Nat)=>[35+12*q,42+12*q,43+12*q,44+12*q])++R1.flatMap fa++R2.flatMap fa++R3.flatMap fa++R4.flatMap fa++R5.flatMap fa++[392,393,394,395,396]++R6.flatMap fa
def K(P:Params):Frag:=ka.map λa=>(a,(H1 P).objs.toList.getD a x)
def KT(P:Params):Frag:=K P++[(469,x),(457,x)]
abbrev as:List Addr:=ka++[469,457]
abbrev m0:Nat:=11
abbrev tk:Nat:=797
abbrev ann:Option Value:=(some (r 6))
def Xt(s:Shared):Bool:=xlAt q [] s&&recOk PySem.Challenge.rw_minortables_k82_whole_cases_back.row.toRowW.records s
theorem lk0(w:World)(os:OsState):(staticsOk (importedModules p.main.body) (boot_heap w.params) (H1 w.params)&&namesBound p (H1 w.params)&&gensDone (S w os)&&laidKept (boot_heap w.params) (H1 w.params))=true:=by
 rw[Fast.te5923862056798008813];rfl'
theorem lk1(w:World)(os:OsState):PyProof.Rows.seen ((PyProof.Rows.recsOf q).map (·.name)) (PyProof.Rows.ownsOf q) [] {S w os with gens := #[]}=PyProof.Rows.expectedOf q:=by
 rw[Fast.te5160383126252970620,Fast.te3399658132070893891,Fast.te5991557255702980513];rfl'
theorem lk2(w:World)(os:OsState):(S w os).heap.bltView=bltViewBooted:=by rfl'
theorem lk3(w:World)(os:OsState):((S w os).heap.keysOk (looseW q lo) ((PyProof.Rows.recsOf q).map (·.name)) ((PyProof.Rows.litsOf q).map (·.1)) ((PyProof.Rows.clssOf q (looseW q lo)).map (·.name))&&(S w os).heap.accountedOkI (importedModules p.main.body)&&(S w os).heap.isNs mainGlobals&&(S w os).heap.isNs builtinsNs&&PyProof.Rows.tablesOk q (S w os).heap&&Xt (S w os)&&(if true then(S w os).gens.size==0 else !leftWithCleanup (S w os).gens))=true:=by
 rw[Fast.te10880121769531294198,Fast.te821141287760084731,Fast.te3399658132070893891,Fast.te7409074990110511671,Fast.te13664370479719496447,Fast.te14722251495701143533,Fast.te5923862056798008813];rfl'
theorem lk4(w:World)(os:OsState):PyProof.Rows.tabsOk q (S w os)=true:=by rw[Fast.te479339242167458305];rfl'
theorem lk5(w:World)(os:OsState):pinSeenD q (PyProof.Rows.drecsOf q) (S w os)=pinGoodD (PyProof.Rows.drecsOf q):=by rw[Fast.te16090120013241838585,Fast.te3247288618530077131];rfl'
theorem lk6(w:World)(os:OsState):PyProof.Rows.plainSeenE q (looseW q lo) (S w os)=PyProof.Rows.plainGoodE q (looseW q lo):=by rw[Fast.te2386780881361962483,Fast.te821141287760084731];rfl'
theorem lk7(w:World)(os:OsState):PyProof.Rows.plainSeenD q lo (S w os)=PyProof.Rows.plainGoodD q lo:=by rw[Fast.te11698064438423848299];rfl'
theorem lk8(w:World)(os:OsState):wideSeen q (S w os)=wideGood q:=by rw[Fast.te7317090234206586261];rfl'
theorem lk9(w:World)(os:OsState):clsSeenW q lo (S w os)=clsGoodW q lo:=by rw[Fast.te7369524293546568484];rfl'
theorem asK(P:Params):as=(KT P).map (·.1):=by rfl'
abbrev H:Hook:=kHook KT as asK
theorem lkY(w:World)(os:OsState):H.obs (S w os)=H.val w:=by rfl'
theorem looks(w:World):(λos=>((staticsOk (importedModules p.main.body) (boot_heap w.params) (H1 w.params)&&namesBound p (H1 w.params)&&gensDone (S w os)&&laidKept (boot_heap w.params) (H1 w.params)),openSeen q lo (importedModules p.main.body) Xt true (S w os),H.obs (S w os)))=λ_=>(true,openGood q lo,H.val w) :=
 funext λos=>J5z (lk0 w os) (J5z (J5z (lk1 w os) (J5z (lk2 w os) (J5z (lk3 w os) (J5z (lk4 w os) (J5z (lk5 w os) (J5z (lk6 w os) (J5z (lk7 w os) (J5z (lk8 w os) (lk9 w os))))))))) (lkY w os))
theorem size(w:World):((boot_heap w.params).isNs mainGlobals&&(Array.mk ([]:List GenState)).size==0,(boot_heap w.params).objs.size,(boot_heap w.params).nsMap mainGlobals "__annotations__")=(true,m0,ann):=by
 rw[Fast.te8920871248978507458];rfl'
theorem bt(w:World):(fencedOpening treeTable p w N).map (λs=>(s.heap,s.gens,s.drawn,s.toks))=some (boot_heap w.params,Array.mk [],boot_drawn,boot_toks) :=
 boot_open (p:=p) (N:=N) (by rfl') (by rfl') (λ_=>rfl) w
theorem left:LeftO p q lo Xt H.obs H.val N :=
 LeftO.of_pieces (H₀:=boot_heap) (H₁:=H1) (m₀:=m0) (ann:=ann) (M:=M) (gs₀:=Array.mk []) (gs₁:=⟨[]⟩) (d₀:=boot_drawn) (d₁:={}) (k₀:=boot_toks) (k₁:=tk) bt size run (by rfl') looks
abbrev R:OpenLaw:=PySem.Challenge.rw_minortables_k82_whole_cases_back
theorem said:R.wellSaid=true:=by rw[Fast.te9446332074065402090];rfl'
def dr:DefRec:=match d 57 with | .FunctionDef n a l _ _ _ sc _ _ o=>⟨n,a,l,sc,o⟩ | _=>⟨"",default,[],default,⟨0,0,0,0⟩⟩
theorem hdef:defOf q R.row.name=some (dr,[]):=by rfl'
theorem hthe:R.row.prog.theDef R.row.name=some (dr.params,dr.body,dr.scope):=by rfl'
theorem hkw:kwWritten? dr.params.kwonlyargs dr.params.kw_defaults=some []:=by rfl'
theorem hok:(chainsOk q&&opensWell R.row.prog&&(frees R.row.toRowW&&R.row.within.isEmpty))=true:=by rfl'
theorem hbare:R.row.prog.bare:=⟨rfl,rfl,rfl,rfl,rfl,by rfl'⟩
theorem WQ:R.row.toRowW.promised:=⟨[.list []],by rfl',by rfl'⟩
theorem holds(call:WalkO q lo (XL q []) H.says R.row.toRowW dr [] λf vs=>PySem.call f vs):R.Holds :=
 holds_law said λk1=>holds_open (r:=R.row) (q:=q) (loose:=lo) (Xt:=Xt) (XP:=XL q []) (Yf:=H.obs) (Ya:=H.val) (YP:=H.says) (N:=N) left H.of H.keeps (λs e=>xl_of s (Bool.and_eq_true_iff.mp e).1) XL.keeps hdef hthe hkw (λs e=>recFacts_of (Bool.and_eq_true_iff.mp e).2) rfl k1 hok hbare WQ call
end H82
end
namespace M82
open PySem PySem.W L2 DE
set_option maxHeartbeats 0 in
theorem txt(w:World){mg:Str->Option Value}{h:Heap}(X:(H82.K w.params).In h)(G:h.Ns mainGlobals mg):Text w (H82.K w.params) mg T :=
 ⟨in_of (l:=cs) (Q:=λ(x:Str)(d:D)=>∃v u,(∀H',Rep (H82.K w.params) H' d v)/\mg x=some u/\RelV v u) (aC (cA X G 344 (by rfl')) (aC (cA X G 415 (by rfl')) (aC (cS X G 504 (by rfl')) (aC (cA X G 506 (by rfl')) (aN))))),
  in_of (l:=bl) (Q:=λx b=>mg x=none/\x=Str.ofString b) (Lw X G (by rfl')),
  in_of (l:=df) (Q:=λx fd=>FunAt (H82.K w.params) mg x fd) (KC X G (by rfl') (by rfl') (by rfl')),XText.of (λx v h=>M4z X G h) (by rfl'),by show List.map _ _=List.map _ _;rfl'⟩
set_option maxHeartbeats 0 in
theorem cas(w:World){mg:Str->Option Value}{h:Heap}(X:(H82.K w.params).In h)(G:h.Ns mainGlobals mg):CaseTxt (H82.K w.params) mg 394 :=
 ⟨⟨⟨(by rfl'),(by rfl'),(by rfl'),(by rfl')⟩,by show findIn _ _ _=_;rfl',by show findIn _ _ _=_;rfl',by show findIn _ _ _=_;rfl',M4z X G (by rfl')⟩,
  jD 300 (.str "minortables.cases" 502) (.ref 299) (by rfl') (by rfl') (by rfl') (by rfl') (by rfl'),
  jD 307 (.str "minortables.cases" 502) (.ref 306) (by rfl') (by rfl') (by rfl') (by rfl') (by rfl'),
  jD 314 (.str "minortables.cases" 502) (.ref 313) (by rfl') (by rfl') (by rfl') (by rfl') (by rfl'),
  jD 321 (.str "minortables.cases" 502) (.ref 320) (by rfl') (by rfl') (by rfl') (by rfl') (by rfl'),
  jD 328 (.str "minortables.cases" 502) (.ref 327) (by rfl') (by rfl') (by rfl') (by rfl') (by rfl'),
  jD 335 (.str "minortables.cases" 502) (.ref 334) (by rfl') (by rfl') (by rfl') (by rfl') (by rfl'),
  jD 342 (.str "minortables.cases" 502) (.ref 341) (by rfl') (by rfl') (by rfl') (by rfl') (by rfl'),
  jD 349 (.str "minortables.cases" 502) (.ref 348) (by rfl') (by rfl') (by rfl') (by rfl') (by rfl'),
  jD 356 (.str "minortables.cases" 502) (.ref 355) (by rfl') (by rfl') (by rfl') (by rfl') (by rfl'),
  jD 363 (.str "minortables.cases" 502) (.ref 362) (by rfl') (by rfl') (by rfl') (by rfl') (by rfl'),
  jD 370 (.str "minortables.cases" 502) (.ref 369) (by rfl') (by rfl') (by rfl') (by rfl') (by rfl'),
  jD 377 (.str "minortables.cases" 502) (.ref 376) (by rfl') (by rfl') (by rfl') (by rfl') (by rfl'),
  jD 384 (.str "minortables.cases" 502) (.ref 383) (by rfl') (by rfl') (by rfl') (by rfl') (by rfl')⟩
end M82
namespace H82
open PySem PySem.W
theorem noT(P:Params):∀q∈[(473,469),(461,457)],(K P).lookup q.2=none/\W.codeHdIn (K P) q.1 q.2=true:=λq hq=>by
 rcases L4z.mp hq with rfl | hq
 .exact⟨by rfl',by rfl'⟩
 .cases Z1z.mp hq
  exact⟨by rfl',by rfl'⟩
theorem inT{P:Params}{h:Heap}(X:(KT P).In h):(K P).In h/\∀q∈[(473,469),(461,457)],h.get? q.2=some (tabObj #[]):=by
 refine⟨λb o e=>X b o ?_,λq hq=>X q.2 _ ?_⟩
 .unfold KT
  rw[List.lookup_append,e];rfl
 .unfold KT
  rw[List.lookup_append,(noT P q hq).1];rcases L4z.mp hq with rfl | hq
  .rfl
  .cases Z1z.mp hq
   rfl
end H82
open PySem PySem.W PyProof.Rows
set_option maxRecDepth 100000 in
set_option maxHeartbeats 0 in
theorem PySem.Challenge.cw_minortables_k82_whole_cases_back_holds : PySem.Challenge.rw_minortables_k82_whole_cases_back.Holds :=
 H82.holds (L2.walkN (l := PySem.Challenge.rw_minortables_k82_whole_cases_back) (k := 41) (K := H82.K) (x := "_law_script") (cs := [(473, 469), (461, 457)]) rfl (by rfl') ⟨rfl, by decide, by decide⟩ (fun w h Y => H82.inT (W.kIn_of (e := H82.asK) Y)) (fun P => H82.noT P) fun w mg fa h KX G hmg => M82.finN (fI := 293) (M82.txt w KX G) (M82.cas w KX G) ⟨by rfl', by rfl', by rfl', by rfl'⟩ (L2.fun_mk (f := 293) (oc := .type "function") (od := none) (osl := #[]) (kV := .none) (doc := .none) (pm := (.str "minortables.cases" 502)) (cdv := .ref 292) (ct := .none) (an := none) (by rfl') (by rfl') (by rfl')) KX G hmg 474 473 462 461 469 457 (by decide) .none (.str "law_minortables_k82_whole_cases_back" 682) .none (.str "law_minortables_k82_whole_cases_back" 682) (by rfl') (by rfl') (by rfl') (by rfl') (by rfl') (by rfl') (by rfl'))
#print axioms PySem.Challenge.cw_minortables_k82_whole_cases_back_holds
