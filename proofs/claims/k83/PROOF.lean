import PyProof.Rows.All
import Wide.All
import OpenK.AllK
import Wide.FinOn
import Lean
import PyProof.EqAt
import PyProof.EqKinds
import PyProof.TupleCall
import PyProof.ListRange
import PySem.Names
import PySem.Builtin.Str.Common
import PyProof.Rows.TmSorted
import PyProof.NeKinds
import PyProof.AttrMiss
import PyProof.FactsAll.list
import KE.KDictOf
import KE.KEqDict
import KE.KItemsList
import PyProof.DictItems
import PyProof.DictStraight
import PyProof.DictWalks
import PySem.Challenge.RW_minortables_k83_whole_case_twins
set_option compiler.extract_closed false
set_option genSizeOf false
set_option genInjectivity false
set_option maxHeartbeats 0
set_option Elab.async false
set_option linter.all false
set_option maxRecDepth 100000
noncomputable section
namespace Zz
abbrev Zf:=PySem.W.Frag
open PySem
def A0z:=@PyProof.Rows.callWith_type1
def B0z:=@PySem.W.Fast.te14364793385576792824
def C0z:=@PySem.F.args_tuple_add_2
def D0z:=@PySem.F.slot_list_append
def E0z:=@PySem.F.type_list_append
def F0z:=@PySem.F.entry_tuple_add
def G0z:=@PySem.F.plainAttrs_dict
def H0z:=@PySem.F.plainAttrs_list
def I0z:=@List.filter_cons_of_neg
def J0z:=@List.filter_cons_of_pos
def K0z:=@decide_eq_false_iff_not
def L0z:=@PySem.W.cellsFrom_some
def M0z:=@PySem.F.slot_tuple_add
def N0z:=@PySem.Calls.callWith_builtin
def O0z:=@Option.map_eq_some_iff
def P0z:=@List.mem_append_right
def Q0z:=@List.length_singleton
def R0z:=@PySem.builtinLookup_eq_fast
def S0z:=@PySem.F.slot_dict_get
def T0z:=@PySem.F.typeOf_object_class
def U0z:=@Bool.and_eq_false_iff
def V0z:=@List.eq_nil_or_concat
def W0z:=@List.concat_eq_append
def X0z:=@List.mem_cons_of_mem
def Y0z:=@List.mem_append_left
def Z0z:=@PySem.W.looks_findIn
def A1z:=@PySem.Calls.evalArgs_plain
def B1z:=@PySem.W.hideAll_get
def C1z:=@List.filterMap_cons
def D1z:=@Array.length_toList
def E1z:=@PySem.W.plainGet_of
def F1z:=@PySem.mem_of_lookup
def G1z:=@List.replicate_succ
def H1z:=@beq_eq_false_iff_ne
def I1z:=@List.map_congr_left
def J1z:=@List.length_reverse
def K1z:=@List.toList_toArray
def L1z:=@Nat.lt_of_lt_of_le
def M1z:=@PySem.W.of_hideAll
def N1z:=@List.mem_cons_self
def O1z:=@PySem.wpAny_pyIter_tuple
def P1z:=@Bool.false_ne_true
def Q1z:=@PySem.Calls.spliced_cons
def R1z:=@PySem.wpAny_Call_Name_kw
def S1z:=@PySem.W.callWith_K
def T1z:=@List.length_append
def U1z:=@Nat.lt_of_le_of_lt
def V1z:=@Bool.false_eq_true
def W1z:=@PySem.wpAny_setField_rec
def X1z:=@List.filterMap_map
def Y1z:=@PySem.tupleKind_room_in1
def Z1z:=@List.zip_cons_cons
def A2z:=@PySem.W.kitx_tuple
def B2z:=@decide_eq_true_iff
def C2z:=@of_decide_eq_false
def D2z:=@List.mem_singleton
def E2z:=@PySem.wpAny_truthy_bool
def F2z:=@PySem.wpAny_newObj_type
def G2z:=@PySem.Calls.spliced_nil
def H2z:=@List.size_toArray
def I2z:=@List.reverse_cons
def J2z:=@Nat.lt_succ_of_lt
def K2z:=@Nat.le_of_succ_le
def L2z:=@Option.isSome_map
def M2z:=@Bool.not_eq_true'
def N2z:=@decide_eq_true_eq
def O2z:=@Option.some.injEq
def P2z:=@of_decide_eq_true
def Q2z:=@PySem.W.kitx_bool
def R2z:=@PySem.W.kitx_list
def S2z:=@List.length_cons
def T2z:=@Nat.lt_succ_self
def U2z:=@List.lookup_cons
def V2z:=@beq_self_eq_true
def W2z:=@PySem.wpAny_call_entry
def X2z:=@PySem.entryFor_of_tree
def Y2z:=@Nat.le_add_right
def Z2z:=@List.filter_cons
def A3z:=@Bool.and_eq_true
def B3z:=@List.not_mem_nil
def C3z:=@PySem.W.kitx_int
def D3z:=@PySem.W.kitx_str
def E3z:=@List.isEmpty_iff
def F3z:=@Option.bind_some
def G3z:=@List.all_eq_true
def H3z:=@decide_eq_false
def I3z:=@Option.some.inj
def J3z:=@PySem.wpAny_passesOwn
def K3z:=@List.length_map
def L3z:=@List.append_nil
def M3z:=@List.of_mem_zip
def N3z:=@List.nodup_cons
def O3z:=@Option.map_some
def P3z:=@PySem.pushCells_keeps
def Q3z:=@PySem.typeLookup_type
def R3z:=@PySem.wpAny_specialOf
def S3z:=@PySem.codeAny_builtin
def T3z:=@List.nil_append
def U3z:=@List.length_nil
def V3z:=@Bool.or_eq_true
def W3z:=@List.cons.injEq
def X3z:=@List.map_append
def Y3z:=@PySem.W.kia_one
def Z3z:=@List.length_zip
def A4z:=@List.length_set
def B4z:=@PySem.Heap.size_push
def C4z:=@decide_eq_true
def D4z:=@PySem.wpAny_seqItems
def E4z:=@PySem.isSubtype_type
def F4z:=@Bool.and_false
def G4z:=@Nat.lt_irrefl
def H4z:=@PySem.wpAny_standAt
def I4z:=@List.map_cons
def J4z:=@PySem.wpAny_attempt
def K4z:=@PySem.plainId_quiet
def L4z:=@PySem.wpAny_holding
def M4z:=@List.any_cons
def N4z:=@Bool.and_self
def O4z:=@List.all_cons
def P4z:=@List.mem_cons
def Q4z:=@PySem.W.mg_of
def R4z:=@PySem.Heap.lt_size
def S4z:=@Nat.ne_of_lt
def T4z:=@Nat.le_trans
def U4z:=@Nat.le_of_lt
def V4z:=@Nat.ne_of_gt
def W4z:=@PySem.codeAny_mono
def X4z:=@List.map_nil
def Y4z:=@PySem.wpAny_typeOf
def Z4z:=@List.map_map
def A5z:=@Sum.inr.inj
def B5z:=@Nat.le_refl
def C5z:=@PySem.sizeLine_eq
def D5z:=@Nat.zero_le
def E5z:=@PySem.wpAny_field
def F5z:=@PySem.wpAny_of_eq
def G5z:=@List.map_id
def H5z:=@PySem.wpAny_mono
def I5z:=@PySem.wpAny_bind
def J5z:=@PySem.wpAny_pure
def K5z:=@PySem.wpAny_rule
def L5z:=@PySem.call_meets
def M5z:=@bne_iff_ne
def N5z:=@PySem.W.looks_pair
def O5z:=@PySem.W.segRun_of
def P5z:=@PySem.W.piece_app
def Q5z:=@if_false
def R5z:=@Ne.symm
def S5z:=@if_true
def T5z:=@if_pos
def U5z:=@if_neg
end Zz
open Zz
local macro_rules|`(tactic|rfl')=>`(tactic|kernel_rfl)
namespace L2
open PySem PySem.Spec PyProof.Rows
abbrev Key:=Sum Int Str
def sZ:Key->Value->Bool
 |.inl k,v=>Value.isInt k v
 |.inr x,v=>Value.isStrOf x v
def W6(w:World):Key->Int
 |.inl k=>hashInt k
 |.inr x=>hashStr w x
theorem bJ:∀{k:Key}{v:Value},sZ k v=true->(∃i t,k=Sum.inl i/\v=Value.int i t)\/(∃x t,k=Sum.inr x/\v=Value.str x t)
 |.inl i,v,h=>by
  obtain⟨t,e⟩:=Value.isInt_shape h;exact .inl ⟨i,t,rfl,e⟩
 |.inr x,v,h=>by
  obtain⟨t,e⟩:=Value.isStrOf_shape h;exact .inr ⟨x,t,rfl,e⟩
theorem Ac(i:Int)(t:Tok):sZ (.inl i) (.int i t)=true:=by simp[sZ,Value.isInt]
theorem Ab(x:Str)(t:Tok):sZ (.inr x) (.str x t)=true:=by simp[sZ,Value.isStrOf]
theorem Qc(a b:Int):decide ((Sum.inl a:Key)=Sum.inl b)=(a==b):=by
 by_cases e:a=b
 .subst e;simp
 .rw[H3z (λq=>e (Sum.inl.inj q))]
  exact(H1z.mpr e).symm
theorem PX(a b:Str):decide ((Sum.inr a:Key)=Sum.inr b)=decide (a=b):=by
 by_cases e:a=b
 .subst e;simp
 .rw[H3z (λq=>e (A5z q)),H3z e]
theorem Qa(a:Int)(b:Str):decide ((Sum.inl a:Key)=Sum.inr b)=false:=H3z (λq=>nomatch q)
theorem P0(a:Str)(b:Int):decide ((Sum.inr a:Key)=Sum.inl b)=false:=H3z (λq=>nomatch q)
def aV(prog:Program)(w:World):PySem.KeyKind prog w Key where
 is:=sZ
 hash:=W6 w
 inj:=λv a b ha hb=>by
  rcases bJ ha with⟨i,t,rfl,rfl⟩|⟨x,t,rfl,rfl⟩
  .rcases bJ hb with⟨j,u,rfl,e⟩|⟨y,u,rfl,e⟩
   .injection e with e1 _;rw[e1]
   .exact nomatch e
  .rcases bJ hb with⟨j,u,rfl,e⟩|⟨y,u,rfl,e⟩
   .exact nomatch e
   .injection e with e1 _;rw[e1]
 byValue:=λk v h=>by
  rcases bJ h with⟨i,t,rfl,rfl⟩|⟨x,t,rfl,rfl⟩<;>rfl
 pyHash:=λhv h=>by
  rcases bJ hv with⟨i,t,rfl,rfl⟩|⟨x,t,rfl,rfl⟩
  .exact wpAny_pyHash_int h
  .exact wpAny_pyHash_str h
 eqBool:=λhu hv h=>by
  rcases bJ hu with⟨i,t,rfl,rfl⟩|⟨x,t,rfl,rfl⟩
  .rcases bJ hv with⟨j,u,rfl,rfl⟩|⟨y,u,rfl,rfl⟩
   .rw[Qc] at h;exact wpAny_eqBool_int h
   .rw[Qa] at h;exact SeqAt.EqAt.int_str i t y u _ _ _ _ h
  .rcases bJ hv with⟨j,u,rfl,rfl⟩|⟨y,u,rfl,rfl⟩
   .rw[P0] at h;exact SeqAt.EqAt.str_int x t j u _ _ _ _ h
   .rw[PX] at h;exact wpAny_eqBool_str h
 «strs» :=λk x t v h=>by
  rcases bJ h with⟨i,u,rfl,e⟩|⟨y,u,rfl,e⟩
  .exact nomatch e
  .injection e with e1 _
   subst e1
   cases v<;>rfl
theorem wJ(prog:Program)(w:World)(k:Key)(v:Value):(aV prog w).is k v=sZ k v:=rfl
theorem sV(prog:Program)(w:World)(i:Int)(t:Tok):(aV prog w).is (.inl i) (.int i t)=true:=Ac i t
theorem sU(prog:Program)(w:World)(x:Str)(t:Tok):(aV prog w).is (.inr x) (.str x t)=true:=Ab x t
set_option genInjectivity true in
inductive V where
 |non|bl (b:Bool)|int (i:Int)|str (x:Str)|byt (b:Array UInt8)|flt (b:UInt64)|ref (a:Addr)|ty (n:String)
 deriving DecidableEq
def RelV:V->Value->Prop
 |.non,u=>u=Value.none
 |.bl b,u=>u=Value.bool b
 |.int i,u=>∃t,u=Value.int i t
 |.str x,u=>∃t,u=Value.str x t
 |.byt b,u=>∃t,u=Value.bytes b t
 |.flt b,u=>∃t,u=Value.float b t
 |.ref a,u=>u=Value.ref a
 |.ty n,u=>u=Value.type n
abbrev Vals:List V->List Value->Prop:=Paired RelV
theorem Vals.length(r:Vals xs us):xs.length=us.length:=Paired.length r
theorem Vals.get:∀{xs:List V}{us:List Value}{i:Nat}{x:V},Vals xs us->xs[i]?=some x->∃u,us[i]?=some u/\RelV x u
 |_,_,_,_,.nil,e=>by simp at e
 |_,_,0,_,.cons r _,e=>by simp at e;subst e;exact⟨_,rfl,r⟩
 |_,_,i+1,x,.cons _ t,e=>by
  obtain⟨u,h1,h2⟩:=Vals.get t (by simpa using e);exact⟨u,by simpa using h1,h2⟩
theorem Vals.append:∀{xs ys:List V}{us ws:List Value},Vals xs us->Vals ys ws->Vals (xs++ys) (us++ws)
 |_,_,_,_,.nil,s=>s
 |_,_,_,_,.cons r t,s=>.cons r (Vals.append t s)
def pI:Option V->Option Value->Prop
 |some v,some u=>RelV v u
 |none,none=>True
 |_,_=>False
def KV{κ:Type}:List (κ×V)->List (κ×Value)->Prop:=Paired λ(p:κ×V)(q:κ×Value)=>p.1=q.1/\RelV p.2 q.2
def kV:Key->V
 |.inl i=>.int i
 |.inr x=>.str x
set_option genInjectivity true in
inductive HO where
 |lst (xs:List V)
 |tup (xs:List V)
 |dK (kvs:List (Key×V))|dT (kvs:List (List Key×V))
 |set (S:Int->Bool) (n:Nat)
 |ins (C dx:Addr) (fs:List (Str×V))
 |own (x:Addr)
 |xd (fs:List (Str×V))
 |met (f x:Addr)
 |rng (lo hi:Int)
 |frz (o:Obj) (u:HO)
 |tbl (ps:Array Value)
 |ext (φ:Heap->Prop)
noncomputable abbrev Hp:=Addr->Option HO
def upd(H:Hp)(a:Addr)(o:HO):Hp:=λb=>if b=a then some o else H b
theorem au:upd H a o a=some o:=by unfold upd;rw[T5z rfl]
theorem ak(h:b≠a):upd H a o b=H b:=by unfold upd;rw[U5z h]
theorem cY{H:Hp}(h:H a=some o)(h':H b=some u)(d:o≠u):a≠b:=by
 intro e;subst e;rw[h] at h';exact d (I3z h')
theorem aj{H:Hp}(h:H a=some o)(h':H b=none):a≠b:=by
 intro e;subst e;rw[h] at h';cases h'
section
variable(P:Program)(w:World)
def cX(H:Hp)(h:Heap)(a:Addr):HO->Prop
 |.lst xs=>xs.length<=sizeLine/\∃(its:List Value)(n:Nat),Vals xs its/\h.get? a=some {cls:=.type "list",data:=.seq its.toArray n}
 |.tup xs=>xs.length<=sizeLine/\∃its:List Value,Vals xs its/\IsTup h a its.toArray
 |.dK kvs=>kvs.length<=sizeLine/\(a==sysModules)=false/\∃vs,KV kvs vs/\h.DictOf (aV P w) a vs
 |.dT kvs=>kvs.length<=sizeLine/\(a==sysModules)=false/\∃xs:List (List Key×Addr×Value),
   Paired (λ(p:List Key×V)(q:List Key×Addr×Value)=>p.1=q.1/\H q.2.1=some (.tup (p.1.map kV))/\RelV p.2 q.2.2) kvs xs /\
   ∃o es ep,h.get? a=some o/\o.ExactDict/\o.data=.dict es ep/\es.toList=xs.map (entryOfKey (tupleKind (aV P w)))/\(xs.map (·.1)).Nodup
 |.set S n=>h.SetOf (intKind P w) a S n
 |.ins C dx fs=>H dx=some (.own a)/\fs.length<=1000/\dx≠a/\h.get? a=some (W.instObj C dx) /\
   ∃mA,h.Ns1 dx mA/\(∀f,pI (fs.lookup f) (mA f))/\PySem.Within mA (fs.map (·.1))
 |.own _=>∃o,h.get? a=some o
 |.xd fs=>∃mA,h.Ns1 a mA/\∀f,pI (fs.lookup f) (mA f)
 |.rng lo hi=>∃t u v,h.get? a=some {cls:=.type "range",data:=.fields #[.int lo t,.int hi u,.int 1 v]}
 |.frz o u=>h.get? a=some o/\cX H h a u
 |.tbl ps=>h.get? a=some {cls:=.none,data:=.fields ps}
 |.met f x=>h.get? a=some (W.methodObj (.ref f) (.ref x))
 |.ext φ=>φ h/\(∃o,h.get? a=some o)/\∀h1 h2:Heap,φ h1->(∀o,h1.get? a=some o->h2.get? a=some o)->φ h2
def HOk(H:Hp)(h:Heap):Prop:=∀a o,H a=some o->cX P w H h a o
end
section
variable{P:Program}{w:World}{H H':Hp}{h h':Heap}{a:Addr}{o:HO}
theorem cX.lt(x:cX P w H h a o):a<h.objs.size:=by
 cases o with
 |lst xs=>obtain⟨_,_,_,_,e⟩:=x;exact R4z e
 |tup xs=>obtain⟨_,_,_,p⟩:=x;exact p.lt
 |dK kvs=>obtain⟨_,_,_,_,o,_,_,e,_⟩:=x;exact R4z e
 |dT kvs=>obtain⟨_,_,_,_,o,_,_,e,_⟩:=x;exact R4z e
 |set S n=>obtain⟨o,_,_,_,e,_⟩:=x;exact R4z e
 |ins C dx fs=>obtain⟨_,_,_,e,_⟩:=x;exact R4z e
 |own y=>obtain⟨_,e⟩:=x;exact R4z e
 |xd fs=>obtain⟨_,⟨_,_,_,e,_⟩,_⟩:=x;exact R4z e
 |rng lo hi=>obtain⟨_,_,_,e⟩:=x;exact R4z e
 |frz ob u=>obtain⟨e,_⟩:=x;exact R4z e
 |tbl ps=>exact R4z x
 |met f y=>exact R4z x
 |ext φ=>obtain⟨_,⟨_,e⟩,_⟩:=x;exact R4z e
theorem Paired.mapP:∀{l₁:List α}{l₂:List β},Paired F l₁ l₂->(∀a b,F a b->G a b)->Paired G l₁ l₂
 |_,_,.nil,_=>.nil
 |_,_,.cons r t,f=>.cons (f _ _ r) (Paired.mapP t f)
theorem cX.stay(x:cX P w H h a o)(k:∀b u,(b=a\/H b=some (.own a))->h.get? b=some u->h'.get? b=some u)
  (ho:∀b,H b=some (.own a)->H' b=some (.own a)) (ht:∀b xs,H b=some (.tup xs)->H' b=some (.tup xs)):cX P w H' h' a o:=by
 induction o with
 |lst xs=>obtain⟨z,its,n,r,e⟩:=x;exact⟨z,its,n,r,k _ _ (.inl rfl) e⟩
 |tup xs=>obtain⟨z,its,r,ob,e,c⟩:=x;exact⟨z,its,r,ob,k _ _ (.inl rfl) e,c⟩
 |dK kvs=>obtain⟨z,y,vs,r,ob,es,ep,e,c⟩:=x;exact⟨z,y,vs,r,ob,es,ep,k _ _ (.inl rfl) e,c⟩
 |dT kvs =>
  obtain⟨z,y,xs,r,ob,es,ep,e,c⟩:=x;exact⟨z,y,xs,Paired.mapP r λp q z=>⟨z.1,ht _ _ z.2.1,z.2.2⟩,ob,es,ep,k _ _ (.inl rfl) e,c⟩
 |set S n=>obtain⟨ob,es,ep,t,e,c⟩:=x;exact⟨ob,es,ep,t,k _ _ (.inl rfl) e,c⟩
 |ins C dx fs =>
  obtain⟨d,z,ne,e,mA,⟨od,es,ep,e2,c⟩,r⟩:=x;exact⟨ho _ d,z,ne,k _ _ (.inl rfl) e,mA,⟨od,es,ep,k _ _ (.inr d) e2,c⟩,r⟩
 |own y=>obtain⟨ob,e⟩:=x;exact⟨ob,k _ _ (.inl rfl) e⟩
 |xd fs=>obtain⟨mA,⟨od,es,ep,e,c⟩,r⟩:=x;exact⟨mA,⟨od,es,ep,k _ _ (.inl rfl) e,c⟩,r⟩
 |rng lo hi=>obtain⟨t,u,v,e⟩:=x;exact⟨t,u,v,k _ _ (.inl rfl) e⟩
 |frz ob u ih=>obtain⟨e,q⟩:=x;exact⟨k _ _ (.inl rfl) e,ih q⟩
 |tbl ps =>
  have e:=x;exact k a _ (.inl rfl) e
 |met f y =>
  show h'.get? a=some (W.methodObj (.ref f) (.ref y));exact k a _ (.inl rfl) x
 |ext φ=>obtain⟨p,⟨o,e⟩,st⟩:=x;exact⟨st _ _ p λo q=>k _ _ (.inl rfl) q,⟨o,k _ _ (.inl rfl) e⟩,st⟩
theorem HOk.lt(x:HOk P w H h)(e:H a=some o):a<h.objs.size:=(x a o e).lt
theorem HOk.fresh(x:HOk P w H h)(e:h.objs.size<=a):H a=none:=by
 cases q:H a with
 |none=>rfl
 |some u=>exact absurd (L1z (x.lt q) e) (G4z _)
theorem HOk.kept(x:HOk P w H h)(k:∀b u,h.get? b=some u->h'.get? b=some u):HOk P w H h':=λa o e =>
 (x a o e).stay (λb u _ q=>k b u q) (λ_ q=>q) λ_ _ q=>q
theorem HOk.laid(x:HOk P w H h)(k:∀b u,h.get? b=some u->h'.get? b=some u)(hp:h.objs.size<=a)(new:cX P w (upd H a o) h' a o):HOk P w (upd H a o) h':=λb u e=>by
 have hn:=x.fresh hp
 by_cases hb:b=a
 .subst hb;rw[au] at e;cases e;exact new
 .rw[ak hb] at e
  exact(x b u e).stay (λc v _ q=>k c v q) (λc q=>by rw[ak (aj q hn)];exact q) λc xs q=>by rw[ak (aj q hn)];exact q
end
def Rd(H:Hp)(a:Addr)(u:HO):Prop:=H a=some u\/∃o,H a=some (.frz o u)
theorem Rd.ok(r:Rd H a u)(x:HOk P w H h):cX P w H h a u:=by
 obtain r|⟨o,r⟩:=r
 .exact x a u r
 .obtain⟨_,q⟩:=x a _ r
  exact q
def Mut:Option HO->Prop
 |some (.lst _)=>True
 |some (.dK _)=>True
 |some (.dT _)=>True
 |some (.set _ _)=>True
 |some (.ins _ _ _)=>True
 |some (.ext _)=>True
 |_=>False
section
variable{P:Program}{w:World}{H:Hp}{h h':Heap}{x e:Addr}{o':HO}
theorem HOk.write(ok:HOk P w H h)(mu:Mut (H x))(he:e=x\/H e=some (.own x))(k:∀b u,b≠e->h.get? b=some u->h'.get? b=some u)(heo:∃u,h'.get? e=some u)
  (new:cX P w (upd H x o') h' x o'):HOk P w (upd H x o') h':=λb u q=>by
 have nown:∀c y,H c=some (.own y)->c≠x:=λc y r z=>by subst z;rw[r] at mu;exact mu
 by_cases hb:b=x
 .subst hb;rw[au] at q;cases q;exact new
 .rw[ak hb] at q
  by_cases hbe:b=e
  .have q':H b=some (.own x):=by
    rcases he with z|z
    .exact absurd (hbe.trans z) hb
    .rw[hbe];exact z
   rw[q] at q';cases q'
   obtain⟨v,hv⟩:=heo;exact⟨v,by rw[hbe];exact hv⟩
  .refine(ok b u q).stay (λc v hc r=>k c v ?_ r) (λc r=>by rw[ak (nown c b r)];exact r) λc xs r=>by rw[ak ((λc xs r z=>by subst z;rw[r] at mu;exact mu) c xs r)];exact r
   obtain rfl|hc:=hc
   .exact hbe
   .rintro rfl
    obtain z|z:=he
    .exact nown c b hc z
    .rw[hc] at z;cases z;exact hb rfl
end
structure Un(fs ex:List Addr)(H H':Hp)(h h':Heap):Prop where
 keep:∀b o,h.get? b=some o->H b=none->b∉fs->b∉ex->h'.get? b=some o
 slot:∀b o,h.get? b=some o->H b=none->b∈fs->b∉ex->∃sl,h'.get? b=some {o with slots:=sl}
 free:∀b o,h.get? b=some o->H b=none->b∉ex->H' b=none
 there:∀b o,h.get? b=some o->b∉ex->∃o',h'.get? b=some o'
 tups:∀b xs,H b=some (.tup xs)->H' b=some (.tup xs)
 frzs:∀b o u,H b=some (.frz o u)->H' b=some (.frz o u)
 tbls:∀b ps,H b=some (.tbl ps)->∃more,H' b=some (.tbl (ps++more))
section
variable{fs fs' ex ex':List Addr}{H H1 H2:Hp}{h h1 h2 h':Heap}{a x e:Addr}{o:HO}
theorem Un.any(u:Un fs ex H H1 h h1)(q:h.get? b=some ob)(n:H b=none)(hx:b∉ex):∃sl,h1.get? b=some {ob with slots:=sl}:=by
 by_cases hb:b∈fs
 .exact u.slot b ob q n hb hx
 .exact⟨ob.slots,u.keep b ob q n hb hx⟩
theorem Un.trans(a:Un fs ex H H1 h h1)(b:Un fs ex H1 H2 h1 h2):Un fs ex H H2 h h2 where
 keep:=λc ob q n hc hx=>b.keep c ob (a.keep c ob q n hc hx) (a.free c ob q n hx) hc hx
 slot:=λc ob q n hc hx=>by
  obtain⟨sl,e1⟩:=a.slot c ob q n hc hx;obtain⟨sl',e2⟩:=b.slot c _ e1 (a.free c ob q n hx) hc hx;exact⟨sl',e2⟩
 free:=λc ob q n hx=>by
  obtain⟨o',e1⟩:=a.there c ob q hx;exact b.free c o' e1 (a.free c ob q n hx) hx
 there:=λc ob q hx=>by
  obtain⟨o',e1⟩:=a.there c ob q hx;exact b.there c o' e1 hx
 tups:=λc xs q=>b.tups c xs (a.tups c xs q)
 frzs:=λc ob xs q=>b.frzs c ob xs (a.frzs c ob xs q)
 tbls:=λc ps q=>by
  obtain⟨m1,e1⟩:=a.tbls c ps q;obtain⟨m2,e2⟩:=b.tbls c _ e1;exact⟨m1++m2,by rw[e2,Array.append_assoc]⟩
theorem Un.kept(k:∀b u,h.get? b=some u->h'.get? b=some u):Un fs ex H H h h' :=
 ⟨λb ob q _ _ _=>k b ob q,λb ob q _ _ _=>⟨ob.slots,k b ob q⟩,λ_ _ _ n _=>n,λb ob q _=>⟨ob,k b ob q⟩,λ_ _ q=>q,λ_ _ _ q=>q,λ_ ps q=>⟨#[],by rw[q];simp⟩⟩
theorem Un.refl:Un fs ex H H h h:=Un.kept λ_ _ q=>q
theorem Un.laid(k:∀b u,h.get? b=some u->h'.get? b=some u)(hp:h.objs.size<=a)(hn:H a=none):Un fs ex H (upd H a o) h h' where
 keep:=λb u q _ _ _=>k b u q
 slot:=λb u q _ _ _=>⟨u.slots,k b u q⟩
 free:=λb u q n _=>by rw[ak (S4z (L1z (R4z q) hp))];exact n
 there:=λb u q _=>⟨u,k b u q⟩
 tups:=λb xs q=>by rw[ak (aj q hn)];exact q
 frzs:=λb u xs q=>by rw[ak (aj q hn)];exact q
 tbls:=λb ps q=>⟨#[],by rw[ak (aj q hn),q];simp⟩
theorem Un.write(mu:Mut (H x))(he:e=x\/H e=some (.own x))(k:∀b u,b≠e->h.get? b=some u->h'.get? b=some u)(heo:∃u,h'.get? e=some u):Un fs ex H (upd H x o) h h':=by
 have hx:∀b,H b=none->b≠x:=λb n z=>by subst z;rw[n] at mu;exact mu
 have hb:∀b,H b=none->b≠e:=λb n z=>by
  subst z;obtain r|r:=he
  .exact hx b n r
  .rw[n] at r;cases r
 have hm:∀b u,H b=some u->¬ Mut (some u)->b≠x:=λb u q nm z=>by subst z;rw[q] at mu;exact nm mu
 refine⟨λb u q n _ _=>k b u (hb b n) q,λb u q n _ _=>⟨u.slots,k b u (hb b n) q⟩,λb u q n _=>by rw[ak (hx b n)];exact n,λb u q _=>?_,
  λb xs q=>by rw[ak (hm b _ q λz=>z)];exact q,λb u xs q=>by rw[ak (hm b _ q λz=>z)];exact q,λb ps q=>⟨#[],by rw[ak (hm b _ q λz=>z),q];simp⟩⟩
 by_cases hbe:b=e
 .subst hbe;exact heo
 .exact⟨u,k b u hbe q⟩
theorem Un.mono(u:Un fs ex H H1 h h1)(hs:∀b∈fs,b∈fs')(hx:∀b∈ex,b∈ex'):Un fs' ex' H H1 h h1 :=
 ⟨λb ob q n hb he=>u.keep b ob q n (λz=>hb (hs b z)) λz=>he (hx b z),λ_ _ q n _ he=>u.any q n λz=>he (hx _ z),λb ob q n he=>u.free b ob q n λz=>he (hx b z),λb ob q he=>u.there b ob q λz=>he (hx b z),u.tups,u.frzs,u.tbls⟩
end
def trk(h:Heap)(H:Hp):List Addr:=(List.range h.objs.size).filter λa=>(H a).isSome
def Cu(h:Heap)(H:Hp):Heap:=W.hideAll h (trk h H)
theorem qJ(h:Heap)(H:Hp):(Cu h H).objs.size=h.objs.size:=W.hideAll_size _ _
theorem vg(e:h.get? b=some o)(n:H b=none):(Cu h H).get? b=some o :=
 B1z _ e λhm=>by
  have q:=(List.mem_filter.mp hm).2;rw[n] at q;simp at q
theorem zL(e:(Cu h H).get? b=some o):h.get? b=some o/\H b=none:=by
 have e':=M1z (trk h H) e;refine⟨e',?_⟩
 cases q:H b with
 |none=>rfl
 |some x =>
  have z:(Cu h H).get? b=none:=W.hideAll_none (trk h H) (List.mem_filter.mpr ⟨List.mem_range.mpr (R4z e'),by simp[q]⟩);rw[z] at e;cases e
def Mh(g h:Heap)(L:Addr):List (Addr×Obj):=(List.range h.objs.size).filterMap λa=>if a=L\/(g.get? a).isSome=true then none else(h.get? a).map λo=>(a,o)
def rest(g h:Heap)(L d:Addr):List (Addr×Obj):=(Mh g h L).filter λp=>decide (p.1≠d)
structure Mod(K:Zf)(mg:Str->Option Value)(base:Heap):Prop where
 kin:K.In base
 glob:base.Ns mainGlobals mg
 blt:∃mb,base.Ns builtinsNs mb/\∀x:Str,x≠"__name__"->mb x=bootBuiltins x
 nolimit:base.NoLimit
structure Cx where
 prog:Program
 w:World
 K:Zf
 mg:Str->Option Value
 base:Heap
 A:Around
 N:List Str
 s₀:Shared
 H₀:Hp
 env:Env
 outer:List Env
 stack:List Env
 ex:List Addr
 fn:Str->Bool
 calm:Bool
 pn:List (Addr×Obj)
 xe:Value->Shared->Prop
 lm:Option (Addr×Str):=none
def frs(l:List Env):List Addr:=l.filterMap (·.frame)
abbrev Cx.fs(X:Cx):List Addr:=frs X.outer
def Vis(sc:Scope)(x:Str):Prop:=sc.names.lookup x=some .local\/sc.names.lookup x=some .cell\/sc.names.lookup x=some .free
def Loc(sc:Scope)(x:Str):Prop:=sc.names.lookup x=some .local\/sc.names.lookup x=some .cell
def Look(env:Env)(h:Heap)(m:Str->Option Value)(x:Str)(u:Value):Prop :=
 (env.kindOf x=some .local/\m x=some u)\/((env.kindOf x=some .cell\/env.kindOf x=some .free)/\∃c,env.cells.lookup x=some c/\h.IsCell c (some u))
structure Cx.Ok(X:Cx):Prop where
 mod:Mod X.K X.mg X.base
 kind:X.env.scope.kind=.function
 glob:X.env.globals=mainGlobals
 blt:X.env.builtins=builtinsNs
 above:X.s₀.heap.objs.size<=X.env.locals
 inj:∀x y c,X.env.cells.lookup x=some c->X.env.cells.lookup y=some c->x=y
 has:∀x,(X.env.kindOf x=some .cell\/X.env.kindOf x=some .free)->∃c,X.env.cells.lookup x=some c
 cab:∀x c,X.fn x=true->X.env.cells.lookup x=some c->X.s₀.heap.objs.size<=c
 hd:X.calm=true->X.A.handled=none
 frames:X.A.frames=some X.stack
 stk:X.stack=X.outer\/(X.stack=X.env::X.outer/\X.env.frame=some X.env.locals)
 exf:∀b∈X.ex,b≠X.env.locals/\∀x c,X.env.cells.lookup x=some c->c≠b
 bs:∀b o,X.base.get? b=some o->X.s₀.heap.get? b=some o/\X.H₀ b=none
 bsz:X.base.objs.size<=X.s₀.heap.objs.size
 noex:∀b o,X.base.get? b=some o->b∉X.ex
 exfs:∀b∈X.ex,b∉X.fs
 funs:X.s₀.heap.FunFrames X.base X.outer
 frf:∀b∈X.fs,X.H₀ b=none
structure Inv(X:Cx)(y0:List (Addr×Obj))(Y:List (Option V))(H:Hp)(s:Shared):Prop where
 ok:X.Ok
 os:s.os=X.s₀.os
 bare:AllBare s.gens
 base:Un X.fs X.ex X.H₀ H X.s₀.heap s.heap
 loc:∃m,s.heap.Ns X.env.locals m/\∀(i:Nat)(x:Str)(v:V),X.N[i]?=some x->Y[i]?=some (some v)->Vis X.env.scope x->∃u,RelV v u/\Look X.env s.heap m x u
 cell:∀x c,X.env.cells.lookup x=some c->∃v,s.heap.IsCell c v
 free:H X.env.locals=none
 freeC:∀x c,X.env.cells.lookup x=some c->H c=none
 pin:∀p∈X.pn++y0,s.heap.get? p.1=some p.2/\H p.1=none/\p.1≠X.env.locals/\p.1∉X.fs/\∀v,p.2.data≠.cell v
 hok:HOk X.prog X.w H s.heap
 len:Y.length=X.N.length
section
variable{X:Cx}{y0:List (Addr×Obj)}{Y:List (Option V)}{H H':Hp}{s:Shared}{h':Heap}
theorem Cx.Ok.nofr(ok:X.Ok)(e:X.base.get? b=some o):b∉X.fs:=λhb=>by
 have:=(ok.funs.mem hb).1;rw[e] at this;cases this
theorem Inv.bs(I:Inv X y0 Y H s):∀b o,X.base.get? b=some o->s.heap.get? b=some o/\H b=none:=λb o e =>
 ⟨I.base.keep b o (I.ok.bs b o e).1 (I.ok.bs b o e).2 (I.ok.nofr e) (I.ok.noex b o e),I.base.free b o (I.ok.bs b o e).1 (I.ok.bs b o e).2 (I.ok.noex b o e)⟩
theorem Inv.bk(I:Inv X y0 Y H s):∀b o,X.base.get? b=some o->s.heap.get? b=some o:=λb o e=>(I.bs b o e).1
theorem Inv.mod(I:Inv X y0 Y H s):Mod X.K X.mg X.base:=I.ok.mod
theorem Inv.kIn(I:Inv X y0 Y H s):X.K.In s.heap:=I.ok.mod.kin.keeps I.bk
theorem Inv.lt(I:Inv X y0 Y H s):X.env.locals<s.heap.objs.size:=let ⟨_,hn,_⟩:=I.loc;hn.lt
theorem Inv.sz(I:Inv X y0 Y H s):X.s₀.heap.objs.size<=s.heap.objs.size:=T4z I.ok.above (U4z I.lt)
theorem Inv.nofs(I:Inv X y0 Y H s)(h:s.heap.objs.size<=a):a∉X.fs:=λhb=>by
 obtain⟨_,o,ho,_⟩:=I.ok.funs.mem hb;exact absurd (L1z (R4z ho) (T4z I.sz h)) (G4z _)
theorem Inv.cne(I:Inv X y0 Y H s):∀x c,X.env.cells.lookup x=some c->c≠X.env.locals:=λx c e z=>by
 obtain⟨v,o,ho,hd⟩:=I.cell x c e;obtain⟨m,⟨o',es,ep,ho',hd',_⟩,_⟩:=I.loc;rw[z,ho'] at ho;cases ho;rw[hd'] at hd;cases hd
theorem Inv.funs(I:Inv X y0 Y H s):s.heap.FunFrames X.base X.outer:=by
 have all:∀(l:List Env),(∀b∈frs l,b∈X.fs)->X.s₀.heap.FunFrames X.base l->s.heap.FunFrames X.base l:=by
  intro l
  induction l with
  |nil=>intro _ _;trivial
  |cons env r ih =>
   intro hs hl;obtain⟨hk,⟨L,o,hf,hn,ho,hd⟩,hr⟩:=hl;have hL:=hs L (by unfold frs;rw[C1z,hf];exact N1z);obtain⟨sl,e⟩:=I.base.slot L o ho (I.ok.frf L hL) hL λz=>I.ok.exfs L z hL;exact⟨hk,⟨L,_,hf,hn,e,hd⟩,ih (λb hb=>hs b (by unfold frs;rw[C1z,hf];exact X0z _ hb)) hr⟩
 exact all X.outer (λ_ hb=>hb) I.ok.funs
theorem Inv.stack(I:Inv X y0 Y H s):s.heap.FunFrames X.base X.stack:=by
 obtain e|⟨e,hf⟩:=I.ok.stk
 .rw[e];exact I.funs
 .rw[e]
  obtain⟨m,hn,_⟩:=I.loc;exact .cons (by rw[I.ok.kind];decide) hf hn (Heap.get?_none_of_le (T4z I.ok.bsz I.ok.above)) I.funs
theorem Inv.stkSub(I:Inv X y0 Y H s):∀b∈frs X.stack,b∈X.env.locals::X.fs:=λb hb=>by
 obtain e|⟨e,hf⟩:=I.ok.stk
 .rw[e] at hb;exact X0z _ hb
 .rw[e] at hb
  unfold frs at hb;rw[C1z,hf] at hb;exact hb
theorem Inv.stkFree(I:Inv X y0 Y H s):∀b∈frs X.stack,H b=none:=λb hb=>by
 obtain e|hb:=P4z.mp (I.stkSub b hb)
 .rw[e];exact I.free
 .obtain⟨_,o,ho,_⟩:=I.ok.funs.mem hb
  exact I.base.free b o ho (I.ok.frf b hb) λz=>I.ok.exfs b z hb
theorem Inv.step{ch:List Addr}(I:Inv X y0 Y H s)
  (hch:∀b∈ch,(b∈X.ex\/X.s₀.heap.objs.size<=b)/\b≠X.env.locals/\(∀x c,X.env.cells.lookup x=some c->c≠b)/\∀p∈X.pn++y0,p.1≠b)
  (keep:∀b o,b≠X.env.locals->b∉X.fs->b∉ch->s.heap.get? b=some o->H b=none->h'.get? b=some o)
  (slot:∀b o,b≠X.env.locals->b∈X.fs->b∉ch->s.heap.get? b=some o->H b=none->∃sl,h'.get? b=some {o with slots:=sl}) (free:∀b o,b∉ch->s.heap.get? b=some o->H b=none->H' b=none)
  (there:∀b o,b∉ch->s.heap.get? b=some o->∃o',h'.get? b=some o')
  (tups:∀b xs,H b=some (.tup xs)->H' b=some (.tup xs)) (frzs:∀b o u,H b=some (.frz o u)->H' b=some (.frz o u)) (tbls:∀b ps,H b=some (.tbl ps)->∃more,H' b=some (.tbl (ps++more)))
  (ns:∀m,s.heap.Ns X.env.locals m->h'.Ns X.env.locals m) (hok:HOk X.prog X.w H' h') (hg:AllBare g') :
  Inv X y0 Y H' {s with heap:=h',gens:=g',drawn:=d',toks:=t'}:=by
 have neL:∀b o,X.s₀.heap.get? b=some o->b≠X.env.locals:=λb o e=>S4z (L1z (R4z e) I.ok.above)
 have neC:∀b o,X.s₀.heap.get? b=some o->b∉X.ex->b∉ch:=λb o e hx hb=>by
  obtain z|z:=(hch b hb).1
  .exact hx z
  .exact absurd (L1z (R4z e) z) (G4z _)
 have cellK:∀x c,X.env.cells.lookup x=some c->∀v,s.heap.IsCell c v->h'.IsCell c v:=λx c e v ⟨o,ho,hd⟩=>by
  have nch:=λz=>(hch c z).2.2.1 x c e rfl
  by_cases hc:c∈X.fs
  .obtain⟨sl,q⟩:=slot c o (I.cne x c e) hc nch ho (I.freeC x c e)
   exact⟨_,q,hd⟩
  .exact⟨o,keep c o (I.cne x c e) hc nch ho (I.freeC x c e),hd⟩
 refine⟨I.ok,I.os,hg,⟨λb o e n hb hx=>?_,λb o e n hb hx=>?_,λb o e n hx=>?_,λb o e hx=>?_,λb xs e=>tups b xs (I.base.tups b xs e),λb o xs e=>frzs b o xs (I.base.frzs b o xs e),λb ps e=>?_⟩,?_,λx c e=>?_,?_,λx c e=>?_,λp hp=>?_,hok,I.len⟩
 .exact keep b o (neL b o e) hb (neC b o e hx) (I.base.keep b o e n hb hx) (I.base.free b o e n hx)
 .obtain⟨sl,e1⟩:=I.base.slot b o e n hb hx
  obtain⟨sl',e2⟩:=slot b _ (neL b o e) hb (neC b o e hx) e1 (I.base.free b o e n hx);exact⟨sl',e2⟩
 .obtain⟨o',e1⟩:=I.base.there b o e hx
  exact free b o' (neC b o e hx) e1 (I.base.free b o e n hx)
 .obtain⟨o',e1⟩:=I.base.there b o e hx
  exact there b o' (neC b o e hx) e1
 .obtain⟨m1,e1⟩:=I.base.tbls b ps e
  obtain⟨m2,e2⟩:=tbls b _ e1;exact⟨m1++m2,by rw[e2,Array.append_assoc]⟩
 .obtain⟨m,hn,hl⟩:=I.loc
  refine⟨m,ns m hn,λi x v e1 e2 e3=>?_⟩;obtain⟨u,r,l⟩:=hl i x v e1 e2 e3;refine⟨u,r,?_⟩;obtain l|⟨k,c,e,z⟩:=l
  .exact .inl l
  .exact .inr ⟨k,c,e,cellK x c e _ z⟩
 .obtain⟨v,z⟩:=I.cell x c e
  exact⟨v,cellK x c e v z⟩
 .obtain⟨m,⟨o,_,_,ho,_⟩,_⟩:=I.loc
  exact free _ o (λz=>(hch _ z).2.1 rfl) ho I.free
 .obtain⟨v,o,ho,hd⟩:=I.cell x c e
  exact free c o (λz=>(hch c z).2.2.1 x c e rfl) ho (I.freeC x c e)
 .obtain⟨e,n,ne,nf,d⟩:=I.pin p hp
  have nch:=λz=>(hch p.1 z).2.2.2 p hp rfl;exact⟨keep p.1 p.2 ne nf nch e n,free p.1 p.2 nch e n,ne,nf,d⟩
theorem Inv.un(I:Inv X y0 Y H s)(u:Un X.fs [] H H' s.heap h')(hok:HOk X.prog X.w H' h'):Inv X y0 Y H' {s with heap:=h',toks:=t'}:=by
 obtain⟨m,⟨o,es,ep,ho,r⟩,_⟩:=id I.loc;obtain⟨sl,hL⟩:=u.any ho I.free (by simp)
 exact I.step (ch:=[]) (λ_ z=>nomatch z) (λb o _ hb _ e n=>u.keep b o e n hb (by simp)) (λb o _ hb _ e n=>u.slot b o e n hb (by simp)) (λb o _ e n=>u.free b o e n (by simp)) (λb o _ e=>u.there b o e (by simp)) u.tups u.frzs u.tbls (λm' hm=>by
  obtain⟨o',es',ep',ho',r'⟩:=hm;rw[ho] at ho';cases ho'
  exact⟨_,es',ep',hL,r'⟩) hok I.bare
theorem Inv.call(I:Inv X y0 Y H s)(u:Un (frs X.stack) ch H H' s.heap h')(hok:HOk X.prog X.w H' h')(hg:AllBare g')
  (hch:∀b∈ch,(b∈X.ex\/X.s₀.heap.objs.size<=b)/\b≠X.env.locals/\(∀x c,X.env.cells.lookup x=some c->c≠b)/\∀p∈X.pn++y0,p.1≠b) :
  Inv X y0 Y H' {s with heap:=h',gens:=g',drawn:=d',toks:=t'}:=by
 obtain⟨m,⟨o,es,ep,ho,r⟩,_⟩:=id I.loc;obtain⟨sl,hL⟩:=u.any ho I.free λz=>(hch _ z).2.1 rfl
 exact I.step hch (λb o hL hb hc e n=>u.keep b o e n (λz=>(P4z.mp (I.stkSub b z)).elim hL hb) hc) (λb o _ _ hc e n=>u.any e n hc) (λb o hc e n=>u.free b o e n hc) (λb o hc e=>u.there b o e hc) u.tups u.frzs u.tbls (λm' hm=>by
  obtain⟨o',es',ep',ho',r'⟩:=hm;rw[ho] at ho';cases ho'
  exact⟨_,es',ep',hL,r'⟩) hok hg
theorem Inv.turned(I:Inv X y0 Y H s)(k:∀b o,b≠it->s.heap.get? b=some o->h'.get? b=some o)(hn:H it=none)(hL:it≠X.env.locals)
  (h1:it∈X.ex\/X.s₀.heap.objs.size<=it) (h2:∀x c,X.env.cells.lookup x=some c->c≠it) (h3:∀p∈X.pn++y0,p.1≠it):Inv X y0 Y H {s with heap:=h',toks:=t'}:=by
 have nit:∀b u,H b=some u->b≠it:=λb u e z=>by rw[z,hn] at e;cases e
 refine I.step (ch:=[it]) (λb hb=>?_) (λb o _ _ hc e _=>k b o (λz=>hc (by simp[z])) e) (λb o _ _ hc e _=>⟨o.slots,k b o (λz=>hc (by simp[z])) e⟩) (λ_ _ _ _ n=>n)
  (λb o hc e=>⟨o,k b o (λz=>hc (by simp[z])) e⟩) (λ_ _ e=>e) (λ_ _ _ e=>e) (λb ps e=>⟨#[],by rw[e];simp⟩) (λm hm=>?_) (λb u e=>?_) I.bare
 .have e:b=it:=by simpa using hb
  subst e;exact⟨h1,hL,h2,h3⟩
 .obtain⟨o,es,ep,ho,r⟩:=hm
  exact⟨o,es,ep,k _ o (R5z hL) ho,r⟩
 .refine(I.hok b u e).stay (λc v hc q=>k c v ?_ q) (λ_ q=>q) λ_ _ q=>q
  obtain z|z:=hc
  .rw[z];exact nit b u e
  .exact nit c _ z
theorem Inv.tok(I:Inv X y0 Y H s)(t:Nat):Inv X y0 Y H {s with toks:=t}:=I.un Un.refl I.hok
theorem Inv.kept(I:Inv X y0 Y H s)(k:∀b u,s.heap.get? b=some u->h'.get? b=some u):Inv X y0 Y H {s with heap:=h',toks:=t'}:=I.un (Un.kept k) (I.hok.kept k)
theorem Inv.laid(I:Inv X y0 Y H s)(k:∀b u,s.heap.get? b=some u->h'.get? b=some u)(hp:s.heap.objs.size<=a)(new:cX X.prog X.w (upd H a o) h' a o) :
  Inv X y0 Y (upd H a o) {s with heap:=h',toks:=t'}:=I.un (Un.laid k hp (I.hok.fresh hp)) (I.hok.laid k hp new)
theorem Inv.write(I:Inv X y0 Y H s)(mu:Mut (H x))(he:e=x\/H e=some (.own x))(k:∀b u,b≠e->s.heap.get? b=some u->h'.get? b=some u)(heo:∃u,h'.get? e=some u)
  (new:cX X.prog X.w (upd H x o) h' x o):Inv X y0 Y (upd H x o) {s with heap:=h',toks:=t'}:=I.un (Un.write mu he k heo) (I.hok.write mu he k heo new)
theorem Inv.pins_of(I:Inv X y0 Y H s)(h:∀p∈pins',s.heap.get? p.1=some p.2/\H p.1=none/\p.1≠X.env.locals/\p.1∉X.fs/\∀v,p.2.data≠.cell v):Inv X pins' Y H s :=
 ⟨I.ok,I.os,I.bare,I.base,I.loc,I.cell,I.free,I.freeC,λp hp=>(List.mem_append.mp hp).elim (λz=>I.pin p (Y0z _ z)) (h p),I.hok,I.len⟩
theorem oE{N:List Str}(hN:N.Nodup){i j:Nat}(a:N[i]?=some x)(b:N[j]?=some x):i=j:=by
 obtain⟨h1,e1⟩:=List.getElem?_eq_some_iff.mp a;obtain⟨h2,e2⟩:=List.getElem?_eq_some_iff.mp b;exact(List.getElem_inj hN).mp (e1.trans e2.symm)
theorem yE(I:Inv X y0 Y H s)(hN:X.N.Nodup)(hi:X.N[i]?=some x)(hx:Loc X.env.scope x)(r:RelV v u)
  (h:∀s',Inv X y0 (Y.set i (some v)) H s'->(∃a,Heap.SameBut a s.heap s'.heap/\(a=X.env.locals\/X.env.cells.lookup x=some a))->Q () s') (hf:X.fn x=true\/X.env.scope.names.lookup x=some .local:=by first|exact .inl rfl|exact .inr rfl|assumption):wpAny M A (storeName X.env x u) Q E s:=by
 obtain⟨m,hn,hl⟩:=id I.loc
 have hcls:(X.env.scope.kind==.class||(X.env.scope.kind==.module&&X.env.locals !=X.env.globals))=false:=by rw[I.ok.kind];rfl
 have hiY:i<Y.length:=by rw[I.len];exact(List.getElem?_eq_some_iff.mp hi).1
 have cne:=I.cne
 have tracked:∀{a:Addr}{h':Heap},(∃o,s.heap.get? a=some o/\H a=none)->Heap.SameBut a s.heap h'->HOk X.prog X.w H h':=λ{a h'} ha hs b ob e=>by
  obtain⟨_,_,hfree⟩:=ha;refine(I.hok b ob e).stay (λc w' hc q=>(hs.2 c ?_).trans q) (λ_ q=>q) λ_ _ q=>q;rintro rfl;obtain rfl|hc:=hc
  .rw[hfree] at e;cases e
  .rw[hfree] at hc;cases hc
 obtain hk|hk:=hx
 .refine wpAny_storeName_local hk hn (λh' hn' hs=>?_) hcls
  obtain⟨oL,_,_,hoL,_⟩:=id hn;refine h _ ⟨I.ok,I.os,I.bare,⟨λb o e n hb hx=>?_,λb o e n hb hx=>?_,I.base.free,λb o e hx=>?_,I.base.tups,I.base.frzs,I.base.tbls⟩,⟨_,hn',λj y v' e1 e2 e3=>?_⟩,λy c e=>?_,I.free,I.freeC,λp hp=>?_,tracked ⟨oL,hoL,I.free⟩ hs,by simpa using I.len⟩ ⟨_,hs,.inl rfl⟩
  .exact(hs.2 b (S4z (L1z (R4z e) I.ok.above))).trans (I.base.keep b o e n hb hx)
  .obtain⟨sl,e1⟩:=I.base.slot b o e n hb hx
   exact⟨sl,(hs.2 b (S4z (L1z (R4z e) I.ok.above))).trans e1⟩
  .obtain⟨o',e1⟩:=I.base.there b o e hx
   exact⟨o',(hs.2 b (S4z (L1z (R4z e) I.ok.above))).trans e1⟩
  .by_cases hj:j=i
   .subst hj
    rw[hi] at e1;cases e1
    rw[List.getElem?_set_self hiY] at e2;cases e2;exact⟨u,r,.inl ⟨hk,by simp⟩⟩
   .rw[List.getElem?_set_ne (R5z hj)] at e2
    obtain⟨u',r',q⟩:=hl j y v' e1 e2 e3;refine⟨u',r',?_⟩;obtain⟨k,e⟩|⟨k,c,e,z⟩:=q
    .refine .inl ⟨k,?_⟩
     have:y≠x:=λe=>hj (oE hN e1 (e▸hi));simp[this,e]
    .exact .inr ⟨k,c,e,z.sameBut hs (cne y c e)⟩
  .obtain⟨w',z⟩:=I.cell y c e
   exact⟨w',z.sameBut hs (cne y c e)⟩
  .obtain⟨e,n,ne,nf,d⟩:=I.pin p hp
   exact⟨(hs.2 p.1 ne).trans e,n,ne,nf,d⟩
 .have hfn:X.fn x=true:=by
   obtain z|z:=hf
   .exact z
   .rw[z] at hk;cases hk
  obtain⟨c,hc⟩:=I.ok.has x (.inl hk);obtain⟨w',z⟩:=I.cell x c hc;refine wpAny_storeName_cell I.ok.kind hk hc z (λh' hc' hs=>?_);obtain⟨oc,hoc,hocd⟩:=id z;refine h {s with heap:=h'} ⟨I.ok,I.os,I.bare,⟨λb o e n hb hx=>?_,λb o e n hb hx=>?_,I.base.free,λb o e hx=>?_,I.base.tups,I.base.frzs,I.base.tbls⟩,⟨m,hn.sameBut hs (R5z (cne x c hc)),λj y v' e1 e2 e3=>?_⟩,λy c' e=>?_,I.free,I.freeC,λp hp=>?_,tracked ⟨oc,hoc,I.freeC x c hc⟩ hs,by simpa using I.len⟩ ⟨c,hs,.inr hc⟩
  .exact(hs.2 b (S4z (L1z (R4z e) (I.ok.cab x c hfn hc)))).trans (I.base.keep b o e n hb hx)
  .obtain⟨sl,e1⟩:=I.base.slot b o e n hb hx
   exact⟨sl,(hs.2 b (S4z (L1z (R4z e) (I.ok.cab x c hfn hc)))).trans e1⟩
  .obtain⟨o',e1⟩:=I.base.there b o e hx
   exact⟨o',(hs.2 b (S4z (L1z (R4z e) (I.ok.cab x c hfn hc)))).trans e1⟩
  .by_cases hj:j=i
   .subst hj
    rw[hi] at e1;cases e1
    rw[List.getElem?_set_self hiY] at e2;cases e2;exact⟨u,r,.inr ⟨.inl hk,c,hc,hc'⟩⟩
   .rw[List.getElem?_set_ne (R5z hj)] at e2
    obtain⟨u',r',q⟩:=hl j y v' e1 e2 e3;refine⟨u',r',?_⟩;obtain q|⟨k,c',e,z'⟩:=q
    .exact .inl q
    .refine .inr ⟨k,c',e,z'.sameBut hs ?_⟩
     rintro rfl;exact hj (oE hN e1 (I.ok.inj _ _ _ e hc▸hi))
  .by_cases hcc:c'=c
   .subst hcc;exact⟨_,hc'⟩
   .obtain⟨w2,z2⟩:=I.cell y c' e
    exact⟨w2,z2.sameBut hs hcc⟩
  .obtain⟨e,n,ne,nf,d⟩:=I.pin p hp
   refine⟨(hs.2 p.1 ?_).trans e,n,ne,nf,d⟩;intro q;rw[q,hoc] at e;exact d w' (by rw[<- (I3z e)];exact hocd)
theorem iT(I:Inv X y0 Y H s)(hN:X.N.Nodup)(hi:X.N[i]?=some x)(hx:Loc X.env.scope x)(r:RelV v u)
  (h:∀s',Inv X y0 (Y.set i (some v)) H s'->Q () s') (hf:X.fn x=true\/X.env.scope.names.lookup x=some .local:=by first|exact .inl rfl|exact .inr rfl|assumption):wpAny M A (storeName X.env x u) Q E s :=
 yE I hN hi hx r (λs' I' _=>h s' I') hf
theorem Inv.call'(I:Inv X y0 Y H s)(ho:s'.os=s.os)(u:Un (frs X.stack) ch H H' s.heap s'.heap)(hok:HOk X.prog X.w H' s'.heap)(hg:AllBare s'.gens)
  (hch:∀b∈ch,(b∈X.ex\/X.s₀.heap.objs.size<=b)/\b≠X.env.locals/\(∀x c,X.env.cells.lookup x=some c->c≠b)/\∀p∈X.pn++y0,p.1≠b):Inv X y0 Y H' s':=by
 obtain⟨h',g',d',t',o'⟩:=s';subst ho;exact I.call u hok hg hch
end
abbrev XK:=Value->Option Addr->Hp->Prop
abbrev St:=List (Option V)
abbrev VK:=V->Hp->Prop
abbrev TE:=St->Hp->VK->Prop
abbrev TT:=St->Hp->(Bool->Hp->Prop)->Prop
abbrev TA:=St->Hp->(List V->Hp->Prop)->Prop
structure Ends where
 nx:St->Hp->Prop
 rt:VK
 bk:St->Hp->Prop:=λ_ _=>False
 ct:St->Hp->Prop:=λ_ _=>False
abbrev TS:=Ends->St->Hp->Prop
def EP(X:Cx)(y0:List (Addr×Obj))(Y:St)(Q:VK)(u:Value)(s':Shared):Prop:=∃v H',Inv X y0 Y H' s'/\RelV v u/\Q v H'
def TP(X:Cx)(y0:List (Addr×Obj))(Y:St)(Q:Bool->Hp->Prop)(b:Bool)(s':Shared):Prop:=∃H',Inv X y0 Y H' s'/\Q b H'
def AP(X:Cx)(y0:List (Addr×Obj))(Y:St)(Q:List V->Hp->Prop)(us:List Value)(s':Shared):Prop:=∃vs H',Inv X y0 Y H' s'/\Vals vs us/\Q vs H'
def SP(X:Cx)(y0:List (Addr×Obj))(D:Ends)(f:Flow)(s':Shared):Prop :=
 match f with
 |.next=>∃Y' H',Inv X y0 Y' H' s'/\D.nx Y' H'
 |.brk=>∃Y' H',Inv X y0 Y' H' s'/\D.bk Y' H'
 |.cont=>∃Y' H',Inv X y0 Y' H' s'/\D.ct Y' H'
 |.ret u=>∃v Y' H',Inv X y0 Y' H' s'/\RelV v u/\D.rt v H'
def PE(X:Cx)(e:Expr)(t:TE):Prop :=
 ∀(y0:List (Addr×Obj))(s:Shared)(Y:St)(H:Hp)(Q:VK),Inv X y0 Y H s->t Y H Q->wpAny (model X.prog X.w) X.A (eval e X.env) (EP X y0 Y Q) X.xe s
def PT(X:Cx)(e:Expr)(t:TT):Prop :=
 ∀(y0:List (Addr×Obj))(s:Shared)(Y:St)(H:Hp)(Q:Bool->Hp->Prop),Inv X y0 Y H s->t Y H Q->wpAny (model X.prog X.w) X.A (isTrue e X.env (eval e X.env)) (TP X y0 Y Q) X.xe s
def PW(X:Cx)(e:Expr)(t:TT):Prop :=
 ∀(whole:Sem Value)(y0:List (Addr×Obj))(s:Shared)(Y:St)(H:Hp)(Q:Bool->Hp->Prop),Inv X y0 Y H s->t Y H Q->wpAny (model X.prog X.w) X.A (isTrue e X.env whole) (TP X y0 Y Q) X.xe s
theorem PW.pt(h:PW X e t):PT X e t:=h _
def PA(X:Cx)(es:List Expr)(t:TA):Prop :=
 ∀(pos:Pos)(y0:List (Addr×Obj))(s:Shared)(Y:St)(H:Hp)(Q:List V->Hp->Prop),Inv X y0 Y H s->t Y H Q->wpAny (model X.prog X.w) X.A (spliced (backTo pos (starEach es X.env))) (AP X y0 Y Q) X.xe s
def PS(X:Cx)(st:Stmt)(t:TS):Prop :=
 ∀(y0:List (Addr×Obj))(s:Shared)(Y:St)(H:Hp)(D:Ends),Inv X y0 Y H s->t D Y H->wpAny (model X.prog X.w) X.A (exec st X.env) (SP X y0 D) X.xe s
def PSs(X:Cx)(st:List Stmt)(t:TS):Prop :=
 ∀(y0:List (Addr×Obj))(s:Shared)(Y:St)(H:Hp)(D:Ends),Inv X y0 Y H s->t D Y H->wpAny (model X.prog X.w) X.A (execs st X.env) (SP X y0 D) X.xe s
theorem thn(h:wpAny M A t Q E s)(hQ:∀a s,Q a s->Q' a s):wpAny M A t Q' E s:=H5z h hQ λ_ _ x=>x
section
variable{X:Cx}
theorem bin(ha:PE X a ta)(hb:PE X b tb){R:V->V->Hp->Prop}(I:Inv X y0 Y H s)(h:ta Y H fun x H1=>tb Y H1 fun y H2=>R x y H2)
     {Q:α->Shared->Prop} {f:Value->Value->Sem α}
    (hf:∀v u s2 x y H2,Inv X y0 Y H2 s2->RelV x v->RelV y u->R x y H2->wpAny (model X.prog X.w) X.A (f v u) Q X.xe s2) :
    wpAny (model X.prog X.w) X.A (eval a X.env) (λv s₁=>wpAny (model X.prog X.w) X.A (eval b X.env) (λu s₂=>wpAny (model X.prog X.w) X.A (f v u) Q X.xe s₂) X.xe s₁) X.xe s:=by
  refine thn (ha y0 s Y H _ I h) λv s1 ⟨x,H1,I1,r1,q1⟩=>?_
  exact thn (hb y0 s1 Y H1 _ I1 q1) λu s2 ⟨y,H2,I2,r2,q2⟩=>hf v u s2 x y H2 I2 r1 r2 q2
def Vh(i:Nat):TE:=λY H Q=>∃v,Y[i]?=some (some v)/\Q v H
def tC(v:V):TE:=λ_ H Q=>Q v H
theorem m7(hN:X.N[i]?=some x)(hv:Vis X.env.scope x)(hd:(x==("__debug__":Str))=false:=by decide)(hcd:(x==("__classdict__":Str))=false:=by decide):PE X (.Name x pos) (Vh i):=by
 intro y0 s Y H Q I h;obtain⟨v,e,h⟩:=h;obtain⟨m,hn,hl⟩:=I.loc;obtain⟨u,r,l⟩:=hl i x v hN e hv;have fin:EP X y0 Y Q u s:=⟨v,H,I,r,h⟩;obtain⟨hk,hm⟩|⟨hk,c,hc,hcell⟩:=l
 .exact wpAny_Name (wpAny_loadName_local I.ok.kind hk hn hm fin) hd
 .obtain hk|hk:=hk
  .exact wpAny_Name (wpAny_loadName_cell I.ok.kind hk hc hcell fin) hd
  .exact wpAny_Name (wpAny_loadName_free I.ok.kind hk hc hcell fin hcd) hd
theorem m8{i j pos}:PE X (.Constant (.int i) j pos) (tC (.int i)):=λ_ _ _ H _ I h=>wpAny_Constant_int ⟨.int i,H,I.tok _,⟨_,rfl⟩,h⟩
theorem SQ{b j pos}:PE X (.Constant (.bool b) j pos) (tC (.bl b)):=λ_ _ _ H _ I h=>Constant_bool ⟨.bl b,H,I,rfl,h⟩
theorem Hj{j pos}:PE X (.Constant .none j pos) (tC .non):=λ_ _ _ H _ I h=>Constant_none ⟨.non,H,I,rfl,h⟩
theorem lK{x j pos}:PE X (.Constant (.str x) j pos) (tC (.str x)):=λ_ _ _ H _ I h=>Calls.Constant_str ⟨.str x,H,I.tok _,⟨_,rfl⟩,h⟩
def Gl(X:Cx)(x:Str):Prop:=X.env.kindOf x=some .globalImplicit
theorem gq(I:Inv X y0 Y H s)(hg:Gl X x)(hm:X.mg x=some u)(h:Q u s)
  (hd:(x==("__debug__":Str))=false:=by decide):wpAny (model X.prog X.w) X.A (eval (.Name x pos) X.env) Q E s :=
 Calls.Name_function_global I.ok.kind hg (Calls.loadGlobal_global (by rw[I.ok.glob];exact I.mod.glob.keeps I.bk) hm h) hd
theorem jP(I:Inv X y0 Y H s)(hg:Gl X x)(hm:X.mg x=none)(hv:bootBuiltins x=some u)(h:Q u s)
  (hn:x≠"__name__":=by decide) (hd:(x==("__debug__":Str))=false:=by decide):wpAny (model X.prog X.w) X.A (eval (.Name x pos) X.env) Q E s:=by
 obtain⟨mb,h1,h2⟩:=I.mod.blt;exact Calls.Name_function_global I.ok.kind hg (Calls.loadGlobal_builtin (by rw[I.ok.glob];exact I.mod.glob.keeps I.bk) hm (by rw[I.ok.blt];exact h1.keeps I.bk) ((h2 x hn).trans hv) h) hd
theorem lM(hg:Gl X x)(hm:X.mg x=some u)(r:RelV v u)(hd:(x==("__debug__":Str))=false:=by decide):PE X (.Name x pos) (tC v) :=
 λ_ _ _ H _ I h=>gq I hg hm ⟨v,H,I,r,h⟩ hd
theorem sJ(hg:Gl X x)(hm:X.mg x=none)(hv:bootBuiltins x=some u)(r:RelV v u)(hn:x≠"__name__":=by decide)(hd:(x==("__debug__":Str))=false:=by decide):PE X (.Name x pos) (tC v) :=
 λ_ _ _ H _ I h=>jP I hg hm hv ⟨v,H,I,r,h⟩ hn hd
def t2I(ta tb:TE)(k:Int->Int->Hp->Prop):St->Hp->Prop:=λY H=>ta Y H λx H1=>tb Y H1 λy H2=>∃i j,x=.int i/\y=.int j/\k i j H2
variable{a b:Expr}{ta tb:TE}{pos:Pos}
def PC(X:Cx)(op:CmpOp)(a b:Expr)(t:TE):Prop :=
  ∀(y0:List (Addr×Obj))(s:Shared)(Y:St)(H:Hp)(Q:VK), Inv X y0 Y H s->t Y H Q ->
    wpAny (model X.prog X.w) X.A (eval a X.env) (λv s₁=>wpAny (model X.prog X.w) X.A (eval b X.env) (λu s₂=>wpAny (model X.prog X.w) X.A (compareOp op v u) (EP X y0 Y Q) X.xe s₂) X.xe s₁) X.xe s
theorem uV(b:Expr)(h:op≠.In)(h2:op≠.NotIn):behindInMarks op b=false:=by
 have e1:(op==CmpOp.In)=false:=by cases op<;>first|rfl|exact absurd rfl h
 have e2:(op==CmpOp.NotIn)=false:=by cases op<;>first|rfl|exact absurd rfl h2
 cases b<;>simp[behindInMarks,e1,e2]
def Vi(p:Int->Int->Bool)(ta tb:TE):TE:=λY H Q=>t2I ta tb (λi j H2=>Q (.bl (p i j)) H2) Y H
abbrev Wi:TE->TE->TE:=Vi λi j=>decide (i=j)
theorem Ov(ha:PE X a ta)(hb:PE X b tb)
  (rule:∀(i j:Int)(t u:Tok)(Q:Value->Shared->Prop)(s:Shared),Q (.bool (p i j)) s->wpAny (model X.prog X.w) X.A (compareOp op (.int i t) (.int j u)) Q X.xe s):PC X op a b (Vi p ta tb):=by
 intro y0 s Y H Q I h;refine bin ha hb I h λv u s2 x y H2 I2 rx ry q=>?_;obtain⟨i,j,rfl,rfl,q⟩:=q;obtain⟨t,rfl⟩:=rx;obtain⟨t',rfl⟩:=ry;exact rule i j t t' _ s2 ⟨.bl _,H2,I2,rfl,q⟩
theorem Ow(ha:PE X a ta)(hb:PE X b tb):PC X .Eq a b (Wi ta tb):=Ov ha hb λ_ _ _ _ _ _ h=>eq_int (by rw[Bool.beq_eq_decide_eq];exact h)
def Wb(ta:TE):TE:=λY H Q=>ta Y H λx H1=>Q (.bl (decide (x=.non))) H1
theorem RelV.none_iff(r:RelV x v):(v==Value.none)=decide (x=.non):=by
 cases x with
 |non=>cases r;rfl
 |bl _=>cases r;rfl
 |int _=>obtain⟨t,rfl⟩:=r;rfl
 |str _=>obtain⟨t,rfl⟩:=r;rfl
 |byt _=>obtain⟨t,rfl⟩:=r;rfl
 |flt _=>obtain⟨t,rfl⟩:=r;rfl
 |ref _=>cases r;rfl
 |ty _=>cases r;rfl
theorem Ou{j pos'}(ha:PE X a ta):PC X .Is a (.Constant .none j pos') (Wb ta):=by
 intro y0 s Y H Q I h;exact thn (ha y0 s Y H _ I h) λv s1 ⟨x,H1,I1,r1,q1⟩=>Constant_none (is_none_gen ⟨.bl _,H1,I1,by rw[r1.none_iff];rfl,q1⟩)
def tB(t:TE):TT:=λY H Q=>t Y H λx H1=>∃c,x=.bl c/\Q c H1
theorem Oq(h:PC X op a b t)(h1:behindInMarks op b=false:=by first|exact uV _ (by decide) (by decide)|rfl):PE X (.Compare a [op] [b] pos) t:=λy0 s Y H Q I hw=>wpAny_Compare1 (h y0 s Y H Q I hw) h1
theorem yX(h:PC X op a b t)(h1:behindInMarks op b=false:=by first|exact uV _ (by decide) (by decide)|rfl):PT X (.Compare a [op] [b] pos) (tB t):=by
 intro y0 s Y H Q I hw;refine wpAny_isTrue_Compare1 (thn (h y0 s Y H _ I hw) λv s1 h1=>thn h1 λu s2 h2=>thn h2 λc s3 ⟨x,H1,I1,r1,q1⟩=>?_) h1;obtain⟨d,rfl,q⟩:=q1;cases r1;exact E2z ⟨H1,I1,q⟩
theorem yV(h:PE X e t)(he:∀whole,isTrue e X.env whole=(do let v <- whole;standAt e.pos;holding [v] (truthy v)):=by intro _;rfl):PT X e (tB t):=by
 intro y0 s Y H Q I hw;refine isTrue_plain (thn (h y0 s Y H _ I hw) λv s1 ⟨x,H1,I1,r1,q1⟩=>?_) (he _);obtain⟨d,rfl,q⟩:=q1;cases r1;exact E2z ⟨H1,I1,q⟩
variable{tA tB':TT}{rest:List Expr}
def Wo(t u:TT):TT:=λY H Q=>t Y H λc H1=>if c=true then u Y H1 Q else Q false H1
def tOr(t u:TT):TT:=λY H Q=>t Y H λc H1=>if c=true then Q true H1 else u Y H1 Q
def V9(t:TT):TT:=λY H Q=>t Y H λc H1=>Q (!c) H1
theorem Jw(ha:PT X a tA):PW X (.BoolOp .And [a] pos) tA:=by
 intro wh y0 s Y H Q I h;refine isTrue_and (thn (ha y0 s Y H Q I h) λc s1 e=>?_)
 cases c with
 |true=>exact isTrue_and_nil e
 |false=>exact e
theorem G6(ha:PT X a tA):PW X (.BoolOp .Or [a] pos) tA:=by
 intro wh y0 s Y H Q I h;refine isTrue_or (thn (ha y0 s Y H Q I h) λc s1 e=>?_)
 cases c with
 |false=>exact isTrue_or_nil e
 |true=>exact e
theorem G7(ha:PT X a tA)(hb:PW X (.BoolOp .And (b::rest) pos) tB'):PW X (.BoolOp .And (a::b::rest) pos) (Wo tA tB'):=by
 intro wh y0 s Y H Q I h;refine isTrue_and (thn (ha y0 s Y H _ I h) λc s1 ⟨H1,I1,q1⟩=>?_)
 cases c with
 |true=>exact hb wh y0 s1 Y H1 Q I1 q1
 |false=>exact⟨H1,I1,q1⟩
theorem Jv(ha:PT X a tA)(hb:PW X (.BoolOp .Or (b::rest) pos) tB'):PW X (.BoolOp .Or (a::b::rest) pos) (tOr tA tB'):=by
 intro wh y0 s Y H Q I h;refine isTrue_or (thn (ha y0 s Y H _ I h) λc s1 ⟨H1,I1,q1⟩=>?_)
 cases c with
 |true=>exact⟨H1,I1,q1⟩
 |false=>exact hb wh y0 s1 Y H1 Q I1 q1
theorem yW(ha:PT X a tA):PT X (.UnaryOp .Not a pos) (V9 tA):=by
 exact λy0 s Y H Q I h=>isTrue_not (ha y0 s Y H (λc H1=>Q (!c) H1) I h)
def RZ(ta tb:TE):TE:=λY H Q=>ta Y H λx H1=>∃c,x=.bl c/\if c=true then tb Y H1 Q else Q (.bl false) H1
def V8(ta tb:TE):TE:=λY H Q=>ta Y H λx H1=>∃c,x=.bl c/\if c=true then Q (.bl true) H1 else tb Y H1 Q
def RN(ta:TE):TE:=λY H Q=>ta Y H λx H1=>∃c,x=.bl c/\Q (.bl (!c)) H1
theorem Om{op}(h:PE X a t):PE X (.BoolOp op [a] pos) t:=λy0 s Y H Q I hw=>BoolOp_one (h y0 s Y H Q I hw)
theorem Hl(ha:PE X a ta)(hb:PE X (.BoolOp .And (b::rest) pos) tb):PE X (.BoolOp .And (a::b::rest) pos) (RZ ta tb):=by
 intro y0 s Y H Q I h;refine BoolOp_and (thn (ha y0 s Y H _ I h) λv s1 ⟨x,H1,I1,r1,q1⟩=>?_);obtain⟨c,rfl,q1⟩:=q1;cases r1;refine E2z ?_
 cases c with
 |true=>exact hb y0 s1 Y H1 Q I1 q1
 |false=>exact⟨.bl false,H1,I1,rfl,q1⟩
theorem Ol(ha:PE X a ta)(hb:PE X (.BoolOp .Or (b::rest) pos) tb):PE X (.BoolOp .Or (a::b::rest) pos) (V8 ta tb):=by
 intro y0 s Y H Q I h;refine BoolOp_or (thn (ha y0 s Y H _ I h) λv s1 ⟨x,H1,I1,r1,q1⟩=>?_);obtain⟨c,rfl,q1⟩:=q1;cases r1;refine E2z ?_
 cases c with
 |false=>exact hb y0 s1 Y H1 Q I1 q1
 |true=>exact⟨.bl true,H1,I1,rfl,q1⟩
theorem Oo(ha:PE X a ta):PE X (.UnaryOp .Not a pos) (RN ta):=by
 intro y0 s Y H Q I h;refine UnaryOp_ (thn (ha y0 s Y H _ I h) λv s1 ⟨x,H1,I1,r1,q1⟩=>?_);obtain⟨c,rfl,q1⟩:=q1;cases r1;exact not_of (E2z ⟨.bl (!c),H1,I1,rfl,q1⟩)
def tIf(t:TT)(ta tb:TE):TE:=λY H Q=>t Y H λc H1=>if c=true then ta Y H1 Q else tb Y H1 Q
theorem uT(hc:PT X c tA)(ha:PE X a ta)(hb:PE X b tb):PE X (.IfExp c a b pos) (tIf tA ta tb):=by
 intro y0 s Y H Q I h;refine wpAny_IfExp (thn (hc y0 s Y H _ I h) λd s1 ⟨H1,I1,q1⟩=>?_)
 cases d with
 |true=>exact ha y0 s1 Y H1 Q I1 q1
 |false=>exact hb y0 s1 Y H1 Q I1 q1
end
def SqL(K:Zf)(H:Hp)(a:Addr)(xs:List V):Prop :=
 Rd H a (.lst xs) \/
  ∃(o:Obj)(its:Array Value)(n:Nat),K.lookup a=some o/\o.cls=.type "list"/\o.dict=none/\o.data=.seq its n/\its.size<=sizeLine/\Vals xs its.toList
def SqT(K:Zf)(H:Hp)(a:Addr)(xs:List V):Prop :=
 Rd H a (.tup xs) \/
  ∃(o:Obj)(its:Array Value)(n:Nat),K.lookup a=some o/\o.cls=.type "tuple"/\o.data=.seq its n/\its.size<=sizeLine/\Vals xs its.toList
def Xj:Value->Option V
 |.none=>some .non
 |.bool b=>some (.bl b)
 |.int i _=>some (.int i)
 |.str x _=>some (.str x)
 |.bytes b _=>some (.byt b)
 |.float b _=>some (.flt b)
 |.ref a=>some (.ref a)
 |.type n=>some (.ty n)
 |_=>none
theorem RelV.abs(r:RelV x u):Xj u=some x:=by
 cases x with
 |non=>cases r;rfl
 |bl _=>cases r;rfl
 |int _=>obtain⟨t,rfl⟩:=r;rfl
 |str _=>obtain⟨t,rfl⟩:=r;rfl
 |byt _=>obtain⟨t,rfl⟩:=r;rfl
 |flt _=>obtain⟨t,rfl⟩:=r;rfl
 |ref _=>cases r;rfl
 |ty _=>cases r;rfl
theorem RelV.inj(r:RelV x u)(q:RelV y u):x=y:=I3z (r.abs.symm.trans q.abs)
theorem Vals.inj:∀{xs ys:List V}{us:List Value},Vals xs us->Vals ys us->xs=ys
 |_,_,_,.nil,.nil=>rfl
 |_,_,_,.cons r t,.cons r' t'=>by rw[r.inj r',Vals.inj t t']
section
variable{X:Cx}{y0:List (Addr×Obj)}{Y:St}{H:Hp}{s:Shared}{a:Addr}{xs ys:List V}
theorem SqL.of{K:Zf}(h:H a=some (.lst xs)):SqL K H a xs:=.inl (.inl h)
theorem SqT.of{K:Zf}(h:H a=some (.tup xs)):SqT K H a xs:=.inl (.inl h)
theorem Inv.list(I:Inv X y0 Y H s)(h:SqL X.K H a xs):∃its:List Value,Vals xs its/\PlainL s.heap a its.toArray/\xs.length<=sizeLine:=by
 obtain h|⟨o,its,n,hk,hc,hd,hs,hz,r⟩:=h
 .obtain⟨z,its,n,r,e⟩:=h.ok I.hok
  exact⟨its,r,⟨_,n,e,rfl,rfl,rfl⟩,z⟩
 .refine⟨its.toList,r,⟨o,n,I.kIn a o hk,hc,hd,by simpa using hs⟩,?_⟩
  have e:=r.length;simp[D1z] at e;omega
theorem Inv.tuple(I:Inv X y0 Y H s)(h:SqT X.K H a xs):∃its:List Value,Vals xs its/\IsTup s.heap a its.toArray/\xs.length<=sizeLine:=by
 obtain h|⟨o,its,n,hk,hc,hs,hz,r⟩:=h
 .obtain⟨z,its,r,p⟩:=h.ok I.hok
  exact⟨its,r,p,z⟩
 .refine⟨its.toList,r,⟨o,I.kIn a o hk,hc,n,by simpa using hs⟩,?_⟩
  have e:=r.length;simp[D1z] at e;omega
theorem Inv.list_inj(I:Inv X y0 Y H s)(h:SqL X.K H a xs)(h':SqL X.K H a ys):xs=ys:=by
 obtain⟨its,r,⟨o,n,e,_,_,d⟩,_⟩:=I.list h;obtain⟨its',r',⟨o',n',e',_,_,d'⟩,_⟩:=I.list h';rw[e] at e';cases e';rw[d] at d';injection d' with d1 _
 have:its=its':=by simpa using congrArg Array.toList d1
 subst this;exact r.inj r'
theorem Inv.tuple_inj(I:Inv X y0 Y H s)(h:SqT X.K H a xs)(h':SqT X.K H a ys):xs=ys:=by
 obtain⟨its,r,⟨o,e,_,n,d⟩,_⟩:=I.tuple h;obtain⟨its',r',⟨o',e',_,n',d'⟩,_⟩:=I.tuple h';rw[e] at e';cases e';rw[d] at d';injection d' with d1 _
 have:its=its':=by simpa using congrArg Array.toList d1
 subst this;exact r.inj r'
end
abbrev Cx.wish(X:Cx)(E:Value->Shared->Prop):Cx:={X with xe:=E}
abbrev Cx.nox(X:Cx):Cx:=X.wish λ_ _=>False
theorem Cx.Ok.wish{X:Cx}(ok:X.Ok)(E:Value->Shared->Prop):(X.wish E).Ok :=
 ⟨ok.mod,ok.kind,ok.glob,ok.blt,ok.above,ok.inj,ok.has,ok.cab,ok.hd,ok.frames,ok.stk,ok.exf,ok.bs,ok.bsz,ok.noex,ok.exfs,ok.funs,ok.frf⟩
theorem Cx.Ok.unwish{X:Cx}(ok:(X.wish E).Ok):X.Ok :=
 ⟨ok.mod,ok.kind,ok.glob,ok.blt,ok.above,ok.inj,ok.has,ok.cab,ok.hd,ok.frames,ok.stk,ok.exf,ok.bs,ok.bsz,ok.noex,ok.exfs,ok.funs,ok.frf⟩
section
variable{X:Cx}{y0:List (Addr×Obj)}{Y:St}{H:Hp}{s:Shared}{E:Value->Shared->Prop}
theorem Inv.wish(I:Inv X y0 Y H s)(E:Value->Shared->Prop):Inv (X.wish E) y0 Y H s:=⟨I.ok.wish E,I.os,I.bare,I.base,I.loc,I.cell,I.free,I.freeC,I.pin,I.hok,I.len⟩
theorem Inv.unwish(I:Inv (X.wish E) y0 Y H s):Inv X y0 Y H s:=⟨I.ok.unwish,I.os,I.bare,I.base,I.loc,I.cell,I.free,I.freeC,I.pin,I.hok,I.len⟩
theorem SP.unwish(h:SP (X.wish E) y0 D f s'):SP X y0 D f s':=by
 cases f with
 |next=>obtain⟨Y',H',I,q⟩:=h;exact⟨Y',H',I.unwish,q⟩
 |brk=>obtain⟨Y',H',I,q⟩:=h;exact⟨Y',H',I.unwish,q⟩
 |cont=>obtain⟨Y',H',I,q⟩:=h;exact⟨Y',H',I.unwish,q⟩
 |ret u=>obtain⟨v,Y',H',I,r,q⟩:=h;exact⟨v,Y',H',I.unwish,r,q⟩
end
section
variable{X:Cx}{st:Stmt}{rest:List Stmt}{t u:TS}{e:Expr}{te:TE}{pos:Pos}
def Nr:TS:=λD Y H=>D.nx Y H
def V5(t u:TS):TS:=λD Y H=>t {D with nx:=u D} Y H
theorem fB:PSs X [] Nr:=λ_ _ Y H _ I h=>wpAny_execs_nil ⟨Y,H,I,h⟩
theorem aH(h1:PS X st t)(h2:PSs X rest u):PSs X (st::rest) (V5 t u):=by
 intro y0 s Y H D I h;refine wpAny_execs_cons (thn (h1 y0 s Y H {D with nx:=u D} I h) λf s1 q=>?_)
 cases f with
 |next =>
  obtain⟨Y',H',I',q⟩:=q;exact h2 y0 s1 Y' H' D I' q
 |ret v=>exact q
 |brk=>exact q
 |cont=>exact q
theorem aW(h1:PS X st t):PSs X [st] t:=by
 intro y0 s Y H D I h;refine wpAny_execs_cons (thn (h1 y0 s Y H D I h) λf s1 q=>?_)
 cases f with
 |next=>exact wpAny_execs_nil q
 |ret v=>exact q
 |brk=>exact q
 |cont=>exact q
theorem Jz:PS X (.Pass pos) Nr:=λ_ _ Y H _ I h=>wpAny_Pass ⟨Y,H,I,h⟩
theorem Inv.quiet(I:Inv X y0 Y H s):interactive X.env=false:=by simp[interactive,I.ok.kind]
def RV(te:TE):TS:=λD Y H=>te Y H λ_ H1=>D.nx Y H1
theorem bW(he:PE X e te)(hs:swapsWith e none pos.line X.env=pure false:=by rfl):PS X (.Expr e pos) (RV te):=by
 exact λy0 s Y H D I h=>wpAny_Expr_any (thn (he y0 s Y H _ I h) λv s1 ⟨x,H1,I1,r1,q1⟩=>⟨Y,H1,I1,q1⟩) I.quiet hs
def V6(te:TE):TS:=λD Y H=>te Y H D.rt
theorem cI(he:PE X e te):PS X (.Return (some e) pos) (V6 te):=by
 exact λy0 s Y H D I h=>wpAny_Return_some (thn (he y0 s Y H _ I h) λv s1 ⟨x,H1,I1,r1,q1⟩=>⟨x,Y,H1,I1,r1,q1⟩)
def RM:TS:=λD _ H=>D.rt .non H
theorem Jy:PS X (.Return none pos) RM:=λ_ _ Y H _ I h=>wpAny_Return_none ⟨.non,Y,H,I,rfl,h⟩
def Wd(c:TT)(t u:TS):TS:=λD Y H=>c Y H λb H1=>if b=true then t D Y H1 else u D Y H1
theorem mU(hc:PT X c tc)(ha:PSs X a t)(hb:PSs X b u):PS X (.If c a b pos) (Wd tc t u):=by
 intro y0 s Y H D I h;refine wpAny_If (thn (hc y0 s Y H _ I h) λd s1 ⟨H1,I1,q1⟩=>?_)
 cases d with
 |true=>exact ha y0 s1 Y H1 D I1 q1
 |false=>exact hb y0 s1 Y H1 D I1 q1
end
abbrev TG:=V->St->Hp->(St->Hp->Prop)->Prop
abbrev TGs:=List V->St->Hp->(St->Hp->Prop)->Prop
def PG(X:Cx)(target:Expr)(t:TG):Prop :=
  ∀(y0:List (Addr×Obj))(s:Shared)(Y:St)(H:Hp)(v:V)(u:Value)(Q:St->Hp->Prop), Inv X y0 Y H s->RelV v u->t v Y H Q ->
    wpAny (model X.prog X.w) X.A (assign target X.env u) (λ_ s'=>∃Y' H',Inv X y0 Y' H' s'/\Q Y' H') X.xe s
def PGs(X:Cx)(ts:List Expr)(t:TGs):Prop :=
  ∀(y0:List (Addr×Obj))(s:Shared)(Y:St)(H:Hp)(vs:List V)(us:List Value)(Q:St->Hp->Prop), Inv X y0 Y H s->Vals vs us->t vs Y H Q ->
    wpAny (model X.prog X.w) X.A (assignInOrder ((assignEach ts X.env).map (·.2)) us) (λ_ s'=>∃Y' H',Inv X y0 Y' H' s'/\Q Y' H') X.xe s
section
variable{X:Cx}{pos:Pos}
def Qi(i:Nat):TG:=λv Y H Q=>Q (Y.set i (some v)) H
theorem JH(hN:X.N.Nodup)(hi:X.N[i]?=some x)(hx:Loc X.env.scope x)(hf:X.fn x=true\/X.env.scope.names.lookup x=some .local:=by first|exact .inl rfl|exact .inr rfl|assumption):PG X (.Name x pos) (Qi i):=by
 exact λy0 s Y H v u Q I r h=>wpAny_assign_Name (iT I hN hi hx r (λs' I'=>⟨_,H,I',h⟩) hf)
def Xe:TGs:=λvs Y H Q=>vs=[]/\Q Y H
def Um(t:TG)(u:TGs):TGs:=λvs Y H Q=>∃v r,vs=v::r/\t v Y H λY' H'=>u r Y' H' Q
theorem JG:PGs X [] Xe:=by
 intro y0 s Y H vs us Q I r h;obtain⟨e,h⟩:=h;subst e;cases r;exact assignInOrder_nil ⟨Y,H,I,h⟩
theorem Dw(h1:PG X e t)(h2:PGs X es u)
  (hs:(assignEach (e::es) X.env).map (·.2)=assign e X.env::(assignEach es X.env).map (·.2):=by rfl):PGs X (e::es) (Um t u):=by
 intro y0 s Y H vs us Q I r h;obtain⟨v,vr,e1,h⟩:=h;subst e1
 cases r with
 |cons r rr =>
  rw[hs];exact assignInOrder_cons (thn (h1 y0 s Y H _ _ _ I r h) λ_ s1 ⟨Y1,H1,I1,q1⟩=>(h2 y0 s1 Y1 H1 _ _ Q I1 rr q1))
def gTup(K:Zf)(n:Nat)(t:TGs):TG:=λv Y H Q=>∃a xs,v=.ref a/\SqT K H a xs/\xs.length=n/\t xs Y H Q
theorem Hh(hc:X.calm=true)(h:PGs X es t)
  (hn:(assignEach es X.env).length=n:=by rfl) (hst:(assignEach es X.env).findIdx? (·.1)=none:=by rfl):PG X (.Tuple es k pos) (gTup X.K n t):=by
 intro y0 s Y H v u Q I r hw;obtain⟨a,xs,e1,hq,hl,hw⟩:=hw;subst e1;cases r;obtain⟨its,rv,ht,hz⟩:=I.tuple hq;refine assign_Tuple_tuple (I.ok.hd hc) ht (by simp[hn,<- hl,rv.length]) hst λh' hx=>?_;have I1:=I.kept (t':=s.toks) λb o e=>hx b o (S4z (R4z e)) e;exact h y0 _ Y H xs _ Q I1 (by simpa using rv) hw
def Vj(te:TE)(g:TG):TS:=λD Y H=>te Y H λx H1=>g x Y H1 D.nx
theorem Hf(he:PE X e te)(hg:PG X tg g)(hs:swapsWithSole [tg] e pos.line X.env=pure false:=by rfl)(hw:swappedStores [tg] e X.env=pure none:=by rfl)
  (h1:(assignEach [tg] X.env).map (·.2)=[assign tg X.env]:=by rfl):PS X (.Assign [tg] e pos) (Vj te g):=by
 intro y0 s Y H D I h;refine wpAny_Assign_stores (thn (he y0 s Y H _ I h) λv s1 ⟨x,H1,I1,r1,q1⟩=>?_) hs hw;rw[h1];exact thn (hg y0 s1 Y H1 x v _ I1 r1 q1) λ_ s2 q=>q
theorem g8(hN:X.N.Nodup)(hi:X.N[i]?=some x)(hx:Loc X.env.scope x)(he:PE X e te)(hs:swapsWith e (some (.Name x pos')) pos.line X.env=pure false:=by rfl)(hf:X.fn x=true\/X.env.scope.names.lookup x=some .local:=by first|exact .inl rfl|exact .inr rfl|assumption) :
  PS X (.Assign [.Name x pos'] e pos) (Vj te (Qi i)):=by
 intro y0 s Y H D I h;exact wpAny_Assign_Name (thn (he y0 s Y H _ I h) λv s1 ⟨y,H1,I1,r1,q1⟩=>(iT I1 hN hi hx r1 (λs2 I2=>⟨_,H1,I2,q1⟩) hf)) hs
def V7(i j:Nat)(ta:TA):TS:=λD Y H=>ta Y H λvs H1=>∃v w,vs=[v,w]/\D.nx ((Y.set i (some v)).set j (some w)) H1
theorem G8{kt k2 pt2}(hc:X.calm=true)(hN:X.N.Nodup)(hi:X.N[i]?=some x)(hj:X.N[j]?=some y)(hij:i≠j)
  (hx:X.env.scope.names.lookup x=some .local) (hy:X.env.scope.names.lookup y=some .local) (ha:PA X [a,b] ta)
  (hw:swappedStores [.Tuple [.Name x px,.Name y py] kt pt] (.Tuple [a,b] k2 pt2) X.env=pure (some [x,y]))
  (hs:swapsWithSole [.Tuple [.Name x px,.Name y py] kt pt] (.Tuple [a,b] k2 pt2) pos.line X.env=pure false:=by rfl) :
  PS X (.Assign [.Tuple [.Name x px,.Name y py] kt pt] (.Tuple [a,b] k2 pt2) pos) (V7 i j ta):=by
 intro y0 s Y H D I h;refine I5z (H4z ?_);refine I5z (J5z ?_);refine I5z (Tuple_ (thn (ha _ y0 s Y H _ I h) λus s1 ⟨vs,H1,I1,r1,q1⟩=>?_));obtain⟨v,w,e1,q1⟩:=q1;subst e1
 obtain⟨u1,u2,rfl,rv,rw'⟩:∃u1 u2,us=[u1,u2]/\RelV v u1/\RelV w u2:=by
  cases r1 with
  |cons p q =>
   cases q with
   |cons p' q' =>
    cases q';exact⟨_,_,rfl,p,p'⟩
 refine F2z ?_ (by show 2<=sizeLine;decide)
 have I2:Inv X y0 Y H1 {s1 with heap:=s1.heap.push {cls:=.type "tuple",data:=.seq [u1,u2].toArray} }:=I1.kept λb o e=>Heap.get?_push_of_some _ e;rw[hw];refine I5z (J5z ?_);refine I5z (K5z (I5z (unpackItems_tuple (items := #[u1,u2]) (I.ok.hd hc) (IsTup.new s1.heap _) λh' hx'=>?_)));have I3:=I2.kept (t':=s1.toks) λb o e=>hx' b o (S4z (R4z e)) e;refine I5z (assignInOrder_cons (wpAny_bindName (iT I3 hN hj (.inl hy) rw' (λs2 I4=>?_) (.inr hy))));refine assignInOrder_cons (wpAny_bindName (iT I4 hN hi (.inl hx) rv (λs3 I5=>assignInOrder_nil (J5z ?_)) (.inr hx)));rw[List.set_comm _ _ (R5z hij)] at I5;exact⟨_,H1,I5,q1⟩
end
section
variable{X:Cx}{pos:Pos}
end
structure It where
 go:Nat->Hp->Prop
 yld:Nat->Hp->V->Hp->Prop
 stop:Nat->Hp->Prop
def xJ(X:Cx)(y0:List (Addr×Obj))(H:Hp)(b:Addr):Prop :=
 H b=none/\b≠X.env.locals/\b∉X.fs/\(b∈X.ex\/X.s₀.heap.objs.size<=b)/\(∀x c,X.env.cells.lookup x=some c->c≠b)/\∀p∈X.pn++y0,p.1≠b
theorem Inv.fpOk(I:Inv X y0 Y H s)(hb:s.heap.objs.size<=b)(hn:H' b=none):xJ X y0 H' b:=by
 refine⟨hn,V4z (L1z I.lt hb),I.nofs hb,.inr (T4z I.sz hb),λx c e z=>?_,λp hp z=>?_⟩
 .obtain⟨v,q⟩:=I.cell x c e
  exact absurd (L1z q.lt (by rw[z];exact hb)) (G4z _)
 .exact absurd (L1z (R4z (I.pin p hp).1) (by rw[z];exact hb)) (G4z _)
structure Turn(P:Program)(w:World)(K:Zf)(tg:Expr)(J:It)(fp:List Addr)(it:Addr)(tn:Nat->Heap->Prop):Prop where
 mem:it∈fp
 obj:∀i h,tn i h->∀b∈fp,∃o,h.get? b=some o/\∀v,o.data≠.cell v
 keep:∀i h h',tn i h->(∀b∈fp,∀o,h.get? b=some o->h'.get? b=some o)->tn i h'
 item:∀(X:Cx),X.prog=P->X.w=w->X.K=K->X.calm=true->∀(i:Nat)(y0:List (Addr×Obj))(s:Shared)(Y:St)(H:Hp)(E:Value->Shared->Prop),Inv X y0 Y H s->(∀b∈fp,xJ X y0 H b)->tn i s.heap->J.go i H ->
  wpAny (model P w) X.A (pyNext (.ref it)) (λr s1=>∃u,r=some u /\
   wpAny (model P w) X.A (letOwnedTupleGo tg (.ref it) u) (λ_ s2=>∃x H',Inv X y0 Y H' s2/\RelV x u/\J.yld i H x H'/\tn (i+1) s2.heap/\∀b∈fp,H' b=none) E s1) E s
 done:∀(X:Cx),X.prog=P->X.w=w->X.K=K->X.calm=true->∀(i:Nat)(y0:List (Addr×Obj))(s:Shared)(Y:St)(H:Hp)(E:Value->Shared->Prop),Inv X y0 Y H s->(∀b∈fp,xJ X y0 H b)->tn i s.heap->J.stop i H ->
  wpAny (model P w) X.A (pyNext (.ref it)) (λr s1=>r=none/\Inv X y0 Y H s1) E s
 self:∀(A:Around)(i:Nat)(s:Shared)(Q:Value->Shared->Prop)(E:Value->Shared->Prop),tn i s.heap->Q (.ref it) s->wpAny (model P w) A (pyIter (.ref it)) Q E s
abbrev TI:=St->Hp->(It->Hp->Prop)->Prop
def PIE(X:Cx)(y0:List (Addr×Obj))(Y:St)(tg:Expr)(R:It->Hp->Prop)(itv:Value)(s2:Shared):Prop :=
 ∃(it:Addr)(fp:List Addr)(tn:Nat->Heap->Prop)(J:It)(H':Hp),itv=.ref it/\Inv X y0 Y H' s2/\Turn X.prog X.w X.K tg J fp it tn/\tn 0 s2.heap/\(∀b∈fp,xJ X y0 H' b)/\R J H'
def PI(X:Cx)(tg iter:Expr)(wi:TI):Prop :=
  ∀(y0:List (Addr×Obj))(s:Shared)(Y:St)(H:Hp)(R:It->Hp->Prop), Inv X y0 Y H s->wi Y H R ->
    wpAny (model X.prog X.w) X.A (eval iter X.env) (λv s1=>wpAny (model X.prog X.w) X.A (pyIter v) (PIE X y0 Y tg R) X.xe s1) X.xe s
theorem wO(ho:s.heap.get? it=some o)(hc:o.cls=.type n)(hd:o.data=.fields vs)
    (hn:["enumerate","zip","dict_itemiterator","dict_reverseitemiterator","odict_iterator","itertools.zip_longest","itertools.pairwise"].contains n=false) (hQ:Q () s):wpAny M A (letOwnedTupleGo tg (.ref it) u) Q E s:=by
  cases tg<;>first
    |exact J5z hQ
    | (cases u<;>first
        |exact J5z hQ
        | (refine I5z (wpAny_load ho ?_)
           rw[hc,hd]
           show wpAny M A (if(["enumerate","zip","dict_itemiterator","dict_reverseitemiterator","odict_iterator","itertools.zip_longest","itertools.pairwise"].contains n&&vs[0]?==some (rawInt _))=true then _ else _) Q E s
           rw[U5z (by intro h;rw[hn,Bool.false_and] at h;cases h)]
           exact J5z hQ))
def Itl(K:Zf)(a:Addr):It :=
 ⟨λi H=>∃xs x,SqL K H a xs/\xs[i]?=some x,λi H x H'=>H'=H/\∀xs,SqL K H a xs->xs[i]?=some x,λi H=>∃xs,SqL K H a xs/\xs.length<=i⟩
def Itt(K:Zf)(a:Addr):It :=
 ⟨λi H=>∃xs x,SqT K H a xs/\xs[i]?=some x,λi H x H'=>H'=H/\∀xs,SqT K H a xs->xs[i]?=some x,λi H=>∃xs,SqT K H a xs/\xs.length<=i⟩
def Itr(lo:Int)(n:Nat):It:=⟨λi _=>i<n,λi H x H'=>H'=H/\x=.int (lo+i),λi _=>n<=i⟩
theorem xX{P:Program}{w:World}{K:Zf}{tg:Expr}(a it:Addr):Turn P w K tg (Itl K a) [it] it (λi h=>h.IsListIter it a i) where
 mem:=by simp
 obj:=λi h st b hb=>by
  have e:b=it:=by simpa using hb
  subst e;obtain⟨o,e,c,d⟩:=st;exact⟨o,e,λv z=>by rw[d] at z;cases z⟩
 keep:=λi h h' st k=>st.at λo e=>k it (by simp) o e
 item:=by
  intro X hP hw hK hc i y0 s Y H E I hf st hg;subst hP hw hK;obtain⟨xs,x,hq,hx⟩:=hg;obtain⟨its,rv,p,hz⟩:=I.list hq;obtain⟨u,hu,ru⟩:=rv.get hx;obtain⟨f0,f1,f2,f3,f4,f5⟩:=hf it (by simp);refine wpAny_pyNext_list_item st p.isList (by simpa using hu) λh' st' sb=>?_;have I1:=I.turned (t':=s.toks) (λb o hb e=>(sb.2 b hb).trans e) f0 f1 f3 f4 f5;obtain⟨o,e,c,d⟩:=id st';exact⟨u,rfl,wO e c d rfl ⟨x,H,I1,ru,⟨rfl,λys hy=>by rw[I.list_inj hy hq];exact hx⟩,st',λb hb=>(hf b hb).1⟩⟩
 done:=by
  intro X hP hw hK hc i y0 s Y H E I hf st hg;subst hP hw hK;obtain⟨xs,hq,hx⟩:=hg;obtain⟨its,rv,p,hz⟩:=I.list hq;obtain⟨f0,f1,f2,f3,f4,f5⟩:=hf it (by simp);have hl:=rv.length;exact wpAny_pyNext_list_end (I.ok.hd hc) st p.isList (by simp;omega) λh' eb=>⟨rfl,I.turned (λb o hb e=>eb b o hb e) f0 f1 f3 f4 f5⟩
 self:=λ_ _ _ _ _ st h=>wpAny_pyIter_listiter st h
theorem wu{P:Program}{w:World}{K:Zf}{tg:Expr}(a it:Addr):Turn P w K tg (Itt K a) [it] it (λi h=>h.IsTupleIter it a i) where
 mem:=by simp
 obj:=λi h st b hb=>by
  have e:b=it:=by simpa using hb
  subst e;obtain⟨o,e,c,d⟩:=st;exact⟨o,e,λv z=>by rw[d] at z;cases z⟩
 keep:=λi h h' st k=>st.at λo e=>k it (by simp) o e
 item:=by
  intro X hP hw hK hc i y0 s Y H E I hf st hg;subst hP hw hK;obtain⟨xs,x,hq,hx⟩:=hg;obtain⟨its,rv,p,hz⟩:=I.tuple hq;obtain⟨u,hu,ru⟩:=rv.get hx;obtain⟨f0,f1,f2,f3,f4,f5⟩:=hf it (by simp);refine wpAny_pyNext_tuple_item st p (by simpa using hu) λh' st' sb=>?_;have I1:=I.turned (t':=s.toks) (λb o hb e=>(sb.2 b hb).trans e) f0 f1 f3 f4 f5;obtain⟨o,e,c,d⟩:=id st';exact⟨u,rfl,wO e c d rfl ⟨x,H,I1,ru,⟨rfl,λys hy=>by rw[I.tuple_inj hy hq];exact hx⟩,st',λb hb=>(hf b hb).1⟩⟩
 done:=by
  intro X hP hw hK hc i y0 s Y H E I hf st hg;subst hP hw hK;obtain⟨xs,hq,hx⟩:=hg;obtain⟨its,rv,p,hz⟩:=I.tuple hq;obtain⟨f0,f1,f2,f3,f4,f5⟩:=hf it (by simp);have hl:=rv.length;exact wpAny_pyNext_tuple_end (I.ok.hd hc) st p (by simp;omega) λh' eb=>⟨rfl,I.turned (λb o hb e=>eb b o hb e) f0 f1 f3 f4 f5⟩
 self:=λ_ _ _ _ _ st h=>wpAny_pyIter_tupleiter st h
theorem wz{P:Program}{w:World}{K:Zf}{tg:Expr}(it:Addr)(lo:Int)(n:Nat):Turn P w K tg (Itr lo n) [it] it (λi h=>IsRangeIter h it (lo+(i:Nat)*1) ((n:Int)-(i:Nat)) 1) where
 mem:=by simp
 obj:=λi h st b hb=>by
  have e:b=it:=by simpa using hb
  subst e
  exact⟨_,st,λv z=>by
   cases z⟩
 keep:=λi h h' st k=>k it (by simp) _ st
 item:=by
  intro X hP hw hK hc i y0 s Y H E I hf st hg;subst hP hw hK;obtain⟨f0,f1,f2,f3,f4,f5⟩:=hf it (by simp);refine(Walks.range (prog:=X.prog) (w:=X.w) (I.ok.hd hc) it lo 1 n).item i s _ _ hg st λv h' tk hv st' kk=>?_;obtain⟨t,rfl⟩:=hv;have I1:Inv X y0 Y H {s with heap:=h',toks:=tk}:=I.turned (λb o hb e=>kk b o (by simpa using hb) e) f0 f1 f3 f4 f5;refine⟨_,rfl,wO st' rfl rfl rfl ⟨.int (lo+i),H,I1,⟨t,?_⟩,⟨rfl,rfl⟩,st',λb hb=>(hf b hb).1⟩⟩;rw[Int.mul_one]
 done:=by
  intro X hP hw hK hc i y0 s Y H E I hf st hg;obtain⟨f0,f1,f2,f3,f4,f5⟩:=hf it (by simp);exact wpAny_pyNext_range_end (I.ok.hd hc) st (by have:n<=i:=hg;omega) λh' eb=>⟨rfl,I.turned (λb o hb e=>eb b o hb e) f0 f1 f3 f4 f5⟩
 self:=λ_ _ _ _ _ st h=>wpAny_pyIter_rangeiter st h
section
variable{X:Cx}{tg:Expr}
def Uh(K:Zf)(tl:TE):TI:=λY H R=>tl Y H λx H1=>∃a,x=.ref a/\(∃xs,SqL K H1 a xs)/\R (Itl K a) H1
def W9(K:Zf)(tl:TE):TI:=λY H R=>tl Y H λx H1=>∃a,x=.ref a/\(∃xs,SqT K H1 a xs)/\R (Itt K a) H1
theorem zu(hl:PE X l tl):PI X tg l (Uh X.K tl):=by
 intro y0 s Y H R I h;refine thn (hl y0 s Y H _ I h) λv s1 ⟨x,H1,I1,r1,q1⟩=>?_;obtain⟨a,e,⟨xs,hq⟩,q⟩:=q1;subst e;cases r1;obtain⟨its,rv,p,hz⟩:=I1.list hq;refine wpAny_pyIter_list p.isList ?_;refine⟨s1.heap.objs.size,[s1.heap.objs.size],_,_,H1,rfl,I1.kept λb o e=>Heap.get?_push_of_some _ e,xX a _,⟨_,Heap.get?_push_size _ rfl,rfl,rfl⟩,λb hb=>?_,q⟩
 have e:b=s1.heap.objs.size:=by simpa using hb
 subst e;exact I1.fpOk (B5z _) (I1.hok.fresh (B5z _))
theorem Oh(hl:PE X l tl):PI X tg l (W9 X.K tl):=by
 intro y0 s Y H R I h;refine thn (hl y0 s Y H _ I h) λv s1 ⟨x,H1,I1,r1,q1⟩=>?_;obtain⟨a,e,⟨xs,hq⟩,q⟩:=q1;subst e;cases r1;obtain⟨its,rv,p,hz⟩:=I1.tuple hq;refine O1z p ?_;refine⟨s1.heap.objs.size,[s1.heap.objs.size],_,_,H1,rfl,I1.kept λb o e=>Heap.get?_push_of_some _ e,wu a _,⟨_,Heap.get?_push_size _ rfl,rfl,rfl⟩,λb hb=>?_,q⟩
 have e:b=s1.heap.objs.size:=by simpa using hb
 subst e;exact I1.fpOk (B5z _) (I1.hok.fresh (B5z _))
theorem Dq{lo hi:Int}(I:Inv X y0 Y H s)(h1:-(2^62)<=lo)(h2:lo<2^62)(h3:-(2^62)<=hi)(h4:hi<2^62)
  (q:R (Itr lo (hi-lo).toNat) H):wpAny (model X.prog X.w) X.A (pyIter (.ref s.heap.objs.size)) (PIE X y0 Y tg R) E {s with heap:=s.heap.push {cls:=.type "range",data:=.fields #[.int lo t,.int hi u,.int 1 v]},toks:=tk}:=by
 refine wpAny_pyIter_range (IsRange.new ..) (small_one h1 h2 h3 h4) ?_;have I1:Inv X y0 Y H {s with heap:=s.heap.push {cls:=.type "range",data:=.fields #[.int lo t,.int hi u,.int 1 v]},toks:=tk}:=I.kept λb o e=>Heap.get?_push_of_some _ e
 refine⟨(s.heap.push {cls:=.type "range",data:=.fields #[.int lo t,.int hi u,.int 1 v]}).objs.size,[(s.heap.push {cls:=.type "range",data:=.fields #[.int lo t,.int hi u,.int 1 v]}).objs.size],_,_,H,rfl,
  I1.kept λb o e=>Heap.get?_push_of_some _ e,wz _ lo (hi-lo).toNat,?_,λb hb=>?_,q⟩
 .have e1:lo+((0:Nat):Int)*1=lo:=by simp
  have e2:(((hi-lo).toNat:Nat):Int)-((0:Nat):Int)=Builtin.Range.rangeSize lo hi 1:=by rw[rangeSize_one];split<;>omega
  rw[e1,e2];exact Heap.get?_push_size _ rfl
 .have e:b=(s.heap.push {cls:=.type "range",data:=.fields #[.int lo t,.int hi u,.int 1 v]}).objs.size:=by simpa using hb
  subst e;exact I1.fpOk (B5z _) (I1.hok.fresh (B5z _))
def Ug(ta:TA):TI:=λY H R=>ta Y H λvs H1=>∃j:Int,vs=[.int j] /\ -(2^62)<=j/\j<2^62/\R (Itr 0 j.toNat) H1
theorem zq(hg:Gl X "range")(hm:X.mg "range"=none)(ha:PA X [a] ta)(hs:starEach [a] X.env=[(false,eval a X.env)]:=by rfl):PI X tg (.Call (.Name "range" p) [a] [] pos) (Ug ta):=by
 intro y0 s Y H R I h;refine Call_ (jP I hg hm boot_range (A0z (thn (ha pos y0 s Y H _ I h) λus s1 ⟨vs,H1,I1,r1,q1⟩=>?_) hs rfl));obtain⟨j,e,q1,q2,q⟩:=q1;subst e
 cases r1 with
 |cons r rr =>
  cases rr;obtain⟨t,rfl⟩:=r;exact call_range_1 (Dq I1 (by omega) (by omega) q1 q2 (by simpa using q))
def Wg(wi:TI)(g:TG)(tb:TS):TS:=λD Y H=>wi Y H λJ H1=>∃W:Nat->Nat->St->Hp->Prop,(∃m,W 0 m Y H1)/\∀i m Y H,W i m Y H ->
 (J.stop i H/\D.nx Y H)\/(J.go i H/\∃N:St->Hp->Prop,(∀Y' H',N Y' H'->∃m',m'<m/\W (i+1) m' Y' H')/\∀x H',J.yld i H x H'->g x Y H' λY2 H2=>tb {D with nx:=N,ct:=N,bk:=D.nx} Y2 H2)
def qt(fp:List Addr)(h:Heap):List (Addr×Obj):=fp.filterMap λb=>(h.get? b).map λo=>(b,o)
theorem gJ(hb:b∈fp)(e:h.get? b=some o):(b,o)∈qt fp h:=List.mem_filterMap.mpr ⟨b,hb,by rw[e];rfl⟩
theorem zK(hp:p∈qt fp h):p.1∈fp/\h.get? p.1=some p.2:=by
 obtain⟨b,hb,e⟩:=List.mem_filterMap.mp hp
 cases q:h.get? b with
 |none=>rw[q] at e;cases e
 |some o =>
  rw[q] at e;have e':=I3z e;subst e';exact⟨hb,q⟩
theorem Inv.pinned(I:Inv X y0 Y H s)(hf:∀b∈fp,xJ X y0 H b)(ho:∀b∈fp,∃o,s.heap.get? b=some o/\∀v,o.data≠.cell v):Inv X (y0++qt fp s.heap) Y H s :=
 I.pins_of λp hp=>(List.mem_append.mp hp).elim (λz=>I.pin p (P0z _ z)) λz=>by
  obtain⟨hb,e⟩:=zK z;obtain⟨f0,f1,f2,_⟩:=hf p.1 hb;obtain⟨o,e',d⟩:=ho p.1 hb;rw[e] at e';cases e';exact⟨e,f0,f1,f2,d⟩
theorem Inv.unpinned(I:Inv X (y0++pl) Y H s):Inv X y0 Y H s:=I.pins_of λp hp=>I.pin p (P0z _ (Y0z _ hp))
theorem G9(hp:PassesOwn (model X.prog X.w) X.A X.env X.xe)(hc:X.calm=true)(hi:PI X tg iter wi)(hg:PG X tg g)(hb:PSs X body tb)
  (hs:∀x,foldedSetIterable iter X.env x=pure x:=by intro _;rfl):PS X (.For tg iter body [] pos) (Wg wi g tb):=by
 intro y0 s Y H D I h;refine wpAny_For (thn (hi y0 s Y H _ I h) λv s1 h1=>thn h1 λitv s2 h2=>?_) hs;obtain⟨it,fp,tn,J,H2,e,I2,T,st2,f2,W,⟨m0,w0⟩,turn⟩:=h2;subst e;have stat:∀{H':Hp},(∀b∈fp,H' b=none)->∀b∈fp,xJ X y0 H' b:=λhn b hb=>⟨hn b hb,(f2 b hb).2⟩;refine codeAny_forLoop_any (λn s'=>∃i Y' H',Inv X y0 Y' H' s'/\tn i s'.heap/\(∀b∈fp,H' b=none)/\W i n Y' H') ?_ m0 ⟨0,Y,H2,I2,st2,λb hb=>(f2 b hb).1,w0⟩;rintro n s3 ⟨i,Y3,H3,I3,st3,fr3,w3⟩;obtain⟨stop,qn⟩|⟨go,N,hN,step⟩:=turn i n Y3 H3 w3
 .refine J3z hp (thn (T.done X rfl rfl rfl hc i y0 s3 Y3 H3 X.xe I3 (stat fr3) st3 stop) λr s4 ⟨hr,I4⟩=>?_)
  subst hr;exact wpAny_execs_nil ⟨Y3,H3,I4,qn⟩
 .refine J3z hp (thn (T.item X rfl rfl rfl hc i y0 s3 Y3 H3 X.xe I3 (stat fr3) st3 go) λr s4 ⟨u,hr,h4⟩=>?_)
  subst hr;refine J3z hp (thn h4 λ_ s5 ⟨x,H5,I5,r5,y5,st5,fr5⟩=>?_);refine J3z hp (thn (hg _ s5 Y3 H5 x u _ (I5.pinned (stat fr5) (T.obj _ _ st5)) r5 (step x H5 y5)) λ_ s6 ⟨Y6,H6,I6,q6⟩=>?_);refine J3z hp (thn (hb _ s6 Y6 H6 _ I6 q6) λf s7 q7=>?_)
  have again:∀{Y7:St}{H7:Hp},Inv X (y0++qt fp s5.heap) Y7 H7 s7->N Y7 H7->∃m,m<n/\∃i Y' H',Inv X y0 Y' H' s7/\tn i s7.heap/\(∀b∈fp,H' b=none)/\W i m Y' H':=λ{Y7 H7} I7 n7=>by
   obtain⟨m',hm,w7⟩:=hN Y7 H7 n7;refine⟨m',hm,i+1,Y7,H7,I7.unpinned,T.keep _ _ _ st5 λb hb o e=>(I7.pin (b,o) (P0z _ (P0z _ (gJ hb e)))).1,λb hb=>?_,w7⟩;obtain⟨o,e,d⟩:=T.obj _ _ st5 b hb;exact(I7.pin (b,o) (P0z _ (P0z _ (gJ hb e)))).2.1
  cases f with
  |next=>obtain⟨Y7,H7,I7,n7⟩:=q7;exact again I7 n7
  |cont=>obtain⟨Y7,H7,I7,n7⟩:=q7;exact again I7 n7
  |brk=>obtain⟨Y7,H7,I7,q7⟩:=q7;exact⟨Y7,H7,I7.unpinned,q7⟩
  |ret v=>obtain⟨x7,Y7,H7,I7,r7,q7⟩:=q7;exact⟨x7,Y7,H7,I7.unpinned,r7,q7⟩
end
abbrev R2:=V->V->Hp->VK->Prop
def OpR(X:Cx)(f:Value->Value->Sem Value)(r:R2):Prop :=
  ∀(y0:List (Addr×Obj))(s:Shared)(Y:St)(H:Hp)(x y:V)(v u:Value)(Q:VK), Inv X y0 Y H s->RelV x v->RelV y u->r x y H Q ->
    wpAny (model X.prog X.w) X.A (f v u) (EP X y0 Y Q) X.xe s
def UnR(X:Cx)(f:Value->Sem Value)(r:V->Hp->VK->Prop):Prop :=
  ∀(y0:List (Addr×Obj))(s:Shared)(Y:St)(H:Hp)(x:V)(v:Value)(Q:VK), Inv X y0 Y H s->RelV x v->r x H Q ->
    wpAny (model X.prog X.w) X.A (f v) (EP X y0 Y Q) X.xe s
def dz(X:Cx)(f:Value)(r:List V->Hp->VK->Prop):Prop :=
  ∀(y0:List (Addr×Obj))(s:Shared)(Y:St)(H:Hp)(xs:List V)(us:List Value)(Q:VK), Inv X y0 Y H s->Vals xs us->r xs H Q ->
    wpAny (model X.prog X.w) X.A (call f us) (EP X y0 Y Q) X.xe s
def tOp(r:R2)(ta tb:TE):TE:=λY H Q=>ta Y H λx H1=>tb Y H1 λy H2=>r x y H2 Q
def tUn(r:V->Hp->VK->Prop)(ta:TE):TE:=λY H Q=>ta Y H λx H1=>r x H1 Q
def rI(C:Int->Int->Prop)(g:Int->Int->V):R2:=λx y H Q=>∃i j,x=.int i/\y=.int j/\C i j/\Q (g i j) H
def rI0(g:Int->Int->V):R2:=λx y H Q=>∃i j,x=.int i/\y=.int j/\Q (g i j) H
def rU(g:Int->V):V->Hp->VK->Prop:=λx H Q=>∃i,x=.int i/\Q (g i) H
section
variable{X:Cx}{a b c:Expr}{ta tb tc:TE}{pos:Pos}
theorem UJ(ha:PE X a ta)(hb:PE X b tb){R:V->V->Hp->Prop}(I:Inv X y0 Y H s)
  (h:ta Y H λx H1=>tb Y H1 λy H2=>R x y H2)  {f:Value->Value->Sem Value}
  (hf:∀v u s2 x y H2,Inv X y0 Y H2 s2->RelV x v->RelV y u->R x y H2->wpAny (model X.prog X.w) X.A (f v u) Q X.xe s2) :
  wpAny (model X.prog X.w) X.A (eval a X.env) (λv s₁=>wpAny (model X.prog X.w) X.A (eval b X.env) (λu s₂=>wpAny (model X.prog X.w) X.A (f v u) Q X.xe s₂) X.xe s₁) X.xe s:=by
 refine thn (ha y0 s Y H _ I h) λv s1 ⟨x,H1,I1,r1,q1⟩=>?_;exact thn (hb y0 s1 Y H1 _ I1 q1) λu s2 ⟨y,H2,I2,r2,q2⟩=>hf v u s2 x y H2 I2 r1 r2 q2
theorem qw(ho:OpR X (binaryOp op) r)(ha:PE X a ta)(hb:PE X b tb):PE X (.BinOp a op b pos) (tOp r ta tb):=by
 exact λy0 s Y H Q I h=>wpAny_BinOp (UJ ha hb I h λv u s2 x y H2 I2 rx ry q=>ho y0 s2 Y H2 x y v u Q I2 rx ry q)
theorem SN(ho:UnR X (unaryOp op) r)(ha:PE X a ta):PE X (.UnaryOp op a pos) (tUn r ta):=by
 exact λy0 s Y H Q I h=>UnaryOp_ (thn (ha y0 s Y H _ I h) λv s1 ⟨x,H1,I1,r1,q1⟩=>ho y0 s1 Y H1 x v Q I1 r1 q1)
theorem opI{g:Int->Int->Int}
  (rule:∀(i j:Int)(t u:Tok)(s:Shared)(Q:Value->Shared->Prop)(E:Value->Shared->Prop),C i j->Q (.int (g i j) s.toks) {s with toks:=s.toks+1}->wpAny (model X.prog X.w) X.A (f (.int i t) (.int j u)) Q E s) :
  OpR X f (rI C λi j=>.int (g i j)):=by
 intro y0 s Y H x y v u Q I rx ry h;obtain⟨i,j,rfl,rfl,hc,q⟩:=h;obtain⟨t,rfl⟩:=rx;obtain⟨t',rfl⟩:=ry;exact rule i j t t' s _ _ hc ⟨.int (g i j),H,I.tok _,⟨_,rfl⟩,q⟩
theorem Vo{g:Int->Int->Int}
  (rule:∀(i j:Int)(t u:Tok)(s:Shared)(Q:Value->Shared->Prop)(E:Value->Shared->Prop),Q (.int (g i j) s.toks) {s with toks:=s.toks+1}->wpAny (model X.prog X.w) X.A (f (.int i t) (.int j u)) Q E s) :
  OpR X f (rI0 λi j=>.int (g i j)):=by
 intro y0 s Y H x y v u Q I rx ry h;obtain⟨i,j,rfl,rfl,q⟩:=h;obtain⟨t,rfl⟩:=rx;obtain⟨t',rfl⟩:=ry;exact rule i j t t' s _ _ ⟨.int (g i j),H,I.tok _,⟨_,rfl⟩,q⟩
theorem Vp{g:Int->Int->Bool}
  (rule:∀(i j:Int)(t u:Tok)(s:Shared)(Q:Value->Shared->Prop)(E:Value->Shared->Prop),Q (.bool (g i j)) s->wpAny (model X.prog X.w) X.A (f (.int i t) (.int j u)) Q E s) :
  OpR X f (rI0 λi j=>.bl (g i j)):=by
 intro y0 s Y H x y v u Q I rx ry h;obtain⟨i,j,rfl,rfl,q⟩:=h;obtain⟨t,rfl⟩:=rx;obtain⟨t',rfl⟩:=ry;exact rule i j t t' s _ _ ⟨.bl (g i j),H,I,rfl,q⟩
def Xm(i j:Int):Prop:=0<j/\j<1073741824
def Vb(i j:Int):Prop:=(-(2^64)<i/\i<2^64)\/(-(2^64)<j/\j<2^64)
theorem Vb.ok(h:Vb i j):IntMulOk i j:=by
 obtain⟨h1,h2⟩|⟨h1,h2⟩:=h
 .exact .of_left (intBits_le_64 h1 h2)
 .exact .of_right (intBits_le_64 h1 h2)
theorem O4:OpR X (binaryOp .Add) (rI0 λi j=>.int (i+j)):=Vo λ_ _ _ _ _ _ _ q=>add_int q
theorem OD:OpR X (binaryOp .Sub) (rI0 λi j=>.int (i-j)):=Vo λ_ _ _ _ _ _ _ q=>sub_int q
theorem JX:OpR X (binaryOp .FloorDiv) (rI Xm λi j=>.int (i / j)):=opI λi j _ _ _ _ _ hc q=>by
 have h1:=hc.1;have h2:=hc.2;exact floordiv_int (by omega) (by rw[Int.fdiv_eq_ediv_of_nonneg i (by omega)];exact q) (.inl (PyProof.noPylong_small (by omega)))
theorem O1:OpR X (binaryOp .Mod) (rI (λ_ j=>0<j) λi j=>.int (i%j)):=opI λi j _ _ _ _ _ hc q=>by
 exact mod_int' (by omega) (by rw[Int.fmod_eq_emod_of_nonneg i (by omega)];exact q)
theorem unI{g:Int->Int}
  (rule:∀(i:Int)(t:Tok)(s:Shared)(Q:Value->Shared->Prop)(E:Value->Shared->Prop),Q (.int (g i) s.toks) {s with toks:=s.toks+1}->wpAny (model X.prog X.w) X.A (f (.int i t)) Q E s) :
  UnR X f (rU λi=>.int (g i)):=by
 intro y0 s Y H x v Q I rx h;obtain⟨i,rfl,q⟩:=h;obtain⟨t,rfl⟩:=rx;exact rule i t s _ _ ⟨.int (g i),H,I.tok _,⟨_,rfl⟩,q⟩
theorem Ni:UnR X (unaryOp .USub) (rU λi=>.int (-i)):=unI λ_ _ _ _ _ q=>neg_int q
end
section
variable{X:Cx}{a b c:Expr}{ta tb tc:TE}{pos:Pos}
theorem HF(I:Inv X y0 Y H s)(q:Q (.bl k) H)(e:k=k'):EP X y0 Y Q (.bool k') s:=by
 subst e;exact⟨.bl k,H,I,rfl,q⟩
theorem SX:OpR X (compareOp .Lt) (rI0 λi j=>.bl (decide (i<j))):=Vp λ_ _ _ _ _ _ _ q=>lt_int q
theorem Tc:OpR X (compareOp .LtE) (rI0 λi j=>.bl (decide (i<=j))):=Vp λ_ _ _ _ _ _ _ q=>le_int q
theorem zG:OpR X (compareOp .In) (λx y H Q=>∃i j,x=.str i/\y=.str j/\Q (.bl (!(Builtin.Str.occurrences j i 0 j.length 1).isEmpty)) H):=by
 intro y0 s Y H x y v u Q I rx ry h;obtain⟨i,j,rfl,rfl,q⟩:=h;obtain⟨t,rfl⟩:=rx;obtain⟨t',rfl⟩:=ry;exact in_str (HF I q rfl)
theorem JV:OpR X (compareOp .IsNot) (λx y H Q=>y=.non/\Q (.bl (!decide (x=.non))) H):=by
 intro y0 s Y H x y v u Q I rx ry h;obtain⟨rfl,q⟩:=h;cases ry;refine isnot_none_gen (HF I q ?_)
 cases x<;>first
  |(cases rx;rfl)
  |(obtain⟨t,rfl⟩:=rx;rfl)
theorem zA(ho:OpR X (compareOp op) r)(ha:PE X a ta)(hb:PE X b tb)(hm:behindInMarks op b=false):PE X (.Compare a [op] [b] pos) (tOp r ta tb):=by
 exact λy0 s Y H Q I h=>wpAny_Compare1 (UJ ha hb I h λv u s2 x y H2 I2 rx ry q=>ho y0 s2 Y H2 x y v u Q I2 rx ry q) hm
def Nq(t:TE):TT:=λY H Q=>t Y H λx H'=>∃k,x=.bl k/\Q k H'
theorem ou(ho:OpR X (compareOp op) r)(ha:PE X a ta)(hb:PE X b tb)(hm:behindInMarks op b=false):PT X (.Compare a [op] [b] pos) (Nq (tOp r ta tb)):=by
 intro y0 s Y H Q I h
 refine wpAny_isTrue_Compare1 (thn (ha y0 s Y H _ I h) λv s1 ⟨x,H1,I1,r1,q1⟩=>thn (hb y0 s1 Y H1 _ I1 q1) λu s2 ⟨y,H2,I2,r2,q2⟩ =>
  thn (ho y0 s2 Y H2 x y v u _ I2 r1 r2 q2) λc s3 ⟨z,H3,I3,r3,k,e,q3⟩=>?_) hm
 subst e;cases r3;exact E2z ⟨H3,I3,q3⟩
def yw(r r':R2)(ta tb tc:TE):TE:=λY H Q=>ta Y H λx H1=>tb Y H1 λy H2=>r x y H2 λz H3=>∃k,z=.bl k /\
 (if k=true then tc Y H3 λw' H4=>r' y w' H4 Q else Q (.bl false) H3)
theorem DR(ho:OpR X (compareOp op) r)(ho':OpR X (compareOp op') r')(ha:PE X a ta)(hb:PE X b tb)(hc:PE X c tc)
  (hm:lastMarks [op,op'] [b,c]=false:=by with_unfolding_all rfl):PE X (.Compare a [op,op'] [b,c] pos) (yw r r' ta tb tc):=by
 intro y0 s Y H Q I h
 refine Compare_chain (thn (ha y0 s Y H _ I h) λv s1 ⟨x,H1,I1,r1,q1⟩=>chain_link (thn (hb y0 s1 Y H1 _ I1 q1) λu s2 ⟨y,H2,I2,r2,q2⟩ =>
  thn (ho y0 s2 Y H2 x y v u _ I2 r1 r2 q2) λd s3 ⟨z,H3,I3,r3,k,e,q3⟩=>?_)) hm
 subst e;cases r3;refine E2z ?_
 cases k with
 |false=>exact ite_ff ⟨.bl false,H3,I3,rfl,q3⟩
 |true=>exact ite_tt (chain_last (thn (hc y0 s3 Y H3 _ I3 q3) λw' s4 ⟨z',H4,I4,r4,q4⟩=>ho' y0 s4 Y H4 y z' u w' Q I4 r2 r4 q4))
theorem Dr(ho:OpR X (compareOp op) r)(ho':OpR X (compareOp op') r')(ha:PE X a ta)(hb:PE X b tb)(hc:PE X c tc)
  (hm:lastMarks [op,op'] [b,c]=false:=by with_unfolding_all rfl):PT X (.Compare a [op,op'] [b,c] pos) (Nq (yw r r' ta tb tc)):=by
 intro y0 s Y H Q I h
 refine isTrue_chain (thn (ha y0 s Y H _ I h) λv s1 ⟨x,H1,I1,r1,q1⟩=>test_link (thn (hb y0 s1 Y H1 _ I1 q1) λu s2 ⟨y,H2,I2,r2,q2⟩ =>
  thn (ho y0 s2 Y H2 x y v u _ I2 r1 r2 q2) λd s3 ⟨z,H3,I3,r3,k,e,q3⟩=>?_)) hm
 subst e;cases r3;refine E2z ?_
 cases k with
 |false =>
  obtain⟨k',e',q'⟩:=q3;cases e';exact ite_ff ⟨H3,I3,q'⟩
 |true =>
  refine ite_tt (test_last (thn (hc y0 s3 Y H3 _ I3 q3) λw' s4 ⟨z',H4,I4,r4,q4⟩=>thn (ho' y0 s4 Y H4 y z' u w' _ I4 r2 r4 q4) λd' s5 ⟨z2,H5,I5,r5,k2,e2,q5⟩=>?_));subst e2;cases r5;exact E2z ⟨H5,I5,q5⟩
theorem qF:(sizeLine:Nat)<2^63:=by rw[C5z];decide
theorem vals1(r:Vals [x] us):∃u,us=[u]/\RelV x u:=by
 cases r with
 |cons r1 r2=>cases r2;exact⟨_,rfl,r1⟩
theorem Bw:dz X (.type "int") (λxs H Q=>(∃i,xs=[.int i]/\Q (.int i) H)\/∃k,xs=[.bl k]/\Q (.int (if k then 1 else 0)) H):=by
 intro y0 s Y H xs us Q I r h;obtain⟨i,rfl,q⟩|⟨k,rfl,q⟩:=h
 .obtain⟨u,rfl,t,rfl⟩:=vals1 r
  exact call_int_int ⟨.int i,H,I,⟨_,rfl⟩,q⟩
 .obtain⟨u,rfl,r1⟩:=vals1 r
  cases r1;exact call_int_bool ⟨.int (if k then 1 else 0),H,I.tok _,⟨_,rfl⟩,q⟩
end
structure ObjM(h:Heap)(x dx C:Addr)(mA:Str->Option Value):Prop where
 obj:h.get? x=some (W.instObj C dx)
 ns:h.Ns1 dx mA
 ne:dx≠x
theorem zU{h:Heap}(n:h.Ns1 dx mA):∃od,h.get? dx=some od/\∀name,W.lookIn name od=some (mA name):=by
 obtain⟨o,es,ep,ho,hd,hk,_,hm⟩:=n;refine⟨o,ho,λname=>?_⟩;have e:=hm name;unfold nsFind findBy at e;rw[<- Array.find?_toList] at e;unfold W.lookIn;rw[hd];dsimp only;split
 .rename_i y q
  rw[q] at e;exact congrArg some e
 .rename_i q
  rw[q] at e
  have a:es.toList.any (·.refKey)=false:=by
   rw[List.any_eq_false];intro y hy;obtain⟨z,t,hkey⟩:=hk y (Array.mem_toList_iff.mp hy);simp[DictEntry.refKey,hkey]
  have a':¬ es.toList.any (·.refKey)=true:=by rw[a];exact P1z
  rw[U5z a'];exact congrArg some e
theorem ObjM.look(I:ObjM h x dx C mA):∃od,W.InstAt h x (W.instObj C dx) C (some od)/\∀name,W.lookIn name od=some (mA name) :=
 let ⟨od,ho,hl⟩:=zU I.ns
 ⟨od,⟨I.obj,rfl,rfl,ho⟩,hl⟩
section
variable{prog:Program}{w:World}{A:Around}{E:Value->Shared->Prop}{s:Shared}{K:Zf}{x dx C f:Addr}{mA:Str->Option Value}{name:Str}{v:Value}
theorem get_map(X:K.In s.heap)(I:ObjM s.heap x dx C mA)(hg:W.plainGet K C name=true)(hh:W.hasDictIn K C=true)
  (ha:W.findIn K (.ref C) name=some none) (hv:mA name=some v) (hv':W.handedIn v=true) (h:Q v {s with toks:=s.toks+1}) :
  wpAny (model prog w) A (getAttr (.ref x) name expr) Q E s:=by
 obtain⟨od,J,hl⟩:=I.look;exact W.get_value X J (E1z hg).1 (W.findObj_own hh ha rfl (by rw[hl,hv])) hv' h
theorem Fe(X:K.In s.heap)(I:ObjM s.heap x dx C mA)(hg:W.plainGet K C name=true)
  (hf:W.findIn K (.ref C) name=some (some (.ref f))) (ht:W.isFn K (.ref f)=true) (hv:mA name=none) (h:Q (.ref f,[.ref x]) s) :
  wpAny (model prog w) A (getMethod (.ref x) name pl) Q E s:=by
 obtain⟨od,J,hl⟩:=I.look;exact W.method_fn X J (E1z hg).1 (E1z hg).2 hf (beq_iff_eq.mp ht) (by show(W.lookIn name od).map (·.isSome)=some false;rw[hl,hv];rfl) h
theorem Jd(X:K.In s.heap)(I:ObjM s.heap x dx C mA)
  (hs:W.findIn K (.ref C) "__setattr__"=some (some (.builtin "object.__setattr__"))) (hp:W.plainOver K C=true) (ht:W.takerIn K C name=some none) (hh:W.hasDictIn K C=true)
  (hw:PySem.Within mA ns) (hsz:ns.length<=sizeLine)
  (h:∀h',ObjM h' x dx C (λy=>if y=name then some v else mA y)->Heap.SameBut dx s.heap h'->Q () {s with heap:=h',toks:=s.toks+2}) :
  wpAny (model prog w) A (setAttr (.ref x) name v) Q E s:=by
 obtain⟨od,J,hl⟩:=I.look;refine W.set_plain X J hs (W.osa_open X J hp ht λb=>?_);obtain⟨cd,hc,hd'⟩:=W.any_some hh;refine I5z (J5z (I5z (I5z (wpAny_loadPart I.obj (I5z (W.Looks.here (W.looks_clsIn X hc) ?_))))));rw[hd'];refine J5z (I5z (J5z (I5z ?_)));refine wpAny_nsSet1 I.ns λh' hn2 hs2=>?_;obtain⟨oD,esD,epD,hoD,hdD,hcD⟩:=hn2.count (PySem.Within.cons name v hw);exact I5z (wpAny_lookBehind hoD (by rw[hdD];exact pastItsLine_dict (T4z hcD (by rw[S2z];omega))) (J5z (h _ ⟨(hs2.2 _ (R5z I.ne)).trans I.obj,hn2,I.ne⟩ hs2)))
theorem Eo(X:K.In s.heap)(hm:W.makesIn K C=true)
  (hi:W.findIn K (.ref C) "__init__"=some (some (.ref f))) (hf:W.typeIn K (.ref f)=some (.type "function"))
  (h:codeAny (model prog w) (A.under (.builtin "type.__call__" ⟨.ref C :: vs, kw⟩)) (.call (.ref f) ⟨.ref (s.heap.objs.size + 1) :: vs, kw⟩) (W.InitBack (s.heap.objs.size + 1) R)
   {s with heap:=(s.heap.push W.emptyDict).push (W.instObj C s.heap.objs.size)}) :
  codeAny (model prog w) A (.call (.ref C) ⟨vs,kw⟩) R s:=by
 obtain⟨hh,g,d,t,os⟩:=s;exact W.make_core (W.makes_of X hm) (Z0z X hi) (λself=>W.bind_fn X self hf) (.inl rfl) h
end
def m6(f:Str)(v:V):List (Str×V)->List (Str×V)
 |[]=>[(f,v)]
 |(g,x)::r=>if g=f then(g,v)::r else(g,x)::m6 f v r
theorem lW(f g:Str)(v:V):∀fs:List (Str×V),(m6 f v fs).lookup g=if g=f then some v else fs.lookup g
 |[]=>by
  show List.lookup g [(f,v)]=_
  by_cases h:g=f
  .simp only[List.lookup,(beq_iff_eq.mpr h),T5z h]
  .simp only[List.lookup,(H1z.mpr h),U5z h]
 |(k,x)::r=>by
  have ih:=lW f g v r;rw[show m6 f v ((k,x)::r)=(if k=f then(k,v)::r else(k,x)::m6 f v r) from rfl]
  by_cases hk:k=f
  .rw[T5z hk]
   by_cases h:g=k
   .simp only[List.lookup,(beq_iff_eq.mpr h),T5z (h.trans hk)]
   .simp only[List.lookup,(H1z.mpr h),U5z (λe:g=f=>h (e.trans hk.symm))]
  .rw[U5z hk]
   by_cases h:g=k
   .simp only[List.lookup,(beq_iff_eq.mpr h),U5z (λe:g=f=>hk (h.symm.trans e))]
   .simp only[List.lookup,(H1z.mpr h)]
    exact ih
theorem lY(f:Str)(v:V):∀fs:List (Str×V),f∈(m6 f v fs).map (·.1)/\∀g,g∈fs.map (·.1)->g∈(m6 f v fs).map (·.1)
 |[]=>⟨by simp[m6],λg h=>by simp at h⟩
 |(k,x)::r=>by
  obtain⟨i1,i2⟩:=lY f v r;rw[show m6 f v ((k,x)::r)=(if k=f then(k,v)::r else(k,x)::m6 f v r) from rfl]
  by_cases hk:k=f
  .subst hk
   exact⟨by simp,λg h=>by simpa using h⟩
  .rw[U5z hk]
   refine⟨?_,λg h=>?_⟩
   .exact X0z _ i1
   .obtain e|e:=P4z.mp h
    .exact P4z.mpr (.inl e)
    .exact X0z _ (i2 g e)
theorem lX(f:Str)(v:V):∀fs:List (Str×V),(m6 f v fs).length<=fs.length+1
 |[]=>by simp[m6]
 |(k,x)::r=>by
  have ih:=lX f v r;rw[show m6 f v ((k,x)::r)=(if k=f then(k,v)::r else(k,x)::m6 f v r) from rfl]
  by_cases hk:k=f
  .rw[T5z hk,S2z,S2z];omega
  .rw[U5z hk,S2z,S2z];omega
theorem pI.some_of(r:pI (some v) o):∃u,o=some u/\RelV v u:=by
 cases o with
 |none=>exact r.elim
 |some u=>exact⟨u,rfl,r⟩
theorem pI.none_of(r:pI none o):o=none:=by
 cases o with
 |none=>rfl
 |some u=>exact r.elim
theorem Am(r:RelV v u):W.handedIn u=true:=by
 cases v with
 |non=>cases r;rfl
 |bl b=>cases r;rfl
 |int i=>obtain⟨t,e⟩:=r;cases e;rfl
 |str x=>obtain⟨t,e⟩:=r;cases e;rfl
 |byt b=>obtain⟨t,e⟩:=r;cases e;rfl
 |flt b=>obtain⟨t,e⟩:=r;cases e;rfl
 |ref a=>cases r;rfl
 |ty n=>cases r;rfl
section
variable{P:Program}{w:World}{H H':Hp}{h h':Heap}{a C dx:Addr}{fs fs':List (Str×V)}
theorem tG(hok:HOk P w H h)(e:H a=some (.ins C dx fs)):∃mA,ObjM h a dx C mA/\(∀f,pI (fs.lookup f) (mA f))/\PySem.Within mA (fs.map (·.1))/\fs.length<=1000/\H dx=some (.own a):=by
 obtain⟨d,z,ne,ob,mA,n,r,q⟩:=(hok a _ e);exact⟨mA,⟨ob,n,ne⟩,r,q,z,d⟩
end
structure Cls(K:Zf)(C:Addr):Prop where
 pg:W.plainGet K C Str.empty=true
 hd:W.hasDictIn K C=true
 po:W.plainOver K C=true
 sa:W.findIn K (.ref C) "__setattr__"=some (some (.builtin "object.__setattr__"))
theorem Cls.get{K:Zf}(c:Cls K C)(f:Str):W.plainGet K C f=true:=c.pg
def ju(K:Zf)(C:Addr)(f:Str):Prop:=W.findIn K (.ref C) f=some none
theorem ju.taker{K:Zf}(n:ju K C f):W.takerIn K C f=some none:=by
 unfold W.takerIn;rw[show W.findIn K (.ref C) f=some none from n];rfl
structure Meth(K:Zf)(C:Addr)(m:Str)(f:Addr):Prop where
 at_:W.findIn K (.ref C) m=some (some (.ref f))
 fn:W.isFn K (.ref f)=true
 kp:W.keepIn K (.ref f)=true
section
variable{X:Cx}{y0:List (Addr×Obj)}{Y:St}{H:Hp}{s:Shared}{a C dx:Addr}{fs:List (Str×V)}{f:Str}{v:V}{A:Around}{E:Value->Shared->Prop}
theorem wQ(I:Inv X y0 Y H s)(e:H a=some (.ins C dx fs))(c:Cls X.K C)(n:ju X.K C f)(l:fs.lookup f=some v)
  (h:∀u s',Inv X y0 Y H s'->RelV v u->Q u s'):wpAny (model X.prog X.w) A (getAttr (.ref a) f b) Q E s:=by
 obtain⟨mA,O,r,_,_,_⟩:=tG I.hok e;obtain⟨u,hu,ru⟩:=pI.some_of (by rw[<- l];exact r f);exact get_map I.kIn O (c.get f) c.hd n hu (Am ru) (h u _ (I.tok _) ru)
theorem nq(I:Inv X y0 Y H s)(e:H a=some (.ins C dx fs))(c:Cls X.K C)(k:Meth X.K C m g)(l:fs.lookup m=none)
  (h:Q (.ref g,[.ref a]) s):wpAny (model X.prog X.w) A (getMethod (.ref a) m pl) Q E s:=by
 obtain⟨mA,O,r,_,_,_⟩:=tG I.hok e;exact Fe I.kIn O (c.get m) k.at_ k.fn (pI.none_of (by rw[<- l];exact r m)) h
theorem wD(I:Inv X y0 Y H s)(e:H a=some (.ins C dx fs))(c:Cls X.K C)(n:ju X.K C f)(hl:fs.length<1000)(ry:RelV y u)
  (h:∀s',Inv X y0 Y (upd H a (.ins C dx (m6 f y fs))) s'->Q () s'):wpAny (model X.prog X.w) A (setAttr (.ref a) f u) Q E s:=by
 obtain⟨mA,O,r,wi,_,ho⟩:=tG I.hok e
 have hz:(fs.map (·.1)).length<=sizeLine:=by rw[K3z,C5z];omega
 refine Jd I.kIn O c.sa c.po n.taker c.hd wi hz λh' O' sb=>h _ ?_;refine I.write (x:=a) (e:=dx) (by rw[e];exact True.intro) (.inr ho) (λb q hb z=>(sb.2 b hb).trans z) (let ⟨o,_,_,e',_⟩:=O'.ns;⟨o,e'⟩) ?_;refine⟨by rw[ak O.ne];exact ho,?_,O.ne,O'.obj,_,O'.ns,λg=>?_,λg hg=>?_⟩
 .have:=lX f y fs;omega
 .rw[lW]
  by_cases q:g=f
  .rw[T5z q,T5z q];exact ry
  .rw[U5z q,U5z q];exact r g
 .by_cases q:g=f
  .rw[q];exact(lY f y fs).1
  .refine(lY f y fs).2 g (wi g λz=>hg ?_)
   show(if g=f then some u else mA g)=none;rw[U5z q];exact z
theorem Inv.made(I:Inv X y0 Y H s):Inv X y0 Y (upd (upd H s.heap.objs.size (.own (s.heap.objs.size+1))) (s.heap.objs.size+1) (.ins C s.heap.objs.size []))
  {s with heap:=(s.heap.push W.emptyDict).push (W.instObj C s.heap.objs.size)}:=by
 have e1:(s.heap.push W.emptyDict).get? s.heap.objs.size=some W.emptyDict:=Heap.get?_push_size s.heap rfl
 have e2:((s.heap.push W.emptyDict).push (W.instObj C s.heap.objs.size)).get? (s.heap.objs.size+1)=some (W.instObj C s.heap.objs.size):=by
  have:=Heap.get?_push_size (s.heap.push W.emptyDict) (o:=W.instObj C s.heap.objs.size) rfl
  rwa [B4z] at this
 have I1:=I.laid (a:=s.heap.objs.size) (o:=.own (s.heap.objs.size+1)) (h':=s.heap.push W.emptyDict) (t':=s.toks) (λb u q=>Heap.get?_push_of_some _ q) (B5z _) ⟨_,e1⟩;refine I1.laid (a:=s.heap.objs.size+1) (o:=.ins C s.heap.objs.size []) (t':=s.toks) (λb u q=>Heap.get?_push_of_some _ q) (Nat.le_of_eq (B4z _ _)) ?_;have ne:s.heap.objs.size≠s.heap.objs.size+1:=S4z (T2z _);refine⟨by rw[ak ne,au],D5z _,ne,e2,λ_=>none,(Heap.Ns1.of_empty ⟨W.emptyDict,#[],_,e1,rfl,(λe he=>absurd he (by simp)),λ_=>rfl⟩).at λo q=>Heap.get?_push_of_some _ q,λ_=>True.intro,λy hy=>absurd rfl hy⟩
theorem Ma(hb:attributeBase e f env (eval e env)=eval e env)
  (h:wpAny (model prog w) A (eval e env) (λo s₁=>wpAny (model prog w) A (getAttr o f true) Q E s₁) E s):wpAny (model prog w) A (eval (.Attribute e f pos) env) Q E s :=
 Attribute_any_ h (by rw[arm_eval_Attribute,hb])
end
def Wh(K:Zf)(ta:TE)(f:Str):TE:=λY H Q=>ta Y H λx H1=>∃a C dx fs v,x=.ref a/\H1 a=some (.ins C dx fs)/\Cls K C/\ju K C f/\fs.lookup f=some v/\Q v H1
def Wv(K:Zf)(ta tv:TE)(f:Str):TS:=λD Y H=>tv Y H λy H1=>ta Y H1 λx H2=>∃a C dx fs,x=.ref a/\H2 a=some (.ins C dx fs)/\Cls K C/\ju K C f/\fs.length<1000 /\
 D.nx Y (upd H2 a (.ins C dx (m6 f y fs)))
section
variable{X:Cx}{o e value:Expr}{f:Str}{pos pos' tpos:Pos}{ta tv:TE}
theorem dH(he:PE X e ta)(hb:attributeBase e f X.env (eval e X.env)=eval e X.env):PE X (.Attribute e f pos) (Wh X.K ta f):=by
 intro y0 s Y H Q I h;refine Ma hb (thn (he y0 s Y H _ I h) λu s1 ⟨x,H1,I1,rx,a,C,dx,fs,v,ex,ea,c,n,l,q⟩=>?_);subst ex;obtain rfl:u=Value.ref a:=rx;exact wQ I1 ea c n l λu' s2 I2 ru=>⟨v,H1,I2,ru,q⟩
theorem lH(ha:PE X o ta)(hv:PE X value tv)(hs:swapsWith value (some (.Attribute o f pos')) pos.line X.env=pure false):PS X (.Assign [.Attribute o f pos'] value pos) (Wv X.K ta tv f):=by
 intro y0 s Y H D I h;refine plainObj_wpAny_Assign_Attribute (thn (hv y0 s Y H _ I h) λu s1 ⟨y,H1,I1,ry,q⟩=>thn (ha y0 s1 Y H1 _ I1 q) λov s2 ⟨x,H2,I2,rx,a,C,dx,fs,ex,ea,c,n,l,q2⟩=>?_) hs;subst ex;obtain rfl:ov=Value.ref a:=rx;exact wD I2 ea c n l ry λs3 I3=>⟨Y,_,I3,q2⟩
end
section
variable{X:Cx}{y0:List (Addr×Obj)}{Y:St}{H:Hp}{s:Shared}{A:Around}{E:Value->Shared->Prop}{Q:Value->Shared->Prop}{c:Value}{b:Bool}
end
structure Room(k:Nat)(A:Around):Prop where
 hd:A.handled=none
 dp:A.depth+3*k+5<recursionLimit
 un:A.units+16*k+200<cLine
theorem Room.mono(r:Room k A)(h:j<=k):Room j A:=⟨r.hd,by have:=r.dp;omega,by have:=r.un;omega⟩
theorem Room.deeper(r:Room (k+1) A)(env:Env):Room k (A.deeper env) :=
 ⟨r.hd,by have:=r.dp;show A.depth+1+3*k+5<_;omega,by have:=r.un;show A.units+3+16*k+200<_;omega⟩
theorem wM{A:Around}:(A.under (.builtin "type.__call__" ⟨.ref C::us,kw⟩)).depth=A.depth+1:=by
 first|rfl|simp[Code.weight]
theorem wL{A:Around}:(A.under (.builtin "type.__call__" ⟨.ref C::us,kw⟩)).units=A.units+1:=by
 first|rfl|simp[Code.cUnits]
theorem Room.make(r:Room (k+1) A)(C:Addr)(us:List Value)(kw:List (Str×Value)):Room k (A.under (.builtin "type.__call__" ⟨.ref C::us,kw⟩)) :=
 ⟨r.hd,by have:=r.dp;rw[wM];omega,by have:=r.un;rw[wL];omega⟩
theorem Room.depth(r:Room k A):A.depth<recursionLimit:=by have:=r.dp;omega
theorem Room.units(r:Room k A):A.units+64<cLine:=by have:=r.un;omega
def Q7:TA:=λ_ H Q=>Q [] H
def NQ(ta:TE)(tr:TA):TA:=λY H Q=>ta Y H λx H1=>tr Y H1 λxs H2=>Q (x::xs) H2
section
variable{X:Cx}{e:Expr}{es:List Expr}{te:TE}{t:TA}{pos:Pos}
theorem aM:PA X [] Q7:=λ_ _ _ _ H Q I h=>G2z ⟨[],H,I,.nil,h⟩
theorem aB(ha:PE X e te)(hr:PA X es t)(hs:starEach (e::es) X.env=(false,eval e X.env)::starEach es X.env:=by rfl):PA X (e::es) (NQ te t):=by
 intro pos y0 s Y H Q I h;rw[hs];exact Q1z (thn (ha y0 s Y H _ I h) λu s1 ⟨x,H1,I1,r1,q1⟩=>(thn (hr pos y0 s1 Y H1 _ I1 q1) λus s2 ⟨xs,H2,I2,r2,q2⟩=>⟨x::xs,H2,I2,.cons r1 r2,q2⟩))
def V4(t:TA):TE:=λY H Q=>t Y H λxs H1=>xs.length<=sizeLine/\∀p,H1 p=none->Q (.ref p) (upd H1 p (.tup xs))
def Wa(t:TA):TE:=λY H Q=>t Y H λxs H1=>xs.length<=sizeLine/\∀p,H1 p=none->Q (.ref p) (upd H1 p (.lst xs))
theorem uQ{x1}(h:PA X es t):PE X (.Tuple es x1 pos) (V4 t):=by
 intro y0 s Y H Q I hq;refine wpAny_Tuple_spliced (thn (h pos y0 s Y H _ I hq) λus s1 ⟨xs,H1,I1,r,z,q⟩=>⟨by rw[<- r.length];exact z,?_⟩);refine⟨.ref s1.heap.objs.size,upd H1 s1.heap.objs.size (.tup xs),I1.laid (t':=s1.toks) (λb u e=>Heap.get?_push_of_some _ e) (B5z _) ?_,rfl,q _ (I1.hok.fresh (B5z _))⟩;exact⟨z,us,r,⟨_,Heap.get?_push_size _ rfl,rfl,_,rfl⟩⟩
theorem qx(h:PA X es t):PE X (.List es pos) (Wa t):=by
 intro y0 s Y H Q I hq;refine wpAny_List_spliced (thn (h pos y0 s Y H _ I hq) λus s1 ⟨xs,H1,I1,r,z,q⟩=>⟨by rw[<- r.length];exact z,?_⟩);refine⟨.ref s1.heap.objs.size,upd H1 s1.heap.objs.size (.lst xs),I1.laid (t':=s1.toks) (λb u e=>Heap.get?_push_of_some _ e) (B5z _) ?_,rfl,q _ (I1.hok.fresh (B5z _))⟩;exact⟨z,us,0,r,Heap.get?_push_size _ rfl⟩
end
abbrev Sp:=List V->Hp->VK->XK->Prop
abbrev CXT:=List Env->Hp->Shared->XK->Value->Shared->Prop
structure Env0(P:Program)(w:World)(K:Zf)(mg:Str->Option Value)(base:Heap)(A:Around)(outer:List Env)(s:Shared)(H:Hp):Prop where
 frames:A.frames=some outer
 mod:Mod K mg base
 bs:∀b o,base.get? b=some o->s.heap.get? b=some o/\H b=none
 bsz:base.objs.size<=s.heap.objs.size
 funs:s.heap.FunFrames base outer
 frf:∀b∈frs outer,H b=none
 hok:HOk P w H s.heap
 bare:AllBare s.gens
def CE(outer:List Env)(P:Program)(w:World)(H:Hp)(s:Shared)(Q:VK)(u:Value)(s':Shared):Prop :=
 ∃v H',s'.os=s.os/\AllBare s'.gens/\Un (frs outer) [] H H' s.heap s'.heap/\HOk P w H' s'.heap/\RelV v u/\Q v H'
def CR(CX:CXT)(outer:List Env)(P:Program)(w:World)(H:Hp)(s:Shared)(Q:VK)(E:XK)(r:Result)(s':Shared):Prop :=
 match r with
 |.ok (.ret u)=>CE outer P w H s Q u s'
 |.ok _=>False
 |.error e=>CX outer H s E e s'
structure FnOk(P:Program)(w:World)(K:Zf)(mg:Str->Option Value)(base:Heap)(CX:CXT)(k:Nat)(f:Addr)(fd:FuncData)(ps:List Str)(sp:Sp):Prop where
 len:∀vs H Q E,sp vs H Q E->vs.length=ps.length
 run:∀(A:Around)(outer:List Env)(s:Shared)(H:Hp)(args:Args)(us:List Value)(vs:List V)(Q:VK)(E:XK),Room k A->Env0 P w K mg base A outer s H->BindsTo s fd args (ps.zip us)->Vals vs us->sp vs H Q E ->
  codeAny (model P w) A (.call (.ref f) args) (CR CX outer P w H s Q E) s
theorem FnOk.mono{K:Zf}(F:FnOk P w K mg base CX j f fd ps sp)(h:j<=k) :
  FnOk P w K mg base CX k f fd ps sp:=⟨F.len,λA outer s H args us vs Q E hr=>F.run A outer s H args us vs Q E (hr.mono h)⟩
theorem Env0.make{K:Zf}(e:Env0 P w K mg base A outer s H)(C:Addr)(us:List Value)(kw:List (Str×Value)) :
  Env0 P w K mg base (A.under (.builtin "type.__call__" ⟨.ref C::us,kw⟩)) outer s H:=⟨by first|exact e.frames|(simpa[Code.envs] using e.frames),e.mod,e.bs,e.bsz,e.funs,e.frf,e.hok,e.bare⟩
section
variable{X:Cx}{y0:List (Addr×Obj)}{Y:St}{H:Hp}{s s':Shared}
theorem Inv.env0(I:Inv X y0 Y H s):Env0 X.prog X.w X.K X.mg X.base X.A X.stack s H :=
 ⟨I.ok.frames,I.ok.mod,I.bs,T4z I.ok.bsz I.sz,I.stack,I.stkFree,I.hok,I.bare⟩
theorem Inv.after(I:Inv X y0 Y H s)(h:CE X.stack X.prog X.w H s Q u s'):EP X y0 Y Q u s':=by
 obtain⟨v,H',os,bare,un,hok,r,q⟩:=h;obtain⟨hh,g,d,t,os'⟩:=s';obtain rfl:os'=s.os:=os;exact⟨v,H',I.call un hok bare (λb z=>absurd z (by simp)),r,q⟩
end
def RX(sp:Sp)(dvs:List V)(E:XK)(t:TA):TE:=λY H Q=>t Y H λvs H1=>sp (vs++dvs) H1 Q E
def Nt(C:Addr)(m:Str)(sp:Sp)(dvs:List V)(E:XK)(ta:TE)(t:TA):TE:=λY H Q=>ta Y H λx H1=>∃a dx fs,x=.ref a/\H1 a=some (.ins C dx fs)/\fs.lookup m=none /\
 t Y H1 λvs H2=>sp (x::(vs++dvs)) H2 Q E
def RP(C:Addr)(sp:Sp)(dvs:List V)(E:XK)(t:TA):TE:=λY H Q=>t Y H λvs H1=>∀x dx,H1 x=none->H1 dx=none->dx≠x ->
 sp (.ref x::(vs++dvs)) (upd (upd H1 dx (.own x)) x (.ins C dx [])) (λv H2=>v=.non/\Q (.ref x) H2) E
def Binds(K:Zf)(fd:FuncData)(ps:List Str)(ds:List Value):Prop :=
 ∀(s:Shared)(us:List Value),K.In s.heap->(us++ds).length=ps.length->BindsTo s fd ⟨us,[]⟩ (ps.zip (us++ds))
theorem Binds.all{K:Zf}(h:∀us:List Value,us.length=ps.length->bindArgs fd ⟨us,[]⟩=pure (ps.zip us)):Binds K fd ps []:=λs us _ hl=>by
 rw[L3z] at hl ⊢;exact .of_eq (h us hl)
def Passes(CX:CXT)(X:Cx)(E:XK):Prop:=∀(y0:List (Addr×Obj))(Y:St)(H:Hp)(s:Shared)(e:Value)(s':Shared),Inv X y0 Y H s->CX X.stack H s E e s'->X.xe e s'
section
variable{X:Cx}{CX:CXT}{k:Nat}{f C:Addr}{fd:FuncData}{ps:List Str}{sp:Sp}{dvs:List V}{ds:List Value}{E:XK}{x m:Str}{p pos apos:Pos}{e o:Expr}{es:List Expr}{ta:TE}{t:TA}
theorem yR(F:FnOk X.prog X.w X.K X.mg X.base CX k f fd ps sp)(hr:Room k X.A)(hb:Binds X.K fd ps ds)(hd:Vals dvs ds)(hx:Passes CX X E)
  (I:Inv X y0 Y H s) (r:Vals vs us) (h:sp (vs++dvs) H Q E):wpAny (model X.prog X.w) X.A (call (.ref f) us) (EP X y0 Y Q) X.xe s:=by
 have r2:=r.append hd
 have hl:(us++ds).length=ps.length:=by rw[<- r2.length];exact F.len _ _ _ _ h
 refine wpAny_call (W4z (F.run X.A X.stack s H ⟨us,[]⟩ (us++ds) (vs++dvs) Q E hr I.env0 (hb s us I.kIn hl) r2 h) λr s' hq=>?_)
 cases r with
 |error e=>exact hx y0 Y H s e s' I hq
 |ok fl =>
  cases fl with
  |ret u=>exact I.after hq
  |next=>exact False.elim hq
  |brk=>exact False.elim hq
  |cont=>exact False.elim hq
theorem dX(F:FnOk X.prog X.w X.K X.mg X.base CX k f fd ps sp)(hr:Room k X.A)(hg:Gl X x)(hm:X.mg x=some (.ref f))(hk:W.keepIn X.K (.ref f)=true)(hb:Binds X.K fd ps ds)(hd:Vals dvs ds)(hx:Passes CX X E)
  (ha:PA X (e::es) t) (hdb:(x==("__debug__":Str))=false:=by decide) (he:starEach (e::es) X.env=(false,eval e X.env)::starEach es X.env:=by rfl) (hpl:(backTo pos (starEach es X.env)).any (·.1)=false:=by rfl) :
  PE X (.Call (.Name x p) (e::es) [] pos) (RX sp dvs E t):=by
 intro y0 s Y H Q I h;refine R1z (gq I hg hm ?_ hdb);refine S1z I.ok.mod.kin hk (thn (ha pos y0 s Y H _ I h) λus s1 ⟨vs,H1,I1,r,q⟩=>⟨I1.kIn,?_⟩) he hpl;exact yR F hr hb hd hx I1 r q
theorem cV(he:PE X o ta)(c:Cls X.K C)(hm:Meth X.K C m f)(F:FnOk X.prog X.w X.K X.mg X.base CX k f fd ps sp)(hr:Room k X.A)(hb:Binds X.K fd ps ds)(hd:Vals dvs ds)(hx:Passes CX X E)(ha:PA X (e::es) t)
  (hst:starEach (e::es) X.env=(false,eval e X.env)::starEach es X.env:=by rfl) (hpl:(backTo pos (starEach es X.env)).any (·.1)=false:=by rfl)
  (ht:eval (.Call (.Attribute o m apos) (e::es) [] pos) X.env=(do
   let ov <- eval o X.env
   standAt apos.atName
   let (f,first) <- holding [ov] (getMethod ov m pl)
   callWith pos f first (backTo pos (starEach (e::es) X.env)) (backToKw pos (keywordEach [] X.env))):=by rfl) :
  PE X (.Call (.Attribute o m apos) (e::es) [] pos) (Nt C m sp dvs E ta t):=by
 intro y0 s Y H Q I h;refine W.methodCall_KW (thn (he y0 s Y H _ I h) λu s1 ⟨x,H1,I1,rx,a,dx,fs,ex,ea,l,q⟩=>?_) ht;subst ex;obtain rfl:u=Value.ref a:=rx;refine nq I1 ea c hm l ?_;refine S1z I.ok.mod.kin hm.kp (thn (ha pos y0 s1 Y H1 _ I1 q) λus s2 ⟨vs,H2,I2,r,q2⟩=>⟨I2.kIn,?_⟩) hst hpl;exact yR (vs:=.ref a::vs) F hr hb hd hx I2 (.cons rfl r) q2
theorem Dy(he:PE X o ta)(c:Cls X.K C)(hm:Meth X.K C m f)(F:FnOk X.prog X.w X.K X.mg X.base CX k f fd ps sp)(hr:Room k X.A)(hb:Binds X.K fd ps ds)(hd:Vals dvs ds)(hx:Passes CX X E)
  (ht:eval (.Call (.Attribute o m apos) [] [] pos) X.env=(do
   let ov <- eval o X.env
   standAt apos.atName
   let (f,first) <- holding [ov] (getMethod ov m pl)
   callWith pos f first (backTo pos (starEach [] X.env)) (backToKw pos (keywordEach [] X.env))):=by rfl) :
  PE X (.Call (.Attribute o m apos) [] [] pos) (Nt C m sp dvs E ta Q7):=by
 intro y0 s Y H Q I h;refine W.methodCall_KW (thn (he y0 s Y H _ I h) λu s1 ⟨x,H1,I1,rx,a,dx,fs,ex,ea,l,q⟩=>?_) ht;subst ex;obtain rfl:u=Value.ref a:=rx;refine nq I1 ea c hm l ?_;exact W.callWith_K0 I1.kIn hm.kp (yR (vs:=[.ref a]) F hr hb hd hx I1 (.cons rfl .nil) q)
structure Mk(K:Zf)(C f:Addr):Prop where
 makes:W.makesIn K C=true
 init:W.findIn K (.ref C) "__init__"=some (some (.ref f))
 fn:W.isFn K (.ref f)=true
 kp:W.keepIn K (.ref C)=true
theorem Dk(M:Mk X.K C f)(F:FnOk X.prog X.w X.K X.mg X.base CX k f fd ps sp)(hr:Room (k+1) X.A)(hb:Binds X.K fd ps ds)(hd:Vals dvs ds)
  (hx:Passes CX X E) (I:Inv X y0 Y H s) (r:Vals vs us)
  (h:∀x dx,H x=none->H dx=none->dx≠x->sp (.ref x::(vs++dvs)) (upd (upd H dx (.own x)) x (.ins C dx [])) (λv H2=>v=.non/\Q (.ref x) H2) E) :
  wpAny (model X.prog X.w) X.A (call (.ref C) us) (EP X y0 Y Q) X.xe s:=by
 have hq:=h (s.heap.objs.size+1) s.heap.objs.size (I.hok.fresh (Nat.le_succ _)) (I.hok.fresh (B5z _)) (S4z (T2z _));have I2:=Inv.made (C:=C) I;have r2:Vals (V.ref (s.heap.objs.size+1)::(vs++dvs)) (Value.ref (s.heap.objs.size+1)::(us++ds)):=.cons rfl (r.append hd)
 have hl:(Value.ref (s.heap.objs.size+1)::us++ds).length=ps.length:=by
  have e:=r2.length;rw[F.len _ _ _ _ hq] at e;exact e.symm
 refine wpAny_call (Eo I.kIn M.makes M.init (beq_iff_eq.mp M.fn) (W4z (F.run _ X.stack _ _ ⟨Value.ref (s.heap.objs.size+1)::us,[]⟩ (Value.ref (s.heap.objs.size+1)::(us++ds)) _ _ E (hr.make C us [])
  (I2.env0.make C us []) (hb _ (Value.ref (s.heap.objs.size+1)::us) I2.kIn hl) r2 hq) λr s' hq'=>?_))
 cases r with
 |error e=>exact hx y0 Y _ _ e s' I2 hq'
 |ok fl =>
  cases fl with
  |ret u =>
   obtain⟨v,H',I3,rv,ev,q3⟩:=I2.after hq';subst ev;exact⟨rv,⟨V.ref (s.heap.objs.size+1),H',I3,rfl,q3⟩⟩
  |next=>exact False.elim hq'
  |brk=>exact False.elim hq'
  |cont=>exact False.elim hq'
theorem uR(M:Mk X.K C f)(F:FnOk X.prog X.w X.K X.mg X.base CX k f fd ps sp)(hr:Room (k+1) X.A)(hg:Gl X x)(hm:X.mg x=some (.ref C))(hb:Binds X.K fd ps ds)(hd:Vals dvs ds)(hx:Passes CX X E)
  (hdb:(x==("__debug__":Str))=false:=by decide):PE X (.Call (.Name x p) [] [] pos) (RP C sp dvs E Q7):=by
 intro y0 s Y H Q I h;refine R1z (gq I hg hm ?_ hdb);exact W.callWith_K0 I.kIn M.kp (Dk M F hr hb hd hx I .nil h)
end
section
variable{X:Cx}{CX:CXT}{k:Nat}{f C:Addr}{fd:FuncData}{ps ks:List Str}{sp:Sp}{E:XK}{x m:Str}{p pos apos kpos:Pos}{e o:Expr}{es:List Expr}{kws:List Keyword}{te ta:TE}{t tk:TA}{nm:Option Str}
variable{g:List Value->List Value->List Value}{gV:List V->List V->List V}
end
structure FnScope(N P:List Str)(sc:Scope):Prop where
 kind:sc.kind=.function
 co:sc.isCoroutine=false
 gen:sc.isGenerator=false
 nd:N.Nodup
 pre:N.take P.length=P
 par:∀x∈P,sc.names.lookup x=some .local\/sc.names.lookup x=some .cell
 nofree:∀y∈sc.names,y.2≠.free
theorem rG{kindOf:Str->Option NameKind}:∀{binds:List (Str×Value)}{m:Str->Option Value},(∀v,(x,v)∉binds)->bindL kindOf binds m x=m x
 |[],_,_=>rfl
 |(n,v)::r,m,h=>by
  unfold bindL;rw[rG λw hw=>h w (X0z _ hw)];split
  .have:x≠n:=by rintro rfl;exact h v N1z
   simp[this]
  .rfl
theorem rJ{kindOf:Str->Option NameKind}:∀{binds:List (Str×Value)}{m:Str->Option Value},(∀v,(x,v)∉binds)->bindC kindOf binds m x=m x
 |[],_,_=>rfl
 |(n,v)::r,m,h=>by
  unfold bindC;rw[rJ λw hw=>h w (X0z _ hw)];split
  .rfl
  .have:x≠n:=by rintro rfl;exact h v N1z
   simp[this]
theorem rH{kindOf:Str->Option NameKind}:∀{P:List Str}{vs:List Value}{i:Nat}{m:Str->Option Value},P.Nodup->P[i]?=some x->vs[i]?=some v->kindOf x=some .local ->
  bindL kindOf (P.zip vs) m x=some v
 |[],_,_,_,_,h,_,_=>by simp at h
 |_::_,[],_,_,_,_,h,_=>by simp at h
 |p::P,w::vs,0,m,nd,h1,h2,hk=>by
  simp at h1 h2;subst h1;subst h2
  show bindL kindOf ((p,w)::P.zip vs) m p=_;unfold bindL;rw[rG λv hv=>(N3z.mp nd).1 (M3z hv).1,T5z hk];simp
 |p::P,w::vs,i+1,m,nd,h1,h2,hk=>by
  unfold bindL;exact rH (N3z.mp nd).2 (by simpa using h1) (by simpa using h2) hk
theorem rK{kindOf:Str->Option NameKind}:∀{P:List Str}{vs:List Value}{i:Nat}{m:Str->Option Value},P.Nodup->P[i]?=some x->vs[i]?=some v->kindOf x≠some .local ->
  bindC kindOf (P.zip vs) m x=some v
 |[],_,_,_,_,h,_,_=>by simp at h
 |_::_,[],_,_,_,_,h,_=>by simp at h
 |p::P,w::vs,0,m,nd,h1,h2,hk=>by
  simp at h1 h2;subst h1;subst h2
  show bindC kindOf ((p,w)::P.zip vs) m p=_;unfold bindC;rw[rJ λv hv=>(N3z.mp nd).1 (M3z hv).1,U5z hk];simp
 |p::P,w::vs,i+1,m,nd,h1,h2,hk=>by
  unfold bindC;exact rK (N3z.mp nd).2 (by simpa using h1) (by simpa using h2) hk
def start(N:List Str)(vs:List V):St:=vs.map some++List.replicate (N.length-vs.length) none
def gW(CX:CXT)(P:Program)(w:World)(K:Zf)(mg:Str->Option Value)(base:Heap)(N:List Str)(qual:Str)(scope:Scope)(f:Addr)(cd:Value)(A:Around)(outer:List Env)(s:Shared)(H:Hp)(E:XK):Cx where
 prog:=P
 w:=w
 K:=K
 mg:=mg
 base:=base
 A:=A.deeper (envOfC qual scope s.heap.objs.size f cd)
 N:=N
 s₀:=s
 H₀:=H
 env:=envOfC qual scope s.heap.objs.size f cd
 outer:=outer
 stack:=envOfC qual scope s.heap.objs.size f cd::outer
 ex:=[]
 calm:=true
 fn:=λ_=>true
 pn:=[]
 xe:=λe s'=>wpAny (model P w) (A.deeper (envOfC qual scope s.heap.objs.size f cd)) (leaving (envOfC qual scope s.heap.objs.size f cd) e) (λ_ s''=>CX outer H s E e s'') (λe' s''=>CX outer H s E e' s'') s'
theorem vK{sc:Scope}(h:sc.names.lookup x=some .cell):∃c,(cellsFrom n sc.names []).lookup x=some c:=by
 exact Option.isSome_iff_exists.mp (L0z sc.names n [] (.inl h))
theorem nj{K:Zf}
  (S:FnScope N ps scope) (hd:c=true->A.handled=none) (e0:Env0 P w K mg base A outer s H) (hl:vs.length=ps.length) (r:Vals vs us)
  (x:InCallC s s.heap.objs.size (bindL (envOfC qual scope s.heap.objs.size f cd).kindOf (ps.zip us) λ_=>none) (cellsFrom (s.heap.objs.size+1) scope.names []) (bindC (envOfC qual scope s.heap.objs.size f cd).kindOf (ps.zip us) λ_=>none) s1) :
  Inv {gW CX P w K mg base N qual scope f cd A outer s H E with calm:=c} [] (start N vs) H s1:=by
 have hpl:ps.length<=N.length:=by have:=congrArg List.length S.pre;rw[List.length_take] at this;omega
 obtain⟨h1,tk,rfl,hk⟩:=x.done;have noA:∀b:Addr,b∉({gW CX P w K mg base N qual scope f cd A outer s H E with calm:=c}:Cx).ex:=λb z=>absurd (show b∈([]:List Addr) from z) (by simp)
 refine⟨⟨e0.mod,S.kind,rfl,rfl,B5z _,λy z c h1 h2=>?_,λy hy=>?_,λy c _ h=>?_,hd,Around.frames_deeper e0.frames,.inr ⟨rfl,rfl⟩,λb z=>absurd z (noA b),e0.bs,e0.bsz,λb _ _=>noA b,λb z=>absurd z (noA b),e0.funs,e0.frf⟩,
  rfl,e0.bare,Un.kept hk,⟨_,x.toInCall.ns,λi y v h1 h2 h3=>?_⟩,λy c h=>⟨_,x.cell y c h⟩,e0.hok.fresh (B5z _),λy c h=>?_,λp hp=>absurd (show p∈([]:List (Addr×Obj)) from hp) (by simp),e0.hok.kept hk,?_⟩
 .exact name_of_addr x.apart (F1z h1) (F1z h2)
 .obtain hy|hy:=hy
  .exact vK hy
  .exact absurd rfl (S.nofree _ (F1z hy))
 .exact U4z (x.above y c (F1z h))
 .have hi:i<vs.length:=by
   unfold start at h2
   by_cases hi:i<vs.length
   .exact hi
   .rw[List.getElem?_append_right (by simpa using hi)] at h2
    rw[List.getElem?_replicate] at h2
    split at h2<;>cases h2
  have ha:vs[i]?=some v:=by
   unfold start at h2;rw[List.getElem?_append_left (by simpa using hi),List.getElem?_map] at h2
   cases e:vs[i]? with
   |none=>rw[e] at h2;cases h2
   |some a=>rw[e] at h2;cases h2;rfl
  obtain⟨u,hu,rv⟩:=r.get ha
  have hp:ps[i]?=some y:=by
   rw[<- S.pre,List.getElem?_take_of_lt (by omega)];exact h1
  have ndP:ps.Nodup:=by rw[<- S.pre];exact S.nd.sublist (List.take_sublist _ _)
  refine⟨u,rv,?_⟩;obtain k|k:=S.par y (List.mem_of_getElem? hp)
  .exact .inl ⟨k,rH ndP hp hu k⟩
  .obtain⟨c,e⟩:=vK k
   refine .inr ⟨.inl k,c,e,?_⟩;have q:=x.cell y c e;rw[rK ndP hp hu (by show scope.names.lookup y≠_;rw[k];decide)] at q;exact q
 .exact e0.hok.fresh (U4z (x.above y c (F1z h)))
 .unfold start
  show _=N.length;rw[T1z,K3z,List.length_replicate];omega
theorem KQ{K:Zf}{dV kV doc pm cdv ct oc:Value}
       (lk:K.lookup f=some ⟨oc,od,.func (W.fnOf name qual params body scope dV kV doc pm an cdv ct),osl⟩) (hcd:W.codeIn K cdv qual=true) (S:FnScope N ps scope)
    (len:∀vs H Q E,sp vs H Q E->vs.length=ps.length)
    (hbody:∀(A:Around)(outer:List Env)(s:Shared)(H:Hp)(vs:List V)(Q:VK)(E:XK),Room k (A.deeper (envOfC qual scope s.heap.objs.size f cdv))->sp vs H Q E ->
      ∃t,PSs (gW CX P w K mg base N qual scope f cdv A outer s H E) body t/\t {nx:=λ_ H'=>Q .non H',rt:=Q} (start N vs) H) :
    FnOk P w K mg base CX (k+1) f (W.fnOf name qual params body scope dV kV doc pm an cdv ct) ps sp:=by
  refine⟨len,λA outer s H args us vs Q E hr e0 hb r hsp=>?_⟩
  have hl:=len _ _ _ _ hsp
  have KX:=e0.mod.kin.keeps λb o e=>(e0.bs b o e).1
  have hkind:∀y∈ps.zip us,scope.names.lookup y.1=some .local\/(scope.names.lookup y.1=some .cell/\((cellsFrom (s.heap.objs.size+1) scope.names []).lookup y.1).isSome=true):=λ⟨n,v⟩ hy=>by
    rcases S.par n (M3z hy).1 with q|q
    . exact .inl q
    . exact .inr ⟨q,L0z _ _ _ (.inl q)⟩
  refine codeAny_call_function hr.depth (KX _ _ lk) rfl S.co S.gen rfl (W.codeRec_of KX hcd) (hb _ _ _ _ ?_)
  refine wpAny_newFunctionEnv_cells S.kind hkind λenv he s1 x=>?_
  subst he
  refine⟨(e0.mod.nolimit.keeps λb o e=>(e0.bs b o e).1).keeps x.toInCall.keep,codeAny_func ?_⟩
  obtain⟨t,ht,hq⟩:=hbody A outer s H vs Q E (hr.deeper _) hsp
  refine H5z (ht [] s1 (start N vs) H _ (nj (c:=true) S (λ_=>hr.hd) e0 hl r x) hq) (λfl s' hs=>?_) λe s' hs=>hs
  have fin:∀{Y':St}{H':Hp}{v:V}{u:Value},Inv (gW CX P w K mg base N qual scope f cdv A outer s H E) [] Y' H' s'->RelV v u->Q v H'->CE outer P w H s Q u s' :=
    λ{Y' H' v u} J rv q=>⟨v,H',J.os,J.bare,J.base,J.hok,rv,q⟩
  cases fl with
  |ret u =>
    obtain⟨v,Y',H',J,rv,q⟩:=hs
    exact fin J rv q
  |next =>
    obtain⟨Y',H',J,q⟩:=hs
    exact fin (v:=V.non) J rfl q
  |brk =>
    obtain⟨_,_,_,q⟩:=hs
    exact False.elim q
  |cont =>
    obtain⟨_,_,_,q⟩:=hs
    exact False.elim q
section
variable{X:Cx}{x:Str}{p pos:Pos}{e:Expr}{es:List Expr}{t:TA}{id T:String}{r:List V->Hp->VK->Prop}
def tCB(r:List V->Hp->VK->Prop)(t:TA):TE:=λY H Q=>t Y H λvs H1=>r vs H1 Q
theorem bY(hc:dz X (.builtin id) r)(hg:Gl X x)(hm:X.mg x=none)(hv:bootBuiltins x=some (.builtin id))(ha:PA X (e::es) t)(hn:x≠"__name__":=by decide)(hdb:(x==("__debug__":Str))=false:=by decide)
  (he:starEach (e::es) X.env=(false,eval e X.env)::starEach es X.env:=by rfl) (hpl:(backTo pos (starEach es X.env)).any (·.1)=false:=by rfl):PE X (.Call (.Name x p) (e::es) [] pos) (tCB r t):=by
 intro y0 s Y H Q I h;exact R1z (jP I hg hm hv (PyProof.Rows.callWith_builtin1 (thn (ha pos y0 s Y H _ I h) λus s1 ⟨vs,H1,I1,r1,q1⟩=>hc y0 s1 Y H1 vs us Q I1 r1 q1) he hpl) hn hdb)
theorem cZ(hc:dz X (.type T) r)(hg:Gl X x)(hm:X.mg x=none)(hv:bootBuiltins x=some (.type T))(ha:PA X (e::es) t)(hn:x≠"__name__":=by decide)(hdb:(x==("__debug__":Str))=false:=by decide)
  (he:starEach (e::es) X.env=(false,eval e X.env)::starEach es X.env:=by rfl) (hpl:(backTo pos (starEach es X.env)).any (·.1)=false:=by rfl):PE X (.Call (.Name x p) (e::es) [] pos) (tCB r t):=by
 intro y0 s Y H Q I h;exact R1z (jP I hg hm hv (A0z (thn (ha pos y0 s Y H _ I h) λus s1 ⟨vs,H1,I1,r1,q1⟩=>hc y0 s1 Y H1 vs us Q I1 r1 q1) he hpl) hn hdb)
end
end L2
namespace HT
open PySem PyProof.Rows
section
open PySem.SeqAt
open PySem.MeetsSeq PySem.MeetsSeq2 PySem.MeetsSeq3
end
section
variable{prog:Program}{w:World}{A:Around}{E:Value->Shared->Prop}{s:Shared}
theorem Lr(ht:IsTup s.heap t vs.toArray)(hb:IsTup s.heap b ws.toArray)(hv:vs≠[])
  (h1:ws=[]->Q (.ref t) s) (h2:ws≠[]->Q (.ref s.heap.objs.size) {s with heap:=s.heap.push {cls:=.type "tuple",data:=.seq (vs++ws).toArray} })
  (hsz:vs.length+ws.length<=sizeLine):wpAny (model prog w) A (binaryOp .Add (.ref t) (.ref b)) Q E s:=by
 obtain⟨⟨cls,dd,data,sl⟩,ho,hc,n,hd⟩:=id ht;obtain⟨⟨cls2,dd2,data2,sl2⟩,ho2,hc2,n2,hd2⟩:=id hb;subst hc hd hc2 hd2
 have e:vs.toArray++ws.toArray=(vs++ws).toArray:=by simp
 by_cases hw:ws=[]
 .exact concat_meets ⟨_,ho,rfl⟩ ⟨_,ho2,rfl⟩ noFill_tuple_add seq_tuple_add M0z F0z (C0z _ _)
   (tuple_addW1 t b vs.toArray ws.toArray n n2 dd dd2 sl sl2 (by simpa using hv) (by simp[hw])) ⟨ho,ho2,h1 hw⟩
 .refine concat_meets ⟨_,ho,rfl⟩ ⟨_,ho2,rfl⟩ noFill_tuple_add seq_tuple_add M0z F0z (C0z _ _)
   (tuple_addW2 t b vs.toArray ws.toArray n n2 dd dd2 sl sl2 (by simpa using hv) (by simpa using hw) (by rw[H2z,H2z];exact hsz)) ⟨ho,ho2,?_⟩
  rw[e];exact h2 hw
end
end HT
namespace L2
open PySem PySem.Spec PyProof.Rows
abbrev TO:=St->Hp->(Option Int->Hp->Prop)->Prop
theorem intsAre_of:∀{us:List Value},Vals (ns.map V.int) us->IntsAre us ns:=by
 induction ns with
 |nil=>intro us r;rw[X4z] at r;cases r;exact .nil
 |cons n ns ih =>
  intro us r
  cases r with
  |cons r1 r2 =>
   obtain⟨t,e⟩:=r1;subst e;exact .cons n t (ih r2)
section
variable{X:Cx}{e:Expr}{te:TE}{lo hi:Option Expr}{tl th:TO}{pos p2:Pos}
def Sy(K:Zf):R2:=λx y H Q=>∃a b xs ys,x=.ref a/\y=.ref b/\SqT K H a xs/\SqT K H b ys/\xs≠[]/\xs.length+ys.length<=sizeLine /\
 (ys=[]->Q (.ref a) H)/\(ys≠[]->∀p,H p=none->Q (.ref p) (upd H p (.tup (xs++ys))))
theorem Vals.nil_iff(r:Vals xs us):us=[]↔xs=[]:=by
 cases r with
 |nil=>simp
 |cons _ _=>simp
theorem JZ:OpR X (binaryOp .Add) (Sy X.K):=by
 intro y0 s Y H x y v u Q I rx ry h;obtain⟨a,b,xs,ys,rfl,rfl,ha,hb,hx,hz,q1,q2⟩:=h;cases rx;cases ry;obtain⟨its,r1,p1,_⟩:=I.tuple ha;obtain⟨its2,r2,p2,_⟩:=I.tuple hb;refine HT.Lr p1 p2 (λz=>hx (r1.nil_iff.mp z)) (λz=>⟨.ref a,H,I,rfl,q1 (r2.nil_iff.mp z)⟩) (λz=>?_) (by rw[<- r1.length,<- r2.length];exact hz);refine⟨.ref s.heap.objs.size,_,I.laid (λb ob q=>Heap.get?_push_of_some _ q) (B5z _) ?_,rfl,q2 (λw=>z (r2.nil_iff.mpr w)) _ (I.hok.fresh (B5z _))⟩;exact⟨by rw[T1z];exact hz,_,r1.append r2,IsTup.new _ _⟩
end
def ixN(n:Nat)(i:Int):Option Nat:=if 0<=i then(if i<n then some i.toNat else none) else if -(n:Int)<=i then some (i+n).toNat else none
def atI{α:Type}(xs:List α)(i:Int):Option α:=(ixN xs.length i).bind λj=>xs[j]?
theorem Ks(h:ixN n i=some j):seqIndex? i n=some j/\j<n /\ -(n:Int)<=i/\i<n:=by
 unfold ixN at h
 by_cases h0:0<=i
 .rw[T5z h0] at h
  by_cases h1:i<n
  .rw[T5z h1] at h
   have e:=I3z h;exact⟨by rw[seqIndex_of h0 h1,e],by omega,by omega,h1⟩
  .rw[U5z h1] at h;cases h
 .rw[U5z h0] at h
  by_cases h1:-(n:Int)<=i
  .rw[T5z h1] at h
   have e:=I3z h;exact⟨by rw[seqIndex_neg (by omega) h1,e],by omega,h1,by omega⟩
  .rw[U5z h1] at h;cases h
theorem Ca(h:atI xs i=some v):∃j,seqIndex? i xs.length=some j/\xs[j]?=some v/\j<xs.length /\ -(xs.length:Int)<=i/\i<xs.length:=by
 unfold atI at h
 cases e:ixN xs.length i with
 |none=>rw[e] at h;cases h
 |some j =>
  rw[e] at h;obtain⟨h1,h2,h3,h4⟩:=Ks e;exact⟨j,h1,h,h2,h3,h4⟩
def Cq(b:Expr):Prop:=∀o i,subscripted b false o i=operate [o,i] (getItem o i)
def IxR(X:Cx)(r:R2):Prop :=
  ∀(value slice:Expr)(y0:List (Addr×Obj))(s:Shared)(Y:St)(H:Hp)(x y:V)(v u:Value)(Q:VK), Inv X y0 Y H s->RelV x v->RelV y u->r x y H Q ->
    subscripted slice false v u=operate [v,u] (getItem v u)->wpAny (model X.prog X.w) X.A (subscriptTail value slice v u) (EP X y0 Y Q) X.xe s
def MtR(X:Cx)(id:String)(r:V->List V->Hp->VK->Prop):Prop :=
  ∀(y0:List (Addr×Obj))(s:Shared)(Y:St)(H:Hp)(x:V)(xs:List V)(v:Value)(us:List Value)(Q:VK), Inv X y0 Y H s->RelV x v->Vals xs us->r x xs H Q ->
    wpAny (model X.prog X.w) X.A (call (.builtin id) (v::us)) (EP X y0 Y Q) X.xe s
section
variable{X:Cx}{a b:Expr}{ta tb:TE}{pos:Pos}
theorem zx(hr:IxR X r)(ha:PE X a ta)(hb:PE X b tb)(hs:Cq b):PE X (.Subscript a b pos) (tOp r ta tb):=by
 exact λy0 s Y H Q I h=>Subscript_ (UJ ha hb I h λv u s2 x y H2 I2 rx ry q=>hr a b y0 s2 Y H2 x y v u Q I2 rx ry q (hs _ _))
def Wz(K:Zf):R2:=λx y H Q=>∃p xs i v,x=.ref p/\y=.int i/\SqL K H p xs/\atI xs i=some v/\Q v H
def Wy(K:Zf):R2:=λx y H Q=>∃p xs i v,x=.ref p/\y=.int i/\SqT K H p xs/\atI xs i=some v/\Q v H
theorem Kr:IxR X (Wz X.K):=by
 intro value slice y0 s Y H x y v u Q I rx ry h hs;obtain⟨p,xs,i,z,rfl,rfl,hq,he,q⟩:=h;cases rx;obtain⟨t,rfl⟩:=ry;obtain⟨its,r,pl,hz⟩:=I.list hq;obtain⟨j,h1,h2,h3,h4,h5⟩:=Ca he;obtain⟨w,ew,rw'⟩:=r.get h2;have hl:=r.length;have hn:=qF;have fin:EP X y0 Y Q w s:=⟨z,H,I,rw',q⟩
 by_cases h0:0<=i
 .have hj:i.toNat=j:=by
   rw[seqIndex_of h0 h5] at h1;exact I3z h1
  exact item_listR pl.isList h0 (by omega) (by rw[hj];simpa using ew) fin hs
 .have hj:(i+(its.toArray.size:Int)).toNat=j:=by
   rw[seqIndex_neg (by omega) h4] at h1;rw[H2z,<- hl];exact I3z h1
  exact subscriptTail_builtinR pl.isList.typeIs slot_list_getitem.lookup
   (wpAny_getItem_list_neg pl.isList (by omega) (by rw[H2z]<;>omega) (by omega) (by rw[hj];simpa using ew) ⟨rfl,fin⟩) hs
theorem u9:IxR X (Wy X.K):=by
 intro value slice y0 s Y H x y v u Q I rx ry h hs;obtain⟨p,xs,i,z,rfl,rfl,hq,he,q⟩:=h;cases rx;obtain⟨t,rfl⟩:=ry;obtain⟨its,r,pl,hz⟩:=I.tuple hq;obtain⟨j,h1,h2,h3,h4,h5⟩:=Ca he;obtain⟨w,ew,rw'⟩:=r.get h2;have hl:=r.length;have hn:=qF;have fin:EP X y0 Y Q w s:=⟨z,H,I,rw',q⟩
 exact subscriptTail_builtinR pl.typeIs slot_tuple_getitem.lookup
  (getItem_tuple pl (by omega) (by omega) (by rw[H2z,<- hl];exact h1) (by simpa using ew) ⟨rfl,fin⟩) hs
theorem eU:dz X (.builtin "len") (λxs H Q=>∃p ys,xs=[.ref p]/\(SqL X.K H p ys\/SqT X.K H p ys)/\Q (.int ys.length) H):=by
 intro y0 s Y H xs us Q I r h;obtain⟨p,ys,rfl,hq,q⟩:=h;obtain⟨u,rfl,rx⟩:=vals1 r;cases rx;have hn:=qF;obtain hq|hq:=hq
 .obtain⟨its,r',pl,hz⟩:=I.list hq
  have hlen:=r'.length;exact Calls.call_len_list pl.isList (by simp[H2z]<;>omega) ⟨.int ys.length,H,I.tok _,⟨s.toks+1,by rw[H2z,hlen]⟩,q⟩
 .obtain⟨its,r',pl,hz⟩:=I.tuple hq
  have hlen:=r'.length;exact len_tuple pl (by simp[H2z]<;>omega) ⟨.int ys.length,H,I.tok _,⟨s.toks+1,by rw[H2z,hlen]⟩,q⟩
theorem rz:dz X (.builtin "len") (λxs H Q=>∃z,xs=[.str z]/\z.length<=sizeLine/\Q (.int z.length) H):=by
 intro y0 s Y H xs us Q I r h;obtain⟨z,rfl,hz,q⟩:=h;obtain⟨u,rfl,t,rfl⟩:=vals1 r;have hn:=qF;exact len_str (by omega) ⟨.int z.length,H,I.tok _,⟨_,rfl⟩,q⟩
theorem gG:dz X (.type "list") (λxs H Q=>∃p ys,xs=[.ref p]/\(SqL X.K H p ys\/SqT X.K H p ys)/\∀l,H l=none->Q (.ref l) (upd H l (.lst ys))):=by
 intro y0 s Y H xs us Q I r h;obtain⟨p,ys,rfl,hq,q⟩:=h;obtain⟨u,rfl,rx⟩:=vals1 r;cases rx
 have fin:∀(its:List Value),Vals ys its->ys.length<=sizeLine->∀(h':Heap)(c':Nat),(∀b o',s.heap.get? b=some o'->h'.get? b=some o') ->
   h'.get? s.heap.objs.size=some {cls:=.type "list",dict:=none,data:=.seq its.toArray c',slots := #[]}->EP X y0 Y Q (.ref s.heap.objs.size) {s with heap:=h'}:=λits r' hz h' c' kp e =>
  ⟨.ref s.heap.objs.size,_,I.laid kp (B5z _) (show cX X.prog X.w _ h' _ (.lst ys) from⟨hz,its,c',r',e⟩),rfl,q _ (I.hok.fresh (B5z _))⟩
 obtain hq|hq:=hq
 .obtain⟨its,r',pl,hz⟩:=I.list hq
  have hlen:=r'.length;obtain⟨o,ho,hc,n,hd⟩:=pl.isList;exact call_list_seq p (.inl rfl) ho hc hd (λh' c' kp e=>fin its r' hz h' c' kp e) (by simp[H2z]<;>omega)
 .obtain⟨its,r',pl,hz⟩:=I.tuple hq
  have hlen:=r'.length;obtain⟨o,ho,hc,n,hd⟩:=pl;exact call_list_seq p (.inr rfl) ho hc hd (λh' c' kp e=>fin its r' hz h' c' kp e) (by simp[H2z]<;>omega)
theorem pC:dz X (.type "tuple") (λxs H Q=>∃p ys,xs=[.ref p]/\((SqL X.K H p ys/\∀l,H l=none->Q (.ref l) (upd H l (.tup ys)))\/(SqT X.K H p ys/\Q (.ref p) H))):=by
 intro y0 s Y H xs us Q I r h;obtain⟨p,ys,rfl,h⟩:=h;obtain⟨u,rfl,rx⟩:=vals1 r;cases rx;obtain⟨hq,q⟩|⟨hq,q⟩:=h
 .obtain⟨its,r',pl,hz⟩:=I.list hq
  have hlen:=r'.length;refine call_tuple_list pl.isList (λh' kp=>?_) (by simp[H2z]<;>omega);have I1:=I.kept (t':=s.toks) kp
  have I2 :=
   I1.laid (t':=s.toks) (λb o e=>Heap.get?_push_of_some _ e) (B5z _) (show cX X.prog X.w _ _ _ (.tup ys) from⟨hz,its,r',IsTup.new _ _⟩)
  exact⟨.ref h'.objs.size,_,I2,rfl,q _ (I1.hok.fresh (B5z _))⟩
 .obtain⟨its,r',pl,hz⟩:=I.tuple hq
  exact call_tuple_same pl ⟨.ref p,H,I,rfl,q⟩
def tyV(K:Zf)(T:String)(x:V)(H:Hp):Prop:=match x with
 |.str _=>T="str"
 |.int _=>T="int"
 |.ref p=>(T="list"/\∃xs, SqL K H p xs) \/ (T="tuple"/\∃o, K.lookup p=some o/\o.cls=.type "tuple"/\o.dict=none) \/
   (T="dict"/\((∃kvs,H p=some (.dK kvs))\/∃kvs,H p=some (.dT kvs)))\/(T="set"/\∃S n,H p=some (.set S n))
 |_=>False
theorem Gs(I:Inv X y0 Y H s)(r:RelV x v)(ty:tyV X.K T x H) :
  s.TypeIs v T/\∀a,v=.ref a->∃ob,s.heap.get? a=some ob/\ob.dict=none:=by
 cases x with
 |str z =>
  obtain⟨t,rfl⟩:=r;cases ty;exact⟨typeIs_str s z t,λ_ e=>nomatch e⟩
 |int i =>
  obtain⟨t,rfl⟩:=r;cases ty;exact⟨typeIs_int s i t,λ_ e=>nomatch e⟩
 |ref p =>
  cases r;obtain⟨rfl,xs,hq⟩|⟨rfl,o,hk,hc,hd⟩|⟨rfl,hk⟩|⟨rfl,S,n,hk⟩:=ty
  .obtain⟨its,_,pl,_⟩:=I.list hq
   refine⟨pl.isList.typeIs,λa e=>?_⟩;cases e;obtain⟨o,n,e,c,hd,_⟩:=pl;exact⟨o,e,hd⟩
  .refine⟨⟨o,I.kIn p o hk,hc⟩,λa e=>?_⟩
   cases e;exact⟨o,I.kIn _ o hk,hd⟩
  .have z:∃o,s.heap.get? p=some o/\o.ExactDict:=by
    obtain⟨kvs,hk⟩|⟨kvs,hk⟩:=hk
    .obtain⟨_,_,_,_,o,_,_,e,ex,_⟩:=I.hok p _ hk
     exact⟨o,e,ex⟩
    .obtain⟨_,_,_,_,o,_,_,e,ex,_⟩:=I.hok p _ hk
     exact⟨o,e,ex⟩
   obtain⟨o,e,ex⟩:=z;refine⟨⟨o,e,ex.1⟩,λa e2=>?_⟩;cases e2;exact⟨o,e,ex.2.1⟩
  .obtain⟨o,_,_,_,e,ex,_⟩:=I.hok p _ hk
   refine⟨⟨o,e,ex.1⟩,λa e2=>?_⟩;cases e2;exact⟨o,e,ex.2.1⟩
 |_=>exact False.elim ty
def Wn(K:Zf)(T:String)(r:V->List V->Hp->VK->Prop)(to:TE):TE:=λY H Q=>to Y H λx H1=>tyV K T x H1/\r x [] H1 Q
def tBM(K:Zf)(T:String)(r:V->List V->Hp->VK->Prop)(to:TE)(t:TA):TE:=λY H Q=>to Y H λx H1=>tyV K T x H1/\t Y H1 λxs H2=>r x xs H2 Q
variable{o e:Expr}{es:List Expr}{to:TE}{t:TA}{name:Str}{apos cpos:Pos}{T id:String}{r:V->List V->Hp->VK->Prop}
theorem Ot(pa:PlainAttrs T)(slot:Slot T name id)(hty:typeOf (.builtin id)=pure (.type "method_descriptor"))(hm:MtR X id r)(ho:PE X o to)
  (hbase:attributeBase o name X.env (eval o X.env)=eval o X.env:=by rfl) (hline:(apos.endLine==cpos.line)=true:=by rfl):PE X (.Call (.Attribute o name apos) [] [] cpos) (Wn X.K T r to):=by
 intro y0 s Y H Q I h;refine wpAny_Call_method0_late hbase hline (thn (ho y0 s Y H _ I h) λv s1 ⟨x,H1,I1,r1,ty,q1⟩=>?_);obtain⟨h1,h2⟩:=Gs I1 r1 ty;exact⟨T,id,pa,slot,hty,h1,h2,N0z rfl (PySem.evalArgs_none (hm y0 s1 Y H1 x [] v [] Q I1 r1 .nil q1))⟩
theorem wI(pa:PlainAttrs T)(slot:Slot T name id)(hty:typeOf (.builtin id)=pure (.type "method_descriptor"))(hm:MtR X id r)(ho:PE X o to)(ha:PA X (e::es) t)
  (hbase:attributeBase o name X.env (eval o X.env)=eval o X.env:=by rfl)
  (hfew:((backTo cpos (starEach (e :: es) X.env)).all (λx => !x.1) && (backToKw cpos (keywordEach [] X.env)).all (λx=>x.1.isSome)
   && decide ((e::es).length+([]:List Keyword).length+(if([]:List Keyword).isEmpty then 0 else 1)<30))=true:=by rfl)
  (hline:(apos.endLine==cpos.line)=true:=by rfl) (hs:starEach (e::es) X.env=(false,eval e X.env)::starEach es X.env:=by rfl) (hplain:(backTo cpos (starEach es X.env)).any (·.1)=false:=by rfl) :
  PE X (.Call (.Attribute o name apos) (e::es) [] cpos) (tBM X.K T r to t):=by
 intro y0 s Y H Q I h;refine wpAny_Call_method_late hbase hfew hline rfl (thn (ho y0 s Y H _ I h) λv s1 ⟨x,H1,I1,r1,ty,q1⟩=>?_);obtain⟨h1,h2⟩:=Gs I1 r1 ty;refine⟨T,id,pa,slot,hty,h1,h2,?_⟩;have hA:=ha cpos y0 s1 Y H1 _ I1 q1;rw[hs] at hA ⊢;exact N0z (by show(false||(backTo cpos (starEach es X.env)).any (·.1))=false;rw[hplain]<;>rfl) (A1z (thn hA λus s2 ⟨vs,H2,I2,r2,q2⟩=>hm y0 s2 Y H2 x vs v us Q I2 r1 r2 q2))
end
def MtM(X:Cx)(id:String)(r:V->List V->Hp->VK->Prop):Prop :=
  ∀(y0:List (Addr×Obj))(s:Shared)(Y:St)(H:Hp)(x:V)(xs:List V)(v:Value)(us:List Value)(Q:VK), Inv X y0 Y H s->RelV x v->Vals xs us->r x xs H Q ->
    wpAny (model X.prog X.w) X.A (call (.builtin id) (v::us)) (EP X y0 Y Q) X.xe s
theorem Vals.one:∀{x:V}{us:List Value},Vals [x] us->∃u,us=[u]/\RelV x u
 |_,_,.cons r .nil=>⟨_,rfl,r⟩
theorem Vals.zero:∀{us:List Value},Vals [] us->us=[]
 |_,.nil=>rfl
theorem Vals.dropLast(h:Vals xs us):Vals xs.dropLast us.dropLast:=by
 induction h with
 |nil=>exact .nil
 |cons r t ih =>
  cases t with
  |nil=>exact .nil
  |cons q t'=>exact .cons r ih
theorem Vals.reverse(h:Vals xs us):Vals xs.reverse us.reverse:=by
 induction h with
 |nil=>exact .nil
 |cons r t ih=>rw[I2z,I2z];exact Vals.append ih (.cons r .nil)
theorem Vals.rep(h:Vals xs us):∀k:Nat,Vals (List.replicate k xs).flatten (List.replicate k us).flatten
 |0=>.nil
 |k+1=>by
  exact Vals.append h (Vals.rep h k)
theorem wV(l:List α):l.eraseIdx (l.length-1)=l.dropLast:=by
 induction l with
 |nil=>rfl
 |cons a r ih =>
  cases r with
  |nil=>rfl
  |cons b r =>
   have e:(a::b::r).length-1=((b::r).length-1)+1:=by
    have h1:(a::b::r).length=r.length+2:=rfl;have h2:(b::r).length=r.length+1:=rfl;omega
   rw[e,List.eraseIdx_cons_succ,ih]
   all_goals rfl
theorem foldl_rep(its:List Value):∀(k:Nat)(acc:List Value),
  List.foldl (λx1 x2=>x1++x2) acc.toArray (List.replicate k its.toArray)=(acc++(List.replicate k its).flatten).toArray
 |0,acc=>by simp
 |k+1,acc=>by
  have e:acc.toArray++its.toArray=(acc++its).toArray:=by simp
  have e2:(acc++its)++(List.replicate k its).flatten=acc++(List.replicate (k+1) its).flatten:=by
   rw[G1z,List.flatten_cons,List.append_assoc]
  rw[<- e2,<- foldl_rep its k (acc++its),<- e,G1z,List.foldl_cons]
section
variable{X:Cx}{y0:List (Addr×Obj)}{Y:St}{H:Hp}{s:Shared}{l b:Addr}{xs ys zs:List V}
theorem Inv.lset{its its':List Value}(I:Inv X y0 Y H s)(hH:H l=some (.lst xs))
  (e:s.heap.get? l=some {cls:=.type "list",data:=.seq its.toArray n}) (hf:f its.toArray=its'.toArray) (hv:Vals ys its') (hz:ys.length<=sizeLine) :
  Inv X y0 Y (upd H l (.lst ys)) {s with heap:=s.heap.update l (Obj.mapSeq f),toks:=t'}:=by
 have q:=PySem.IsL.update e f;rw[hf] at q;refine I.write (by rw[hH];exact trivial) (.inl rfl) (λb' u hb hu=>(Heap.get?_update_other s.heap (Obj.mapSeq f) (R5z hb)).trans hu) ⟨_,q⟩ ?_;exact⟨hz,its',_,hv,q⟩
theorem Inv.lnew(I:Inv X y0 Y H s)(hv:Vals ys its)(hz:ys.length<=sizeLine) :
  Inv X y0 Y (upd H s.heap.objs.size (.lst ys)) {s with heap:=s.heap.push {cls:=.type "list",data:=.seq its.toArray},toks:=t'} :=
 I.laid (λ_ _ q=>Heap.get?_push_of_some _ q) (B5z _) ⟨hz,its,0,hv,Heap.get?_push_size _ rfl⟩
theorem Inv.fresh(I:Inv X y0 Y H s):H s.heap.objs.size=none:=I.hok.fresh (B5z _)
theorem Inv.lstM(I:Inv X y0 Y H s)(hH:H l=some (.lst xs)):xs.length<=sizeLine/\∃(its:List Value)(n:Nat),Vals xs its/\xs.length=its.length/\s.heap.get? l=some {cls:=.type "list",data:=.seq its.toArray n}:=by
 obtain⟨z,its,n,r,e⟩:=I.hok l _ hH;exact⟨z,its,n,r,r.length,e⟩
theorem uU(h:n<=sizeLine):Builtin.List.listTooLong n=false:=by
 exact H3z (by omega)
end
section
variable{X:Cx}
def Ju:V->List V->Hp->VK->Prop:=λx vs H Q=>∃l xs y,x=.ref l/\vs=[y]/\H l=some (.lst xs)/\xs.length<sizeLine/\Q .non (upd H l (.lst (xs++[y])))
theorem iW:MtM X "list.append" Ju:=by
 intro y0 s Y H x vs v us Q I rx rv h;obtain⟨l,xs,y,rfl,rfl,hH,hz,q⟩:=h;cases rx;obtain⟨u,rfl,ru⟩:=rv.one;obtain⟨z,its,n,r,hl,e⟩:=I.lstM hH;refine L5z F.slot_list_append ⟨_,e,rfl⟩ F.entry_list_append (F.args_list_append_2 _ _) (PySem.list_append l its.toArray n u (by rw[H2z];omega)) ⟨e,?_⟩;refine⟨.non,_,I.lset hH e (by simp) (r.append (.cons ru .nil)) ?_,rfl,q⟩;rw[T1z,Q0z];omega
def Wx:V->List V->Hp->VK->Prop:=λx vs H Q=>∃l xs y,x=.ref l/\vs=[]/\H l=some (.lst xs)/\xs[xs.length-1]?=some y/\Q y (upd H l (.lst xs.dropLast))
theorem Pu:MtM X "list.pop" Wx:=by
 intro y0 s Y H x vs v us Q I rx rv h;obtain⟨l,xs,y,rfl,rfl,hH,hy,q⟩:=h;cases rx;have hus:=rv.zero;subst hus;obtain⟨z,its,n,r,hl,e⟩:=I.lstM hH;obtain⟨u,hu,ru⟩:=r.get hy
 have hy':its.toArray[its.toArray.size-1]?=some u:=by
  show its.toArray[its.length-1]?=some u;rw[<- Array.getElem?_toList,<- hl];exact hu
 refine L5z F.slot_list_pop ⟨_,e,rfl⟩ F.entry_list_pop (F.args_list_pop_1 _) (MeetsSeq.list_pop_last l its.toArray n u hy' (by rw[H2z];omega)) ⟨e,?_⟩
 refine⟨y,_,I.lset hH e ?_ r.dropLast ?_,ru,q⟩
 .rw[H2z,List.eraseIdxIfInBounds_toArray,wV]
 .rw[List.length_dropLast]
  omega
theorem len_rep(xs:List α)(k:Nat):(List.replicate k xs).flatten.length=k*xs.length:=by
 induction k with
 |zero=>simp
 |succ k ih=>rw[G1z,List.flatten_cons,T1z,ih,Nat.succ_mul,Nat.add_comm]
end
section
variable{prog:Program}{w:World}{A:Around}{E:Value->Shared->Prop}{s:Shared}
end
section
variable{X:Cx}
end
end L2
namespace Att
open PySem PySem.W PySem.Calls PyProof.Rows
theorem mj:∀(ns:List Int)(vs:List Value),WellAll P h vs (ns.map WData.int)->IntsAre vs ns:=by
 intro ns
 induction ns with
 |nil =>
  intro vs w;cases w;exact .nil
 |cons n ns ih =>
  intro vs w
  cases w with
  |cons a b =>
   cases a;exact .cons _ _ (ih _ b)
theorem yL{l:OpenLaw}(hn:l.most=some n)
  (hpre:l.row.toRowW.claim.pre args=true) (hwl:WellAll P h vals args) :
  ∃a vs ns,vals=[Value.ref a]/\args=[WData.list (ns.map WData.int)]/\h.get? a=some {cls:=.type "list",data:=.seq vs.toArray}/\IntsAre vs ns/\ns.length<=n:=by
 have hc:l.pre.holds [] {args:=args}=true:=(pre_splitW hpre).2;obtain⟨d,r,rfl,h1,h2⟩:=hasAllW_cons ((pre_splitW hpre).1);obtain rfl:=hasAllW_nil h2;obtain⟨xs,rfl,h3⟩:=hasW_list h1;obtain⟨ns,rfl⟩:=items_int h3
 have hlen:ns.length<=n:=by
  have h4:(WTm.not (.lt (.lit (.int n)) (.len (.arg 0)))).holds [] {args:=[.list (ns.map .int)]}=true:=by
   have h4:=(holds_andW hc).1;rw[hn] at h4;exact h4
  have h5:=condW_of h4 (w_not (w_lt w_lit (w_len_list (w_arg rfl))));refine Nat.le_of_not_lt λq=>?_
  first
   |(rw[C4z q'] at h5;exact absurd h5 rfl)
   |(simp at h5;omega)
 cases hwl with
 |cons w1 w2 =>
  cases w2
  cases w1 with
  |list ho hall=>exact⟨_,_,ns,rfl,rfl,ho,mj ns _ hall,hlen⟩
theorem zc(l:OpenLaw)(args:List WData):l.row.toRowW.claim.post args (.bool true) args=true :=
 postW_of
  (show WShape.has [] (.bool true) .bool=true by first|rfl|decide|simp[WShape.has])
  (w_eq_bool (w_res rfl) w_lit) rfl
theorem um{l:OpenLaw}
  (hn:l.most=some n) (hdf:d.params.defaults=[])
  (call:∀(w:World)(s₀ s₁:Shared)(mg mb:Str->Option Value)(fa:Addr)(o:Obj)(pm cd doc:Value)(a:Addr)(vs:List Value)(ns:List Int),
   Ground q loose [] XP w s₀ mg mb s₁.heap->YP w s₁.heap ->
   s₁.heap.get? fa=some o->o.data=.func (docDef d.name d.params d.body d.scope pm cd doc)->s₁.heap.CodeRec cd d.name->mg d.name=some (.ref fa) ->
   s₁.heap.get? a=some {cls:=.type "list",data:=.seq vs.toArray}->IntsAre vs ns->ns.length<=n->s₁.gens = #[] ->
   codeAny (model l.prog w) callerA (.call (.ref fa) ⟨[.ref a],[]⟩) (λr s'=>r=.ok (.ret (.bool true))/\OldK s₁.heap s'.heap/\s'.os=s₁.os/\AllBare s'.gens) s₁) :
  WalkO q loose XP YP l.row.toRowW d [] (λf vs=>PySem.call f vs):=by
 intro w s₀ s₁ mg mb G Y fa o pm cd doc dV kV ho hd hcd hD hmg hg args vals as hpre hlay hrd hwl hlo;obtain rfl:dV=.none:=Dflts.none hD hdf;obtain rfl:kV=.none:=Dflts.noKw hD;obtain⟨a,vs,ns,rfl,rfl,hobj,hints,hlen⟩:=yL hn hpre hwl;refine enter_call (W4z (call w s₀ s₁ mg mb fa o pm cd doc a vs ns G Y ho (fd_plain hd) hcd hmg hobj hints hlen hg) λr s' hq=>?_);obtain⟨rfl,h2,h3,h4⟩:=hq;exact⟨.inl ⟨.bool true,.bool true,[],rfl,λ_=>rfl,.bool true,zc l _,λ_=>⟨List.Pairwise.nil,λ_ hm=>(nomatch hm)⟩⟩,h2,h3,h4⟩
section
variable{prog:Program}{w:World}{A:Around}{E:Value->Shared->Prop}{s:Shared}{K:Frag}
def ledger(h:Heap)(L d:Addr):List (Addr×Obj):=(List.range h.objs.size).filterMap λa=>if a=L\/a=d then none else(h.get? a).map λo=>(a,o)
end
end Att
namespace L2
open PySem PySem.Spec PyProof.Rows
theorem pU:∀{vs:List Value}{ns:List Int},IntsAre vs ns->Vals (ns.map V.int) vs
 |_,_,.nil=>.nil
 |_,_,.cons n t h=>.cons ⟨t,rfl⟩ (pU h)
def Only(H:Hp):Prop:=∀b,H b=none\/∃o xs,H b=some (.frz o (.lst xs))
def inClass(s:Stmt)(j:Nat):Stmt:=match s with
 |.ClassDef _ _ _ body _ _ _ _ _ _ _=>body.getD j (.Pass ⟨0,0,0,0⟩)
 |_=>.Pass ⟨0,0,0,0⟩
def bR(s:Stmt):Arguments:=match s with
 |.FunctionDef _ a _ _ _ _ _ _ _ _=>a
 |_=>{posonlyargs:=[],args:=[],vararg:=none,kwonlyargs:=[],kw_defaults:=[],kwarg:=none,defaults:=[]}
def aO(s:Stmt):List Stmt:=match s with
 |.FunctionDef _ _ b _ _ _ _ _ _ _=>b
 |_=>[]
def ao(s:Stmt):Scope:=match s with
 |.FunctionDef _ _ _ _ _ _ sc _ _ _=>sc
 |_=>{kind:=.function,names:=[],isGenerator:=false,isCoroutine:=false}
abbrev CX0:CXT:=λ_ _ _ _ _ _=>False
abbrev E0:XK:=λ_ _ _=>False
structure Fun(K:Zf)(x qual:Str)(st:Stmt)(f:Addr)(fd:FuncData):Prop where
 ex:∃(oc:Value)(od:Option Addr)(kV doc pm:Value)(an:Option Addr)(cdv ct:Value)(osl:Array (Option Value)),
  fd=W.fnOf x qual (bR st) (aO st) (ao st) .none kV doc pm an cdv ct/\K.lookup f=some ⟨oc,od,.func fd,osl⟩/\W.codeIn K cdv qual=true
 kp:W.keepIn K (.ref f)=true
section
variable{P:Program}{w:World}{K:Zf}{mg:Str->Option Value}{base:Heap}
theorem Fun.binds{st:Stmt}(F:Fun K x qual st f fd)
  (h:∀(kV doc pm:Value)(an:Option Addr)(cdv ct:Value)(us:List Value),us.length=ps.length->bindArgs (W.fnOf x qual (bR st) (aO st) (ao st) .none kV doc pm an cdv ct) ⟨us,[]⟩=pure (ps.zip us)):Binds K fd ps []:=by
 obtain⟨oc,od,kV,doc,pm,an,cdv,ct,osl,rfl,lk,hcd⟩:=F.ex;exact .all (h kV doc pm an cdv ct)
theorem fun_mk{st:Stmt}{kV doc pm cdv ct:Value}(l:K.lookup f=some ⟨oc,od,.func (W.fnOf x qual (bR st) (aO st) (ao st) .none kV doc pm an cdv ct),osl⟩)
  (c:W.codeIn K cdv qual=true) (k:W.keepIn K (.ref f)=true):Fun K x qual st f (W.fnOf x qual (bR st) (aO st) (ao st) .none kV doc pm an cdv ct):=⟨⟨oc,od,kV,doc,pm,an,cdv,ct,osl,rfl,l,c⟩,k⟩
end
theorem Fb(hr:Room k A):A.units+1<cLine:=U1z (Nat.add_le_add_left (by decide:1<=64) _) hr.units
section
variable{X:Cx}
theorem pv(i:Nat)(hN:X.N[i]?=some x:=by rfl)(hv:Vis X.env.scope x:=by first|exact Or.inl rfl|exact Or.inr (Or.inl rfl)|exact Or.inr (Or.inr rfl))(hd:(x==("__debug__":Str))=false:=by decide)
  (hcd:(x==("__classdict__":Str))=false:=by decide):PE X (.Name x pos) (Vh i):=m7 hN hv hd hcd
end
theorem mW{A B:Prop}(h:B):if false=true then A else B:=by
 exact h
theorem oH{A B:Prop}(h:A):if true=true then A else B:=by
 exact h
def Same(H H':Hp):Prop:=∀b o,H b=some o->H' b=some o
theorem Same.refl(H:Hp):Same H H:=λ_ _ h=>h
theorem Same.trans(a:Same H H1)(b:Same H1 H2):Same H H2:=λc o h=>b c o (a c o h)
theorem Same.free(e:Same H H')(h:H' l=Option.none):H l=Option.none:=by
 cases q:H l with
 |none=>rfl
 |some o =>
  rw[e l o q] at h;cases h
theorem Same.seq{K:Zf}(e:Same H H')(h:SqL K H a xs):SqL K H' a xs:=by
 obtain(h|⟨o,h⟩)|h:=h
 .exact .inl (.inl (e _ _ h))
 .exact .inl (.inr ⟨o,e _ _ h⟩)
 .exact .inr h
def jR(cells:List (Str×Addr)):List (Str×NameKind)->List (Str×Addr)->List (Str×Addr)
 |[],acc=>acc
 |(x,k)::r,acc=>if k==.free then jR cells r ((x,(cells.lookup x).getD 0)::acc) else jR cells r acc
theorem oO(f:Str×NameKind->List (Str×Addr)->Sem (ForInStep (List (Str×Addr))))
  (hf:∀name kind cs,f (name,kind) cs=if kind==.free then(do let a <- cellOf env name;pure (.yield ((name,a)::cs))) else pure (.yield cs)) :
  ∀(l:List (Str×NameKind))(acc:List (Str×Addr)),(∀x,(x,NameKind.free)∈l->∃c,env.cells.lookup x=some c)->(forIn l acc f:Sem (List (Str×Addr)))=pure (jR env.cells l acc)
 |[],acc,_=>by rw[List.forIn_nil];rfl
 |(x,k)::r,acc,h=>by
  rw[List.forIn_cons,hf];unfold jR
  cases hk:k==NameKind.free with
  |false =>
   exact oO f hf r acc λy hy=>h y (X0z _ hy)
  |true =>
   have ek:k=.free:=by simpa using hk
   obtain⟨c,hc⟩:=h x (by rw[ek];exact N1z)
   have e1:cellOf env x=pure c:=by unfold cellOf;rw[hc]
   rw[e1,hc];exact oO f hf r _ λy hy=>h y (X0z _ hy)
theorem gD(h:∀x,(x,NameKind.free)∈scope.names->∃c,env.cells.lookup x=some c):closureFor scope env=pure (jR env.cells scope.names []):=by
 simp only[closureFor];rw[oO _ (λname kind cs=>by cases hk:kind==NameKind.free<;>simp) scope.names [] h];rfl
theorem sS
  (hQ:Q (newEnv scope s.heap.objs.size globals (cellsFrom (s.heap.objs.size+1) scope.names closure) qual none .none (some outer) builtinsNs) {s with heap:=pushCells (s.heap.push {cls:=.type "dict",data:=.dict #[]}) scope.names}) :
  wpAny M A (newFunctionEnv scope globals closure [] qual none .none (some outer)) Q E s:=by
 simp only[newFunctionEnv,Option.isSome_some,S5z];refine I5z (wpAny_alloc ?_);refine I5z (wpAny_layCells _ (λname kind cells=>by cases hkc:kind==NameKind.cell<;>simp) _ _ _ _ ?_);rw[show({s with heap:=s.heap.push {cls:=.type "dict",data:=.dict #[]} }:Shared).heap.objs.size=s.heap.objs.size+1 from B4z ..];exact I5z (J5z (J5z hQ))
theorem je:∀{l:List (Str×α)}{x:Str}{c:α},(x,c)∈l->∃d,l.lookup x=some d
 |(y,d)::r,x,c,h=>by
  rw[U2z]
  cases hb:x==y with
  |true=>exact⟨d,rfl⟩
  |false =>
   obtain e|h:=P4z.mp h
   .cases e;simp at hb
   .exact je h
theorem cJ:∀{l:List (Str×α)}{x:Str}{c:α},(l.map (·.1)).Nodup->(x,c)∈l->l.lookup x=some c
 |(y,d)::r,x,c,hn,h=>by
  rw[I4z,N3z] at hn;rw[U2z];obtain e|h':=P4z.mp h
  .cases e;simp
  .have hne:(x==y)=false:=by
    rw[H1z];exact λexy=>hn.1 (List.mem_map.mpr ⟨(x,c),h',exy⟩)
   rw[hne];exact cJ hn.2 h'
theorem dJ:∀(names:List (Str×NameKind))(n:Nat)(acc:List (Str×Addr)),(cellsFrom n names acc).lookup x=some c ->
  ((x,NameKind.cell)∈names/\n<=c)\/((x,NameKind.cell)∉names/\acc.lookup x=some c)
 |[],_,_,h=>.inr ⟨by simp,h⟩
 |(y,k)::r,n,acc,h=>by
  unfold cellsFrom at h
  cases hk:k==NameKind.cell with
  |true =>
   have ek:k=.cell:=by simpa using hk
   subst ek;obtain⟨h1,h2⟩|⟨h1,h2⟩:=dJ r _ _ h
   .exact .inl ⟨X0z _ h1,by omega⟩
   .rw[U2z] at h2
    cases hb:x==y with
    |true =>
     rw[hb] at h2;cases h2
     have:x=y:=by simpa using hb
     subst this;exact .inl ⟨N1z,B5z _⟩
    |false =>
     rw[hb] at h2;refine .inr ⟨λhm=>?_,h2⟩;obtain e|hm:=P4z.mp hm
     .cases e;simp at hb
     .exact h1 hm
  |false =>
   rw[hk] at h;obtain⟨h1,h2⟩|⟨h1,h2⟩:=dJ r _ _ h
   .exact .inl ⟨X0z _ h1,h2⟩
   .refine .inr ⟨λhm=>?_,h2⟩
    obtain e|hm:=P4z.mp hm
    .cases e;simp at hk
    .exact h1 hm
theorem dZ:∀(names:List (Str×NameKind))(n:Nat)(acc:List (Str×Addr)),(acc.Pairwise λx y=>x.2≠y.2)->(∀p∈acc,p.2<n)->(cellsFrom n names acc).Pairwise λx y=>x.2≠y.2
 |[],_,_,h,_=>h
 |(y,k)::r,n,acc,h,hl=>by
  unfold cellsFrom;split
  .refine dZ r _ _ (List.pairwise_cons.mpr ⟨λp hp e=>?_,h⟩) λp hp=>?_
   .have q:=hl p hp
    rw[<- e] at q;exact G4z _ q
   .obtain e|hp:=P4z.mp hp
    .subst e;exact T2z _
    .exact J2z (hl p hp)
  .exact dZ r _ _ h hl
theorem pA(inj:∀x y c,cells.lookup x=some c->cells.lookup y=some c->x=y):∀(names:List (Str×NameKind))(acc:List (Str×Addr)),(names.map (·.1)).Nodup->(∀x,(x,NameKind.free)∈names->∃c,cells.lookup x=some c) ->
  (acc.Pairwise λx y=>x.2≠y.2)->(∀p∈acc,cells.lookup p.1=some p.2/\p.1∉names.map (·.1))->((jR cells names acc).Pairwise λx y=>x.2≠y.2)/\∀p∈jR cells names acc,cells.lookup p.1=some p.2
 |[],acc,_,_,h1,h2=>⟨h1,λp hp=>(h2 p hp).1⟩
 |(y,k)::r,acc,hn,hf,h1,h2=>by
  rw[I4z,N3z] at hn;have hf':=λx hx=>hf x (X0z _ hx);unfold jR;split
  .rename_i hk
   have ek:k=.free:=by simpa using hk
   subst ek;obtain⟨c,hc⟩:=hf y N1z;rw[hc];refine pA inj r _ hn.2 hf' (List.pairwise_cons.mpr ⟨λp hp e=>?_,h1⟩) λp hp=>?_
   .obtain⟨a1,a2⟩:=h2 p hp
    rw[<- e] at a1;have:=inj _ _ _ a1 hc;exact a2 (by rw[this];simp)
   .obtain e|hp:=P4z.mp hp
    .subst e;exact⟨hc,hn.1⟩
    .exact⟨(h2 p hp).1,λz=>(h2 p hp).2 (X0z _ z)⟩
  .exact pA inj r _ hn.2 hf' h1 λp hp=>⟨(h2 p hp).1,λz=>(h2 p hp).2 (X0z _ z)⟩
theorem pB:∀(names:List (Str×NameKind))(acc:List (Str×Addr)),p∈acc->p∈jR cells names acc
 |[],_,h=>h
 |(y,k)::r,acc,h=>by
  unfold jR;split
  .exact pB r _ (X0z _ h)
  .exact pB r _ h
theorem kh:∀(names:List (Str×NameKind))(acc:List (Str×Addr)),(x,NameKind.free)∈names->∃c,(x,c)∈jR cells names acc
 |(y,k)::r,acc,h=>by
  unfold jR;obtain e|h:=P4z.mp h
  .cases e
   exact⟨_,pB r _ N1z⟩
  .split
   .exact kh r _ h
   .exact kh r _ h
theorem eX{env:Env}:∀(names:List (Str×NameKind)),
  (names.map λ(n, k)=>if (k==NameKind.free && env.scope.kind==.function && env.kindOf n==some .cell) then (n, NameKind.cell) else (n, k)).lookup x =
   (names.lookup x).map λk=>if(k==NameKind.free&&env.scope.kind==.function&&env.kindOf x==some .cell) then NameKind.cell else k
 |[]=>rfl
 |(y,k)::r=>by
  by_cases hx:x=y
  .subst hx
   cases hc:(k==NameKind.free&&env.scope.kind==.function&&env.kindOf x==some .cell)<;>simp only[I4z,hc,U2z,V2z,O3z,S5z,Q5z,V1z]
  .have hb:(x==y)=false:=by simpa using hx
   cases hc:(k==NameKind.free&&env.scope.kind==.function&&env.kindOf y==some .cell)<;>simp only[I4z,hc,U2z,hb,S5z,Q5z,V1z]<;>exact(eX (x:=x) (env:=env) r)
def uH(N:List Str)(Y:St)(x:Str):Option V:=match N.idxOf? x with
 |some j=>(Y[j]?).getD none
 |none=>none
def zQ(N:List Str)(names:List (Str×NameKind))(Y:St):St:=names.map λp=>if p.2==.free then uH N Y p.1 else none
def vH(scope:Scope)(cells:List (Str×Addr))(C:Addr)(env:Env):Env :=
 {scope:=relabel scope env,locals:=C,globals:=env.globals,cells:=cells,qual:=env.qual,func:=none,code:=env.code,frame:=env.frame,builtins:=env.builtins}
structure CompOf(X:Cx)(scope:Scope)(Xc:Cx):Prop where
 prog:Xc.prog=X.prog
 w:Xc.w=X.w
 K:Xc.K=X.K
 mg:Xc.mg=X.mg
 base:Xc.base=X.base
 A:Xc.A=X.A
 N:Xc.N=scope.names.map (·.1)
 sc:Xc.env.scope=relabel scope X.env
 calm:Xc.calm=true
 fn:Xc.fn=λx=>scope.names.lookup x==some .cell
 xe:Xc.xe=λ_ _=>False
def qT(X:Cx)(scope:Scope)(cells:List (Str×Addr))(C:Addr)(s:Shared)(H:Hp)(fp:List Addr):Cx where
 prog:=X.prog
 w:=X.w
 K:=X.K
 mg:=X.mg
 base:=X.base
 A:=X.A
 N:=scope.names.map (·.1)
 s₀:=s
 H₀:=H
 env:=vH scope cells C X.env
 outer:=X.stack
 stack:=X.stack
 ex:=fp
 fn:=λx=>scope.names.lookup x==some .cell
 calm:=true
 pn:=[]
 xe:=λ_ _=>False
def Gm(X:Cx)(ifs:List Expr)(t:TT):Prop :=
  ∀(y0:List (Addr×Obj))(s:Shared)(Y:St)(H:Hp)(Q:Bool->Hp->Prop), Inv X y0 Y H s->t Y H Q ->
    wpAny (model X.prog X.w) X.A (forIn ifs true λc r=>if r=true then do let ok <- isTrue c X.env (eval c X.env);pure (ForInStep.yield ok) else pure (ForInStep.yield r)) (TP X y0 Y Q) X.xe s
theorem Du:Gm X [] (λ_ H Q=>Q true H):=λ_ _ _ H _ I h=>wpAny_tests_nil ⟨H,I,h⟩
theorem Dt(h:PT X c t):Gm X [c] t:=λy0 s Y H Q I hw=>wpAny_tests_one (h y0 s Y H Q I hw)
def Dc(X:Cx)(scope:Scope)(wi:TI)(mk:St->St)(g:Cx->TG)(tc:Cx->TT)(te:Cx->TE):TE:=λY H Q=>wi Y H λJ H1=>∀acc,H1 acc=none->∀Xc,CompOf X scope Xc ->
  ∃W:Nat->Nat->St->Hp->Prop, (∃m, W 0 m (mk Y) (upd H1 acc (.lst [])))/\∀i m Yc H, W i m Yc H ->
    (J.stop i H/\Q (.ref acc) H)\/(J.go i H/\∃N:St->Hp->Prop,(∀Y' H',N Y' H'->∃m',m'<m/\W (i+1) m' Y' H')/\∀x H',J.yld i H x H' ->
      g Xc x Yc H' λY2 H2=>tc Xc Y2 H2 λb H3=>if b=true then te Xc Y2 H3 λv H4=>∃ys,H4 acc=some (.lst ys)/\ys.length<sizeLine/\N Y2 (upd H4 acc (.lst (ys++[v]))) else N Y2 H3)
theorem gY(I:Nat->Shared->Prop)
  (turn:∀n s,I n s->wpAny (model prog w) A (pyNext it) (λr s₁=>match r with
   |none=>R (.ok .next) s₁
   | some v=>wpAny (model prog w) A (letOwnedTupleGo target it v) (λ_ s₁'=>wpAny (model prog w) A (assign target env v) (λ_ s₂ =>
     wpAny (model prog w) A (forIn ifs true λc r=>if r=true then do let ok <- isTrue c env (eval c env);pure (ForInStep.yield ok) else pure (ForInStep.yield r)) (λok s₃ =>
      if ok=true then wpAny (model prog w) A (eval elt env) (λx s₄ =>
       wpAny (model prog w) A (call (.builtin "list.append") [acc,x]) (λ_ s₅=>∃m,m<n/\I m s₅) (λ_ _=>False) s₄) (λ_ _=>False) s₃
      else ∃m,m<n/\I m s₃) (λ_ _=>False) s₂) (λ_ _=>False) s₁') (λ_ _=>False) s₁) (λ_ _=>False) s)
  (n:Nat) (h:I n s) :
  codeAny (model prog w) A (.compLoop (.ListComp elt [⟨target,iter,ifs,0⟩] scope pos) 0 it acc env) R s:=by
 refine codeAny_loop rfl I (λn s hI=>?_) n h;refine wpAny_noted ?_;refine I5z (H4z (I5z (H5z (turn n s hI) (λr s₁ h₁=>?_) λ_ _ h'=>h'.elim)))
 cases r with
 |none=>exact J5z h₁
 |some v =>
  refine I5z (H5z h₁ (λ_ s₁' h₁'=>?_) λ_ _ h'=>h'.elim);refine I5z (H5z h₁' (λ_ s₂ h₂=>I5z (H5z h₂ (λok s₃ h₃=>?_) λ_ _ h'=>h'.elim)) λ_ _ h'=>h'.elim)
  cases ok with
  |false=>exact J5z ⟨rfl,h₃⟩
  |true =>
   exact I5z (I5z (H5z h₃ (λx s₄ h₄=>I5z (H5z h₄ (λ_ s₅ h₅=>J5z (J5z ⟨rfl,h₅⟩)) λ_ _ h'=>h'.elim)) λ_ _ h'=>h'.elim))
section
variable{X:Cx}
theorem nG{scope:Scope}(I:Inv X y0 Y H s)(hnd:(scope.names.map (·.1)).Nodup)
  (hcap:∀x,(x,NameKind.free)∈scope.names->X.env.kindOf x=some .cell\/X.env.kindOf x=some .free) :
  (∀x,(x,NameKind.free)∈scope.names->∃c,X.env.cells.lookup x=some c) /\
  ((cellsFrom (s.heap.objs.size+1) scope.names (jR X.env.cells scope.names [])).Pairwise λx y=>x.2≠y.2) /\
  (∀x c,(cellsFrom (s.heap.objs.size+1) scope.names (jR X.env.cells scope.names [])).lookup x=some c->((x,NameKind.cell)∈scope.names/\s.heap.objs.size+1<=c)\/((x,NameKind.cell)∉scope.names/\X.env.cells.lookup x=some c/\c<s.heap.objs.size)) /\
  (∀x,(x,NameKind.free)∈scope.names->(cellsFrom (s.heap.objs.size+1) scope.names (jR X.env.cells scope.names [])).lookup x=X.env.cells.lookup x):=by
 have hf:=λx hx=>I.ok.has x (hcap x hx);have ok:=pA I.ok.inj scope.names [] hnd hf List.Pairwise.nil (λp hp=>absurd hp (by simp))
 have small:∀x c,X.env.cells.lookup x=some c->c<s.heap.objs.size:=λx c e=>by
  obtain⟨v,z⟩:=I.cell x c e;exact z.lt
 refine⟨hf,dZ _ _ _ ok.1 λp hp=>J2z (small p.1 p.2 (ok.2 p hp)),λx c e=>?_,λx hx=>?_⟩
 .obtain h|⟨h1,h2⟩:=dJ _ _ _ e
  .exact .inl h
  .have h3:=ok.2 _ (F1z h2)
   exact .inr ⟨h1,h3,small _ _ h3⟩
 .obtain⟨c,hc⟩:=hf x hx
  have nc:(x,NameKind.cell)∉scope.names:=λz=>by
   have e1:=cJ hnd z;rw[cJ hnd hx] at e1;cases e1
  obtain⟨d,hd⟩:=kh scope.names [] hx;obtain⟨d',hd'⟩:=je hd;obtain⟨c',hc'⟩:=Option.isSome_iff_exists.mp (L0z _ _ _ (.inr (by rw[hd'];rfl)));obtain⟨h,_⟩|⟨_,h2⟩:=dJ _ _ _ hc'
  .exact absurd h nc
  .rw[hc',ok.2 _ (F1z h2)]
theorem JQ:∀(names:List (Str×NameKind))(h:Heap)(acc:List (Str×Addr)){x:Str}{c:Addr},(cellsFrom h.objs.size names acc).lookup x=some c->(x,NameKind.cell)∈names->(pushCells h names).IsCell c none:=by
 intro names
 induction names with
 |nil=>intro h acc x c e hx;cases hx
 |cons p r ih =>
  obtain⟨y,k⟩:=p;intro h acc x c e hx;unfold cellsFrom at e;unfold pushCells
  by_cases hin:(x,NameKind.cell)∈r
  .split at e
   .rename_i hk
    rw[T5z hk];refine ih (h.push {cls:=.type "cell",data:=.cell none}) ((y,h.objs.size)::acc) ?_ hin;rw[B4z];exact e
   .rename_i hk
    rw[U5z hk];exact ih h acc e hin
  .obtain ex|hx:=P4z.mp hx
   .cases ex
    obtain⟨h1,_⟩|⟨_,h2⟩:=dJ _ _ _ e
    .exact absurd h1 hin
    .simp at h2
     subst h2;exact⟨_,P3z _ _ _ _ (Heap.get?_push_size _ rfl),rfl⟩
   .exact absurd hx hin
theorem Ge(I:Inv X y0 Y H s)(hc:X.calm=true)(hk:scope.kind=.function)(hnd:(scope.names.map (·.1)).Nodup)
  (hcap:∀x,(x,NameKind.free)∈scope.names->X.env.kindOf x=some .cell\/X.env.kindOf x=some .free) (hfp:∀b∈fp,xJ X y0 H b) (hlt:∀b∈fp,b<s.heap.objs.size) :
  Inv (qT X scope (cellsFrom (s.heap.objs.size+1) scope.names (jR X.env.cells scope.names [])) s.heap.objs.size s H fp) [] (zQ X.N scope.names Y) H {s with heap:=pushCells (s.heap.push {cls:=.type "dict",data:=.dict #[]}) scope.names}:=by
 obtain⟨hf,apart,look,same⟩:=nG I hnd hcap;have keep:∀b o,s.heap.get? b=some o->(pushCells (s.heap.push {cls:=.type "dict",data:=.dict #[]}) scope.names).get? b=some o:=λb o e=>P3z _ _ b o (Heap.get?_push_of_some _ e);have ckd:=cellsFrom_ok scope.names (s.heap.push {cls:=.type "dict",data:=.dict #[]}) (s.heap.objs.size+1) [] ⟨λ_ _ hm=>(nomatch hm),List.Pairwise.nil⟩ (by rw[B4z];exact B5z _);have own:∀x c,(cellsFrom (s.heap.objs.size+1) scope.names (jR X.env.cells scope.names [])).lookup x=some c->(x,NameKind.cell)∈scope.names->(pushCells (s.heap.push {cls:=.type "dict",data:=.dict #[]}) scope.names).IsCell c none:=λx c e hx=>JQ scope.names (s.heap.push {cls:=.type "dict",data:=.dict #[]}) _ (by rw[B4z];exact e) hx;have kinds:∀x,(qT X scope (cellsFrom (s.heap.objs.size+1) scope.names (jR X.env.cells scope.names [])) s.heap.objs.size s H fp).env.kindOf x=(scope.names.lookup x).map λk=>if(k==NameKind.free&&X.env.scope.kind==.function&&X.env.kindOf x==some .cell) then NameKind.cell else k:=λx=>eX scope.names;have fresh:∀{b:Addr},s.heap.objs.size<=b->H b=none:=λhb=>I.hok.fresh hb
 refine⟨⟨I.ok.mod,hk,I.ok.glob,I.ok.blt,B5z _,λx y c e1 e2=>name_of_addr apart (F1z e1) (F1z e2),λx hx=>?_,λx c hx e=>?_,λ_=>I.ok.hd hc,I.ok.frames,.inl rfl,λb hb=>⟨S4z (hlt b hb),λx c e=>?_⟩,I.bs,T4z I.ok.bsz I.sz,λb o e hb=>?_,λb hb z=>?_,I.stack,I.stkFree⟩,
  rfl,I.bare,Un.kept keep,⟨λ_=>none,?_,λi x v e1 e2 e3=>?_⟩,λx c e=>?_,fresh (B5z _),λx c e=>?_,λp hp=>absurd (show p∈([]:List (Addr×Obj)) from hp) (by simp),I.hok.kept keep,?_⟩
 ·
  rw[kinds x] at hx
  cases hl:scope.names.lookup x with
  |none=>rw[hl] at hx;rcases hx with h|h<;>cases h
  |some k =>
   rw[hl] at hx;have hm:=F1z hl
   cases k with
   |cell=>exact Option.isSome_iff_exists.mp (L0z _ _ _ (.inl hl))
   |free =>
    obtain⟨c,h⟩:=hf x hm;exact⟨c,(same x hm).trans h⟩
   |_=>simp at hx
 .rcases look x c e with⟨_,h⟩|⟨h,_⟩
  .exact K2z h
  .exact absurd (F1z (by simpa[qT] using hx)) h
 .obtain⟨_,h⟩|⟨_,h,_⟩:=look x c e
  .exact V4z (L1z (hlt b hb) (K2z h))
  .exact(hfp b hb).2.2.2.2.1 x c h
 .obtain z|z:=(hfp b hb).2.2.2.1
  .exact I.ok.noex b o e z
  .exact absurd (L1z (R4z e) (T4z I.ok.bsz z)) (G4z _)
 .obtain h|h:=P4z.mp (I.stkSub b z)
  .exact(hfp b hb).2.1 h
  .exact(hfp b hb).2.2.1 h
 .exact(Heap.Ns.new s.heap (.type "dict")).keeps (P3z _ _)
 ·
  have e1':(scope.names.map (·.1))[i]?=some x:=e1;rw[List.getElem?_map] at e1';unfold zQ at e2;rw[List.getElem?_map] at e2
  cases hp:scope.names[i]? with
  |none=>rw[hp] at e2;cases e2
  |some p =>
   rw[hp] at e1' e2;have ex:p.1=x:=I3z e1';have e2':(if p.2==.free then uH X.N Y p.1 else none)=some v:=I3z e2
   cases hk2:p.2==NameKind.free with
   |false=>rw[hk2] at e2';simp at e2'
   |true =>
    rw[hk2] at e2'
    have ek:p.2=.free:=by simpa using hk2
    have hm:(x,NameKind.free)∈scope.names:=by
     have:=List.mem_of_getElem? hp;rw[<- ex,<- ek];exact this
    unfold uH at e2';rw[ex] at e2'
    cases hj:X.N.idxOf? x with
    |none=>rw[hj] at e2';cases e2'
    |some j =>
     rw[hj] at e2';have e3:(Y[j]?).getD none=some v:=e2'
     have hY:Y[j]?=some (some v):=by
      cases q:Y[j]? with
      |none=>rw[q] at e3;simp at e3
      |some o=>rw[q] at e3;simp at e3;rw[e3]
     have hN:X.N[j]?=some x:=by
      rw[List.idxOf?,List.findIdx?_eq_some_iff_getElem] at hj;obtain⟨h1,h2,_⟩:=hj;rw[List.getElem?_eq_getElem h1];simpa using h2
     obtain⟨m,hn,hl⟩:=I.loc;have kx:=hcap x hm;obtain⟨u,r,l⟩:=hl j x v hN hY (by rcases kx with k|k;exact .inr (.inl k);exact .inr (.inr k));refine⟨u,r,.inr ⟨?_,?_⟩⟩
     .rw[kinds x,cJ hnd hm]
      simp only[O3z];split
      .exact .inl rfl
      .exact .inr rfl
     .obtain⟨k,_⟩|⟨_,c,hc',z⟩:=l
      .rcases kx with k'|k'<;>(rw[k'] at k;cases k)
      .exact⟨c,(same x hm).trans hc',z.keeps keep⟩
 .obtain⟨h,_⟩|⟨_,h,_⟩:=look x c e
  .exact⟨_,own x c e h⟩
  .obtain⟨v,z⟩:=I.cell x c h
   exact⟨v,z.keeps keep⟩
 .obtain⟨_,h⟩|⟨_,h,_⟩:=look x c e
  .exact fresh (K2z h)
  .exact I.freeC x c h
 .show(zQ X.N scope.names Y).length=(scope.names.map (·.1)).length
  unfold zQ;rw[K3z,K3z]
structure Blk(X:Cx)(y0:List (Addr×Obj))(H:Hp)(s:Shared)(C:Addr):Prop where
 ns:∃m,s.heap.Ns C m
 free:H C=none
 loc:C≠X.env.locals
 abv:X.s₀.heap.objs.size<=C
 cel:∀x c,X.env.cells.lookup x=some c->c≠C
 pin:∀p∈X.pn++y0,p.1≠C
theorem Br(hc:X.calm=true)(hk:scope.kind=.function)(hnd:(scope.names.map (·.1)).Nodup)
  (hcap:∀x,(x,NameKind.free)∈scope.names->X.env.kindOf x=some .cell\/X.env.kindOf x=some .free) (hi:PI X tg iter wi)
  (hin:∀Xc:Cx,CompOf X scope Xc->PG Xc tg (g Xc)/\Gm Xc ifs (tc Xc)/\PE Xc elt (te Xc))      (I:Inv X y0 Y H s) (h:Dc X scope wi (zQ X.N scope.names) g tc te Y H Q) {R:Value->Addr->Result->Shared->Prop}
  (fin:∀acc C H' s',Inv X y0 Y H' s'->Blk X y0 H' s' C->Q (.ref acc) H'->R (.ref acc) C (.ok .next) s') :
  wpAny (model X.prog X.w) X.A (eval iter X.env) (λx s₁=>wpAny (model X.prog X.w) X.A (pyIter x) (λit s₂=>wpAny (model X.prog X.w) X.A (newList []) (λacc s₃ =>
   wpAny (model X.prog X.w) X.A (newFunctionEnv scope X.env.globals (jR X.env.cells scope.names []) [] X.env.qual none .none (some X.env)) (λcenv s₄ =>
    codeAny (model X.prog X.w) X.A (.compStart (.ListComp elt [⟨tg,iter,ifs,0⟩] scope pos) 0 it acc {cenv with scope:=relabel scope X.env}) (R acc cenv.locals) s₄) X.xe s₃) X.xe s₂) X.xe s₁) X.xe s:=by
 refine thn (hi y0 s Y H _ I h) λv s1 h1=>thn h1 λitv s2 h2=>?_;obtain⟨it,fp,tn,J,H2,rfl,I2,T,st2,f2,q2⟩:=h2;refine F2z ?_;have hf:=I2.hok.fresh (B5z _);have I3:=I2.lnew (t':=s2.toks) .nil (D5z _);generalize hs3:({s2 with heap:=s2.heap.push {cls:=.type "list",data:=.seq ([]:List Value).toArray},toks:=s2.toks}:Shared)=s3 at I3
 have lt2:∀b∈fp,b<s2.heap.objs.size:=λb hb=>by
  obtain⟨o,e,_⟩:=T.obj _ _ st2 b hb;exact R4z e
 have f3:∀b∈fp,xJ X y0 (upd H2 s2.heap.objs.size (.lst [])) b:=λb hb=>⟨by rw[ak (S4z (lt2 b hb))];exact(f2 b hb).1,(f2 b hb).2⟩
 have sz3:s3.heap.objs.size=s2.heap.objs.size+1:=by rw[<- hs3];exact B4z ..
 have st3:tn 0 s3.heap:=T.keep _ _ _ st2 λb hb o e=>by rw[<- hs3];exact Heap.get?_push_of_some _ e
 have J0:=Ge I3 hc hk hnd hcap f3 (λb hb=>by rw[sz3];exact J2z (lt2 b hb))
 have cO:CompOf X scope (qT X scope (cellsFrom (s3.heap.objs.size+1) scope.names (jR X.env.cells scope.names [])) s3.heap.objs.size s3 (upd H2 s2.heap.objs.size (.lst [])) fp):=⟨rfl,rfl,rfl,rfl,rfl,rfl,rfl,rfl,rfl,rfl,rfl⟩;obtain⟨hg,hif,he⟩:=hin _ cO;obtain⟨W,⟨m0,w0⟩,turn⟩:=q2 s2.heap.objs.size hf _ cO;refine sS ?_;have st4:tn 0 (pushCells (s3.heap.push {cls:=.type "dict",data:=.dict #[]}) scope.names):=T.keep _ _ _ st3 λb _ o e=>P3z _ _ b o (Heap.get?_push_of_some _ e);generalize hXc:qT X scope (cellsFrom (s3.heap.objs.size+1) scope.names (jR X.env.cells scope.names [])) s3.heap.objs.size s3 (upd H2 s2.heap.objs.size (.lst [])) fp=Xc at J0 hg hif he turn
 have hprog:Xc.prog=X.prog:=by rw[<- hXc];rfl
 have hw:Xc.w=X.w:=by rw[<- hXc];rfl
 have hK:Xc.K=X.K:=by rw[<- hXc];rfl
 have hA:Xc.A=X.A:=by rw[<- hXc];rfl
 have hcm:Xc.calm=true:=by rw[<- hXc];rfl
 have hxe:Xc.xe=λ_ _=>False:=by rw[<- hXc];rfl
 have hen:Xc.env=vH scope (cellsFrom (s3.heap.objs.size+1) scope.names (jR X.env.cells scope.names [])) s3.heap.objs.size X.env:=by rw[<- hXc];rfl
 have hex:Xc.ex=fp:=by rw[<- hXc];rfl
 have hfs:Xc.fs=frs X.stack:=by rw[<- hXc];rfl
 have hs0:Xc.s₀=s3:=by rw[<- hXc];rfl
 have hH0:Xc.H₀=upd H2 s2.heap.objs.size (.lst []):=by rw[<- hXc];rfl
 have hpn:Xc.pn=[]:=by rw[<- hXc];rfl
 have stat:∀{H':Hp},(∀b∈fp,H' b=none)->∀b∈fp,xJ Xc [] H' b:=λ{H'} hn b hb=>by
  refine⟨hn b hb,(J0.ok.exf b (by rw[hex];exact hb)).1,λz=>J0.ok.exfs b (by rw[hex];exact hb) z,.inl (by rw[hex];exact hb),(J0.ok.exf b (by rw[hex];exact hb)).2,λp hp=>?_⟩
  rw[hpn] at hp;exact absurd hp (by simp)
 have loop:codeAny (model X.prog X.w) X.A (.compLoop (.ListComp elt [⟨tg,iter,ifs,0⟩] scope pos) 0 (.ref it) (.ref s2.heap.objs.size) Xc.env)
   (R (.ref s2.heap.objs.size) s3.heap.objs.size) {s3 with heap:=pushCells (s3.heap.push {cls:=.type "dict",data:=.dict #[]}) scope.names}:=by
  refine gY (λn s'=>∃i Y' H',Inv Xc [] Y' H' s'/\tn i s'.heap/\(∀b∈fp,H' b=none)/\W i n Y' H') ?_ m0 ⟨0,_,_,J0,st4,λb hb=>(f3 b hb).1,w0⟩;rintro n s5 ⟨i,Y5,H5,I5,st5,fr5,w5⟩;obtain⟨stop,qn⟩|⟨go,N,hN,step⟩:=turn i n Y5 H5 w5
  .have q:=T.done Xc hprog hw hK hcm i [] s5 Y5 H5 (λ_ _=>False) I5 (stat fr5) st5 stop
   rw[hA] at q;refine thn q λr s6 ⟨hr,I6⟩=>?_;subst hr
   have hL:Xc.env.locals=s3.heap.objs.size:=by rw[hen];rfl
   have ub:=I6.base;rw[hfs,hex,hH0,hs0] at ub
   have IX:Inv X y0 Y H5 s6:=by
    refine I3.call' ?_ ub ?_ I6.bare λb hb=>⟨(f3 b hb).2.2.2.1,(f3 b hb).2.1,(f3 b hb).2.2.2.2.1,(f3 b hb).2.2.2.2.2⟩
    .have:=I6.os
     rw[hs0] at this;exact this
    .have hok:=I6.hok
     rw[hprog,hw] at hok;exact hok
   refine fin _ _ _ _ IX ⟨?_,?_,V4z I3.lt,I3.sz,λx c e=>?_,λp hp=>?_⟩ qn
   .obtain⟨m,hn,_⟩:=I6.loc
    rw[hL] at hn;exact⟨m,hn⟩
   .have:=I6.free
    rw[hL] at this;exact this
   .obtain⟨v,z⟩:=I3.cell x c e
    exact S4z z.lt
   .exact S4z (R4z (I3.pin p hp).1)
  .have q:=T.item Xc hprog hw hK hcm i [] s5 Y5 H5 (λ_ _=>False) I5 (stat fr5) st5 go
   rw[hA] at q;refine thn q λr s6 ⟨u,hr,h6⟩=>?_;subst hr;refine thn h6 λ_ s7 ⟨x,H7,I7,r7,y7,st7,fr7⟩=>?_;have q8:=hg _ s7 Y5 H7 x u _ (I7.pinned (stat fr7) (T.obj _ _ st7)) r7 (step x H7 y7);rw[hprog,hw,hA,hxe] at q8;refine thn q8 λ_ s8 ⟨Y8,H8,I8,z8⟩=>?_;have q9:=hif _ s8 Y8 H8 _ I8 z8;rw[hprog,hw,hA,hxe] at q9;refine thn q9 λok s9 ⟨H9,I9,z9⟩=>?_
   have again:∀{s':Shared}{Y':St}{H':Hp},Inv Xc ([]++qt fp s7.heap) Y' H' s'->N Y' H'->∃m,m<n/\∃i Y' H',Inv Xc [] Y' H' s'/\tn i s'.heap/\(∀b∈fp,H' b=none)/\W i m Y' H':=λ{s' Y' H'} I' n'=>by
    obtain⟨m',hm,w'⟩:=hN Y' H' n';refine⟨m',hm,i+1,Y',H',I'.unpinned,T.keep _ _ _ st7 λb hb o e=>(I'.pin (b,o) (P0z _ (P0z _ (gJ hb e)))).1,λb hb=>?_,w'⟩;obtain⟨o,e,d⟩:=T.obj _ _ st7 b hb;exact(I'.pin (b,o) (P0z _ (P0z _ (gJ hb e)))).2.1
   cases ok with
   |false =>
    exact again I9 z9
   |true =>
    have q10:=he _ s9 Y8 H9 _ I9 z9;rw[hprog,hw,hA,hxe] at q10;refine thn q10 λuv s10 ⟨v,H10,I10,r10,ys,hy,hz,z10⟩=>?_;have q11:=iW _ s10 Y8 H10 (.ref s2.heap.objs.size) [v] (.ref s2.heap.objs.size) [uv] (λ_ H'=>N Y8 H') I10 rfl (.cons r10 .nil) ⟨_,ys,v,rfl,rfl,hy,hz,z10⟩;rw[hprog,hw,hA,hxe] at q11;exact thn q11 λ_ s11 ⟨_,H11,I11,_,z11⟩=>again I11 z11
 have eenv:({ (newEnv scope s3.heap.objs.size X.env.globals (cellsFrom (s3.heap.objs.size+1) scope.names (jR X.env.cells scope.names [])) X.env.qual none .none (some X.env) builtinsNs) with scope:=relabel scope X.env}:Env)=Xc.env:=by rw[hen];rfl
 rw[eenv];exact codeAny_compStart_list loop (T.self X.A 0 _ _ _ st4 loop)
theorem Blk.gone(b:Blk X y0 H s C)(I:Inv X y0 Y H s)(hs:Heap.SameBut C s.heap h'):Inv X y0 Y H {s with heap:=h'} :=
 I.turned (λc o hc e=>(hs.2 c hc).trans e) b.free b.loc (.inr b.abv) b.cel b.pin
theorem zy(hc:X.calm=true)(hk:scope.kind=.function)(hnd:(scope.names.map (·.1)).Nodup)
  (hcap:∀x,(x,NameKind.free)∈scope.names->X.env.kindOf x=some .cell\/X.env.kindOf x=some .free) (hi:PI X tg iter wi)
  (hin:∀Xc:Cx,CompOf X scope Xc->PG Xc tg (g Xc)/\Gm Xc ifs (tc Xc)/\PE Xc elt (te Xc)) (hs:∀x,foldedSetIterable iter X.env x=pure x) :
  PE X (.ListComp elt [⟨tg,iter,ifs,0⟩] scope pos) (Dc X scope wi (zQ X.N scope.names) g tc te):=by
 intro y0 s Y H Q I h;refine wpAny_comprehension_free rfl hs (gD (nG I hnd hcap).1) hk (λx hx hl=>cJ hnd (by rw[<- hl];exact hx)) ?_;refine Br hc hk hnd hcap hi hin I h λacc C H' s' I' b q=>?_;obtain⟨m,hn⟩:=b.ns;exact⟨m,hn,λh' hsb=>⟨.ref acc,H',b.gone I' hsb,rfl,q⟩⟩
end
def Its(x:Str):It:=⟨λi _=>i<x.cps.size,λi H v H'=>H'=H/\∃c,x.cps[i]?=some c/\v=.str ⟨#[c]⟩,λi _=>x.cps.size<=i⟩
theorem CP{P:Program}{w:World}{K:Zf}{tg:Expr}(it:Addr)(x:Str)(t:Tok):Turn P w K tg (Its x) [it] it (λi h=>h.IsStrIter it "str_ascii_iterator" x t i) where
 mem:=by simp
 obj:=λi h st b hb=>by
  have e:b=it:=by simpa using hb
  subst e;obtain⟨o,e,c,d⟩:=st;exact⟨o,e,λv z=>by rw[d] at z;cases z⟩
 keep:=λi h h' st k=>let ⟨o,ho,r⟩:=st;⟨o,k it (by simp) o ho,r⟩
 item:=by
  intro X hP hw hK hc i y0 s Y H E I hf st hg;obtain⟨f0,f1,f2,f3,f4,f5⟩:=hf it (by simp);have hg':i<x.cps.size:=hg;refine wpAny_pyNext_ascii_item st (c:=x.cps[i]) (by simp) λh' st' sb=>?_;have I1:Inv X y0 Y H {s with heap:=h',toks:=s.toks+1}:=I.turned (λb o hb e=>(sb.2 b hb).trans e) f0 f1 f3 f4 f5;obtain⟨o,e,c,d⟩:=id st';exact⟨_,rfl,wO e c d rfl ⟨.str ⟨#[x.cps[i]]⟩,H,I1,⟨_,rfl⟩,⟨rfl,x.cps[i],by simp,rfl⟩,st',λb hb=>(hf b hb).1⟩⟩
 done:=by
  intro X hP hw hK hc i y0 s Y H E I hf st hg;obtain⟨f0,f1,f2,f3,f4,f5⟩:=hf it (by simp);exact wpAny_pyNext_ascii_end (I.ok.hd hc) st (by have:x.cps.size<=i:=hg;simp[this]) λh' eb=>⟨rfl,I.turned (λb o hb e=>eb b o hb e) f0 f1 f3 f4 f5⟩
 self:=λ_ _ _ _ _ st h=>wpAny_pyIter_striter_ascii st h
section
variable{X:Cx}{tg:Expr}
def Xa(tl:TE):TI:=λY H R=>tl Y H λv H1=>∃x,v=.str x/\x.cps.all (· < 128)=true/\R (Its x) H1
theorem Oi(hl:PE X l tl):PI X tg l (Xa tl):=by
 intro y0 s Y H R I h;refine thn (hl y0 s Y H _ I h) λv s1 ⟨x,H1,I1,r1,q1⟩=>?_;obtain⟨y,e,ha,q⟩:=q1;subst e;obtain⟨t,rfl⟩:=r1;refine wpAny_pyIter_ascii ha ?_;refine⟨s1.heap.objs.size,[s1.heap.objs.size],_,_,H1,rfl,I1.kept λb o e=>Heap.get?_push_of_some _ e,CP _ y t,⟨_,Heap.get?_push_size _ rfl,rfl,rfl⟩,λb hb=>?_,q⟩
 have e:b=s1.heap.objs.size:=by simpa using hb
 subst e;exact I1.fpOk (B5z _) (I1.hok.fresh (B5z _))
end
section
variable{prog:Program}{w:World}{A:Around}{E:Value->Shared->Prop}{s:Shared}
theorem Qu(hh:A.handled=none)(hit:s.heap.IsTupleIter it t i)(ht:s.heap.IsTuple t its)
  (hs:∀x h',its[i]?=some x->h'.IsTupleIter it t (i+1)->Heap.SameBut it s.heap h'->Q x {s with heap:=h'})
  (he:∀h' e,its[i]?=none->Heap.ExtBut it s.heap h'->(∃o,h'.get? e=some o/\o.cls=.type "StopIteration")->E (.ref e) {s with heap:=h'}) :
  wpAny (model prog w) A (Builtin.SmallTypes.nextOf (.ref it)) Q E s:=by
 obtain⟨oi,hoi,hci,hdi⟩:=id hit;obtain⟨ot,hot,_,nt,hdt⟩:=ht;refine I5z (wpAny_callSpecial?_slot hit.typeIs F.slot_tuple_iterator_next (W2z F.slot_tuple_iterator_next hit.typeIs F.entry_tuple_iterator_next ?_ (F.args_tuple_iterator_next_1 _)));show wpAny _ _ (field (.ref it) 0 >>=_) _ _ s;refine I5z (E5z hoi hdi rfl ?_);have nn:¬ ((Value.ref t==Value.none)=true):=P1z;show wpAny _ _ (field (.ref it) 1 >>=_) _ _ s;refine I5z (E5z hoi hdi rfl ?_);show wpAny _ _ (seqItems? (.ref t) >>=_) _ _ s;refine I5z (D4z hot hdt ?_)
 cases hx:its[i]? with
 |some x =>
  simp[Int.toNat_natCast,hx];have fin:(s.heap.update it λo=>o.mapFields (·.setIfInBounds 1 (rawInt ((i:Int)+1)))).IsTupleIter it t (i+1):=⟨_,Heap.get?_update_self _ hoi (Obj.isFreed_of_fields (Obj.data_mapFields hdi _)),(Obj.cls_mapFields ..).trans hci,by rw[Obj.data_mapFields hdi];simp[rawInt]⟩;exact I5z (wpAny_setField hoi hdi (by simp) (J5z ⟨x,rfl,J5z (hs x _ hx fin (Heap.SameBut.update ..))⟩))
 |none =>
  simp[Int.toNat_natCast,hx];refine I5z (K5z (I5z (wpAny_setField hoi hdi (by simp) (I5z ?_))));refine I5z (F2z (I5z (F5z (by first|rfl|(simp;rfl)) (F2z ?_ (by size_fits)))) (by size_fits));refine I5z (wpAny_handled ?_)
  first|rw[show A.in1.handled=none from hh]|rw[hh]
  exact I5z (J5z (wpAny_throw (he _ _ hx (((Heap.SameBut.update ..).extBut.push _).push _) ⟨_,Heap.get?_push_size _ rfl,rfl⟩)))
structure ZT(h:Heap)(z ti to i1 i2 t1 t2:Addr)(k:Nat)(f:Value):Prop where
 hz:IsZip h z ti to f
 hi:IsPair h ti (.ref i1) (.ref i2)
 ho:∃a b,IsPair h to a b
 h1:h.IsTupleIter i1 t1 k
 h2:h.IsTupleIter i2 t2 k
theorem ZT.keep(x:ZT h z ti to i1 i2 t1 t2 k f)(kp:∀b∈[z,ti,to,i1,i2],∀o,h.get? b=some o->h'.get? b=some o):ZT h' z ti to i1 i2 t1 t2 k f :=
 ⟨kp z (by simp) _ x.hz,kp ti (by simp) _ x.hi,let ⟨a,b,e⟩:=x.ho;⟨a,b,kp to (by simp) _ e⟩,x.h1.at λo e=>kp i1 (by simp) o e,x.h2.at λo e=>kp i2 (by simp) o e⟩
theorem xK(hh:A.handled=none)(D:ZipApart z ti to i1 i2 t1 t2)(hZ:ZT s.heap z ti to i1 i2 t1 t2 k .none)
  (ht1:s.heap.IsTuple t1 xs) (ht2:s.heap.IsTuple t2 ys)
  (hs:∀x y h', xs[k]?=some x->ys[k]?=some y->ZT h' z ti to i1 i2 t1 t2 (k + 1) (rawInt s.heap.objs.size)->IsPair h' s.heap.objs.size x y->h'.objs.size=s.heap.objs.size + 1 ->
   (∀c o,c∉[z,to,i1,i2]->s.heap.get? c=some o->h'.get? c=some o)->Q (.done (.ret (.ref s.heap.objs.size))) {s with heap:=h'})
  (he:∀h' e,(xs[k]?=none\/ys[k]?=none)->(∀c o,c∉[z,to,i1,i2]->s.heap.get? c=some o->h'.get? c=some o)->(∃o,h'.get? e=some o/\o.cls=.type "StopIteration")->E (.ref e) {s with heap:=h'}) :
  wpAny (model prog w) A (Builtin.«zip.__next__» ⟨[.ref z],[]⟩) Q E s:=by
 obtain⟨hz,hi,⟨a,b,ho⟩,h1,h2⟩:=hZ;show wpAny _ _ (field (.ref z) 2 >>=_) _ _ _;refine I5z (E5z hz rfl rfl ?_);show wpAny _ _ (field (.ref z) 3 >>=_) _ _ _;refine I5z (E5z hz rfl rfl (I5z (D4z hi rfl ?_)));refine I5z (I5z (E5z hz rfl rfl (J5z ?_)));refine I5z (K5z (I5z (E5z hz rfl rfl (I5z (W1z hz (by simp) λha za sa=>?_)))))
 replace za:IsZip ha z ti to .ellipsis:=za
 refine I5z ?_;refine I5z (I5z (wpAny_onRaise ?_))
 have ne4:∀{c:Addr},c∉[z,to,i1,i2]->c≠z/\c≠to/\c≠i1/\c≠i2:=λhc=>by simpa using hc
 refine I5z (Qu hh (h1.extBut sa.extBut D.i1z) (ht1.extBut sa.extBut D.l1z) (λx hb hx itb sb=>J5z ?_) λhb e hx eb ⟨oe,oe1,oe2⟩=>?_)
 .have tob:=sb.extBut _ _ D.TOi1 (sa.extBut _ _ D.TOz ho)
  refine I5z (D4z tob rfl (I5z (wpAny_updateSeq_pair tob λhc toc sc=>I5z (wpAny_letGo (J5z ?_)))))
  replace toc:IsPair hc to x b:=toc
  refine I5z (I5z (wpAny_onRaise ?_));have h2c:=((h2.extBut sa.extBut D.i2z).extBut sb.extBut D.i12.symm).extBut sc.extBut D.TOi2.symm;have t2c:=((ht2.extBut sa.extBut D.l2z).extBut sb.extBut D.l2i1).extBut sc.extBut D.l2TO;refine I5z (Qu hh h2c t2c (λy hd hy itd sd=>J5z ?_) λhd e hy ed ⟨oe,oe1,oe2⟩=>?_)
  .have tod:=sd.extBut _ _ D.TOi2 toc
   refine I5z (D4z tod rfl (I5z (wpAny_updateSeq_pair tod λhf tof sf=>I5z (wpAny_letGo (J5z (J5z ?_))))))
   replace tof:IsPair hf to x y:=tof
   refine I5z (D4z tof rfl (I5z (wpAny_newTuple ?_)))
   have szf:hf.objs.size=s.heap.objs.size:=by rw[sf.1,sd.1,sc.1,sb.1,sa.1]
   have zf:=sf.extBut _ _ D.TOz.symm (sd.extBut _ _ D.i2z.symm (sc.extBut _ _ D.TOz.symm (sb.extBut _ _ D.i1z.symm za)))
   have kf:∀c o,c∉[z,to,i1,i2]->s.heap.get? c=some o->hf.get? c=some o:=λc o hc' e=>by
    obtain⟨c1,c2,c3,c4⟩:=ne4 hc';exact sf.extBut _ _ c2 (sd.extBut _ _ c4 (sc.extBut _ _ c2 (sb.extBut _ _ c3 (sa.extBut _ _ c1 e))))
   have i1f:=((itb.extBut sc.extBut D.TOi1.symm).extBut sd.extBut D.i12).extBut sf.extBut D.TOi1.symm;have i2f:=itd.extBut sf.extBut D.TOi2.symm;have tif:=sf.extBut _ _ D.TITO (sd.extBut _ _ D.TIi2 (sc.extBut _ _ D.TITO (sb.extBut _ _ D.TIi1 (sa.extBut _ _ D.TIz hi))));have zlt:=R4z zf;have zg:IsZip (hf.push {cls:=.type "tuple",data:=.seq #[x,y]}) z ti to .ellipsis:=Heap.get?_push_of_some _ zf;refine I5z (I5z (W1z zg (by simp) λhk zk sk=>W1z zk (by simp) λhm zm sm=>J5z ?_))
   replace zm:IsZip hm z ti to (rawInt hf.objs.size):=zm
   have up:∀c o,c≠z->hf.get? c=some o->hm.get? c=some o:=λc o c1 e=>sm.extBut _ _ c1 (sk.extBut _ _ c1 (Heap.get?_push_of_some _ e));have new:=sm.extBut _ _ (V4z zlt) (sk.extBut _ _ (V4z zlt) (Heap.get?_push_size _ rfl))
   have szm:hm.objs.size=hf.objs.size+1:=by rw[sm.1,sk.1,B4z]
   have q:=hs x y hm hx hy ⟨by rw[<- szf];exact zm,up _ _ D.TIz tif,⟨x,y,up _ _ D.TOz tof⟩,i1f.at λo e=>up _ o D.i1z e,i2f.at λo e=>up _ o D.i2z e⟩ (by rw[<- szf];exact new) (by rw[szm,szf]) λc o hc' e=>up c o (ne4 hc').1 (kf c o hc' e)
   rw[<- szf] at q;exact q
  .have zd:=ed _ _ D.i2z.symm (sc.extBut _ _ D.TOz.symm (sb.extBut _ _ D.i1z.symm za))
   refine W1z zd (by simp) λhf _ sf=>he hf e (.inr hy) (λc o hc' q=>?_) ⟨oe,sf.extBut _ _ (λq=>by subst q;rw[zd] at oe1;cases oe1;simp at oe2) oe1,oe2⟩
   obtain⟨c1,c2,c3,c4⟩:=ne4 hc';exact sf.extBut _ _ c1 (ed _ _ c4 (sc.extBut _ _ c2 (sb.extBut _ _ c3 (sa.extBut _ _ c1 q))))
 .have zb:=eb _ _ D.i1z.symm za
  refine W1z zb (by simp) λhf _ sf=>he hf e (.inl hx) (λc o hc' q=>?_) ⟨oe,sf.extBut _ _ (λq=>by subst q;rw[zb] at oe1;cases oe1;simp at oe2) oe1,oe2⟩
  obtain⟨c1,c2,c3,c4⟩:=ne4 hc';exact sf.extBut _ _ c1 (eb _ _ c3 (sa.extBut _ _ c1 q))
theorem lF(hh:A.handled=none)(D:ZipApart z ti to i1 i2 t1 t2)(hZ:ZT s.heap z ti to i1 i2 t1 t2 k .none)
  (ht1:s.heap.IsTuple t1 xs) (ht2:s.heap.IsTuple t2 ys)
  (hs:∀x y h', xs[k]?=some x->ys[k]?=some y->ZT h' z ti to i1 i2 t1 t2 (k + 1) (rawInt s.heap.objs.size)->IsPair h' s.heap.objs.size x y->h'.objs.size=s.heap.objs.size + 1 ->
   (∀c o,c∉[z,to,i1,i2]->s.heap.get? c=some o->h'.get? c=some o)->Q (some (.ref s.heap.objs.size)) {s with heap:=h'})
  (he:∀h',(xs[k]?=none\/ys[k]?=none)->(∀c o,c∉[z,to,i1,i2]->s.heap.get? c=some o->h'.get? c=some o)->Q none {s with heap:=h'}) :
  wpAny (model prog w) A (pyNext (.ref z)) Q E s:=by
 have hT:s.TypeIs (.ref z) "zip":=⟨_,hZ.hz,rfl⟩
 refine I5z (J4z (wpAny_callSpecial?_slot hT F.slot_zip_next (W2z F.slot_zip_next hT F.entry_zip_next
  (xK hh D hZ ht1 ht2 (λx y h' a1 a2 a3 a4 a5 a6=>⟨_,rfl,J5z (hs x y h' a1 a2 a3 a4 a5 a6)⟩) λh' e a1 a2 ⟨o,e1,e2⟩=>?_) (F.args_zip_next_1 _))))
 exact I5z (wpAny_isInstance ⟨o,e1,e2⟩ isSubtype_stop (J5z (he h' a1 a2)))
abbrev itT(t:Addr):Obj:={cls:=.type "tuple_iterator",data:=.fields #[.ref t,.int 0 0]}
theorem Il(hp H1 H2 H3 H4 H5:Heap)(t1 t2:Addr)(e1:H1=hp.push (itT t1))(e2:H2=H1.push (itT t2))(e3:H3=H2.push {cls:=.type "tuple",data:=.seq #[.ref hp.objs.size,.ref H1.objs.size]})(e4:H4=H3.push {cls:=.type "tuple",data:=.seq #[.none,.none]})
  (e5:H5=H4.push {cls:=.type "zip",data:=.fields #[.none,.bool false,.bool false,.ref H2.objs.size,.ref H3.objs.size]}) :
  H4.objs.size=hp.objs.size+4/\H5.objs.size=hp.objs.size+5/\(∀c o,hp.get? c=some o->H5.get? c=some o)/\ZT H5 (hp.objs.size+4) (hp.objs.size+2) (hp.objs.size+3) hp.objs.size (hp.objs.size+1) t1 t2 0 .none:=by
 have z1:H1.objs.size=hp.objs.size+1:=by rw[e1,B4z]
 have z2:H2.objs.size=hp.objs.size+2:=by rw[e2,B4z,z1]
 have z3:H3.objs.size=hp.objs.size+3:=by rw[e3,B4z,z2]
 have z4:H4.objs.size=hp.objs.size+4:=by rw[e4,B4z,z3]
 have z5:H5.objs.size=hp.objs.size+5:=by rw[e5,B4z,z4]
 have k5:∀c o,H4.get? c=some o->H5.get? c=some o:=λc o e=>by rw[e5];exact Heap.get?_push_of_some _ e
 have k4:=λc o e=>k5 c o (by rw[e4];exact Heap.get?_push_of_some _ e)
 have k3:=λc o e=>k4 c o (by rw[e3];exact Heap.get?_push_of_some _ e)
 have k2:=λc o e=>k3 c o (by rw[e2];exact Heap.get?_push_of_some _ e)
 have k1:=λc o e=>k2 c o (by rw[e1];exact Heap.get?_push_of_some _ e)
 refine⟨z4,z5,k1,?_,?_,⟨.none,.none,?_⟩,⟨_,k2 _ _ (by rw[e1];exact Heap.get?_push_size _ rfl),rfl,rfl⟩,⟨_,k3 _ _ (by rw[e2,<- z1];exact Heap.get?_push_size _ rfl),rfl,rfl⟩⟩
 .have q:H5.get? H4.objs.size=some {cls:=.type "zip",data:=.fields #[.none,.bool false,.bool false,.ref H2.objs.size,.ref H3.objs.size]}:=by rw[e5];exact Heap.get?_push_size _ rfl
  rw[z2,z3,z4] at q;exact q
 .have q:=k4 _ _ (by rw[e3];exact Heap.get?_push_size _ rfl)
  rw[z1,z2] at q;exact q
 .have q:=k5 _ _ (by rw[e4];exact Heap.get?_push_size _ rfl)
  rw[z3] at q;exact q
theorem Cz(t1 t2:Addr)(xs ys:Array Value) :
    Meets (Builtin.«zip.__new__» ⟨[.type "zip",.ref t1,.ref t2],[]⟩) (λ_ R s=>s.heap.IsTuple t1 xs/\s.heap.IsTuple t2 ys /\
      ∀h', (∀c o, s.heap.get? c=some o->h'.get? c=some o)->h'.objs.size=s.heap.objs.size + 5->ZT h' (s.heap.objs.size + 4) (s.heap.objs.size + 2) (s.heap.objs.size + 3) s.heap.objs.size (s.heap.objs.size + 1) t1 t2 0 .none ->
        R (.ok (.ret (.ref (s.heap.objs.size+4)))) {s with heap:=h'}) :=
  .of_wp λprog w A R s h=>by
    obtain⟨hp,g,d,tk,os⟩:=s;obtain⟨hl1,hl2,h⟩:=h
    have hsub:=sub_zip
    have hL2:Heap.IsTuple (Shared.heap ⟨hp.push (itT t1),g,d,tk,os⟩) t2 ys:=let ⟨o,e,r⟩:=hl2;⟨o,Heap.get?_push_of_some _ e,r⟩
    wp_walk using O1z hl1,O1z hL2
    refine⟨_,rfl,?_⟩
    obtain⟨z4,z5,kp,Z⟩:=Il hp _ _ _ _ _ t1 t2 rfl rfl rfl rfl rfl
    have q:=h _ kp z5 Z
    rw[<- z4] at q
    exact q
theorem Bu(hl1:s.heap.IsTuple t1 xs)(hl2:s.heap.IsTuple t2 ys)
  (h:∀h', (∀c o, s.heap.get? c=some o->h'.get? c=some o)->h'.objs.size=s.heap.objs.size + 5->ZT h' (s.heap.objs.size + 4) (s.heap.objs.size + 2) (s.heap.objs.size + 3) s.heap.objs.size (s.heap.objs.size + 1) t1 t2 0 .none ->
   Q (.ref (s.heap.objs.size+4)) {s with heap:=h'}):wpAny (model prog w) A (call (.type "zip") [.ref t1,.ref t2]) Q E s:=by
 exact callType_new F.called_zip (by decide) (F.typeCall_zip_2 _ _) (F.newCall_zip_2 _ _) (λobj=>F.args_object_init_3 obj _ _) F.entry_zip_new (Cz t1 t2 xs ys) ⟨hl1,hl2,λh' kp z5 Z=>⟨⟨_,Z.hz,rfl⟩,h h' kp z5 Z⟩⟩
end
namespace RF
theorem slot_next:Slot "reversed" "__next__" "reversed.__next__":=.of (owner:="reversed") (n:="__next__") (by rw[Q3z,R0z];rfl') rfl rfl rfl (by first|exact .inl rfl|exact .inr rfl) (by rw[E4z];rfl')
theorem qd:Slot "reversed" "__iter__" "reversed.__iter__":=.of (owner:="reversed") (n:="__iter__") (by rw[Q3z,R0z];rfl') rfl rfl rfl (by first|exact .inl rfl|exact .inr rfl) (by rw[E4z];rfl')
theorem yK:Slot "reversed" "__init__" "object.__init__":=.of (owner:="object") (n:="__init__") (by rw[Q3z,R0z];rfl') rfl rfl rfl (by first|exact .inl rfl|exact .inr rfl) (by rw[E4z];rfl')
theorem lD:Slot "reversed" "__length_hint__" "reversed.__length_hint__":=.of (owner:="reversed") (n:="__length_hint__") (by rw[Q3z,R0z];rfl') rfl rfl rfl (by first|exact .inl rfl|exact .inr rfl) (by rw[E4z];rfl')
theorem Pj:typeLookup (.type "reversed") "__len__"=pure none:=by rw[Q3z,R0z];rfl'
theorem entry_next:entryFor table "reversed.__next__"=some Builtin.«reversed.__next__» :=X2z rfl
theorem wX:entryFor table "reversed.__length_hint__"=some Builtin.«reversed.__length_hint__» :=X2z rfl
theorem Bc:entryFor table "reversed.__new__"=some Builtin.«reversed.__new__» :=X2z rfl
theorem wW:entryFor table "reversed.__iter__"=some Builtin.«dict_keyiterator.__iter__» :=entryFor_alias (id':="dict_keyiterator.__iter__") rfl (by first|rfl|decide +kernel|(unfold String.splitOn;simp +decide [String.splitOnAux])) (by decide +kernel) rfl
theorem owner:Manifest.owners.lookup (String.ofList ['d','e','s','r','e','v','e','r'].reverse)=some Manifest.sig_reversed:=by rfl'
theorem args_next(a:Value):argsOk "reversed.__next__" ⟨[a],[]⟩:=by unfold argsOk;rw[signature?_of (n:=['_','_','t','x','e','n','_','_']) rfl owner];rfl'
theorem Ce(a:Value):argsOk "reversed.__iter__" ⟨[a],[]⟩:=by unfold argsOk;rw[signature?_of (n:=['_','_','r','e','t','i','_','_']) rfl owner];rfl'
theorem Cg(a:Value):argsOk "reversed.__length_hint__" ⟨[a],[]⟩:=by unfold argsOk;rw[signature?_of (n:=['_','_','t','n','i','h','_','h','t','g','n','e','l','_','_']) rfl owner];rfl'
theorem mro:mroOf (.type "reversed")=pure [.type "reversed",.type "object"]:=by rw[mroOf_type];rfl'
theorem Er:typeLookup (.type "reversed") "__new__"=pure (some (.builtin "reversed.__new__")):=by rw[Q3z,R0z];rfl'
theorem called:TypeCalled "reversed" "reversed.__new__" "object.__init__":=⟨by decide +kernel,by decide +kernel,⟨_,_,mro⟩,madeBy_type mro Er (by decide +kernel),by decide +kernel,by rw[E4z];rfl',yK⟩
theorem RL(a:Value):checkTypeCall "reversed" ⟨[a],[]⟩=pure ():=by rfl'
theorem Tj(a:Value):checkBuiltinCall "reversed.__new__" ⟨[.type "reversed",a],[]⟩=pure ():=by rfl'
theorem sub_self:isSubtype (.type "reversed") (.type "reversed")=pure true:=by rw[E4z];rfl'
theorem xZ:typeLookup (.type "tuple") "__reversed__"=pure none:=by rw[Q3z,R0z];rfl'
end RF
theorem Pn(a:Value):Builtin.SmallTypes.newClass "reversed" ⟨[.type "reversed",a],[]⟩=pure (.type "reversed",[a]):=by
 unfold Builtin.SmallTypes.newClass;simp[isType,RF.sub_self,pure_bind,Bool.not_true,V1z,Q5z]
abbrev Jq(t:Addr)(i:Int):Obj:={cls:=.type "reversed",data:=.fields #[.ref t,rawInt i]}
theorem Dn(t:Addr)(its:Array Value) :
    Meets (Builtin.«reversed.__new__» ⟨[.type "reversed",.ref t],[]⟩) (λ_ R s=>IsTup s.heap t its/\its.size<=sizeLine/\∀tk,R (.ok (.ret (.ref s.heap.objs.size))) {s with heap:=s.heap.push (Jq t ((its.size:Int)-1)),toks:=tk}) :=
  .of_wp λprog w A R s h=>by
    obtain⟨ht,hz,h⟩:=h
    have hT:=Heap.IsTuple.typeIs ht
    refine I5z (F5z (Pn _) ?_)
    refine I5z (F5z (by first|rfl|rfl') (I5z (F5z (by first|rfl|rfl') ?_)))
    refine I5z (R3z hT RF.xZ ?_)
    have lk:typeLookup (.type "tuple") "__getitem__"=pure (some (.builtin "tuple.__getitem__")):=by rw[Q3z,R0z];rfl'
    have sd:isSubtype (.type "tuple") (.type "dict")=pure false:=by rw[E4z];rfl'
    have fit : (its.size : Int) < 2 ^ 63 := by have : sizeLine < 2 ^ 63 := by (rw [C5z]; decide)
                                               omega
    wp_walk using R3z hT lk,F5z sd,PyProof.Rows.len_tuple ht fit
    exact⟨_,rfl,h _⟩
section
variable{prog:Program}{w:World}{A:Around}{E:Value->Shared->Prop}{s:Shared}
theorem rm(ht:IsTup s.heap t its)(hz:its.size<=sizeLine)(h:∀tk,Q (.ref s.heap.objs.size) {s with heap:=s.heap.push (Jq t ((its.size:Int)-1)),toks:=tk}) :
  wpAny (model prog w) A (call (.type "reversed") [.ref t]) Q E s :=
 callType_new RF.called rfl (RF.RL _) (RF.Tj _) (λobj=>F.args_object_init_2 obj _) RF.Bc (Dn t its) ⟨ht,hz,λtk=>⟨⟨_,Heap.get?_push_size _ rfl,rfl⟩,h tk⟩⟩
abbrev d7(h:Heap)(r t:Addr)(i:Int):Prop:=h.get? r=some (Jq t i)
theorem yU{i:Nat}(hr:d7 s.heap r t (i:Int))(ht:IsTup s.heap t its)(hx:its[i]?=some x)(hz:its.size<=sizeLine)
    (hQ:∀h' tk,d7 h' r t ((i:Int)-1)->Heap.SameBut r s.heap h'->Q (.done (.ret x)) {s with heap:=h',toks:=tk}):wpAny (model prog w) A (Builtin.«reversed.__next__» ⟨[.ref r],[]⟩) Q E s:=by
  have lk:typeLookup (.type "tuple") "__getitem__"=pure (some (.builtin "tuple.__getitem__")):=by rw[Q3z,R0z];rfl'
  unfold Builtin.«reversed.__next__»
  refine I5z (F5z (a:=(Value.ref r,[])) rfl ?_)
  refine I5z (E5z hr rfl (x:=.ref t) rfl (I5z (E5z hr rfl (x:=rawInt (i:Int)) rfl ?_)))
  show wpAny _ _ (if(i:Int)<0 then _ else _) _ _ s
  rw[U5z (by omega)]
  have hi:i<its.size:=(Array.getElem?_eq_some_iff.mp hx).1
  have fit : (its.size : Int) < 2 ^ 63 := by have : sizeLine < 2 ^ 63 := by (rw [C5z]; decide)
                                             omega
  have sq:seqIndex? (i:Int) its.size=some i:=by
    unfold seqIndex?
    simp
    omega
  refine I5z (R3z (Heap.IsTuple.typeIs (show s.heap.IsTuple t its from ht)) lk ?_)
  refine I5z (wpAny_mkInt ?_)
  refine I5z (J4z (PyProof.Rows.getItem_tuple ht (by omega) (by omega) sq hx ?_))
  refine I5z (E5z hr rfl rfl ?_)
  refine I5z (W1z hr (by simp) λh' hr' hs'=>J5z (hQ h' _ ?_ hs'))
  exact hr'
theorem Dp(hh:A.handled=none)(hr:d7 s.heap r t (-1))
  (hE:∀h' e,Heap.ExtBut r s.heap h'->(∃o,h'.get? e=some o/\o.cls=.type "StopIteration")->E (.ref e) {s with heap:=h'}):wpAny (model prog w) A (Builtin.«reversed.__next__» ⟨[.ref r],[]⟩) Q E s:=by
 refine I5z (F5z rfl ?_);refine I5z (E5z hr rfl rfl (I5z (E5z hr rfl rfl ?_)));show wpAny _ _ (if(-1:Int)<0 then _ else _) _ _ s
 wp_walk using W1z hr (by simp)
 intro h1 e1 s1;refine W1z e1 (by simp) λh2 e2 s2=>?_;refine I5z ?_;refine I5z ?_;refine I5z (F2z (I5z (F5z (by first|rfl|(simp;rfl)) (F2z ?_ (by size_fits)))) (by size_fits));refine I5z (wpAny_handled ?_)
 first|rw[show A.in1.handled=none from hh]|rw[hh]
 exact I5z (J5z (wpAny_throw (hE _ _ (((s1.trans s2).extBut.push _).push _) ⟨_,Heap.get?_push_size _ rfl,rfl⟩)))
theorem lG{i:Nat}(hr:d7 s.heap r t (i:Int))(ht:IsTup s.heap t its)(hx:its[i]?=some x)(hz:its.size<=sizeLine)
  (hQ:∀h' tk,d7 h' r t ((i:Int)-1)->Heap.SameBut r s.heap h'->Q (some x) {s with heap:=h',toks:=tk}):wpAny (model prog w) A (pyNext (.ref r)) Q E s:=by
 have hT:s.TypeIs (.ref r) "reversed":=⟨_,hr,rfl⟩
 exact I5z (J4z (wpAny_callSpecial?_slot hT RF.slot_next (W2z RF.slot_next hT RF.entry_next
  (yU hr ht hx hz λh' tk a b=>⟨_,rfl,J5z (hQ h' tk a b)⟩) (RF.args_next _))))
theorem gj(hh:A.handled=none)(hr:d7 s.heap r t (-1))(hQ:∀h',Heap.ExtBut r s.heap h'->Q none {s with heap:=h'}):wpAny (model prog w) A (pyNext (.ref r)) Q E s:=by
 have hT:s.TypeIs (.ref r) "reversed":=⟨_,hr,rfl⟩
 refine I5z (J4z (wpAny_callSpecial?_slot hT RF.slot_next (W2z RF.slot_next hT RF.entry_next
  (Dp hh hr λh' e a ⟨o,e1,e2⟩=>I5z (wpAny_isInstance ⟨o,e1,e2⟩ isSubtype_stop (J5z (hQ h' a)))) (RF.args_next _))))
theorem fu(hr:d7 s.heap r t i)(h:Q (.ref r) s):wpAny (model prog w) A (pyIter (.ref r)) Q E s:=by
 have hT:s.TypeIs (.ref r) "reversed":=⟨_,hr,rfl⟩;refine wpAny_pyIter_slot hT RF.qd (W2z RF.qd hT RF.wW (J5z ⟨_,rfl,"reversed",_,hT,RF.slot_next.lookup,h⟩) (RF.Ce _))
theorem Al(hr:d7 s.heap r t i)(ht:IsTup s.heap t its)(hz:its.size<=sizeLine)(hi:i+1<=its.size)
    (hQ:∀tk tk',s.toks<=tk'->Q (.int (i+1) tk) {s with toks:=tk'}):wpAny (model prog w) A (call (.builtin "reversed.__length_hint__") [.ref r]) Q E s:=by
  have fit : (its.size : Int) < 2 ^ 63 := by have : sizeLine < 2 ^ 63 := by (rw [C5z]; decide)
                                             omega
  refine W2z RF.lD ⟨_,hr,rfl⟩ RF.wX ?_ (RF.Cg _)
  refine I5z (F5z rfl ?_)
  refine I5z (E5z hr rfl rfl ?_)
  have nn:¬ ((Value.ref t==Value.none)=true):=P1z
  refine I5z (PyProof.Rows.len_tuple ht fit (I5z (F5z rfl ?_)))
  refine I5z (E5z hr rfl rfl ?_)
  show wpAny _ _ (if(its.size:Int)<i+1 then _ else _) _ _ _
  rw[U5z (by omega)]
  exact I5z (wpAny_mkInt (J5z ⟨_,rfl,hQ _ _ (by show s.toks<=s.toks+1+1+1;omega)⟩))
theorem xQ(hh:A.handled=none)(r t:Addr)(hne:t≠r)(its:Array Value)(hz:its.size<=sizeLine) :
  Walks prog w A r [r,t] [r] its.size (λi v=>its[its.size-1-i]?=some v) (λi h=>i<=its.size/\d7 h r t ((its.size:Int)-1-(i:Int))/\IsTup h t its) where
 sub:=λb hb=>by simp at hb;simp[hb]
 frame:=λ_ _ _ x hk=>⟨x.1,hk r (by simp) _ x.2.1,let ⟨o,e,q⟩:=x.2.2;⟨o,hk t (by simp) o e,q⟩⟩
 item:=λi s Q E hi x hQ=>by
  have e1:(its.size:Int)-1-(i:Int)=((its.size-1-i:Nat):Int):=by omega
  have hr:=x.2.1;rw[e1] at hr;have hx:its[its.size-1-i]?=some (its[its.size-1-i]'(by omega)):=Array.getElem?_eq_getElem (by omega);refine lG hr x.2.2 hx hz λh' tk hr' hs'=>?_
  have e2:((its.size-1-i:Nat):Int)-1=(its.size:Int)-1-((i+1:Nat):Int):=by omega
  rw[e2] at hr';exact hQ _ h' tk hx ⟨hi,hr',let ⟨o,e,q⟩:=x.2.2;⟨o,(hs'.2 t hne).trans e,q⟩⟩ λb o hb eo=>hs'.extBut b o (λh=>hb (by simp[h])) eo
 done:=λs Q E x hQ=>by
  have e1:(its.size:Int)-1-(its.size:Int)=-1:=by omega
  have hr:=x.2.1;rw[e1] at hr;exact gj hh hr λh' he'=>hQ h' s.toks λb o hb eo=>he' b o (λh=>hb (by simp[h])) eo
 self:=λ_ _ _ _ x hQ=>fu x.2.1 hQ
theorem qX(hh:A.handled=none)(hr:d7 s.heap r t ((its.size:Int)-1))(ht:IsTup s.heap t its)(hz:its.size<=sizeLine)
  (hQ:∀s' acc,Moved [r] (λa b=>b=a) s s'->ItemsOf (λi v=>its[its.size-1-i]?=some v) acc its.size->Q acc.toList s'):wpAny (model prog w) A (collect (.ref r)) Q E s:=by
 have hne:t≠r:=λe=>by
  obtain⟨o,e1,e2,_⟩:=ht;rw[e,hr] at e1;have e4:Value.type "reversed"=Value.type "tuple":=(congrArg Obj.cls (I3z e1)).trans e2;exact absurd e4 (by decide)
 have W:=(xQ (prog:=prog) (w:=w) (A:=A.in1.in1) hh r t hne its hz).toS
 have fresh:∀b∈[r,t],b<s.heap.objs.size:=λb hb=>by
  simp at hb;obtain rfl|rfl:=hb
  .exact R4z hr
  .exact ht.lt
 have nf:=λhm=>G4z _ (fresh _ hm);have nr:s.heap.objs.size≠r:=λe=>nf (by simp[e]);refine I5z (wpAny_runValue (S3z F.entry_proto_collect ?_));refine I5z (F2z (J5z ⟨K4z F.plain_list_iadd _,S3z F.entry_list_iadd ?_⟩));have hS₁:(s.heap.push {cls:=.type "list",data:=.seq ([]:List Value).toArray}).get? s.heap.objs.size=some {cls:=.type "list",data:=.seq ([]:List Value).toArray}:=Heap.get?_push_size _ rfl;have hr₁:d7 (s.heap.push {cls:=.type "list",data:=.seq ([]:List Value).toArray}) r t ((its.size:Int)-1):=Heap.get?_push_of_some _ hr;have ht₁:IsTup (s.heap.push {cls:=.type "list",data:=.seq ([]:List Value).toArray}) t its:=let ⟨o,e,q⟩:=ht;⟨o,Heap.get?_push_of_some _ e,q⟩;show wpAny _ A.in1 (Builtin.List.listExtendWith (.ref s.heap.objs.size) (.ref r) (.ref s.heap.objs.size)) _ _ _;have hT₁:({s with heap:=s.heap.push {cls:=.type "list",data:=.seq ([]:List Value).toArray} }:Shared).TypeIs (.ref r) "reversed":=⟨_,hr₁,rfl⟩
 have h1:Builtin.List.listSameRef (.ref s.heap.objs.size) (.ref r)=false:=by simp[Builtin.List.listSameRef,nr]
 refine I5z (Y4z hT₁ ?_);rw[U5z (by rw[h1];decide)];refine I5z (fu hr₁ ?_);refine I5z (L4z ?_);refine I5z (R3z hT₁ RF.Pj ?_);refine I5z (R3z hT₁ RF.lD.lookup ?_)
 have sp:splitId "reversed.__length_hint__"=some ("reversed","__length_hint__"):=by decide +kernel
 dsimp only;rw[sp];refine I5z (wpAny_isInstance hT₁ RF.sub_self ?_);refine I5z (K5z (I5z (F5z (RF.lD.bind _) ?_)));refine I5z (J4z (Al hr₁ ht₁ hz (by omega) λtk tk' htk=>?_));refine I5z (F5z rfl ?_);dsimp only
 have fit:sizeLine<2^62:=by rw[C5z];decide
 have f1:Builtin.List.listFitsIndex ((its.size:Int)-1+1)=true:=by
  unfold Builtin.List.listFitsIndex;simp;omega
 have f2:Builtin.List.listTooLong ((its.size:Int)-1+1).toNat=false:=by
  unfold Builtin.List.listTooLong;simp;omega
 rw[U5z (by rw[f1];decide),U5z (by omega),U5z (by rw[f2];decide)]
 refine J5z ?_
 have loop:∀h':Heap,(∀b o,b≠s.heap.objs.size->(s.heap.push {cls:=.type "list",data:=.seq ([]:List Value).toArray}).get? b=some o->h'.get? b=some o)->(∃c,h'.get? s.heap.objs.size=some {cls:=.type "list",dict:=none,data:=.seq #[] c,slots := #[]}) ->
   ∀tk,s.toks<=tk->codeAny (model prog w) A (.builtin "list.extend.loop" ⟨[.ref s.heap.objs.size,.ref r,.ref s.heap.objs.size],[]⟩) (λr s'=>match r with
    |.ok (.ret v)=>wpAny (model prog w) A (match v with|.ref a=>do (match (<- load a).data with|.seq xs _=>pure xs.toList|_=>unsupported "internal:collect")|_=>unsupported "internal:collect") Q E s'
    |.ok _=>False
    | .error e=>E e s') {s with heap:=h',toks:=tk}:=by
  intro h' kp ⟨c,hS⟩ tk htk;have kp':=λb o e=>kp b o (S4z (R4z e)) (Heap.get?_push_of_some _ e);refine codeAny_extend_loopS W.of_in1 hz _ nf _ its.size 0 _ #[] c rfl (D5z _) ⟨D5z _,by simpa using kp' _ _ hr,let ⟨o,e,q⟩:=ht;⟨o,kp' _ o e,q⟩⟩ hS (ItemsOf.nil _) λs' acc' c' hm hS' hacc=>?_;exact I5z (wpAny_load hS' (J5z (hQ s' acc' ⟨λb o hb e=>(hm.heap b o (by simp at hb ⊢;exact⟨S4z (R4z e),hb⟩) (kp' b o e)),hm.gens,hm.drawn,hm.os,T4z htk hm.toks⟩ hacc)))
 refine wpAny_ite_split (λ_=>?_) (λ_=>J5z ⟨K4z F.plain_extend_loop _,loop _ (λb o _ e=>e) ⟨_,hS₁⟩ tk' htk⟩);refine I5z (K5z (I5z ?_));refine I5z (wpAny_updateSeq hS₁ rfl ?_);have hS₂:=Heap.get?_update_self (Obj.mapSeq (·.push Value.none)) hS₁ rfl;refine wpAny_updateSeq hS₂ rfl (J5z ⟨K4z F.plain_extend_loop _,loop _ (λb o hb e=>?_) ⟨_,Heap.get?_update_self (Obj.mapSeq (·.pop)) hS₂ rfl⟩ tk' htk⟩);exact(Heap.get?_update_other _ _ (R5z hb)).trans ((Heap.get?_update_other _ _ (R5z hb)).trans e)
theorem mK(hh:A.handled=none)(hr:d7 s.heap r t ((its.size:Int)-1))(ht:IsTup s.heap t its)(hz:its.size<=sizeLine)
  (hQ:∀s' acc,Moved [r] (λa b=>b=a) s s'->ItemsOf (λi v=>its[its.size-1-i]?=some v) acc its.size->Q (.ref s'.heap.objs.size) {s' with heap:=s'.heap.push {cls:=.type "tuple",data:=.seq acc} }) :
  wpAny (model prog w) A (call (.type "tuple") [.ref r]) Q E s:=by
 refine callType_codes (Q₁:=λobj s₁=>s₁.TypeIs obj "tuple"/\Q obj s₁) F.called_tuple (F.typeCall_tuple_1 _) F.entry_object_init (codeAny_of_tree ?_) λobj s₁ h₁ =>
  ⟨h₁.1,F.args_object_init_2 obj _,object_init_meets F.called_tuple.init.lookup F.called_tuple.made rfl prog w A.in1 _ s₁ ⟨h₁.1,rfl,h₁.2⟩⟩
 refine I5z (F5z (F.newCall_tuple_1 _) (J5z ⟨K4z F.plain_tuple_new _,S3z F.entry_tuple_new ?_⟩));rw[Around.under_plainId F.plain_tuple_new _];have hsub:=sub_tuple_self;have hinit:=init_tuple_lookup;have hmh:=madeHere_tuple
 wp_walk using Y4z hT,qX (A:=A.in1.in1) hh hr ht hz
 intro s' acc hm hacc;show wpAny _ _ (Builtin.Tuple.tupleExact acc.toList.toArray >>=λv=>ret v) _ _ _
 have e:acc.toList.toArray=acc:=by simp
 exact I5z (F2z (J5z ⟨⟨_,Heap.get?_push_size _ rfl,rfl⟩,hQ s' acc hm hacc⟩) (by show acc.size<=sizeLine;rw[hacc.1];exact hz))
end
end L2
namespace L2
open PySem PySem.Spec PyProof.Rows PySem.SeqAt
section
variable{prog:Program}{w:World}{A:Around}{E:Value->Shared->Prop}{s:Shared}
end
end L2
namespace L2
open PySem PySem.Spec PyProof.Rows
def Itv(K:Zf)(t:Addr)(n:Nat):It :=
 ⟨λi H=>∃ys,SqT K H t ys/\ys.length=n/\i<n,λi H x H'=>H'=H/\∀ys,SqT K H t ys->ys[n-1-i]?=some x,λi _=>i=n⟩
theorem CQ{P:Program}{w:World}{K:Zf}{tg:Expr}(t r:Addr)(n:Nat)(hz:n<=sizeLine):Turn P w K tg (Itv K t n) [r] r (λi h=>d7 h r t ((n:Int)-1-(i:Int))) where
 mem:=by simp
 obj:=λi h st b hb=>by
  have e:b=r:=by simpa using hb
  subst e
  exact⟨_,st,λv z=>by
   cases z⟩
 keep:=λi h h' st k=>k r (by simp) _ st
 item:=by
  intro X hP hw hK hc i y0 s Y H E I hf st hg;subst hP hw hK;obtain⟨ys,hq,hl,hi⟩:=hg;obtain⟨its,rv,p,hz'⟩:=I.tuple hq
  have hn:its.length=n:=by rw[<- rv.length,hl]
  obtain⟨f0,f1,f2,f3,f4,f5⟩:=hf r (by simp)
  have e1:(n:Int)-1-(i:Int)=((n-1-i:Nat):Int):=by omega
  have st':=st;rw[e1] at st'
  have hlt:n-1-i<its.length:=by omega
  obtain⟨x,hx,rx⟩:∃x,ys[n-1-i]?=some x/\RelV x its[n-1-i]:=by
   obtain⟨u,hu,ru⟩:=rv.get (i:=n-1-i) (x:=ys[n-1-i]) (by simp);rw[List.getElem?_eq_getElem hlt] at hu;cases hu;exact⟨_,by simp,ru⟩
  refine lG st' p (x:=its[n-1-i]) (by simp) (by simp;omega) λh' tk st2 sb=>?_
  have I1:Inv X y0 Y H {s with heap:=h',toks:=tk}:=I.turned (λb o hb e=>(sb.2 b hb).trans e) f0 f1 f3 f4 f5
  have e2:((n-1-i:Nat):Int)-1=(n:Int)-1-((i+1:Nat):Int):=by omega
  rw[e2] at st2;exact⟨_,rfl,wO st2 rfl rfl rfl ⟨x,H,I1,rx,⟨rfl,λzs hy=>by rw[I.tuple_inj hy hq];exact hx⟩,st2,λb hb=>(hf b hb).1⟩⟩
 done:=by
  intro X hP hw hK hc i y0 s Y H E I hf st hg;obtain⟨f0,f1,f2,f3,f4,f5⟩:=hf r (by simp);have hg':i=n:=hg
  have e1:(n:Int)-1-(i:Int)=-1:=by omega
  rw[e1] at st;exact gj (I.ok.hd hc) st λh' eb=>⟨rfl,I.turned (λb o hb e=>eb b o hb e) f0 f1 f3 f4 f5⟩
 self:=λ_ _ _ _ _ st h=>fu st h
def Itz(K:Zf)(t1 t2:Addr):It :=
  ⟨λi H=>∃xs ys x y,SqT K H t1 xs/\SqT K H t2 ys/\xs[i]?=some x/\ys[i]?=some y,
   λi H v H'=>∃p,H p=none/\v=.ref p/\∀xs ys x y,SqT K H t1 xs->SqT K H t2 ys->xs[i]?=some x->ys[i]?=some y->H'=upd H p (.tup [x,y]),
   λi H=>∃xs ys,SqT K H t1 xs/\SqT K H t2 ys/\(xs.length<=i\/ys.length<=i)⟩
theorem Inv.turnedNew{ch:List Addr}(I:Inv X y0 Y H s)(hf:∀b∈ch,xJ X y0 H b)(k:∀b u,b∉ch->s.heap.get? b=some u->h'.get? b=some u)
  (new:cX X.prog X.w (upd H s.heap.objs.size o) h' s.heap.objs.size o):Inv X y0 Y (upd H s.heap.objs.size o) {s with heap:=h',toks:=t'}:=by
 have hn:=I.hok.fresh (B5z _);refine I.call' rfl ?_ ?_ I.bare λb hb=>⟨(hf b hb).2.2.2.1,(hf b hb).2.1,(hf b hb).2.2.2.2.1,(hf b hb).2.2.2.2.2⟩
 .refine⟨λb u e _ _ hc=>k b u hc e,λb u e _ _ hc=>⟨u.slots,k b u hc e⟩,λb u e n hc=>?_,λb u e hc=>⟨u,k b u hc e⟩,λb xs e=>?_,λb u xs e=>?_,λb ps e=>⟨#[],?_⟩⟩
  .rw[ak (S4z (R4z e))];exact n
  .rw[ak (aj e hn)];exact e
  .rw[ak (aj e hn)];exact e
  .rw[ak (aj e hn),e];simp
 .intro b u e
  by_cases hb:b=s.heap.objs.size
  .subst hb;rw[au] at e;cases e;exact new
  .rw[ak hb] at e
   refine(I.hok b u e).stay (λc v hc q=>k c v (λz=>?_) q) (λc q=>by rw[ak (aj q hn)];exact q) λc xs q=>by rw[ak (aj q hn)];exact q
   have zn:=(hf c z).1;obtain rfl|hc:=hc
   .rw[zn] at e;cases e
   .rw[zn] at hc;cases hc
theorem Inv.turnedAll{ch:List Addr}(I:Inv X y0 Y H s)(hf:∀b∈ch,xJ X y0 H b)(k:∀b u,b∉ch->s.heap.get? b=some u->h'.get? b=some u) :
  Inv X y0 Y H {s with heap:=h',toks:=t'}:=by
 refine I.call' rfl ?_ ?_ I.bare λb hb=>⟨(hf b hb).2.2.2.1,(hf b hb).2.1,(hf b hb).2.2.2.2.1,(hf b hb).2.2.2.2.2⟩
 .exact⟨λb u e _ _ hc=>k b u hc e,λb u e _ _ hc=>⟨u.slots,k b u hc e⟩,λb u e n hc=>n,λb u e hc=>⟨u,k b u hc e⟩,λb xs e=>e,λb u xs e=>e,λb ps e=>⟨#[],by rw[e];simp⟩⟩
 .intro b u e
  refine(I.hok b u e).stay (λc v hc q=>k c v (λz=>?_) q) (λc q=>q) λc xs q=>q;have zn:=(hf c z).1;obtain rfl|hc:=hc
  .rw[zn] at e;cases e
  .rw[zn] at hc;cases hc
theorem CN{P:Program}{w:World}{K:Zf}{es:List Expr}{kt:Nat}{pt:Pos}{z ti to i1 i2 t1 t2:Addr}(D:ZipApart z ti to i1 i2 t1 t2) :
    Turn P w K (.Tuple es kt pt) (Itz K t1 t2) [z,ti,to,i1,i2] z (λi h=>ZT h z ti to i1 i2 t1 t2 i .none) where
  mem:=by simp
  obj:=λi h st b hb=>by
    simp at hb
    obtain rfl|rfl|rfl|rfl|rfl:=hb
    . exact⟨_,st.hz,λv q=>by have q':=q;cases q'⟩
    . exact⟨_,st.hi,λv q=>by have q':=q;cases q'⟩
    . obtain⟨a,c,e⟩:=st.ho
      exact⟨_,e,λv q=>by have q':=q;cases q'⟩
    . obtain⟨o,e,_,d⟩:=st.h1
      exact⟨o,e,λv q=>by rw[d] at q;cases q⟩
    . obtain⟨o,e,_,d⟩:=st.h2
      exact⟨o,e,λv q=>by rw[d] at q;cases q⟩
  keep:=λi h h' st k=>st.keep k
  item:=by
    intro X hP hw hK hc i y0 s Y H E I hf st hg
    subst hP hw hK
    obtain⟨xs,ys,x,y,hq1,hq2,hx,hy⟩:=hg
    obtain⟨its1,rv1,p1,_⟩:=I.tuple hq1
    obtain⟨its2,rv2,p2,_⟩:=I.tuple hq2
    obtain⟨u1,hu1,ru1⟩:=rv1.get hx
    obtain⟨u2,hu2,ru2⟩:=rv2.get hy
    refine lF (I.ok.hd hc) D st p1 p2 (λa b h' ha hb Z pr sz kp=>?_) λh' hn _=>?_
    . have ea : a = u1 := by have : its1[i]? = some a := by simpa using ha
                             rw[hu1] at this;exact(I3z this).symm
      have eb : b = u2 := by have : its2[i]? = some b := by simpa using hb
                             rw[hu2] at this;exact(I3z this).symm
      subst ea eb
      have szl:2<=sizeLine:=by decide
      have I1:Inv X y0 Y (upd H s.heap.objs.size (.tup [x,y])) {s with heap:=h',toks:=s.toks}:=I.turnedNew (λc hc'=>hf c (by simp at hc' ⊢;rcases hc' with h|h|h|h<;>simp[h])) kp ⟨szl,[a,b],.cons ru1 (.cons ru2 .nil),⟨_,pr,rfl,_,rfl⟩⟩
      have fresh:=I.hok.fresh (B5z _)
      have ltf:=λc hc' e=>by
        have:H c=none:=(hf c hc').1
        simp at hc'
        have lt:c<s.heap.objs.size:=by
          obtain rfl|rfl|rfl|rfl|rfl:=hc'
          . exact R4z st.hz
          . exact R4z st.hi
          . obtain⟨_,_,e'⟩:=st.ho;exact R4z e'
          . obtain⟨o,e',_⟩:=st.h1;exact R4z e'
          . obtain⟨o,e',_⟩:=st.h2;exact R4z e'
        exact S4z lt e
      refine⟨_,rfl,wpAny_letOwnedTupleGo_zip Z.hz λh2 z2 sb=>?_⟩
      have fz:=hf z (by simp)
      have I2:=I1.turned (t':=s.toks) (λc o hc' e=>(sb.2 c hc').trans e) (by rw[ak (ltf z (by simp))];exact fz.1) fz.2.1 fz.2.2.2.1 fz.2.2.2.2.1 fz.2.2.2.2.2
      refine⟨.ref s.heap.objs.size,_,I2,rfl,⟨_,fresh,rfl,λxs' ys' x' y' a1 a2 a3 a4=>?_⟩,?_,λc hc'=>by rw[ak (ltf c hc')];exact(hf c hc').1⟩
      . have e1:=I.tuple_inj a1 hq1
        have e2:=I.tuple_inj a2 hq2
        subst e1 e2
        rw[hx] at a3;rw[hy] at a4
        cases a3;cases a4
        rfl
      . obtain⟨a',b',e'⟩:=Z.ho
        exact⟨z2,(sb.2 ti D.TIz).trans Z.hi,⟨a',b',(sb.2 to D.TOz).trans e'⟩,Z.h1.at λo e=>(sb.2 i1 D.i1z).trans e,Z.h2.at λo e=>(sb.2 i2 D.i2z).trans e⟩
    . obtain hn|hn:=hn
      . have:its1[i]?=none:=by simpa using hn
        rw[hu1] at this;cases this
      . have:its2[i]?=none:=by simpa using hn
        rw[hu2] at this;cases this
  done:=by
    intro X hP hw hK hc i y0 s Y H E I hf st hg
    subst hP hw hK
    obtain⟨xs,ys,hq1,hq2,hl⟩:=hg
    obtain⟨its1,rv1,p1,_⟩:=I.tuple hq1
    obtain⟨its2,rv2,p2,_⟩:=I.tuple hq2
    have l1:=rv1.length
    have l2:=rv2.length
    refine lF (I.ok.hd hc) D st p1 p2 (λa b h' ha hb Z pr sz kp=>?_) λh' _ kp=>⟨rfl,?_⟩
    . exfalso
      have h1 : i < its1.length := by have : its1[i]? = some a := by simpa using ha
                                      exact(List.getElem?_eq_some_iff.mp this).1
      have h2 : i < its2.length := by have : its2[i]? = some b := by simpa using hb
                                      exact(List.getElem?_eq_some_iff.mp this).1
      omega
    . exact I.turnedAll (t':=s.toks) (λc hc'=>hf c (by simp at hc' ⊢;rcases hc' with h|h|h|h<;>simp[h])) kp
  self:=λ_ _ _ _ _ st h=>wpAny_pyIter_zip st.hz h
section
variable{X:Cx}
def W8(K:Zf)(ta:TA):TI:=λY H R=>ta Y H λvs H1=>∃a b,vs=[.ref a,.ref b]/\(∃xs,SqT K H1 a xs)/\(∃ys,SqT K H1 b ys)/\R (Itz K a b) H1
theorem Og(hg:Gl X "zip")(hm:X.mg "zip"=none)(ha:PA X [a,b] ta)(hs:starEach [a,b] X.env=[(false,eval a X.env),(false,eval b X.env)])(hs2:starEach [b] X.env=[(false,eval b X.env)]) :
  PI X (.Tuple es kt pt) (.Call (.Name "zip" p) [a,b] [] pos) (W8 X.K ta):=by
 intro y0 s Y H R I h;refine Call_ (jP I hg hm boot_zip (A0z (thn (ha pos y0 s Y H _ I h) λus s1 ⟨vs,H1,I1,r1,q1⟩=>?_) (by rw[hs,hs2]) (by rw[hs2];rfl)));obtain⟨a1,b1,e,⟨xs,hx⟩,⟨ys,hy⟩,q⟩:=q1;subst e
 cases r1 with
 |cons r rr =>
  cases rr with
  |cons r' rr =>
   cases rr;cases r;cases r';obtain⟨its1,_,p1,_⟩:=I1.tuple hx;obtain⟨its2,_,p2,_⟩:=I1.tuple hy;refine Bu p1 p2 λh' kp sz Z=>?_;refine wpAny_pyIter_zip Z.hz ?_;have I2:=I1.kept (t':=s1.toks) kp;refine⟨s1.heap.objs.size+4,_,_,_,H1,rfl,I2,CN (zipApart_new p1.lt p2.lt),Z,λc hc=>?_,q⟩
   have hc':s1.heap.objs.size<=c:=by
    simp at hc
    rcases hc with h|h|h|h|h<;>rw[h]<;>first|exact B5z _|exact Y2z _ _
   exact I1.fpOk hc' (I1.hok.fresh hc')
def Xb(K:Zf)(ta:TA):TI:=λY H R=>ta Y H λvs H1=>∃a xs,vs=[.ref a]/\SqT K H1 a xs/\R (Itv K a xs.length) H1
theorem Oj(hg:Gl X "reversed")(hm:X.mg "reversed"=none)(ha:PA X [a] ta)(hs:starEach [a] X.env=[(false,eval a X.env)]) :
  PI X tg (.Call (.Name "reversed" p) [a] [] pos) (Xb X.K ta):=by
 intro y0 s Y H R I h;refine Call_ (jP I hg hm boot_reversed (A0z (thn (ha pos y0 s Y H _ I h) λus s1 ⟨vs,H1,I1,r1,q1⟩=>?_) hs rfl));obtain⟨a1,xs,e,hx,q⟩:=q1;subst e
 cases r1 with
 |cons r rr =>
  cases rr;cases r;obtain⟨its1,rv,p1,hz⟩:=I1.tuple hx;have hl:=rv.length;refine rm p1 (by simp;omega) λtk=>?_
  have st:d7 (s1.heap.push (Jq a1 ((its1.toArray.size:Int)-1))) s1.heap.objs.size a1 ((xs.length:Int)-1-((0:Nat):Int)):=by
   have e0:((xs.length:Int)-1-((0:Nat):Int))=(its1.toArray.size:Int)-1:=by rw[H2z];omega
   rw[e0];exact Heap.get?_push_size _ rfl
  refine fu st ?_;refine⟨s1.heap.objs.size,_,_,_,H1,rfl,I1.kept λb o e=>Heap.get?_push_of_some _ e,CQ a1 _ xs.length hz,st,λc hc=>?_,q⟩
  have hc':c=s1.heap.objs.size:=by simpa using hc
  subst hc';exact I1.fpOk (B5z _) (I1.hok.fresh (B5z _))
end
section
variable{X:Cx}{tg:Expr}
end
section
variable{prog:Program}{w:World}{A:Around}{E:Value->Shared->Prop}{s:Shared}
end
section
variable{X:Cx}
end
section
variable{X:Cx}
end
section
variable{prog:Program}{w:World}{A:Around}{E:Value->Shared->Prop}{s:Shared}
end
section
variable{X:Cx}
end
section
variable{prog:Program}{w:World}{A:Around}{E:Value->Shared->Prop}{s:Shared}
end
section
variable{X:Cx}
end
section
variable{X:Cx}
end
end L2
namespace L2
open PySem PySem.Spec PyProof.Rows PySem.SeqAt
section
variable{X:Cx}
def SJ(K:Zf):R2:=λx y H Q=>∃l b us zs,x=.ref l/\y=.ref b/\SqL K H l us/\SqL K H b zs/\us.length+zs.length<=sizeLine/\∀p,H p=none->Q (.ref p) (upd H p (.lst (us++zs)))
theorem J1:OpR X (binaryOp .Add) (SJ X.K):=by
 intro y0 s Y H x y v u Q I rx ry h;obtain⟨l,b,us,zs,rfl,rfl,hH,hB,hz,q⟩:=h;cases rx;cases ry;obtain⟨its,r,pl,z1⟩:=I.list hH;obtain⟨its2,r2,pl2,z2⟩:=I.list hB;have e1:=r.length;have e2:=r2.length;obtain⟨⟨c1,d1,w1,t1⟩,n1,o1,hc1,hd1,hs1⟩:=pl;obtain⟨⟨c2,d2,w2,t2⟩,n2,o2,hc2,hd2,hs2⟩:=pl2;subst hc1 hs1 hc2 hs2;refine concat_meets ⟨_,o1,rfl⟩ ⟨_,o2,rfl⟩ noFill_list_add seq_list_add PySem.F.slot_list_add PySem.F.entry_list_add (PySem.F.args_list_add_2 _ _) (list_addW l b its.toArray its2.toArray n1 n2 d1 d2 t1 t2 (by rw[H2z,H2z];omega)) ⟨o1,o2,?_⟩;rw[show its.toArray++its2.toArray=(its++its2).toArray by simp];exact⟨.ref _,_,I.lnew (r.append r2) (by rw[T1z];omega),rfl,q _ I.fresh⟩
def Sq(K:Zf):R2:=λx y H Q=>∃l k us,x=.ref l/\y=.int k/\SqL K H l us /\ -(2^63)<=k/\k<2^63/\us.length*k.toNat<=sizeLine /\
 ∀p,H p=none->Q (.ref p) (upd H p (.lst (List.replicate k.toNat us).flatten))
theorem JT:OpR X (binaryOp .Mult) (Sq X.K):=by
 intro y0 s Y H x y v u Q I rx ry h;obtain⟨l,k,us,rfl,rfl,hH,h1,h2,hz,q⟩:=h;cases rx;obtain⟨t,rfl⟩:=ry;obtain⟨its,r,pl,z1⟩:=I.list hH;have hl:=r.length;obtain⟨⟨c1,d1,w1,t1⟩,n1,e,hc1,hd1,hs1⟩:=pl;subst hc1 hs1
 have a1:its.toArray.size*k.toNat<=sizeLine:=by rw[H2z,<- hl];exact hz
 have a2:¬ its.toArray.size*k.toNat>(2^63-1) / 8:=by
  have:(sizeLine:Nat)<=(2^63-1) / 8:=by decide
  omega
 have a3:¬ (!Builtin.List.listFitsIndex k)=true:=by rw[fitsIndex_both h1 h2];exact P1z
 have a4:¬ Builtin.List.listTooLong (its.toArray.size*k.toNat)=true:=by rw[uU a1];exact P1z
 have a5:List.foldl (λx1 x2=>x1++x2) #[] (List.replicate (if its.toArray.isEmpty=true then 0 else k.toNat) its.toArray)=(List.replicate k.toNat its).flatten.toArray:=by
  rw[(λm=>(foldl_rep its m []).trans (by rw[T3z]))]
  cases its with
  |nil=>simp
  |cons a r'=>rw[U5z (by simp)]
 refine wpAny_binaryOp_repeat_ref rfl ⟨_,e,rfl⟩ (λs'=>typeIs_int s' k t) noFill_list_mul F.fills_int_mul F.slot_int_rmul repeat_list F.slot_int_index.lookup ?_;refine L5z F.slot_int_rmul (typeIs_int s k t) F.entry_int_rmul (F.args_int_rmul_2 _ _) (lm_int_rmul_list_any k t l its.toArray n1 d1 t1) ⟨e,rfl,⟨_,e,rfl⟩,?_⟩;refine L5z F.slot_list_mul ⟨_,e,rfl⟩ F.entry_list_mul (F.args_list_mul_2 _ _) (lm_list_mul_any l its.toArray n1 d1 t1 k t a3 a2 a4) ⟨e,?_⟩;rw[a5];exact⟨.ref _,_,I.lnew (r.rep k.toNat) (by rw[len_rep,Nat.mul_comm];exact hz),rfl,q _ I.fresh⟩
end
theorem Dv(its:List Value):slicePick its.toArray none none (some (-1))=its.reverse.toArray:=by
 have e1:sliceBounds none none (some (-1)) its.toArray.size=((its.length:Int)-1,-1,-1):=by
  simp[sliceBounds]
 have e2:sliceRange ((its.length:Int)-1) (-1) (-1)=(List.range its.length).map λk=>its.length-1-k:=by
  unfold sliceRange
  have hc:(if(-1:Int)>0 then(if(its.length:Int)-1 < -1 then(-1-((its.length:Int)-1) + -1-1) / -1 else 0) else(if(its.length:Int)-1 > -1 then((its.length:Int)-1 - -1 - -1-1) / (- -1) else 0))=(its.length:Int):=by
   by_cases h:(its.length:Int)-1 > -1
   .rw[T5z h,show(- -1:Int)=1 from rfl,Int.ediv_one];omega
   .rw[U5z h];omega
  simp only[hc];refine I1z λk hk=>?_;omega
 unfold slicePick;rw[e1];simp only[e2];congr 1
 have e3:(List.range its.length).map (λk=>its[its.length-1-k]?)=its.reverse.map some:=by
  apply List.ext_getElem?;intro i
  by_cases h:i<its.length
  .rw[List.getElem?_map,List.getElem?_range h,List.getElem?_map,List.getElem?_reverse h,O3z,List.getElem?_eq_getElem (by omega),O3z]
  .rw[List.getElem?_eq_none (by simp;omega),List.getElem?_eq_none (by simp;omega)]
 have e4:((List.range its.length).map λk=>its.length-1-k).filterMap (λx=>its.toArray[x]?)=((List.range its.length).map λk=>its[its.length-1-k]?).filterMap id:=by
  rw[X1z,X1z];refine congrArg (λf=>List.filterMap f (List.range its.length)) (funext λk=>?_);simp
 rw[e4,e3,X1z];simp
section
variable{X:Cx}
theorem JL(he:PE X e te)(hc:PE X c tc) :
  PE X (.Subscript e (.Slice none none (some c) p2) pos) (λY H Q=>te Y H λx H1=>tc Y H1 λy H2=>∃p us,x=.ref p/\y=.int (-1)/\SqL X.K H2 p us/\∀q,H2 q=none->Q (.ref q) (upd H2 q (.lst us.reverse))):=by
 intro y0 s Y H Q I h;refine Subscript_ (thn (he y0 s Y H _ I h) λv s1 ⟨x,H1,I1,r1,q1⟩=>?_);refine wpAny_Slice ?_;refine J5z (J5z (thn (hc y0 s1 Y H1 _ I1 q1) λu s2 ⟨y,H2,I2,r2,q2⟩=>?_));obtain⟨p,us,rfl,rfl,hq,q⟩:=q2;cases r1;obtain⟨t,rfl⟩:=r2;have I3:Inv X y0 Y H2 {s2 with heap:=s2.heap.push {cls:=.type "slice",data:=.fields #[.none,.none,.int (-1) t]} }:=I2.kept λb ob q=>Heap.get?_push_of_some _ q;obtain⟨its,r,pl,hz⟩:=I3.list hq;have hl:=r.length
 have hg:=wpAny_getItem_list_slice (prog:=X.prog) (w:=X.w) (A:=X.A) (E:=X.xe) (Q:=EP X y0 Y Q) pl.isList (Heap.IsSliceOf.new ..) .none .none (.int _ t) (by decide) (by
  rw[Dv]
  exact⟨.ref _,_,I3.lnew r.reverse (by rw[J1z];omega),rfl,q _ I3.fresh⟩) (by rw[H2z];omega)
 exact tail_any pl.isList.typeIs list_getitem_lookup hg (by with_unfolding_all rfl)
end
section
variable{prog:Program}{w:World}{A:Around}{E:Value->Shared->Prop}{s:Shared}
theorem MN(n:Nat):Builtin.Slice.sliceAdjust none none (-1) (n:Int)=((n:Int)-1,-1):=by
 unfold Builtin.Slice.sliceAdjust;simp
theorem wH(n:Nat):Builtin.Slice.slicePlaces ((n:Int)-1) (-1) (-1)=n:=by
 unfold Builtin.Slice.slicePlaces
 have h1:¬ ((-1:Int)>0):=by omega
 simp only[h1,Q5z];split
 .rw[show(- -1:Int)=1 from rfl,Int.ediv_one];omega
 .omega
theorem jY{n:Nat}(hs:s.heap.IsSliceOf sl .none .none (.int (-1) u))(h:Q ((n:Int)-1,-1,n) s) :
  wpAny (model prog w) A (Builtin.Slice.sliceApplied (.ref sl) (pure (n:Int))) Q E s:=by
 obtain⟨os,hos,hcs,hds⟩:=id hs;refine I5z (I5z (E5z hos hds rfl (I5z (E5z hos hds rfl (I5z (E5z hos hds rfl (J5z ?_)))))));refine I5z (slicePart_int ?_);refine I5z (slicePart_none (I5z (slicePart_none (I5z (J5z ?_)))));show wpAny _ _ (match Builtin.Slice.sliceAdjust none none (-1) (n:Int) with|(lo,hi)=>pure (lo,(-1:Int),Builtin.Slice.slicePlaces lo hi (-1))) _ _ s;show wpAny _ _ (pure ((n:Int)-1,(-1:Int),Builtin.Slice.slicePlaces ((n:Int)-1) (-1) (-1))) _ _ s;rw[wH n];exact J5z h
theorem zj(its:List Value):((List.range its.length).filterMap λ(k:Nat)=>its.toArray[(((its.length:Int)-1)+(k:Int)*(-1)).toNat]?).toArray=its.reverse.toArray:=by
 congr 1
 have e3:(List.range its.length).map (λ(k:Nat)=>its.toArray[(((its.length:Int)-1)+(k:Int)*(-1)).toNat]?)=its.reverse.map some:=by
  apply List.ext_getElem?;intro i
  by_cases h:i<its.length
  .rw[List.getElem?_map,List.getElem?_range h,List.getElem?_map,List.getElem?_reverse h,O3z,List.getElem?_toArray,show(((its.length:Int)-1)+(i:Int)*(-1)).toNat=its.length-1-i by omega,List.getElem?_eq_getElem (by omega),O3z]
  .rw[List.getElem?_eq_none (by simp;omega),List.getElem?_eq_none (by simp;omega)]
 have e4:(List.range its.length).filterMap (λ(k:Nat)=>its.toArray[(((its.length:Int)-1)+(k:Int)*(-1)).toNat]?)=((List.range its.length).map (λ(k:Nat)=>its.toArray[(((its.length:Int)-1)+(k:Int)*(-1)).toNat]?)).filterMap id:=by
  rw[X1z];rfl
 rw[e4,e3,X1z];simp
theorem jC{its:List Value}(ht:IsTup s.heap t its.toArray)(hs:s.heap.IsSliceOf sl .none .none (.int (-1) u))
  (h:Q (.ref s.heap.objs.size) {s with heap:=s.heap.push {cls:=.type "tuple",data:=.seq its.reverse.toArray} })
  (hsz:its.length<=sizeLine):wpAny (model prog w) A (getItem (.ref t) (.ref sl)) Q E s:=by
 have hrev:sizeOk (.seq its.reverse.toArray):=by
  show its.reverse.toArray.size<=sizeLine;rw[H2z,J1z];exact hsz
 obtain⟨os,hos,hcs,hds⟩:=id hs;unfold getItem
 try with_reducible refine L4z ?_
 first|refine I5z (J5z ?_)|skip
 refine I5z (wpAny_sequenceKey ht.typeIs (by decide) ?_)
 refine I5z (wpAny_callSpecial?_slot (name:=Str.ofString "__getitem__") ht.typeIs slot_tuple_getitem
  (W2z slot_tuple_getitem ht.typeIs entry_tuple_getitem ?_ (args_tuple_getitem _ _)))
 show wpAny _ _ (Builtin.Tuple.tupleItemsOf (.ref t) >>=_) _ _ s;refine I5z (tupleItemsOf_ ht ?_);refine I5z (Y4z ⟨os,hos,hcs⟩ ?_);refine I5z (jY hs ?_)
 have hno:¬ ((((its.toArray.size:Nat):Int)-1==0&&(-1:Int)==1&&its.toArray.size==its.toArray.size)=true):=by
  rw[show((-1:Int)==1)=false from rfl];simp
 show wpAny _ _ (if(((its.toArray.size:Nat):Int)-1==0&&(-1:Int)==1&&its.toArray.size==its.toArray.size)=true then _ else _) _ _ s;rw[U5z hno,H2z,zj]
 first
  |exact I5z (F2z (J5z ⟨_,rfl,J5z h⟩) hrev)
  |exact I5z (F2z (I5z (J5z (J5z ⟨_,rfl,J5z h⟩))) hrev)
  |exact I5z (I5z (F2z (J5z (J5z ⟨_,rfl,J5z h⟩)) hrev))
  |exact I5z (I5z (F2z (J5z ⟨_,rfl,J5z h⟩) hrev))
end
section
variable{X:Cx}
theorem JK(he:PE X e te)(hc:PE X c tc) :
  PE X (.Subscript e (.Slice none none (some c) p2) pos) (λY H Q=>te Y H λx H1=>tc Y H1 λy H2=>∃p us,x=.ref p/\y=.int (-1)/\SqT X.K H2 p us/\∀q,H2 q=none->Q (.ref q) (upd H2 q (.tup us.reverse))):=by
 intro y0 s Y H Q I h;refine Subscript_ (thn (he y0 s Y H _ I h) λv s1 ⟨x,H1,I1,r1,q1⟩=>?_);refine wpAny_Slice ?_;refine J5z (J5z (thn (hc y0 s1 Y H1 _ I1 q1) λu s2 ⟨y,H2,I2,r2,q2⟩=>?_));obtain⟨p,us,rfl,rfl,hq,q⟩:=q2;cases r1;obtain⟨t,rfl⟩:=r2;have I3:Inv X y0 Y H2 {s2 with heap:=s2.heap.push {cls:=.type "slice",data:=.fields #[.none,.none,.int (-1) t]} }:=I2.kept λb ob q=>Heap.get?_push_of_some _ q;obtain⟨its,r,pt,hz⟩:=I3.tuple hq;have hl:=r.length
 have hg:=jC (prog:=X.prog) (w:=X.w) (A:=X.A) (E:=X.xe) (Q:=EP X y0 Y Q) pt (Heap.IsSliceOf.new ..) (by
  refine⟨.ref _,_,I3.laid (λb ob q=>Heap.get?_push_of_some _ q) (B5z _) ?_,rfl,q _ (I3.hok.fresh (B5z _))⟩
  exact⟨by rw[J1z];exact hz,its.reverse,r.reverse,IsTup.new _ _⟩) (by omega)
 exact tail_any pt.typeIs slot_tuple_getitem.lookup hg (by with_unfolding_all rfl)
end
end L2
namespace HT
open PySem PySem.Spec PyProof.Rows PySem.SeqAt L2
section
variable{prog:Program}{w:World}{A:Around}{E:Value->Shared->Prop}{s:Shared}
end
end HT
namespace L2
open PySem PyProof.Rows
section
variable{X:Cx}
end
end L2
namespace DE
open PySem
set_option genInjectivity true in
inductive D where
 |non|bl (b:Bool)|int (i:Int)|str (x:Str)|tup (xs:List D)|lst (xs:List D)
 |exc (c:Str)
 |dic (ks:List (Sum Int Str)) (xs:List D)
 |obj (a:Nat)
 deriving Inhabited
set_option genInjectivity true in
inductive Sl where
 |no|sh (d:D)|ow (ds:List D)|oo (dss:List (List D))
 deriving Inhabited
noncomputable abbrev Rho:=List (Str×Sl)
set_option genInjectivity true in
inductive Fl where
 |nxt (U:Rho)|ret (d:D)
 deriving Inhabited
def b2i(b:Bool):Int:=if b then 1 else 0
mutual
def deq:D->D->Bool
 |.non,.non=>true
 |.bl a,.bl b=>a==b
 |.bl a,.int j=>b2i a==j
 |.int i,.bl b=>i==b2i b
 |.int i,.int j=>i==j
 |.str x,.str y=>x==y
 |.tup xs,.tup ys=>qP xs ys
 |.lst xs,.lst ys=>qP xs ys
 |_,_=>false
def qP:List D->List D->Bool
 |[],[]=>true
 |x::xs,y::ys=>deq x y&&qP xs ys
 |_,_=>false
end
mutual
def dep:D->Nat
 |.tup xs=>deps xs+1
 |.lst xs=>deps xs+1
 |.exc _=>1000
 |.dic _ _=>1000
 |.obj _=>1000
 |_=>0
def deps:List D->Nat
 |[]=>0
 |x::xs=>max (dep x) (deps xs)
end
mutual
def fW:D->D->Bool
 |.bl _,.bl _=>true
 |.int _,.int _=>true
 |.str _,.str _=>true
 |.tup _,.str _=>true
 |.str _,.bl _=>true
 |.str _,.tup _=>true
 |.tup xs,.tup ys=>o9 xs ys
 |.lst xs,.lst ys=>o9 xs ys
 |_,_=>false
def o9:List D->List D->Bool
 |x::xs,y::ys=>fW x y&&o9 xs ys
 |_,_=>true
end
def asB:D->Option Bool
 |.bl b=>some b
 |_=>none
def asI:D->Option Int
 |.int i=>some i
 |_=>none
def items:D->Option (List D)
 |.tup xs=>some xs
 |.lst xs=>some xs
 |_=>none
def tupI:D->Option (List D)
 |.tup xs=>some xs
 |_=>none
def rO:List D->Option (List Int)
 |[]=>some []
 |.int i::r=>(rO r).map (i::·)
 |_=>none
def rP:List D->Option (List Bool)
 |[]=>some []
 |.bl i::r=>(rP r).map (i::·)
 |_=>none
def small(i:Int):Bool:=decide (-(2^64)<i)&&decide (i<2^64)
def mid(i:Int):Bool:=decide (i.natAbs.log2<10000)
def szl(n:Nat):Bool:=decide (n<=100000)
def binop(op:Operator)(x y:D):Option D:=match op with
 | .Add=>(match x with
  | .int i=>(match y with
   |.int j=>some (.int (i+j))
   | _=>none)
  | .tup xs=>(match y with
   |.tup ys=>if szl (xs.length+ys.length) then some (.tup (xs++ys)) else none
   | _=>none)
  | .lst xs=>(match y with
   |.lst ys=>if szl (xs.length+ys.length) then some (.lst (xs++ys)) else none
   | _=>none)
  | _=>none)
 | .Sub=>(match x with
  | .int i=>(match y with
   |.int j=>some (.int (i-j))
   | _=>none)
  | _=>none)
 | .Mult=>(match x with
  | .int i=>(match y with
   |.int j=>if small i||small j||(mid i&&mid j) then some (.int (i*j)) else none
   | _=>none)
  | .lst xs=>(match y with
   |.int j=>if decide (j<=1000)&&decide (-1000<=j)&&szl (xs.length*j.toNat) then some (.lst (List.replicate j.toNat xs).flatten) else none
   | _=>none)
  | _=>none)
 | .FloorDiv=>(match x with
  | .int i=>(match y with
   |.int j=>if decide (0<j)&&decide (j<1073741824) then some (.int (i / j)) else none
   | _=>none)
  | _=>none)
 | .Mod=>(match x with
  | .int i=>(match y with
   |.int j=>if decide (0<j) then some (.int (i%j)) else none
   | _=>none)
  | _=>none)
 |_=>none
def vW:List D->Option (List Str)
 |[]=>some []
 |.str i::r=>(vW r).map (i::·)
 |_=>none
def inT(x:D)(ys:List D):Option Bool:=(vW ys).bind λss=>if decide (dep x<=50)&&fW (.str "") x then some (ss.any λt=>deq (.str t) x) else none
def Qd:D->Option (Sum Int Str)
 |.int i=>some (.inl i)
 |.str x=>some (.inr x)
 |_=>none
def putD(l:List (Sum Int Str×D))(k:Sum Int Str)(d:D):List (Sum Int Str×D):=if(l.any λq=>decide (q.1=k))=true then l.map (λq=>if q.1=k then(q.1,d) else q) else l++[(k,d)]
def kO(ks:List (Sum Int Str))(ds:List D)(k:Sum Int Str):Option D:=((ks.zip ds).find? λq=>decide (q.1=k)).map (·.2)
def oX(l:List (Sum Int Str×D)):D:=.dic (l.map (·.1)) (l.map (·.2))
def eY(f:Expr->Option D):List (Option Expr)->List Expr->Option (List (Sum Int Str×D))
 |[],[]=>some []
 |some k::ks,v::vs=>do let x <- (f k).bind Qd;let d <- f v;let r <- eY f ks vs;some ((x,d)::r)
 |_,_=>none
def Ht(l:List (Sum Int Str×D)):List (Sum Int Str×D):=l.foldl (λa q=>putD a q.1 q.2) []
def Ku:D->Bool
 |.non=>true
 |_=>false
def cmpop(op:CmpOp)(x y:D):Option D:=match op with
 |.Eq=>if decide (dep x<=50)&&decide (dep y<=50)&&fW x y then some (.bl (deq x y)) else none
 |.NotEq=>if decide (dep x<=50)&&decide (dep y<=50)&&fW x y then some (.bl (!deq x y)) else none
 | .Lt=>(match x with
  | .int i=>(match y with
   |.int j=>some (.bl (decide (i<j)))
   | _=>none)
  | _=>none)
 | .LtE=>(match x with
  | .int i=>(match y with
   |.int j=>some (.bl (decide (i<=j)))
   | _=>none)
  | _=>none)
 | .IsNot=>(match y with
  |.non=>some (.bl (!Ku x))
  | _=>none)
 | .NotIn=>(match y with
  |.tup ys=>(inT x ys).map λb=>.bl (!b)
  | .dic ks ds=>(match x with
   |.str x=>some (.bl (!(kO ks ds (.inr x)).isSome))
   | _=>none)
  | _=>none)
 | .In=>(match x with
  | .str x=>(match y with
   |.str y=>some (.bl (!(Builtin.Str.occurrences y x 0 y.length 1).isEmpty))
   |.dic ks ds=>some (.bl (kO ks ds (.inr x)).isSome)
   | _=>none)
  | _=>none)
 |_=>none
def ixD(n:Nat)(i:Int):Option Nat:=if 0<=i then(if i<n then some i.toNat else none) else if -(n:Int)<=i then some (i+n).toNat else none
def atD(xs:List D)(i:Int):Option D:=(ixD xs.length i).bind λj=>xs[j]?
def Mt:D->D->Option D
 |.tup xs,.int i=>atD xs i
 |.lst xs,.int i=>atD xs i
 |.dic ks ds,y=>(Qd y).bind (kO ks ds)
 |_,_=>none
def scD:D->Bool
 |.non=>true
 |.bl _=>true
 |.int _=>true
 |.str _=>true
 |_=>false
mutual
def Uq:D->Bool
 |.non=>true
 |.bl _=>true
 |.int _=>true
 |.str _=>true
 |.tup ds=>HB ds
 |_=>false
def HB:List D->Bool
 |[]=>true
 |d::r=>Uq d&&HB r
end
def Rh:String->D->Bool
 |"int",.int _=>true
 |"int",.bl _=>true
 |"bool",.bl _=>true
 |"tuple",.tup _=>true
 |"list",.lst _=>true
 |"str",.str _=>true
 |_,_=>false
def iV:List D->Option (List (Sum Int Str×D))
 |[]=>some []
 |.tup [.str k,d]::r=>(iV r).map ((.inr k,d)::·)
 |_::_=>none
def Dg:List (Sum Int Str)->Option (List Str)
 |[]=>some []
 |.inr k::r=>(Dg r).map (k::·)
 |.inl _::_=>none
def ins(a:Str):List Str->List (List Str)
 |[]=>[[a]]
 |b::r=>(a::b::r)::(ins a r).map (b::·)
def perms:List Str->List (List Str)
 |[]=>[[]]
 |a::r=>(perms r).flatMap (ins a)
def GR(l:List Str):Option (List Str):=match (perms l).filter PyProof.Rows.sortedS with
 |[x]=>some x
 |_=>none
def blt(b:String):List D->Option D
 | [d]=>if b="len" then(match d with
   |.str x=>if szl x.length then some (.int x.length) else none
   | d=>do let l <- items d;some (.int l.length))
  else if b="all" then(match d with
   |.lst xs=>do let bs <- rP xs;some (.bl (bs.all id))
   | _=>none)
  else if b="sum" then(match d with
   |.lst xs=>do let is <- rO xs;some (.int is.sum)
   | _=>none)
  else if b="tuple" then do let l <- items d;some (.tup l)
  else if b="list" then do let l <- items d;some (.lst l)
  else if b="int" then(match d with
   |.bl b=>some (.int (b2i b))
   | _=>none)
  else if b="dict" then(match d with
   |.lst xs=>(iV xs).map λl=>oX (Ht l)
   | _=>none)
  else if b="sorted" then(match d with
   |.dic ks _=>((Dg ks).bind λl=>if decide (l.length<64) then GR l else none).map λl=>.lst (l.map .str)
   | _=>none)
  else none
 |_=>none
structure Cxt where
 cst:List (Str×D)
 blt:List (Str×String)
 fns:List Str
 exs:List Str
 top:Str
 rs:Bool
 call:Str->List D->Option D
 callx:Str->List D->Option Str
def isExc:D->Bool
 |.exc _=>true
 |.dic _ _=>true
 |.obj _=>true
 |_=>false
def xM(top c c':Str):Bool:=c==c'||c'==top
noncomputable def qp(scope sc:Scope):Scope :=
 {scope with names:=scope.names.map λ(n,k)=>if(k==.free&&sc.kind==.function&&sc.names.lookup n==some .cell) then(n,.cell) else(n,k)}
def Mu:Option Sl->Sl
 |some (.sh d)=>.sh d
 |_=>.no
def cN(scope:Scope)(U:Rho):Rho:=scope.names.map λp=>(p.1,if p.2==.free then Mu (U.lookup p.1) else .no)
def lU:List Str->Bool
 |[]=>true
 |x::r => !r.contains x&&lU r
def jm(sc scope:Scope):Bool :=
 scope.kind==.function&&lU (scope.names.map (·.1))&&scope.names.all λp=>p.2 !=.free||sc.names.lookup p.1==some .cell||sc.names.lookup p.1==some .free
def fL:Rho->Str->Sl->Rho
 |[],_,_=>[]
 |(y,s)::r,x,v=>if x==y then(y,v)::r else(y,s)::fL r x v
def aK(x:Str):Bool:=x !="__debug__"&&x !="__classdict__"
def ownIn(scope:Scope)(x:Str):Bool:=scope.names.lookup x==some .local||scope.names.lookup x==some .cell
def nameOf:Expr->Option Str
 |.Name x _=>some x
 |_=>none
def bindNames(scope:Scope):List Expr->List D->Rho->Option Rho
 |[],[],U=>some U
 |.Name x _::es,d::ds,U=>if ownIn scope x&&(U.map (·.1)).contains x then bindNames scope es ds (fL U x (.sh d)) else none
 |_,_,_=>none
def d9(scope:Scope):Expr->D->Rho->Option Rho
 |.Name x _,d,U=>if ownIn scope x&&(U.map (·.1)).contains x then some (fL U x (.sh d)) else none
 |.Tuple es _ _,.tup ds,U=>bindNames scope es ds U
 |_,_,_=>none
def rY(cx:Cxt)(sc:Scope)(x:Str):Bool:=sc.names.lookup x==some .globalImplicit
def cg(cx:Cxt)(sc:Scope)(x:Str):Option String:=if rY cx sc x then cx.blt.lookup x else none
def bU(f:D->Option (Option D)):List D->Option (List D)
 |[]=>some []
 |x::r=>do
  match <- f x with
  |some v=>(bU f r).map (v::·)
  |none=>bU f r
def f9(lo hi:Int):List D:=(List.range (hi-lo).toNat).map λ(k:Nat)=>.int (lo+(k:Int))
def jZ(f:Expr->Option D):List Expr->Option (List D)
 |[]=>some []
 |e::r=>do let d <- f e;let ds <- jZ f r;some (d::ds)
def cR(op:BoolOp)(f:Expr->Option D):List Expr->Option D
 |[]=>none
 |[e]=>f e
 |e::e'::r=>do
  let d <- f e
  let b <- asB d
  match op with
  |.And=>if b then cR op f (e'::r) else some (.bl false)
  |.Or=>if b then some (.bl true) else cR op f (e'::r)
def qg(i:Int):Bool:=decide (-(2^62)<=i)&&decide (i<2^62)
def fM:Expr->Bool
 |.Tuple .. =>true
 |_=>false
set_option genInjectivity true in
inductive Wk where
 |r1 (a:Expr)|zp (a b:Expr)|rv (a:Expr)|sq
def wj(cx:Cxt)(sc:Scope):Expr->Wk
 | .Call (.Name x _) args [] _=>(match cg cx sc x with
  |some "range"=>(match args with|[a]=>.r1 a|_=>.sq)
  |some "zip"=>(match args with|[a,b]=>.zp a b|_=>.sq)
  |some "reversed"=>(match args with|[a]=>.rv a|_=>.sq)
  | _=>.sq)
 |_=>.sq
def Vc:D->D->Option (List D)
 |.tup xs,.tup ys=>some ((xs.zip ys).map λq=>.tup [q.1,q.2])
 |_,_=>none
def kD:Sum Int Str->D
 |.inl i=>.int i
 |.inr x=>.str x
def vd:D->Option (List D)
 |.dic ks _=>some (ks.map kD)
 |.str x=>if x.cps.all (· < 128) then some (x.cps.toList.map λc=>.str ⟨#[c]⟩) else none
 |d=>items d
theorem Ag(h:items d=some l):vd d=some l:=by cases d<;>first|exact h|simp[items] at h
def evI(cx:Cxt)(tup:Bool)(f:Expr->Option D)(sc:Scope)(e:Expr):Option (List D):=match wj cx sc e with
 |.r1 a=>do let j <- (f a).bind asI;if qg j then some (f9 0 j) else none
 |.zp a b=>do let x <- f a;let y <- f b;if tup then Vc x y else none
 |.rv a=>do let xs <- (f a).bind tupI;some xs.reverse
 |.sq=>(f e).bind vd
set_option genInjectivity true in
inductive Wc where
 |tv (a:Expr)|li (a:Expr)|al
def Vt:Expr->Option Expr
 |.Call (.Attribute (.Name y py) m ap) [] [] p=>if m=="items"&&ap.endLine==p.line then some (.Name y py) else none
 |_=>none
def Ue:D->Option D
 |.dic ks ds=>if decide (ks.length<=1000) then some (.lst ((ks.zip ds).map λq=>.tup [kD q.1,q.2])) else none
 |_=>none
def CJ(cx:Cxt)(sc:Scope)(b:String)(args:List Expr):Wc:=match args with
 | [e]=>(match b,wj cx sc e with
  |"tuple",.rv a=>.tv a
  |"list",.sq=>(match Vt e with|some a=>.li a|none=>.al)
  | _,_=>.al)
 |_=>.al
def kW:String->Bool
 |"int"=>true
 |"bool"=>true
 |"tuple"=>true
 |"list"=>true
 |"str"=>true
 |_=>false
def tyOf(cx:Cxt)(sc:Scope):Expr->Option String
 |.Name x _=>cg cx sc x
 |_=>none
def xOf(cx:Cxt)(sc:Scope):Expr->Option Str
 |.Name x _=>if rY cx sc x&&(cx.exs.contains x||x==cx.top)&&aK x then some x else none
 |_=>none
def cntB(b:Bool)(bs:List Bool):Nat:=(bs.filter (· ==b)).length
def oJ(f:Expr->Option D):List Expr->Option Bool
 |[]=>some true
 |[c]=>(f c).bind asB
 |_=>none
def sX(m:Str):D->D->Option D
 |.lst xs,.bl b=>do
  let bs <- rP xs
  if m=="count" then some (.int (cntB b bs)) else if m=="index"&&bs.contains b then some (.int (bs.idxOf b)) else none
 |_,_=>none
def aJ:Expr->Bool
 |.Starred .. =>false
 |.Set .. =>false
 |.Slice .. =>false
 |_=>true
def Sd:D->Option Expr->Option Expr->Option Int->Option D
 |.lst xs,none,none,some i=>if i == -1 then some (.lst xs.reverse) else none
 |.tup xs,none,none,some i=>if i == -1 then some (.tup xs.reverse) else none
 |_,_,_,_=>none
def ev(cx:Cxt):Nat->Scope->Rho->Expr->Option D
 |0,_,_,_=>none
 |n+1,sc,U,e=>match e with
  | .Name x _=>if aK x then(match sc.names.lookup x with
    |some .local=>(match U.lookup x with|some (.sh d)=>some d|_=>none)
    |some .cell=>(match U.lookup x with|some (.sh d)=>some d|_=>none)
    |some .free=>(match U.lookup x with|some (.sh d)=>some d|_=>none)
    |some .globalImplicit=>cx.cst.lookup x
    | _=>none) else none
  | .Constant c _ _=>(match c with
    |.none=>some .non
    |.bool b=>some (.bl b)
    |.int i=>some (.int i)
    |.str x=>some (.str x)
    | _=>none)
  |.BinOp a op b _=>do let x <- ev cx n sc U a;let y <- ev cx n sc U b;binop op x y
  |.UnaryOp op a _=>do
    let x <- ev cx n sc U a
    match op with
    |.USub=>(asI x).map λi=>.int (-i)
    |.Not=>(asB x).map λb=>.bl (!b)
    |_=>none
  |.Dict ks vs _=>if ks.isEmpty&&vs.isEmpty then some (.dic [] []) else if ks.isEmpty||decide (15<ks.length) then none else(eY (ev cx n sc U) ks vs).map λl=>oX (Ht l)
  |.BoolOp op es _=>cR op (ev cx n sc U) es
  | .Compare a ops bs _=>(match ops,bs with
    |[op],[b]=>do let x <- ev cx n sc U a;let y <- ev cx n sc U b;cmpop op x y
    |[op,op'],[b,c]=>if !aJ c then none else do
     let x <- ev cx n sc U a
     let y <- ev cx n sc U b
     let k <- (cmpop op x y).bind asB
     if k then do let z <- ev cx n sc U c;cmpop op' y z else some (.bl false)
    | _,_=>none)
  |.IfExp c a b _=>do
    let k <- (ev cx n sc U c).bind asB
    if k then ev cx n sc U a else ev cx n sc U b
  |.Tuple es _ _=>do let ds <- jZ (ev cx n sc U) es;if szl ds.length then some (.tup ds) else none
  |.List es _=>do let ds <- jZ (ev cx n sc U) es;if szl ds.length then some (.lst ds) else none
  |.Subscript a b _=>do
    let x <- ev cx n sc U a
    match b with
    | .Slice lo hi st _=>(match st with
     |none=>if true then none else none
     | some c=>Sd x lo hi ((ev cx n sc U c).bind asI))
    |b=>do
     let y <- ev cx n sc U b
     Mt x y
  | .Call f args kws p=>(match f,kws with
    |.Name x _,[] =>
     if rY cx sc x then
      match cx.blt.lookup x with
      | some "isinstance"=>(match args with
       |[a,t]=>do
        let d <- ev cx n sc U a
        match xOf cx sc t with
        |some c'=>(match d with|.exc c=>if cx.exs.contains c then some (.bl (xM cx.top c c')) else none|_=>none)
        |none=>do
         let ty <- tyOf cx sc t
         match d with
         |.exc c=>if cx.exs.contains c&&ty=="ValueError" then some (.bl true) else none
         |.dic _ _=>none
         |.obj _=>none
         |d=>if kW ty then some (.bl (Rh ty d)) else none
       | _=>none)
      | some b=>(match CJ cx sc b args with
       |.tv a=>do let xs <- (ev cx n sc U a).bind tupI;some (.tup xs.reverse)
       |.li a=>(ev cx n sc U a).bind Ue
       | .al=>if args.isEmpty then none else do let ds <- jZ (ev cx n sc U) args;blt b ds)
      |none=>if cx.fns.contains x && !args.isEmpty then do let ds <- jZ (ev cx n sc U) args;cx.call x ds else none
     else none
    | _,_=>none)
  | .ListComp elt gens scope _=>(match gens with
    |[⟨tg,iter,ifs,a⟩]=>if a==0&&jm sc scope then do
      let l <- evI cx (fM tg) (ev cx n sc U) sc iter
      if szl l.length then do
       let out <- bU (λd=>do
        let U1 <- d9 scope tg d (cN scope U)
        let b <- oJ (ev cx n (qp scope sc) U1) ifs
        if b then(ev cx n (qp scope sc) U1 elt).map some else some none) l
       some (.lst out)
      else none
     else none
    | _=>none)
  |_=>none
def xg(f:Expr->Option D)(g:Expr->Option Str):List Expr->Option Str
 |[]=>none
 |e::r=>match f e with
  |some _=>xg f g r
  |none=>g e
def evx(cx:Cxt):Nat->Scope->Rho->Expr->Option Str
 |0,_,_,_=>none
 |n+1,sc,U,e=>match e with
  |.Call (.Name x _) args [] _=>if rY cx sc x && !args.isEmpty&&args.all aJ&&cx.fns.contains x then
    (match jZ (ev cx n sc U) args with
    |some ds=>cx.callx x ds
    | none=>xg (ev cx n sc U) (evx cx n sc U) args)
   else none
  |_=>none
def gn:Nat->Str->Expr->Bool
 |0,_,_=>true
 |n+1,x,e=>match e with
  |.Name y _=>x==y
  |.Constant .. =>false
  |.BinOp a _ b _=>gn n x a||gn n x b
  |.UnaryOp _ a _=>gn n x a
  |.BoolOp _ es _=>es.any (gn n x)
  |.Compare a _ bs _=>gn n x a||bs.any (gn n x)
  |.IfExp c a b _=>gn n x c||gn n x a||gn n x b
  |.Tuple es _ _=>es.any (gn n x)
  |.List es _=>es.any (gn n x)
  |.Subscript a b _=>gn n x a||gn n x b
  |.Slice lo hi st _=>(lo.map (gn n x)).getD false||(hi.map (gn n x)).getD false||(st.map (gn n x)).getD false
  |.Call f args kws _=>gn n x f||args.any (gn n x) || !kws.isEmpty
  |.ListComp elt gens _ _=>gn n x elt||gens.any λg=>gn n x g.iter||g.ifs.any (gn n x)
  |_=>true
def frz(n:Nat)(e:Expr)(U:Rho):Rho:=U.map λp=>match p.2 with
 |.ow ds=>if gn n p.1 e then(p.1,.sh (.lst ds)) else p
 |.oo dss=>if gn n p.1 e then(p.1,.sh (.lst (dss.map .lst))) else p
 |_=>p
def isL:Expr->Bool
 |.List .. =>true
 |_=>false
def cu:Expr->Bool
 |.List .. =>true
 |.ListComp .. =>true
 |_=>false
def Uw:Sl->Bool
 |.no=>true
 |.sh _=>true
 |_=>false
def Ri:Sl->Bool
 |.oo _=>true
 |_=>false
def DY(_:Rho)(_:Str):Bool:=true
def pN(U:Rho)(x:Str):Bool:=U.all λp=>p.1==x || !Ri p.2
def W5(cx:Cxt)(sc:Scope):Expr->Bool
 |.Name y _=>aK y&&sc.names.lookup y==some .local
 |.Call (.Name f _) _ [] _=>rY cx sc f&&(cx.blt.lookup f).isNone
 |_=>false
def Mx(cx:Cxt)(sc:Scope):Expr->Bool
 |.Call (.Name l _) [y] [] _=>cg cx sc l==some "list"&&W5 cx sc y
 |_=>false
def ooE(_:Cxt)(_:Scope):Expr->Bool
 |.ListComp .. =>true
 |_=>false
def nW(e:Expr)(d:D):Sl:=match d with
 |.lst ds=>if cu e then .ow ds else .sh (.lst ds)
 |d=>.sh d
def nc0:Expr->Bool
 |.Call .. =>true
 |.Name x _=>x !="__debug__"
 |.IfExp .. =>true
 |.ListComp .. =>true
 |.Compare .. =>true
 |_=>false
def nc1:Expr->Bool
 |.Subscript v _ _=>nc0 v
 |e=>nc0 e
def nc:Expr->Bool
 |.Subscript v i _=>nc0 v||nc0 i
 |.BinOp l _ r _=>nc1 l||nc1 r
 |e=>nc0 e
def swp(sc:Scope)(ts:List Expr)(value:Expr):Option Bool:=match value with
 | .Tuple vs _ _=>(match ts,vs with
  |[.Name x px,.Name y py],[a,b] =>
   if sc.names.lookup x==some .local&&sc.names.lookup y==some .local then
    (if px.line==py.line&&x !=y&&(nc a||nc b)&&aJ a&&aJ b then some true else none)
   else none
  | _,_=>none)
 |_=>some false
def rdA:Expr->Bool
 |.Call (.Name _ _) [.Subscript _ _ _,.Subscript _ _ _] [] _=>true
 |_=>false
def fV(f:D->Rho->Option Fl):List D->Rho->Option Fl
 |[],U=>some (.nxt U)
 |x::r,U=>do
  match <- f x U with
  |.ret d=>some (.ret d)
  |.nxt U'=>fV f r U'
def lq(f:Rho->Stmt->Option Fl):List Stmt->Rho->Option Fl
 |[],U=>some (.nxt U)
 |s::r,U=>do
  match <- f U s with
  |.ret d=>some (.ret d)
  |.nxt U'=>lq f r U'
def lg(f:Rho->Stmt->Option Fl)(g:Rho->Stmt->Option (Str×Rho)):List Stmt->Rho->Option (Str×Rho)
 |[],_=>none
 |s::r,U=>match f U s with
  |some (.nxt U')=>lg f g r U'
  |some (.ret _)=>none
  |none=>g U s
mutual
def st(cx:Cxt)(F:Nat):Nat->Scope->Rho->Stmt->Option Fl
 |0,_,_,_=>none
 |n+1,sc,U,s=>match s with
  |.Pass _=>some (.nxt U)
  | .Return v _=>(match v with
    |none=>some (.ret .non)
    | some e=>(ev cx F sc (frz F e U) e).map .ret)
  | .Assign tgs e _=>(match tgs with
    |[.Name x _]=>if ownIn sc x&&(U.map (·.1)).contains x then
      (if ooE cx sc e&&DY (frz F e U) x then none
      else if Mx cx sc e&&pN (frz F e U) x then none
      else if cu e && !pN (frz F e U) x then none
      else if rdA e then none
      else(ev cx F sc (frz F e U) e).map λd=>.nxt (fL (frz F e U) x (nW e d))) else none
    |[.Tuple es _ _]=>if(swp sc es e).isSome||false then do
      let d <- ev cx F sc (frz F e U) e
      let l <- tupI d
      (bindNames sc es l (frz F e U)).map .nxt
     else none
    | _=>none)
  | .Expr v _=>(match v with
    | .Call (.Attribute (.Name x _) m ap) [e] [] cp=>(match (frz F e U).lookup x with
      |some (.ow ds)=>if ownIn sc x&&aK x&&ap.endLine==cp.line then
        if m=="append"&&szl (ds.length+1) then(ev cx F sc (frz F e U) e).map λd=>.nxt (fL (frz F e U) x (.ow (ds++[d])))
        else if m=="extend" then do
         let d <- ev cx F sc (frz F e U) e
         (match d with
         |.tup zs=>if szl (ds.length+zs.length) then some (.nxt (fL (frz F e U) x (.ow (ds++zs)))) else none
         | _=>none)
        else none
       else none
      | _=>none)
    |.ListComp .. =>none
    |.Constant .. =>none
    | e=>(ev cx F sc (frz F e U) e).map λ_=>.nxt (frz F e U))
  |.If c a b _=>do
    let k <- (ev cx F sc (frz F c U) c).bind asB
    if k then lq (λU s=>st cx F n sc U s) a U else lq (λU s=>st cx F n sc U s) b U
  | .For tg iter body orelse _=>(match orelse with
    |[]=>do
     let l <- evI cx (fM tg) (ev cx F sc (frz F iter U)) sc iter
     fV (λd U=>do let U1 <- d9 sc tg d U;lq (λU s=>st cx F n sc U s) body U1) l (frz F iter U)
    | _=>none)
  | .While c body orelse _=>(match orelse with
    |[]=>if true then none else none
    | _=>none)
  |_=>none
def stx(cx:Cxt)(F:Nat):Nat->Scope->Rho->Stmt->Option (Str×Rho)
 |0,_,_,_=>none
 |n+1,sc,U,s=>match s with
  | .Raise e z _=>(match e,z with
   | some e,none=>(match e with
    | .Call f as ks _=>(match f,as,ks with
     | .Name c _,[a],[]=>(match a with
      | .Constant v _ _=>(match v with
       |.str _=>if cx.rs&&rY cx sc c&&cx.exs.contains c&&aK c then some (c,U) else none
       | _=>none)
      | _=>none)
     | _,_,_=>none)
    | _=>none)
   | _,_=>none)
  |.Expr e _=>if cu e then none else(evx cx F sc (frz F e U) e).map λc=>(c,frz F e U)
  |.Return (some e) _=>(evx cx F sc (frz F e U) e).map λc=>(c,frz F e U)
  | .If c a b _=>(match (ev cx F sc (frz F c U) c).bind asB with
    |some k=>lg (λU s=>st cx F n sc U s) (λU s=>stx cx F n sc U s) (if k then a else b) (frz F c U)
    | none=>none)
  |_=>none
end
structure Fd where
 ps:List Str
 N:List Str
 sc:Scope
 body:List Stmt
def bx(fd:Fd)(ds:List D):Rho:=(fd.ps.zip (ds.map Sl.sh))++(fd.N.drop fd.ps.length).map λx=>(x,.no)
structure Pg where
 cst:List (Str×D)
 blt:List (Str×String)
 defs:List (Str×Fd)
 exs:List Str:=[]
 top:Str:="MinorError"
set_option genInjectivity true in
inductive Rs where
 |val (d:D)|exc (c:Str)
def Rs.val?:Option Rs->Option D
 |some (.val d)=>some d
 |_=>none
def Rs.exc?:Option Rs->Option Str
 |some (.exc c)=>some c
 |_=>none
def Pg.cx(P:Pg)(c:Str->List D->Option Rs):Cxt:=⟨P.cst,P.blt,P.defs.map (·.1),P.exs,P.top,true,λf ds=>Rs.val? (c f ds),λf ds=>Rs.exc? (c f ds)⟩
def rE(cx:Cxt)(F:Nat)(sc:Scope)(body:List Stmt)(U:Rho):Option Rs:=match lq (λU s=>st cx F F sc U s) body U with
 |some (.ret d)=>some (.val d)
 |some (.nxt _)=>some (.val .non)
 | none=>(match lg (λU s=>st cx F F sc U s) (λU s=>stx cx F F sc U s) body U with
  |some (c,_)=>some (.exc c)
  | none=>none)
@[irreducible] def aR(P:Pg)(F:Nat):Nat->Str->List D->Option Rs
 |0,_,_=>none
 |k+1,f,ds=>match P.defs.lookup f with
  |none=>none
  |some fd=>if ds.length==fd.ps.length then rE (P.cx (aR P F k)) F fd.sc fd.body (bx fd ds) else none
theorem uf:aR P F 0 f ds=none:=by with_unfolding_all rfl
theorem mL:aR P F (k+1) f ds=(match P.defs.lookup f with
  |none=>none
  | some fd=>if ds.length==fd.ps.length then rE (P.cx (aR P F k)) F fd.sc fd.body (bx fd ds) else none):=by with_unfolding_all rfl
@[irreducible] def aU(P:Pg)(F k:Nat)(f:Str)(ds:List D):Option D:=Rs.val? (aR P F k f ds)
theorem gQ:aU P F k f ds=Rs.val? (aR P F k f ds):=by with_unfolding_all rfl
@[irreducible] def jr(P:Pg)(F k:Nat)(f:Str)(ds:List D):Option Str:=Rs.exc? (aR P F k f ds)
theorem kj:jr P F k f ds=Rs.exc? (aR P F k f ds):=by with_unfolding_all rfl
end DE
namespace L2
open PySem PySem.Spec PyProof.Rows PySem.SeqAt
section
variable{prog:Program}{w:World}{A:Around}{I:Addr}{fp wr:List Addr}{n:Nat}{P:Nat->Value->Prop}{St:Nat->Heap->Prop}
end
end L2
namespace L2
open PySem PySem.Spec PyProof.Rows
section
variable(P:Program)(w:World)
end
section
variable{P:Program}{w:World}{H H':Hp}{h h':Heap}{a:Addr}{o:HO}
end
section
variable{P:Program}{w:World}{H:Hp}{h h':Heap}{x e:Addr}{o':HO}
end
section
variable{fs fs' ex ex':List Addr}{H H1 H2:Hp}{h h1 h2 h':Heap}{a x e:Addr}{o:HO}
end
section
variable{X:Cx}{y0:List (Addr×Obj)}{Y:List (Option V)}{H H':Hp}{s:Shared}{h':Heap}
end
section
variable{X:Cx}
variable{a b:Expr}{ta tb:TE}{pos:Pos}
variable{tA tB':TT}{rest:List Expr}
end
section
variable{X:Cx}{y0:List (Addr×Obj)}{Y:St}{H:Hp}{s:Shared}{a:Addr}{xs ys:List V}
end
section
variable{X:Cx}{y0:List (Addr×Obj)}{Y:St}{H:Hp}{s:Shared}{E:Value->Shared->Prop}
end
section
variable{X:Cx}{st:Stmt}{rest:List Stmt}{t u:TS}{e:Expr}{te:TE}{pos:Pos}
end
section
variable{X:Cx}{pos:Pos}
end
section
variable{X:Cx}{pos:Pos}
end
section
variable{X:Cx}{tg:Expr}
end
section
variable{X:Cx}{a b c:Expr}{ta tb tc:TE}{pos:Pos}
end
section
variable{X:Cx}{a b c:Expr}{ta tb tc:TE}{pos:Pos}
end
section
variable{prog:Program}{w:World}{A:Around}{E:Value->Shared->Prop}{s:Shared}{K:Zf}{x dx C f:Addr}{mA:Str->Option Value}{name:Str}{v:Value}
end
section
variable{P:Program}{w:World}{H H':Hp}{h h':Heap}{a C dx:Addr}{fs fs':List (Str×V)}
end
section
variable{X:Cx}{y0:List (Addr×Obj)}{Y:St}{H:Hp}{s:Shared}{a C dx:Addr}{fs:List (Str×V)}{f:Str}{v:V}{A:Around}{E:Value->Shared->Prop}
end
section
variable{X:Cx}{o e value:Expr}{f:Str}{pos pos' tpos:Pos}{ta tv:TE}
end
section
variable{X:Cx}{y0:List (Addr×Obj)}{Y:St}{H:Hp}{s:Shared}{A:Around}{E:Value->Shared->Prop}{Q:Value->Shared->Prop}{c:Value}{b:Bool}
end
section
variable{X:Cx}{e:Expr}{es:List Expr}{te:TE}{t:TA}{pos:Pos}
end
section
variable{X:Cx}{y0:List (Addr×Obj)}{Y:St}{H:Hp}{s s':Shared}
end
section
variable{X:Cx}{CX:CXT}{k:Nat}{f C:Addr}{fd:FuncData}{ps:List Str}{sp:Sp}{dvs:List V}{ds:List Value}{E:XK}{x m:Str}{p pos apos:Pos}{e o:Expr}{es:List Expr}{ta:TE}{t:TA}
end
section
variable{X:Cx}{CX:CXT}{k:Nat}{f C:Addr}{fd:FuncData}{ps ks:List Str}{sp:Sp}{E:XK}{x m:Str}{p pos apos kpos:Pos}{e o:Expr}{es:List Expr}{kws:List Keyword}{te ta:TE}{t tk:TA}{nm:Option Str}
variable{g:List Value->List Value->List Value}{gV:List V->List V->List V}
end
section
variable{X:Cx}{x:Str}{p pos:Pos}{e:Expr}{es:List Expr}{t:TA}{id T:String}{r:List V->Hp->VK->Prop}
end
section
variable{κ:Type}[DecidableEq κ]
def jy(kvs:List (κ×V))(k:κ):Option V:=(kvs.find? λkv=>decide (kv.1=k)).map (·.2)
def putK(kvs:List (κ×V))(k:κ)(v:V):List (κ×V) :=
 if(kvs.any λkv=>decide (kv.1=k))=true then kvs.map (λkv=>if kv.1=k then(kv.1,v) else kv) else kvs++[(k,v)]
def tR(kvs:List (κ×V))(k:κ):List (κ×V):=kvs.filter λkv=>decide (kv.1≠k)
theorem iK{k:κ}(e:p.1=k):jy (p::r) k=some p.2:=by simp[jy,e]
theorem iM{k:κ}(e:¬ p.1=k):jy (p::r) k=jy r k:=by simp[jy,e]
theorem uw(k:κ):∀kvs:List (κ×V),(kvs.any λkv=>decide (kv.1=k))=(jy kvs k).isSome
 |[]=>rfl
 |p::r=>by
  rw[M4z]
  by_cases e:p.1=k
  .simp[iK e,C4z e,Bool.true_or,Option.isSome_some]
  .rw[iM e,H3z e,Bool.false_or];exact uw k r
theorem iD(kvs:List (κ×V))(k:κ)(v:V):(putK kvs k v).length<=kvs.length+1:=by
 unfold putK;split
 .rw[K3z];omega
 .rw[T1z,S2z,U3z];omega
theorem pI.isSome_eq(r:pI o u):o.isSome=u.isSome:=by
 cases o with
 |none=>cases u with
  |none=>rfl
  |some _=>exact r.elim
 |some _=>cases u with
  |none=>exact r.elim
  |some _=>rfl
theorem pI.getD(r:pI o u)(rd:RelV d d'):RelV (o.getD d) (u.getD d'):=by
 cases o with
 |none=>cases u with
  |none=>exact rd
  |some _=>exact r.elim
 |some _=>cases u with
  |none=>exact r.elim
  |some _=>exact r
theorem KV.val(r:KV kvs vs)(k:κ):pI (jy kvs k) (valueAt vs k):=by
 induction r with
 |nil=>exact True.intro
 | @cons p q ps qs h t ih =>
  obtain⟨h1,h2⟩:=h
  by_cases e:p.1=k
  .have b:valueAt (q::qs) k=some q.2:=by simp[valueAt,List.find?_cons,(h1.symm.trans e)]
   rw[iK e,b];exact h2
  .have e':¬ q.1=k:=λz=>e (h1.trans z)
   have b:valueAt (q::qs) k=valueAt qs k:=by simp[valueAt,e']
   rw[iM e,b];exact ih
theorem KV.any(r:KV kvs vs)(k:κ):(kvs.any λkv=>decide (kv.1=k))=vs.any λkv=>decide (kv.1=k):=by
 induction r with
 |nil=>rfl
 |cons h t ih=>rw[M4z,M4z,ih,h.1]
theorem KV.repl(r:KV kvs vs)(k:κ)(ry:RelV y u) :
  KV (kvs.map λkv=>if kv.1=k then(kv.1,y) else kv) (vs.map λkv=>if kv.1=k then(kv.1,u) else kv):=by
 induction r with
 |nil=>exact .nil
 | @cons p q ps qs h t ih =>
  rw[I4z,I4z];refine .cons ?_ ih;obtain⟨h1,h2⟩:=h
  by_cases e:p.1=k
  .rw[T5z e,T5z (h1.symm.trans e)];exact⟨h1,ry⟩
  .rw[U5z e,U5z (λz=>e (h1.trans z))];exact⟨h1,h2⟩
theorem KV.put(r:KV kvs vs)(k:κ)(ry:RelV y u):KV (putK kvs k y) (stored vs k u):=by
 unfold putK stored;rw[r.any k]
 by_cases e:(vs.any λkv=>decide (kv.1=k))=true
 .rw[T5z e,T5z e];exact r.repl k ry
 .rw[U5z e,U5z e];exact Paired.snoc r ⟨rfl,ry⟩
theorem KV.drop(r:KV kvs vs)(k:κ):KV (tR kvs k) (without vs k):=by
 unfold tR without
 induction r with
 |nil=>exact .nil
 | @cons p q ps qs h t ih =>
  obtain⟨h1,h2⟩:=h;rw[Z2z,Z2z]
  by_cases e:p.1=k
  .have a:¬ decide (p.1≠k)=true:=by simp[e]
   have b:¬ decide (q.1≠k)=true:=by simp[h1.symm.trans e]
   rw[U5z a,U5z b];exact ih
  .have e':¬ q.1=k:=λz=>e (h1.trans z)
   have a:decide (p.1≠k)=true:=by simp[e]
   have b:decide (q.1≠k)=true:=by simp[e']
   rw[T5z a,T5z b];exact .cons ⟨h1,h2⟩ ih
theorem KV.length(r:KV kvs vs):kvs.length=vs.length:=Paired.length r
theorem FP(kvs:List (κ×V))(k:κ):(tR kvs k).length<=kvs.length:=List.length_filter_le _ _
end
theorem j4(r:RelV (kV k) u):(aV P w).is k u=true:=by
 cases k with
 |inl i=>obtain⟨t,e⟩:=r;subst e;exact sV P w i t
 |inr x=>obtain⟨t,e⟩:=r;subst e;exact sU P w x t
theorem qH:∀{ks:List Key}{us:List Value},Vals (ks.map kV) us->ItemsAre (aV P w) ks us
 |[],_,r=>by rw[X4z] at r;cases r;exact .nil
 |k::ks,_,r=>by
  cases r with
  |cons h t=>exact .cons (j4 h) (qH t)
abbrev KT(H:Hp):List (List Key×V)->List (List Key×Addr×Value)->Prop:=Paired λp q=>p.1=q.1/\H q.2.1=some (.tup (p.1.map kV))/\RelV p.2 q.2.2
theorem KT.val(r:KT H kvs xs)(k:List Key):pI (jy kvs k) ((atKey xs k).map (·.2)):=by
 induction r with
 |nil=>exact True.intro
 | @cons p q ps qs h t ih =>
  obtain⟨h1,_,h2⟩:=h
  by_cases e:p.1=k
  .have b:atKey (q::qs) k=some q.2:=by simp[atKey,List.find?_cons,(h1.symm.trans e)]
   rw[iK e,b];exact h2
  .have e':¬ q.1=k:=λz=>e (h1.trans z)
   have b:atKey (q::qs) k=atKey qs k:=by simp[atKey,e']
   rw[iM e,b];exact ih
theorem KT.repl(r:KT H kvs xs)(k:List Key)(ry:RelV y u) :
  KT H (kvs.map λkv=>if kv.1=k then(kv.1,y) else kv) (xs.map (putAt k u)):=by
 induction r with
 |nil=>exact .nil
 | @cons p q ps qs h t ih =>
  rw[I4z,I4z];refine .cons ?_ ih;obtain⟨h1,h2,h3⟩:=h;unfold putAt
  by_cases e:p.1=k
  .rw[T5z e,T5z (h1.symm.trans e)];exact⟨h1,h2,ry⟩
  .rw[U5z e,U5z (λz=>e (h1.trans z))];exact⟨h1,h2,h3⟩
theorem KT.put(r:KT H kvs xs)(k:List Key)(hb:H b=some (.tup (k.map kV)))(ry:RelV y u) :
  KT H (putK kvs k y) (storedH xs k b u):=by
 have e:(kvs.any λkv=>decide (kv.1=k))=(atKey xs k).isSome:=by
  rw[uw,(r.val k).isSome_eq,L2z]
 unfold putK storedH;rw[e]
 by_cases q:(atKey xs k).isSome=true
 .rw[T5z q,T5z q];exact r.repl k ry
 .rw[U5z q,U5z q];exact Paired.snoc r ⟨rfl,hb,ry⟩
theorem KT.keeps(r:KT H kvs xs)(ht:∀b ys,H b=some (.tup ys)->H' b=some (.tup ys)):KT H' kvs xs :=
 Paired.mapP r λ_ _ z=>⟨z.1,ht _ _ z.2.1,z.2.2⟩
section
variable{P:Program}{w:World}{H:Hp}{h:Heap}{a:Addr}
theorem Oc(ok:HOk P w H h)(e:Rd H a u):cX P w H h a u:=e.ok ok
theorem tU(ok:HOk P w H h)(e:Rd H a (.dK kvs)):kvs.length<=sizeLine/\(a==sysModules)=false/\∃vs,KV kvs vs/\h.DictOf (aV P w) a vs :=
 show cX P w H h a (.dK kvs) from Oc ok e
theorem FZ(ok:HOk P w H h)(e:H a=some (.dK kvs)):kvs.length<=sizeLine/\(a==sysModules)=false/\∃vs,KV kvs vs/\h.DictOf (aV P w) a vs:=tU ok (.inl e)
theorem ni(ok:HOk P w H h)(e:H a=some (.tup (ks.map kV))):(tupleKind (aV P w)).is h ks a:=by
 obtain⟨_,its,r,o,h1,h2,n,h3⟩:=(ok a _ e);exact⟨o,its.toArray,n,h1,h2,h3,by simpa using qH r⟩
theorem tO(ok:HOk P w H h)(e:Rd H a (.dT kvs)):kvs.length<=sizeLine/\(a==sysModules)=false /\
  ∃xs,KT H kvs xs/\h.DictOfH (tupleKind (aV P w)) a xs:=by
 obtain⟨z,y,xs,r,o,es,ep,h1,h2,h3,h4,h5⟩:=(Oc ok e);refine⟨z,y,xs,r,o,es,ep,h1,h2,h3,h4,λx hx=>?_,h5⟩
 have all:∀{l:List (List Key×V)}{m:List (List Key×Addr×Value)},KT H l m->∀x∈m,(tupleKind (aV P w)).is h x.1 x.2.1:=by
  intro l m q
  induction q with
  |nil=>intro x hx;exact nomatch hx
  | @cons p q ps qs hq t ih =>
   intro x hx;obtain e|hx:=P4z.mp hx
   .subst e
    exact ni ok (by rw[<- hq.1];exact hq.2.1)
   .exact ih x hx
 exact all r x hx
theorem Us(ok:HOk P w H h)(e:H a=some (.dT kvs)):kvs.length<=sizeLine/\(a==sysModules)=false /\
  ∃xs,KT H kvs xs/\h.DictOfH (tupleKind (aV P w)) a xs:=tO ok (.inl e)
end
def ur(H:Hp)(a:Addr)(y:V)(r:Option V):Prop :=
 (∃kvs k,Rd H a (.dK kvs)/\y=kV k/\r=jy kvs k)\/∃kvs k b,Rd H a (.dT kvs)/\y=.ref b/\H b=some (.tup (k.map kV))/\r=jy kvs k
def QW(H:Hp)(a:Addr)(y v:V)(H':Hp):Prop :=
 (∃kvs k,H a=some (.dK kvs)/\y=kV k/\kvs.length<sizeLine/\H'=upd H a (.dK (putK kvs k v))) \/
 ∃kvs k b,H a=some (.dT kvs)/\y=.ref b/\H b=some (.tup (k.map kV))/\kvs.length<sizeLine/\H'=upd H a (.dT (putK kvs k v))
theorem ur.k{k:Key}(e:H a=some (.dK kvs)):ur H a (kV k) (jy kvs k):=.inl ⟨kvs,k,.inl e,rfl,rfl⟩
theorem QW.k{k:Key}(e:H a=some (.dK kvs))(hl:kvs.length<sizeLine):QW H a (kV k) v (upd H a (.dK (putK kvs k v))):=.inl ⟨kvs,k,e,rfl,hl,rfl⟩
section
variable{X:Cx}{y0:List (Addr×Obj)}{Y:St}{H:Hp}{s:Shared}{a:Addr}{y v:V}{u r:Value}{o:Option V}{A:Around}{E:Value->Shared->Prop}
theorem Inv.big(I:Inv X y0 Y H s):sysModules<s.heap.objs.size:=by
 exact Nat.lt_trans (by decide) ((I.mod.glob.keeps I.bk).lt)
theorem Bo(hu:A.units+1<cLine)(I:Inv X y0 Y H s)(g:ur H a y (some v))(ry:RelV y u)(h:∀w' s',Inv X y0 Y H s'->RelV v w'->Q w' s') :
  wpAny (model X.prog X.w) A (getItem (.ref a) u) Q E s:=by
 obtain⟨kvs,k,e,ey,l⟩|⟨kvs,k,b,e,ey,eb,l⟩:=g
 .subst ey
  obtain⟨z,hd,vs,rel,dd⟩:=tU I.hok e;obtain⟨w',hw,rw'⟩:=pI.some_of (by rw[l];exact rel.val k);exact wpAny_getItem_of (j4 ry) dd.mapOf hw (h w' _ (I.tok _) rw')
 .subst ey
  cases ry;obtain⟨z,hd,xs,rel,dd⟩:=tO I.hok e;obtain⟨w',hw,rw'⟩:=pI.some_of (by rw[l];exact rel.val k);obtain⟨p,hp,hp2⟩:=O0z.mp hw;refine wpAny_getItem_heap (Y1z hu) (ni I.hok eb) dd hp ?_;rw[hp2];exact h w' _ (I.tok _) rw'
theorem Xf(hu:A.units+1<cLine)(I:Inv X y0 Y H s)(g:ur H a y o)(ry:RelV y u)(h:∀s',Inv X y0 Y H s'->Q (.bool o.isSome) s') :
  wpAny (model X.prog X.w) A (compareOp .In u (.ref a)) Q E s:=by
 obtain⟨kvs,k,e,ey,l⟩|⟨kvs,k,b,e,ey,eb,l⟩:=g
 .subst ey
  obtain⟨z,hd,vs,rel,dd⟩:=tU I.hok e;refine wpAny_in_of (j4 ry) hd dd.mapOf ?_;rw[<- (rel.val k).isSome_eq,<- l];exact h _ (I.tok _)
 .subst ey
  cases ry;obtain⟨z,hd,xs,rel,dd⟩:=tO I.hok e;refine wpAny_in_heap (Y1z hu) (ni I.hok eb) hd dd ?_;have q:=(rel.val k).isSome_eq;rw[L2z] at q;rw[<- q,<- l];exact h _ (I.tok _)
theorem Lp(hu:A.units+1<cLine)(I:Inv X y0 Y H s)(g:ur H a y o)(ry:RelV y u)(h:∀s',Inv X y0 Y H s'->Q (.bool (!o.isSome)) s') :
  wpAny (model X.prog X.w) A (compareOp .NotIn u (.ref a)) Q E s:=by
 obtain⟨kvs,k,e,ey,l⟩|⟨kvs,k,b,e,ey,eb,l⟩:=g
 .subst ey
  obtain⟨z,hd,vs,rel,dd⟩:=tU I.hok e;refine wpAny_notIn_of (j4 ry) hd dd.mapOf ?_;rw[<- (rel.val k).isSome_eq,<- l];exact h _ (I.tok _)
 .subst ey
  cases ry;obtain⟨z,hd,xs,rel,dd⟩:=tO I.hok e;refine wpAny_notIn_heap (Y1z hu) (ni I.hok eb) hd dd ?_;have q:=(rel.val k).isSome_eq;rw[L2z] at q;rw[<- q,<- l];exact h _ (I.tok _)
theorem o8(I:Inv X y0 Y H s)(mu:Mut (H a))(hs:Heap.SameBut a s.heap h')(he:∃q,h'.get? a=some q)(new:cX X.prog X.w (upd H a ob) h' a ob) :
  Inv X y0 Y (upd H a ob) {s with heap:=h',toks:=t'} :=
 I.write mu (.inl rfl) (λb q hb z=>(hs.2 b hb).trans z) he new
theorem qO(z:kvs.length<=sizeLine)(hd:(a==sysModules)=false)(rel:KV kvs vs)(dd:h'.DictOf (aV P w) a vs) :
  cX P w H' h' a (.dK kvs):=⟨z,hd,vs,rel,dd⟩
theorem Bm(hu:A.units+1<cLine)(I:Inv X y0 Y H s)(g:QW H a y v H')(ry:RelV y u)(rv:RelV v r)(h:∀s',Inv X y0 Y H' s'->Q () s') :
  wpAny (model X.prog X.w) A (setItem (.ref a) u r) Q E s:=by
 obtain⟨kvs,k,e,ey,l,eH⟩|⟨kvs,k,b,e,ey,eb,l,eH⟩:=g
 .subst ey eH
  obtain⟨z,hd,vs,rel,dd⟩:=FZ I.hok e
  have hz:vs.length<=sizeLine:=by rw[<- rel.length];exact z
  have hl:(putK kvs k v).length<=sizeLine:=by have:=iD kvs k v;omega
  refine wpAny_setItem_pairs (j4 ry) dd λh' dd' hs=>h _ ?_;exact o8 I (by rw[e];exact True.intro) hs (let ⟨q,_,_,hq,_⟩:=dd';⟨q,hq⟩) (qO hl hd (rel.put k rv) dd')
 .subst ey eH
  cases ry;obtain⟨z,hd,xs,rel,dd⟩:=Us I.hok e
  have hz:xs.length<=sizeLine:=by rw[<- Paired.length rel];exact z
  have hl:(putK kvs k v).length<=sizeLine:=by have:=iD kvs k v;omega
  refine wpAny_setItem_heap (Y1z hu) (ni I.hok eb) dd λh' dd' hs=>h _ ?_;obtain⟨q,es,ep,hq,h2,h3,h4,_,h5⟩:=dd';refine o8 I (by rw[e];exact True.intro) hs ⟨q,hq⟩ ⟨hl,hd,_,(rel.put k eb rv).keeps λc ys ec=>?_,q,es,ep,hq,h2,h3,h4,h5⟩;rw[ak (cY ec e (λz=>nomatch z))];exact ec
end
section
variable{X:Cx}{y0:List (Addr×Obj)}{Y:St}{H:Hp}{s:Shared}{a:Addr}{kvs:List (Key×V)}{k:Key}{u:Value}{A:Around}{E:Value->Shared->Prop}
theorem Uu(I:Inv X y0 Y H s)(e:H a=some (.dK kvs))(ry:RelV (kV k) u)(l:jy kvs k=some v)(hm:more=[]\/∃x,more=[x])
  (h:∀w' s',Inv X y0 Y (upd H a (.dK (tR kvs k))) s'->RelV v w'->Q w' s'):wpAny (model X.prog X.w) A (call (.builtin "dict.pop") (.ref a::u::more)) Q E s:=by
 obtain⟨z,hd,vs,rel,dd⟩:=FZ I.hok e;obtain⟨w',hw,rw'⟩:=pI.some_of (by rw[<- l];exact rel.val k)
 have hp:(keyPart u).isSome=true:=by
  cases k with
  |inl i=>obtain⟨t,q⟩:=ry;subst q;rfl
  |inr x=>obtain⟨t,q⟩:=ry;subst q;rfl
 have ha:argsOk "dict.pop" ⟨.ref a::u::more,[]⟩:=by
  obtain q|⟨x,q⟩:=hm
  .subst q;exact PySem.F.args_dict_pop_2 _ _
  .subst q;exact PySem.F.args_dict_pop_3 _ _ _
 refine call_meetsIn PySem.F.slot_dict_pop dd.typeIs PySem.F.entry_dict_pop ha (meets_dict_pop_there (aV X.prog X.w) a (j4 ry) more hm hp)
  ⟨vs,w',dd,by rw[<- rel.length];exact z,hw,λh' dd' hs=>h w' _ ?_ rw'⟩
 exact o8 I (by rw[e];exact True.intro) hs (let ⟨q,_,_,hq,_⟩:=dd';⟨q,hq⟩) (qO (T4z (FP kvs k) z) hd (rel.drop k) dd')
end
def U9(i:Expr):Prop:=∀ov iv,subscripted i false ov iv=operate [ov,iv] (getItem ov iv)
theorem yC{T id:String}
  (hl:typeLookup (.type T) "__getitem__"=pure (some (.builtin id))) (hs:U9 slice)
  (h:wpAny (model prog w) A (eval value env) (λo s₁=>wpAny (model prog w) A (eval slice env) (λi s₂=>s₂.TypeIs o T/\wpAny (model prog w) A (getItem o i) Q E s₂) E s₁) E s) :
  wpAny (model prog w) A (eval (.Subscript value slice pos) env) Q E s:=by
 refine Subscript_ (H5z h (λo s₁ h₁=>H5z h₁ (λi s₂ h₂=>?_) λ_ _ x=>x) λ_ _ x=>x);obtain⟨hT,h₂⟩:=h₂;refine I5z ?_;refine I5z (R3z hT hl ?_)
 have fin:wpAny (model prog w) A (subscripted slice false o i) (λr s₃=>wpAny (model prog w) A (letTemporaryGo value o r >>=λ_=>pure r) Q E s₃) E s₂:=by
  rw[hs o i];exact wpAny_operating (H5z h₂ (λr s₃ h₃=>I5z (wpAny_letTemporaryGo (J5z h₃))) λ_ _ x=>x)
 first
  |exact J5z (I5z fin)
  |exact I5z (J5z (I5z fin))
  |exact I5z fin
theorem tV(I:Inv X y0 Y H s)(g:ur H a y o):s.TypeIs (.ref a) "dict":=by
 obtain⟨kvs,k,e,_,_⟩|⟨kvs,k,b,e,_,_,_⟩:=g
 .obtain⟨_,_,vs,_,dd⟩:=tU I.hok e
  exact dd.typeIs
 .obtain⟨_,_,xs,_,dd⟩:=tO I.hok e
  exact dd.typeIs
def RW(td ty:TE):TE:=λY H Q=>td Y H λx H1=>ty Y H1 λy H2=>∃a v,x=.ref a/\ur H2 a y (some v)/\Q v H2
def Wj(ty td:TE):TE:=λY H Q=>ty Y H λy H1=>td Y H1 λx H2=>∃a o,x=.ref a/\ur H2 a y o/\Q (.bl o.isSome) H2
def IK(ty td:TE):TE:=λY H Q=>ty Y H λy H1=>td Y H1 λx H2=>∃a o,x=.ref a/\ur H2 a y o/\Q (.bl (!o.isSome)) H2
def R9(td ty tv:TE):TS:=λD Y H=>tv Y H λv H1=>td Y H1 λx H2=>ty Y H2 λy H3=>∃a H4,x=.ref a/\QW H3 a y v H4/\D.nx Y H4
section
variable{X:Cx}{o i e value:Expr}{pos pos' tpos:Pos}{td ty tv:TE}
theorem JN(hu:X.A.units+1<cLine)(ho:PE X o td)(hi:PE X i ty)(hs:U9 i):PE X (.Subscript o i pos) (RW td ty):=by
 intro y0 s Y H Q I h;refine yC PySem.F.slot_dict_getitem.lookup hs (thn (ho y0 s Y H _ I h) λu s1 ⟨x,H1,I1,rx,q1⟩=>thn (hi y0 s1 Y H1 _ I1 q1) λiv s2 ⟨y,H2,I2,ry,a,v,ex,g,q2⟩=>?_);subst ex;obtain rfl:u=Value.ref a:=rx;exact⟨tV I2 g,Bo hu I2 g ry λw' s3 I3 rw'=>⟨v,H2,I3,rw',q2⟩⟩
theorem Ox(hu:X.A.units+1<cLine)(hi:PE X i ty)(ho:PE X o td):PC X .In i o (Wj ty td):=by
 intro y0 s Y H Q I h;refine thn (hi y0 s Y H _ I h) λiv s1 ⟨y,H1,I1,ry,q1⟩=>thn (ho y0 s1 Y H1 _ I1 q1) λu s2 ⟨x,H2,I2,rx,a,ov,ex,g,q2⟩=>?_;subst ex;obtain rfl:u=Value.ref a:=rx;exact Xf hu I2 g ry λs3 I3=>⟨.bl ov.isSome,H2,I3,rfl,q2⟩
theorem zB(hu:X.A.units+1<cLine)(hi:PE X i ty)(ho:PE X o td):PC X .NotIn i o (IK ty td):=by
 intro y0 s Y H Q I h;refine thn (hi y0 s Y H _ I h) λiv s1 ⟨y,H1,I1,ry,q1⟩=>thn (ho y0 s1 Y H1 _ I1 q1) λu s2 ⟨x,H2,I2,rx,a,ov,ex,g,q2⟩=>?_;subst ex;obtain rfl:u=Value.ref a:=rx;exact Lp hu I2 g ry λs3 I3=>⟨.bl (!ov.isSome),H2,I3,rfl,q2⟩
theorem JB(hu:X.A.units+1<cLine)(ho:PE X o td)(hi:PE X i ty)(hv:PE X value tv)(hs:swapsWith value (some (.Subscript o i pos')) pos.line X.env=pure false) :
  PS X (.Assign [.Subscript o i pos'] value pos) (R9 td ty tv):=by
 intro y0 s Y H D I h;refine wpAny_Assign_Subscript (thn (hv y0 s Y H _ I h) λr s1 ⟨v,H1,I1,rv,q1⟩=>thn (ho y0 s1 Y H1 _ I1 q1) λu s2 ⟨x,H2,I2,rx,q2⟩=>thn (hi y0 s2 Y H2 _ I2 q2) λiv s3 ⟨y,H3,I3,ry,a,H4,ex,g,q3⟩=>?_) hs;subst ex;obtain rfl:u=Value.ref a:=rx;exact Bm hu I3 g ry rv λs4 I4=>⟨Y,H4,I4,q3⟩
end
theorem oV(h:Heap)(hb:sysModules<h.objs.size):cX P w H (h.push {cls:=.type "dict",data:=.dict #[]}) h.objs.size (.dK []) :=
 ⟨D5z _,H1z.mpr (R5z (S4z hb)),[],.nil,Heap.DictOf.new h⟩
def Nz:TE:=λ_ H Q=>∀p,H p=none->Q (.ref p) (upd H p (.dK []))
section
variable{X:Cx}{pos:Pos}
theorem DK:PE X (.Dict [] [] pos) Nz:=λy0 s Y H Q I h =>
 wpAny_Dict_empty ⟨.ref s.heap.objs.size,_,I.laid (λ_ _ q=>Heap.get?_push_of_some _ q) (B5z _) (oV s.heap I.big),rfl,h _ (I.hok.fresh (B5z _))⟩
end
def uD:List (TE×TE)->St->Hp->(List (V×V)->Hp->Prop)->Prop
 |[],_,H,Q=>Q [] H
 |(tk,tv)::r,Y,H,Q=>tk Y H λx H1=>tv Y H1 λy H2=>uD r Y H2 λps H3=>Q ((x,y)::ps) H3
abbrev VV:List (V×V)->List (Value×Value)->Prop:=Paired λp q=>RelV p.1 q.1/\RelV p.2 q.2
def PPs(X:Cx)(pos:Pos)(keys:List (Option Expr))(values:List Expr)(trs:List (TE×TE)):Prop :=
  ∀(y0:List (Addr×Obj))(s:Shared)(Y:St)(H:Hp)(Q:List (V×V)->Hp->Prop), Inv X y0 Y H s->uD trs Y H Q ->
    wpAny (model X.prog X.w) X.A (evalPairs (pairTrees keys values X.env pos)) (λvs s'=>∃ps H',Inv X y0 Y H' s'/\VV ps vs/\Q ps H') X.xe s
theorem JC:PPs X pos [] [] []:=λy0 s Y H Q I h=>pairTrees_nil_walk ⟨[],H,I,.nil,h⟩
theorem Ds(hk:PE X k tk)(hv:PE X v tv)(hr:PPs X pos ks vs trs) :
  PPs X pos (some k::ks) (v::vs) ((tk,tv)::trs):=λy0 s Y H Q I h =>
 pairTrees_cons_walk (thn (hk y0 s Y H _ I h) λu s1 ⟨x,H1,I1,rx,q1⟩=>thn (hv y0 s1 Y H1 _ I1 q1) λw2 s2 ⟨y,H2,I2,ry,q2⟩ =>
  thn (hr y0 s2 Y H2 _ I2 q2) λws s3 ⟨ps,H3,I3,rel,q3⟩=>⟨(x,y)::ps,H3,I3,.cons ⟨rx,ry⟩ rel,q3⟩)
def dO(kvs more:List (Key×V)):List (Key×V):=more.foldl (λacc kv=>putK acc kv.1 kv.2) kvs
theorem KV.merge:∀{more:List (Key×V)}{rs:List (Key×Value)}{kvs:List (Key×V)}{vs:List (Key×Value)},KV more rs->KV kvs vs->KV (dO kvs more) (merged vs rs):=by
 intro more rs kvs vs r
 induction r generalizing kvs vs with
 |nil=>intro q;exact q
 | @cons p q ps qs h t ih =>
  intro r0
  have e:KV (putK kvs p.1 p.2) (stored vs q.1 q.2):=by
   have:=r0.put p.1 h.2;rw[<- h.1];exact this
  exact ih e
theorem fG:∀(more kvs:List (Key×V)),(dO kvs more).length<=kvs.length+more.length
 |[],kvs=>by show kvs.length<=kvs.length+0;omega
 |p::r,kvs=>by
  have h1:=fG r (putK kvs p.1 p.2);have h2:=iD kvs p.1 p.2;show(dO (putK kvs p.1 p.2) r).length<=_;rw[S2z];omega
theorem nH:∀{kvs:List (Key×V)}{ws:List (Value×Value)},VV (kvs.map λkv=>(kV kv.1,kv.2)) ws->∃rs,Carries (aV P w) ws rs/\KV kvs rs
 |[],_,r=>by rw[X4z] at r;cases r;exact⟨[],True.intro,.nil⟩
 |p::kvs,_,r=>by
  cases r with
  | @cons a b as bs h t =>
   obtain⟨rs,c,q⟩:=nH t;obtain⟨b1,b2⟩:=b;exact⟨(p.1,b2)::rs,⟨j4 h.1,rfl,c⟩,.cons ⟨rfl,h.2⟩ q⟩
structure M1(X:Cx)(o:Expr)(m:Str)(apos:Pos)(e:Expr)(cpos:Pos):Prop where
 base:attributeBase o m X.env (eval o X.env)=eval o X.env
 few:((backTo cpos (starEach [e] X.env)).all (λx => !x.1)&&(backToKw cpos (keywordEach [] X.env)).all (λx=>x.1.isSome)
  && decide (([e]:List Expr).length+([]:List Keyword).length+(if([]:List Keyword).isEmpty then 0 else 1)<30))=true
 line:(apos.endLine==cpos.line)=true
 trees:backTo cpos (starEach [e] X.env)=[(false,eval e X.env)]
structure M2(X:Cx)(o:Expr)(m:Str)(apos:Pos)(e f:Expr)(cpos:Pos):Prop where
 base:attributeBase o m X.env (eval o X.env)=eval o X.env
 few:((backTo cpos (starEach [e,f] X.env)).all (λx => !x.1)&&(backToKw cpos (keywordEach [] X.env)).all (λx=>x.1.isSome)
  && decide (([e,f]:List Expr).length+([]:List Keyword).length+(if([]:List Keyword).isEmpty then 0 else 1)<30))=true
 line:(apos.endLine==cpos.line)=true
 trees:backTo cpos (starEach [e,f] X.env)=[(false,eval e X.env),(false,eval f X.env)]
def IsD(H:Hp)(a:Addr):Prop:=(∃kvs,Rd H a (.dK kvs))\/∃kvs,Rd H a (.dT kvs)
theorem Hw(I:Inv X y0 Y H s)(d:IsD H a) :
  s.TypeIs (.ref a) "dict"/\(∀b,Value.ref a=.ref b->∃ob,s.heap.get? b=some ob/\ob.dict=none)/\(a==sysModules)=false:=by
 obtain⟨kvs,e⟩|⟨kvs,e⟩:=d
 .obtain⟨_,hd,vs,_,dd⟩:=tU I.hok e
  refine⟨dd.typeIs,λb q=>?_,hd⟩;cases q;obtain⟨ob,_,_,h1,h2,_⟩:=dd;exact⟨ob,h1,h2.2.1⟩
 .obtain⟨_,hd,xs,_,dd⟩:=tO I.hok e
  refine⟨dd.typeIs,λb q=>?_,hd⟩;cases q;obtain⟨ob,_,_,h1,h2,_⟩:=dd;exact⟨ob,h1,h2.2.1⟩
section
variable{X:Cx}{y0:List (Addr×Obj)}{Y:St}{H:Hp}{s:Shared}{a:Addr}{y d:V}{u r:Value}{o:Option V}{A:Around}{E:Value->Shared->Prop}
theorem Qy(hu:A.units+1<cLine)(I:Inv X y0 Y H s)(g:ur H a y o)(ry:RelV y u)(h:∀w' s',Inv X y0 Y H s'->RelV (o.getD .non) w'->Q w' s') :
  wpAny (model X.prog X.w) A (call (.builtin "dict.get") [.ref a,u]) Q E s:=by
 obtain⟨kvs,k,e,ey,l⟩|⟨kvs,k,b,e,ey,eb,l⟩:=g
 .subst ey
  obtain⟨z,hd,vs,rel,dd⟩:=tU I.hok e;refine call_meetsIn S0z dd.typeIs PySem.F.entry_dict_get (PySem.F.args_dict_get_2 _ _) (meets_dict_get (aV X.prog X.w) a (j4 ry) hd) ⟨_,dd.mapOf,h _ _ (I.tok _) ?_⟩;rw[l];exact(rel.val k).getD rfl
 .subst ey
  cases ry;obtain⟨z,hd,xs,rel,dd⟩:=tO I.hok e;refine call_meetsIn S0z dd.typeIs PySem.F.entry_dict_get (PySem.F.args_dict_get_2 _ _) (meetsH_dict_get (tupleKind (aV X.prog X.w)) a b hd) ⟨Y1z hu,k,xs,ni I.hok eb,dd,h _ _ (I.tok _) ?_⟩;rw[l];exact(rel.val k).getD rfl
end
def NP(td ty:TE):TE:=λY H Q=>td Y H λx H1=>∃a,x=.ref a/\IsD H1 a/\ty Y H1 λy H2=>∃o,ur H2 a y o/\Q (o.getD .non) H2
def Ny(td ty:TE):TE:=λY H Q=>td Y H λx H1=>∃a,x=.ref a/\IsD H1 a/\ty Y H1 λy H2=>∃kvs k v,H2 a=some (.dK kvs)/\y=kV k/\jy kvs k=some v/\Q v (upd H2 a (.dK (tR kvs k)))
section
variable{X:Cx}{o e f:Expr}{apos cpos:Pos}{td ty tx:TE}
theorem DQ(hu:X.A.units+1<cLine)(ho:PE X o td)(he:PE X e ty)(m:M1 X o "get" apos e cpos):PE X (.Call (.Attribute o "get" apos) [e] [] cpos) (NP td ty):=by
 intro y0 s Y H Q I h;refine wpAny_Call_method m.base m.few m.line G0z S0z PySem.F.type_dict_get (thn (ho y0 s Y H _ I h) λu s1 ⟨x,H1,I1,rx,a,ex,d,q1⟩=>?_);subst ex;obtain rfl:u=Value.ref a:=rx;obtain⟨t1,t2,_⟩:=Hw I1 d;refine⟨t1,t2,?_⟩;rw[m.trees];exact N0z rfl (A1z (Q1z (thn (he y0 s1 Y H1 _ I1 q1) λiv s2 ⟨y,H2,I2,ry,ov,g,q2⟩=>G2z (Qy hu I2 g ry λw' s3 I3 rw'=>⟨_,H2,I3,rw',q2⟩))))
theorem DG(ho:PE X o td)(he:PE X e ty)(m:M1 X o "pop" apos e cpos):PE X (.Call (.Attribute o "pop" apos) [e] [] cpos) (Ny td ty):=by
 intro y0 s Y H Q I h;refine wpAny_Call_method m.base m.few m.line G0z PySem.F.slot_dict_pop PySem.F.type_dict_pop (thn (ho y0 s Y H _ I h) λu s1 ⟨x,H1,I1,rx,a,ex,d,q1⟩=>?_);subst ex;obtain rfl:u=Value.ref a:=rx;obtain⟨t1,t2,_⟩:=Hw I1 d;refine⟨t1,t2,?_⟩;rw[m.trees];refine N0z rfl (A1z (Q1z (thn (he y0 s1 Y H1 _ I1 q1) λiv s2 ⟨y,H2,I2,ry,kvs,k,v,ea,ey,l,q2⟩=>G2z ?_)));subst ey;exact Uu I2 ea ry l (.inl rfl) λw' s3 I3 rw'=>⟨v,_,I3,rw',q2⟩
end
section
variable{X:Cx}{y0:List (Addr×Obj)}{Y:St}{H:Hp}{s:Shared}{a:Addr}{kvs:List (Key×V)}{A:Around}{E:Value->Shared->Prop}
end
section
variable{X:Cx}{y0:List (Addr×Obj)}{Y:St}{H:Hp}{s:Shared}{a:Addr}{y:V}{u:Value}{A:Around}{E:Value->Shared->Prop}
end
end L2
namespace Att
open PySem PySem.W PySem.Calls PyProof.Rows
section
variable{prog:Program}{w:World}{A:Around}{E:Value->Shared->Prop}{s:Shared}{K:Frag}
end
end Att
namespace L2
open PySem PySem.Spec PyProof.Rows
section
variable{P:Program}{w:World}{K:Zf}{mg:Str->Option Value}{base:Heap}
end
section
variable{X:Cx}
end
section
variable{κ:Type}[DecidableEq κ]
end
def KDc(K:Zf)(a:Addr)(kvs:List (Key×V)):Prop:=∃(o:Obj)(es:Array DictEntry)(n:Nat),K.lookup a=some o/\o.ExactDict/\o.data=.dict es n/\(a==sysModules)=false/\(kvs.map (·.1)).Nodup/\Paired (λ(p:Key×V)(e:DictEntry)=>(∃x t,p.1=.inr x/\e.key=.str x t)/\RelV p.2 e.val) kvs es.toList
def hsO(o:Obj):List Int:=match o.data with|.dict es _=>es.toList.map (·.hash)|_=>[]
def hsX(w:World)(o:Obj):List Int:=match o.data with|.dict es _=>es.toList.map (λe=>match e.key with|.str x _=>hashStr w x|_=>e.hash)|_=>[]
def KnW(K:Zf)(w:World):Prop:=K.map (λp=>hsO p.2)=K.map (λp=>hsX w p.2)
theorem lookup_mem:∀{l:List (Addr×α)}{a:Addr}{o:α},l.lookup a=some o->(a,o)∈l
 |(b,u)::r,a,o,h=>by
  rw[U2z] at h
  cases hb:a==b with
  |true =>
   rw[hb] at h
   have e1:a=b:=by simpa using hb
   cases h;subst e1;exact N1z
  |false =>
   rw[hb] at h;exact X0z _ (lookup_mem h)
theorem KnW.at{K:Zf}(kw:KnW K w)(h:K.lookup a=some o)(hd:o.data=.dict es n):∀e∈es.toList,∀x t,e.key=.str x t->e.hash=hashStr w x:=by
 have:=List.map_inj_left.mp kw (a,o) (lookup_mem h);simp only[hsO,hsX,hd] at this;intro e he x t hk;have q:=List.map_inj_left.mp this e he;rw[hk] at q;exact q
theorem qG(p:Paired (λ(p:Key×V)(e:DictEntry)=>(∃x t,p.1=.inr x/\e.key=.str x t)/\RelV p.2 e.val) kvs es)(hh:∀e∈es,∀x t,e.key=.str x t->e.hash=hashStr w x) :
  ∃vs:List (Key×Value),KV kvs vs/\Pairs (aV P w) es vs/\vs.map (·.1)=kvs.map (·.1)/\∀e∈es,∃k,(aV P w).is k e.key=true/\e.hash=(aV P w).hash k:=by
 induction p with
 |nil=>exact⟨[],.nil,.nil,rfl,λe he=>nomatch he⟩
 | @cons q e kvs es h t ih =>
  obtain⟨vs,h1,h2,h3,h4⟩:=ih λe he=>hh e (X0z _ he);obtain⟨⟨x,tk,g1,g2⟩,g3⟩:=h
  have gi:(aV P w).is q.1 e.key=true:=by
   rw[g1,g2];show Value.isStrOf x (.str x tk)=true;simp[Value.isStrOf]
  refine⟨(q.1,e.val)::vs,.cons ⟨rfl,g3⟩ h1,.cons gi rfl h2,by simp[h3],λe' he=>?_⟩;obtain r|r:=P4z.mp he
  .subst r
   refine⟨q.1,gi,?_⟩;rw[hh _ N1z x tk g2,g1];rfl
  .exact h4 e' r
def DAt(K:Zf)(H:Hp)(a:Addr)(kvs:List (Key×V)):Prop:=(∃o,H a=some (.frz o (.dK kvs)))\/KDc K a kvs
section
variable{X:Cx}{y0:List (Addr×Obj)}{Y:St}{H:Hp}{s:Shared}{a:Addr}{kvs:List (Key×V)}{k:Key}{v d:V}{u r:Value}{A:Around}{E:Value->Shared->Prop}{o i e f:Expr}{td ty tx:TE}{pos apos cpos:Pos}
theorem eG(I:Inv X y0 Y H s)(kw:KnW X.K X.w)(g:DAt X.K H a kvs):(a==sysModules)=false/\∃vs,KV kvs vs/\s.heap.DictOf (aV X.prog X.w) a vs:=by
 obtain⟨o,g⟩|⟨o,es,n,h1,h2,h3,h4,h5,h6⟩:=g
 .exact(I.hok a _ g).2.2
 .obtain⟨vs,g1,g2,g3,g4⟩:=qG h6 (kw.at h1 h3)
  exact⟨h4,vs,g1,o,es,n,I.kIn a o h1,h2,h3,λe he=>g4 e (by simpa using he),g2,by rw[g3];exact h5⟩
theorem Ad(I:Inv X y0 Y H s)(kw:KnW X.K X.w)(g:DAt X.K H a kvs)(l:some v=jy kvs k)(ry:RelV (kV k) u)(h:∀w' s',Inv X y0 Y H s'->RelV v w'->Q w' s') :
  s.TypeIs (.ref a) "dict"/\wpAny (model X.prog X.w) A (getItem (.ref a) u) Q E s:=by
 obtain⟨hd,vs,rel,dd⟩:=eG I kw g;obtain⟨w',hw,rw'⟩:=pI.some_of (by rw[l];exact rel.val k);exact⟨dd.typeIs,wpAny_getItem_of (j4 ry) dd.mapOf hw (h w' _ (I.tok _) rw')⟩
def RQ(K:Zf)(td ty:TE):TE:=λY H Q=>td Y H λx H1=>ty Y H1 λy H2=>∃a v kvs k,x=.ref a/\DAt K H2 a kvs/\y=kV k/\some v=jy kvs k/\Q v H2
theorem JM(kw:KnW X.K X.w)(ho:PE X o td)(hi:PE X i ty)(hs:U9 i):PE X (.Subscript o i pos) (RQ X.K td ty):=by
 intro y0 s Y H Q I h;refine yC PySem.F.slot_dict_getitem.lookup hs (thn (ho y0 s Y H _ I h) λu s1 ⟨x,H1,I1,rx,q1⟩=>thn (hi y0 s1 Y H1 _ I1 q1) λiv s2 ⟨y,H2,I2,ry,a,v,kvs,k,ex,g,ey,l,q2⟩=>?_);subst ex;subst ey;obtain rfl:u=Value.ref a:=rx;exact Ad I2 kw g l ry λw' s3 I3 rw'=>⟨v,H2,I3,rw',q2⟩
end
end L2
namespace L2
open PySem PySem.Spec PySem.Calls PyProof.Rows
theorem Ec(x:cX P w H h a o):∃u,h.get? a=some u:=by
 cases o with
 |lst xs=>obtain⟨_,_,_,_,e⟩:=x;exact⟨_,e⟩
 |tup xs=>obtain⟨_,_,_,p⟩:=x;obtain⟨o,e,_⟩:=p;exact⟨_,e⟩
 |dK kvs=>obtain⟨_,_,_,_,o,_,_,e,_⟩:=x;exact⟨_,e⟩
 |dT kvs=>obtain⟨_,_,_,_,o,_,_,e,_⟩:=x;exact⟨_,e⟩
 |set S n=>obtain⟨o,_,_,_,e,_⟩:=x;exact⟨_,e⟩
 |ins C dx fs=>obtain⟨_,_,_,e,_⟩:=x;exact⟨_,e⟩
 |own y=>obtain⟨_,e⟩:=x;exact⟨_,e⟩
 |xd fs=>obtain⟨_,⟨_,_,_,e,_⟩,_⟩:=x;exact⟨_,e⟩
 |rng lo hi=>obtain⟨_,_,_,e⟩:=x;exact⟨_,e⟩
 |frz ob u=>obtain⟨e,_⟩:=x;exact⟨_,e⟩
 |tbl ps=>exact⟨_,x⟩
 |met f y=>exact⟨_,x⟩
 |ext φ=>obtain⟨_,⟨_,e⟩,_⟩:=x;exact⟨_,e⟩
theorem Inv.laidAt(I:Inv X y0 Y H s)(k:∀b u,s.heap.get? b=some u->h'.get? b=some u)(hn:s.heap.get? a=none)(new:cX X.prog X.w (upd H a o) h' a o) :
  H a=none/\Inv X y0 Y (upd H a o) {s with heap:=h',toks:=t'}:=by
 have hH:H a=none:=by
  cases q:H a with
  |none=>rfl
  |some u =>
   obtain⟨z,e⟩:=Ec (I.hok a u q);rw[hn] at e;cases e
 refine⟨hH,I.un ⟨λb u q _ _ _=>k b u q,λb u q _ _ _=>⟨u.slots,k b u q⟩,λb u q n _=>?_,λb u q _=>⟨u,k b u q⟩,λb xs q=>by rw[ak (aj q hH)];exact q,λb u xs q=>by rw[ak (aj q hH)];exact q,λb ps q=>⟨#[],by rw[ak (aj q hH),q];simp⟩⟩ λb u e=>?_⟩
 .rw[ak (λz=>by rw[z,hn] at q;cases q)];exact n
 .by_cases hb:b=a
  .subst hb;rw[au] at e;cases e;exact new
  .rw[ak hb] at e
   exact(I.hok b u e).stay (λc v _ q=>k c v q) (λc q=>by rw[ak (aj q hH)];exact q) λc xs q=>by rw[ak (aj q hH)];exact q
section
variable{X:Cx}
theorem yD:∀(l:List Value)(ks:List Str),l.length=ks.length->(∀(i:Nat)(x:Value),l[i]?=some x->∃k t,ks[i]?=some k/\x=.str k t)->StrsAre l ks
 |[],[],_,_=>.nil
 |x::l,k::ks,h,f=>by
  obtain⟨k',t,e1,rfl⟩:=f 0 x rfl;cases (show k=k' by simpa using e1);exact .cons k t (yD l ks (by simpa using h) λi y e=>f (i+1) y e)
 |[],_::_,h,_=>by simp at h
 |_::_,[],h,_=>by simp at h
theorem pZ:∀{l:List Value}{ks:List Str},StrsAre l ks->Vals (ks.map V.str) l
 |_,_,.nil=>.nil
 |_,_,.cons k t r=>.cons ⟨t,rfl⟩ (pZ r)
theorem z7:∀{kvs:List (κ×V)}{ws:List (κ×Value)},KV kvs ws->ws.map (·.1)=kvs.map (·.1)
 |_,_,.nil=>rfl
 |_,_,.cons h r=>by rw[I4z,I4z,z7 r,h.1]
theorem jT(hc:X.calm=true):dz X (.builtin "sorted") (λxs H Q=>∃(d:Addr)(kvs:List (Key×V))(ks:List Str),xs=[.ref d]/\(∀y0 Y s,Inv X y0 Y H s->(d==sysModules)=false/\∃vs,KV kvs vs/\s.heap.DictOf (aV X.prog X.w) d vs)/\kvs.map (·.1)=ks.map Sum.inr/\ks.length<64/\∀a ss,H a=none->ss.Perm ks->sortedS ss=true->Q (.ref a) (upd H a (.lst (ss.map V.str)))):=by
 intro y0 s Y H vs us Q I r h;obtain⟨d,kvs,ks,rfl,hd,hks,h64,q⟩:=h
 obtain⟨u,rfl,rfl⟩:∃u,us=[u]/\u=Value.ref d:=by
  cases r with
  |cons r1 r2=>cases r2;exact⟨_,rfl,r1⟩
 obtain⟨lo,ws,kv,hD⟩:=hd _ _ _ I;obtain⟨ep,hat⟩:=hD.dictAt;have hkw:=(z7 kv).trans hks
 have hlw:ws.length=ks.length:=by simpa using congrArg List.length hkw
 have h64s:(64:Nat)<=sizeLine:=by decide
 refine call_function_entry kind_sorted plain_sorted entry_sorted (args_sorted1 _) ?_;refine I5z (J5z ?_);refine I5z (W.kdu_collect (W.kdl_dict lo) (I.ok.hd hc) hat (by show ws.length<=sizeLine;omega) λh' tk acc hk hacc=>?_)
 have hl:acc.toList.length=ks.length:=by rw[D1z,<- hlw];exact hacc.1
 have hS:=yD _ _ hl λi x e=>by
  obtain⟨k',y,e1,e2⟩:=hacc.2 i x (by rw[<- Array.getElem?_toList];exact e)
  have e3:(ws.map (·.1))[i]?=some k':=by rw[List.getElem?_map,e1];rfl
  rw[hkw,List.getElem?_map,O0z] at e3;obtain⟨k,e3,rfl⟩:=e3;rw[wJ] at e2;obtain⟨i,t,e4,_⟩|⟨z,t,e4,e5⟩:=bJ e2
  .cases e4
  .cases e4;exact⟨_,t,e3,e5⟩
 generalize acc.toList=al at hl hS;refine I5z (wpAny_newList ?_ (by show al.toArray.size<=sizeLine;rw[H2z];omega));have hoL:(h'.push {cls:=.type "list",data:=.seq al.toArray}).get? h'.objs.size=some (seqObj "list" al.toArray 0):=Heap.get?_push_size _ rfl;refine I5z (L4z (W2z slot_list_sort ⟨_,hoL,rfl⟩ entry_list_sort ?body (args_list_sort _)))
 case body =>
  refine list_sort_treeK strKind_oneLt hoL hS.keysOf (λv1 v2 rest e=>keyKind_strs (by rw[<- e];exact hS)) (by omega) λst' hp hs=>?_
  obtain⟨ss,g1,g2,g3⟩:=sorted_out_str hS hp hs;generalize (arrOf st').map (·.2)=out at g1;refine⟨_,rfl,J5z ⟨_,rfl,?_⟩⟩
  have hn:s.heap.get? h'.objs.size=none:=by
   cases e:s.heap.get? h'.objs.size with
   |none=>rfl
   |some o=>exact absurd (R4z (hk _ _ e)) (G4z _)
  obtain⟨ep',hat'⟩:=sortedHeap_at hoL
  obtain⟨hH,J⟩:=I.laidAt (o:=.lst (ss.map V.str)) (λb u e=>by
   have e':=hk b u e;rw[sortedHeap_old (S4z (R4z e')) (by rw[B4z];exact J2z (R4z e'))]
   exact Heap.get?_push_of_some _ e') hn ⟨by show(ss.map V.str).length<=sizeLine;rw[K3z,g2.length_eq];omega,out.toList,ep',pZ g1,hat'⟩
  exact⟨V.ref h'.objs.size,_,J,rfl,q _ _ hH g2 g3⟩
theorem qZ(hc:X.calm=true):dz X (.builtin "sorted") (λxs H Q=>∃(d:Addr)(kvs:List (Key×V))(ks:List Str),xs=[.ref d]/\H d=some (.dK kvs)/\kvs.map (·.1)=ks.map Sum.inr/\ks.length<64/\∀a ss,H a=none->ss.Perm ks->sortedS ss=true->Q (.ref a) (upd H a (.lst (ss.map V.str)))):=by
 intro y0 s Y H vs us Q I r h;obtain⟨d,kvs,ks,e,hd,h⟩:=h;exact jT hc y0 s Y H vs us Q I r ⟨d,kvs,ks,e,λ_ _ _ I=>(I.hok d _ hd).2,h⟩
end
end L2
namespace L2
open PySem PySem.Spec PyProof.Rows
section
variable{P:Program}{w:World}{H H':Hp}{h h':Heap}{a:Addr}{o:HO}
theorem cX.there(x:cX P w H h a o):∃ob,h.get? a=some ob:=by
 cases o with
 |lst xs=>obtain⟨_,_,_,_,e⟩:=x;exact⟨_,e⟩
 |tup xs=>obtain⟨_,_,_,ob,e,_⟩:=x;exact⟨_,e⟩
 |dK kvs=>obtain⟨_,_,_,_,o,_,_,e,_⟩:=x;exact⟨_,e⟩
 |dT kvs=>obtain⟨_,_,_,_,o,_,_,e,_⟩:=x;exact⟨_,e⟩
 |set S n=>obtain⟨o,_,_,_,e,_⟩:=x;exact⟨_,e⟩
 |ins C dx fs=>obtain⟨_,_,_,e,_⟩:=x;exact⟨_,e⟩
 |own y=>exact x
 |xd fs=>obtain⟨_,⟨_,_,_,e,_⟩,_⟩:=x;exact⟨_,e⟩
 |rng lo hi=>obtain⟨_,_,_,e⟩:=x;exact⟨_,e⟩
 |frz ob u=>obtain⟨e,_⟩:=x;exact⟨_,e⟩
 |tbl ps=>exact⟨_,x⟩
 |met f y=>exact⟨_,x⟩
 |ext φ=>exact x.2.1
theorem HOk.none_of(x:HOk P w H h)(e:h.get? a=none):H a=none:=by
 cases q:H a with
 |none=>rfl
 |some u =>
  obtain⟨ob,r⟩:=(x a u q).there;rw[e] at r;cases r
theorem HOk.part(x:HOk P w H h)(k:∀b u ob,H b=some u->h.get? b=some ob->B.get? b=some ob):HOk P w H B:=λb u e=>by
 refine(x b u e).stay (λc v hc q=>?_) (λ_ q=>q) λ_ _ q=>q;obtain rfl|hc:=hc
 .exact k _ _ _ e q
 .exact k _ _ _ hc q
end
section
variable{fs fs' ex:List Addr}{H H':Hp}{h h1 h2 B:Heap}
theorem Un.fly(U:Un fs [] H H' h h1)(kB:∀b o,h.get? b=some o->H b=none->b∉fs->B.get? b=some o)(tB:∀b o,h.get? b=some o->b∉fs->∃o',B.get? b=some o')(st:B.StaysIn h2)
  (nf:∀b∈fs,∀o,h1.get? b=some o->∀vs,o.data≠.fields vs) (up:h1.UpToSlots h2):Un fs [] H H' h h2 where
 keep:=λb o q n hb _=>st b o (kB b o q n hb)
 slot:=λb o q n hb hx=>by
  obtain⟨sl,e⟩:=U.slot b o q n hb hx;obtain⟨sl',e'⟩:=up b _ e (nf b hb _ e);exact⟨sl',e'⟩
 free:=U.free
 there:=λb o q hx=>by
  by_cases hb:b∈fs
  .obtain⟨o',e⟩:=U.there b o q hx
   obtain⟨sl,e'⟩:=up b _ e (nf b hb _ e);exact⟨_,e'⟩
  .obtain⟨o',e⟩:=tB b o q hb
   exact⟨o',st b o' e⟩
 tups:=U.tups
 frzs:=U.frzs
 tbls:=U.tbls
theorem Un.restrict(U:Un fs' ex H H' h h1)(hs:∀b o,b∈fs'->h.get? b=some o->b∈fs):Un fs ex H H' h h1 where
 keep:=λb o q n hb hx=>U.keep b o q n (λz=>hb (hs b o z q)) hx
 slot:=λb o q n _ hx=>U.any q n hx
 free:=U.free
 there:=U.there
 tups:=U.tups
 frzs:=U.frzs
 tbls:=U.tbls
end
structure Fly(P:Program)(w:World)(outer:List Env)(H:Hp)(s:Shared)(H':Hp)(ea:Addr)(cls:Value)(s':Shared):Prop where
 os:s'.os=s.os
 bare:AllBare s'.gens
 un:Un (frs outer) [] H H' s.heap s'.heap
 fly:∃B a0,Heap.FlyingW B outer ea cls a0 s'.heap/\HOk P w H' B/\(∀b o,s.heap.get? b=some o->H b=none->b∉frs outer->B.get? b=some o)/\(∀b o,s.heap.get? b=some o->b∉frs outer->∃o',B.get? b=some o')
 fresh:s.heap.get? ea=none
def CX1(P:Program)(w:World):CXT:=λouter H s E e s'=>∃ea cls H',e=.ref ea/\Fly P w outer H s H' ea cls s'/\H' ea=none/\E cls none H'
theorem lN:Passes (CX1 P w) X E0:=λ_ _ _ _ _ _ _ h=>by obtain⟨_,_,_,_,_,_,z⟩:=h;exact z.elim
theorem zO{B h:Heap}(f:h.FunFrames B l):∀b∈frs l,∀o,h.get? b=some o->∀vs,o.data≠.fields vs:=λb hb o e=>by
 obtain⟨_,o',e',hd⟩:=f.mem hb;rw[e] at e';cases e';exact hd
section
variable{P:Program}{w:World}{K:Zf}{mg:Str->Option Value}{base:Heap}{N:List Str}{qual:Str}{scope:Scope}{f:Addr}{cd:Value}{A:Around}{outer:List Env}{s:Shared}{H:Hp}{E:XK}
theorem oN(hf:env.frame=some L):frs (env::outer)=L::frs outer:=by
 unfold frs;rw[C1z,hf]
theorem aP:Passes (CX1 P w) (gW (CX1 P w) P w K mg base N qual scope f cd A outer s H E) E:=by
 intro y0 Y H1 s1 e s' I h;obtain⟨ea,cls,H',rfl,Fl,hn,hE⟩:=h;obtain⟨B,a0,fl,hokB,kB,tB⟩:=Fl.fly;have hfr:frs (gW (CX1 P w) P w K mg base N qual scope f cd A outer s H E).stack=s.heap.objs.size::frs outer:=oN rfl;have nL:∀b o,s.heap.get? b=some o->b≠s.heap.objs.size:=λb o q=>S4z (R4z q)
 have nin:∀b o,s.heap.get? b=some o->b∉frs outer->b∉frs (gW (CX1 P w) P w K mg base N qual scope f cd A outer s H E).stack:=λb o q hb z=>by
  obtain z|z:=P4z.mp z
  .exact nL b o q z
  .exact hb z
 have noex:∀b:Addr,b∉(gW (CX1 P w) P w K mg base N qual scope f cd A outer s H E).ex:=λb z=>absurd (show b∈([]:List Addr) from z) (by simp);refine wpAny_leaves_onW I.ok.frames rfl fl λh2 fl2 up=>?_;refine⟨ea,cls,H',rfl,⟨Fl.os.trans I.os,Fl.bare,?_,⟨B,a0,fl2,hokB,λb o q n hb=>?_,λb o q hb=>?_⟩,?_⟩,hn,hE⟩
 .have U1:=Un.fly Fl.un kB tB fl2.1 (zO fl.2.2.1) up
  exact((I.base.mono (λb hb=>by rw[hfr];exact X0z _ hb) (λb hb=>hb)).trans U1).restrict λb o hb q=>by
   obtain z|z:=P4z.mp hb
   .exact absurd z (nL b o q)
   .exact z
 .exact kB b o (I.base.keep b o q n hb (noex b)) (I.base.free b o q n (noex b)) (nin b o q hb)
 .obtain⟨o1,q1⟩:=I.base.there b o q (noex b)
  exact tB b o1 q1 (nin b o q hb)
 .cases q:s.heap.get? ea with
  |none=>rfl
  |some o =>
   obtain⟨o1,q1⟩:=I.base.there ea o q (noex ea);rw[Fl.fresh] at q1;cases q1
theorem mZ(I:Inv (gW (CX1 P w) P w K mg base N qual scope f cd A outer s H E) y0 Y H1 s1)(hx:Heap.MadeExcOf s1.heap h' e (.ref C) args)(hE:E (.ref C) none H1) :
  (gW (CX1 P w) P w K mg base N qual scope f cd A outer s H E).xe (.ref e) {s1 with heap:=h'}:=by
 have hfr:frs (gW (CX1 P w) P w K mg base N qual scope f cd A outer s H E).stack=s.heap.objs.size::frs outer:=oN rfl;have nL:∀b o,s.heap.get? b=some o->b≠s.heap.objs.size:=λb o q=>S4z (R4z q)
 have nin:∀b o,s.heap.get? b=some o->b∉frs outer->b∉frs (gW (CX1 P w) P w K mg base N qual scope f cd A outer s H E).stack:=λb o q hb z=>by
  obtain z|z:=P4z.mp z
  .exact nL b o q z
  .exact hb z
 have noex:∀b:Addr,b∉(gW (CX1 P w) P w K mg base N qual scope f cd A outer s H E).ex:=λb z=>absurd (show b∈([]:List Addr) from z) (by simp);show wpAny _ _ (leaving _ (.ref e)) _ _ _;have kB:∀b o,s1.heap.get? b=some o->b∉frs (gW (CX1 P w) P w K mg base N qual scope f cd A outer s H E).stack->(W.hideAll s1.heap (frs (gW (CX1 P w) P w K mg base N qual scope f cd A outer s H E).stack)).get? b=some o:=λb o q hb=>B1z _ q hb;refine wpAny_leaves_madeW I.ok.frames rfl (λb o q=>M1z _ q) (W.funFrames_hide I.stack (λenv he b hb=>List.mem_filterMap.mpr ⟨env,he,hb⟩)) hx λh2 t x1 x2 x3 x4=>?_;have up:=(Heap.UpToSlots.of_keeps hx.keeps).trans x4
 have hok:=HOk.part I.hok λb u ob hu q=>kB b ob q λz=>by
  rw[I.stkFree b z] at hu;cases hu
 refine⟨e,.ref C,H1,rfl,⟨I.os,I.bare,?_,⟨_,_,x1,hok,λb o q n hb=>?_,λb o q hb=>?_⟩,?_⟩,(HOk.none_of I.hok hx.new),hE⟩
 .have U1:Un (frs (gW (CX1 P w) P w K mg base N qual scope f cd A outer s H E).stack) [] H1 H1 s1.heap h2:=Un.fly Un.refl (λb o q _ hb=>kB b o q hb) (λb o q hb=>⟨o,kB b o q hb⟩) x1.1 (zO I.stack) up
  exact((I.base.mono (λb hb=>by rw[hfr];exact X0z _ hb) (λb hb=>hb)).trans U1).restrict λb o hb q=>by
   obtain z|z:=P4z.mp hb
   .exact absurd z (nL b o q)
   .exact z
 .exact kB b o (I.base.keep b o q n hb (noex b)) (nin b o q hb)
 .obtain⟨o1,q1⟩:=I.base.there b o q (noex b)
  exact⟨o1,kB b o1 q1 (nin b o q hb)⟩
 .cases q:s.heap.get? e with
  |none=>rfl
  |some o =>
   obtain⟨o1,q1⟩:=I.base.there e o q (noex e);have:=hx.new;rw[this] at q1;cases q1
end
def nsOk(K:Zf)(N:Addr):Bool:=match K.lookup N with
 |some ⟨_,_,.dict es _,_⟩=>es.toList.all (λe=>match e.key with|.str _ _=>true|_=>false)&&(W.nsIn K N "__init__"==some none)
 |_=>false
def xIn(K:Zf)(C M:Addr):Bool:=match K.lookup C,K.lookup M with
 |some ⟨.type "type",_,.cls cd,sl⟩,some ⟨_,_,.cls cdM,_⟩ =>
  (match sl.toList with|[_,_,_,_,some (.builtin n),_]=>n=="ValueError.__new__"|_=>false)&&cd.mro==[.ref C,.ref M,.type "ValueError",.type "Exception",.type "BaseException",.type "object"] && !cd.hasDel&&nsOk K cd.ns&&nsOk K cdM.ns
 |_,_=>false
theorem zN{K:Zf}(e:nsOk K N=true):∃mN:Str->Option Value,mN "__init__"=none/\∀h:Heap,K.In h->h.Ns N mN:=by
 unfold nsOk at e;split at e
 .rename_i c d es n sl ho
  rw[A3z] at e;refine⟨nsFind es,?_,λh X=>⟨_,es,n,X _ _ ho,rfl,λen hen=>?_,λ_=>rfl⟩⟩
  .have e2:W.nsIn K N "__init__"=some none:=by simpa using e.2
   unfold W.nsIn at e2;rw[ho] at e2;simp only at e2;unfold nsFind findBy;rw[<- Array.find?_toList];split at e2
   .cases e2
   .rename_i q
    rw[q];rfl
  .have:=G3z.mp e.1 en (by simpa using hen)
   split at this
   .rename_i x t hk;exact⟨x,t,hk⟩
   .cases this
 .cases e
theorem M9{K:Zf}(e:xIn K C M=true):∃nm q N bs hdct sn sub ab col dd k0 k1 k2 k3 k5 mN,mN "__init__"=none/\∀h:Heap,K.In h ->
  h.get? C=some (excClassObj nm q C N bs [.ref M,.type "ValueError",.type "Exception",.type "BaseException",.type "object"] hdct sn sub ab col dd k0 k1 k2 k3 k5 "ValueError.__new__")/\h.Ns N mN /\
   OwnTail h [.type "ValueError",.type "Exception",.type "BaseException",.type "object"] [.ref M,.type "ValueError",.type "Exception",.type "BaseException",.type "object"]:=by
 unfold xIn at e;split at e
 .rename_i dd cd sl cM dM cdM slM hC hM
  simp[A3z,M2z] at e;obtain⟨⟨⟨⟨e1,e2⟩,e3⟩,e4⟩,e5⟩:=e;split at e1
  .rename_i k0 k1 k2 k3 n k5 hs
   have en:n="ValueError.__new__":=by simpa using e1
   subst en
   have hsl:sl = #[k0,k1,k2,k3,some (.builtin "ValueError.__new__"),k5]:=by
    obtain⟨l⟩:=sl;simp only at hs;rw[hs]
   have em:cd.mro=[.ref C,.ref M,.type "ValueError",.type "Exception",.type "BaseException",.type "object"]:=by simpa using e2
   obtain⟨nm,bs,mro,ns,qn,hd,sn,sub,ab,col,del⟩:=cd;subst em e3 hsl;obtain⟨mN,n2,n1⟩:=zN e4;obtain⟨mM,m2,m1⟩:=zN e5;exact⟨_,_,_,_,_,_,_,_,_,_,_,_,_,_,_,mN,n2,λh X=>⟨X _ _ hC,n1 h X,.own (X _ _ hM) (m1 h X) m2 .base⟩⟩
  .cases e1
 .cases e
section
variable{X:Cx}
theorem uM(I:Inv X y0 Y H s)(hc:X.A.handled=none)(hg:Gl X x)(hm:X.mg x=some (.ref C))(hd:(x==("__debug__":Str))=false)(hx:xIn X.K C M=true)
  (k:∀(s2:Shared)(h':Heap)(e:Addr)(args:List Value),Inv X y0 Y H s2->Heap.MadeExcOf s2.heap h' e (.ref C) args->X.xe (.ref e) {s2 with heap:=h'}) :
  wpAny (model X.prog X.w) X.A (exec (.Raise (some (.Call (.Name x np) [.Constant (.str txt) j p1] [] cpos)) none pos) X.env) Q X.xe s:=by
 obtain⟨nm,q,N,bs,hdct,sn,sub,ab,col,dd,k0,k1,k2,k3,k5,mN,hni,fx⟩:=M9 hx
 refine wpAny_Raise_call_subU (nm:=nm) (q:=q) (N:=N) (bs:=bs) (hdct:=hdct) (sn:=sn) (sub:=sub) (ab:=ab) (col:=col) (dd:=dd) (k0:=k0) (k1:=k1) (k2:=k2) (k3:=k3) (k5:=k5)
  F.excBase_ValueError rfl F.excBase_ValueError ((fx _ I.kIn).2.2.hasType F.excBase_ValueError.hasBase) hc rfl hni (gq I hg hm ⟨rfl,?_⟩ hd)
 have ha:PA X [.Constant (.str txt) j p1] (NQ (tC (.str txt)) Q7):=aB lK aM;refine A1z (H5z (ha cpos y0 s Y H (λvs H1=>vs.length<=1/\H1=H) I ⟨B5z _,rfl⟩) (λus s2 hq=>?_) λ_ _ y=>y);obtain⟨vs,H1,I1,r,q1,rfl⟩:=hq;obtain⟨f1,f2,f3⟩:=fx _ I1.kIn
 have h1:(1:Nat)<=sizeLine:=by decide
 have h2:=r.length;exact⟨rfl,(show us.length<=sizeLine by omega),f1,f2,f3,λh' e hm'=>k s2 h' e us I1 hm'⟩
end
abbrev Cx.inSuite(X:Cx)(e:Value)(xe:Value->Shared->Prop):Cx:={X with A:=X.A.mark (some e),calm:=false,xe:=xe}
section
variable{X:Cx}{y0:List (Addr×Obj)}{Y:St}{H H':Hp}{s s':Shared}{e:Value}{xe:Value->Shared->Prop}
theorem Inv.inSuite(I:Inv X y0 Y H s)(e:Value)(xe:Value->Shared->Prop):Inv (X.inSuite e xe) y0 Y H s :=
 ⟨⟨I.ok.mod,I.ok.kind,I.ok.glob,I.ok.blt,I.ok.above,I.ok.inj,I.ok.has,I.ok.cab,λz=>(nomatch z),I.ok.frames,I.ok.stk,I.ok.exf,I.ok.bs,I.ok.bsz,I.ok.noex,I.ok.exfs,I.ok.funs,I.ok.frf⟩,I.os,I.bare,I.base,I.loc,I.cell,I.free,I.freeC,I.pin,I.hok,I.len⟩
theorem Inv.outSuite(ok:X.Ok)(I:Inv (X.inSuite e xe) y0 Y H s):Inv X y0 Y H s:=⟨ok,I.os,I.bare,I.base,I.loc,I.cell,I.free,I.freeC,I.pin,I.hok,I.len⟩
theorem Inv.unbound(I:Inv X y0 Y H s)(hN:X.N.Nodup)(hi:X.N[i]?=some x)(hm:s.heap.Ns X.env.locals m)(hn:h'.Ns X.env.locals (λy=>if y=x then v else m y))(hs:Heap.SameBut X.env.locals s.heap h') :
  Inv X y0 (Y.set i none) H {s with heap:=h',toks:=t'}:=by
 have cne:=I.cne
 have hiY:i<Y.length:=by rw[I.len];exact(List.getElem?_eq_some_iff.mp hi).1
 obtain⟨m0,hn0,hl⟩:=id I.loc
 have hmm:∀y,m0 y=m y:=λy=>by
  obtain⟨o1,es1,ep1,g1,g2,_,g3⟩:=hn0;obtain⟨o2,es2,ep2,f1,f2,_,f3⟩:=hm;rw[g1] at f1;cases f1;rw[g2] at f2;cases f2;rw[<- g3,<- f3]
 obtain⟨oL,_,_,hoL,_⟩:=id hn0
 have tracked:HOk X.prog X.w H h':=λb ob e=>by
  refine(I.hok b ob e).stay (λc w' hc q=>(hs.2 c ?_).trans q) (λ_ q=>q) λ_ _ q=>q;rintro rfl;rcases hc with rfl|hc
  .rw[I.free] at e;cases e
  .rw[I.free] at hc;cases hc
 refine⟨I.ok,I.os,I.bare,⟨λb o e n hb hx=>?_,λb o e n hb hx=>?_,I.base.free,λb o e hx=>?_,I.base.tups,I.base.frzs,I.base.tbls⟩,⟨_,hn,λj y v' e1 e2 e3=>?_⟩,λy c e=>?_,I.free,I.freeC,λp hp=>?_,tracked,by simpa using I.len⟩
 .exact(hs.2 b (S4z (L1z (R4z e) I.ok.above))).trans (I.base.keep b o e n hb hx)
 .obtain⟨sl,e1⟩:=I.base.slot b o e n hb hx
  exact⟨sl,(hs.2 b (S4z (L1z (R4z e) I.ok.above))).trans e1⟩
 .obtain⟨o',e1⟩:=I.base.there b o e hx
  exact⟨o',(hs.2 b (S4z (L1z (R4z e) I.ok.above))).trans e1⟩
 .by_cases hj:j=i
  .subst hj
   rw[List.getElem?_set_self hiY] at e2;cases e2
  .rw[List.getElem?_set_ne (R5z hj)] at e2
   obtain⟨u',r',q⟩:=hl j y v' e1 e2 e3;refine⟨u',r',?_⟩;rcases q with⟨k,e⟩|⟨k,c,e,z⟩
   .refine .inl ⟨k,?_⟩
    have:y≠x:=λe=>hj (oE hN e1 (e▸hi));simp[this];rw[<- hmm];exact e
   .exact .inr ⟨k,c,e,z.sameBut hs (cne y c e)⟩
 .obtain⟨w',z⟩:=I.cell y c e
  exact⟨w',z.sameBut hs (cne y c e)⟩
 .obtain⟨e,n,ne,nf,d⟩:=I.pin p hp
  exact⟨(hs.2 p.1 ne).trans e,n,ne,nf,d⟩
end
def isX(a:Addr)(cls:Value)(h:Heap):Prop:=∃o,h.get? a=some o/\o.cls=cls/\∃vs,o.data=.fields vs
theorem Qf(x:isX a cls h):cX P w H h a (.ext (isX a cls)) :=
 ⟨x,let ⟨o,e,_⟩:=x;⟨o,e⟩,λ_ _ ⟨o,e,r⟩ k=>⟨o,k o e,r⟩⟩
section
variable{X:Cx}{y0:List (Addr×Obj)}{Y:St}{H H':Hp}{s s':Shared}{ea:Addr}{cls:Value}
theorem Fly.lands(I:Inv X y0 Y H s)(Fl:Fly X.prog X.w X.stack H s H' ea cls s')(hokB:HOk X.prog X.w H' B)(U:Un (frs X.stack) [] H H' s.heap h2)(st:B.StaysIn h2):Inv X y0 Y H' {s' with heap:=h2,toks:=t'} :=
 I.call' (s':={s' with heap:=h2,toks:=t'}) Fl.os U (hokB.kept st) Fl.bare (λb z=>absurd z (by simp))
end
def nM(K:Zf)(C:Addr):Bool :=
 W.findIn K (.ref C) "__getattribute__"==some (some (.builtin "BaseException.__getattribute__"))&&W.findIn K (.ref C) "__getattr__"==some none&&W.findIn K (.ref C) "__class__"==some (some (.builtin "object.__class__")) &&
  W.mroIn K C (.type "object")==some true&&W.mroIn K C (.type "BaseException")==some true&&(W.clsIn K C).isSome
section
open PySem.Builtin PySem.Builtin.ObjectAttr PySem.Builtin.Getset_descriptor
variable{prog:Program}{w:World}{A:Around}{E:Value->Shared->Prop}{K:Zf}{h:Heap}{g:Array GenState}{d:Drawn}{t:Nat}{os:OsState}{a C:Addr}{o:Obj}
theorem xty(hx:h.get? a=some o)(hc:o.cls=.ref C):W.Looks M h (typeOf (.ref a)) (.ref C):=hc▸(W.Looks.ld hx).andThen .now
theorem v7(X:K.In h)(hx:h.get? a=some o)(hc:o.cls=.ref C)(hm:W.mroIn K C (.type "object")=some true)(hq:R (.ok (.ret (.ref C))) ⟨h,g,d,t,os⟩) :
  codeAny (model prog w) A (.call (.builtin "getset_descriptor.__get__") ⟨[.builtin "object.__class__",.ref a,.ref C],[]⟩) R ⟨h,g,d,t,os⟩:=by
 have hT5:(⟨h,g,d,t,os⟩:Shared).TypeIs (.builtin "object.__class__") "getset_descriptor":=T0z;have L0:=xty (M:=model prog w) hx hc;have L1:=W.looks_mroIn (M:=model prog w) X hm;refine codeAny_call_builtin W.KF.slot_gs.plain W.KF.entry_gs (W.KF.slot_gs.check _ _ _ _ _ _ _ _ W.KF.type_class (W.KF.args_gs _ _ _) ?_);unfold Builtin.«getset_descriptor.__get__» descrGet;rw[W.dga_obj];refine I5z (J5z ?_);unfold descrGetter descrCheckInstance descrNameAndClass isInstance;simp only[W.KF.owner_class]
 repeat lk
 refine⟨Code.quiet_builtin _ (by decide +kernel),S3z W.KF.entry_class ?_⟩;unfold Builtin.«object.__class__» shownTypeOf
 repeat lk
 exact hq
theorem pP(X:K.In h)(hx:h.get? a=some o)(hc:o.cls=.ref C)(hm:W.mroIn K C (.type "object")=some true)(hf:W.findIn K (.ref C) "__class__"=some (some (.builtin "object.__class__")))(hq:Q (.done (.ret (.ref C))) ⟨h,g,d,t,os⟩) :
  wpAny (model prog w) A (Builtin.«object.__getattribute__» ⟨[.ref a,.str "__class__" tk],[]⟩) Q E ⟨h,g,d,t,os⟩:=by
 have hT5:(⟨h,g,d,t,os⟩:Shared).TypeIs (.builtin "object.__class__") "getset_descriptor":=T0z;have f5:=T0z;have f6:=F.slot_gs_get.lookup;have f7:=F.slot_gs_set.lookup;have LF:=Z0z (M:=model prog w) X hf
 repeat (any_goals (first|assumption|(with_reducible refine wpAny_loadPart_at hx ?_;rw[hc])|with_reducible refine LF.at ?_|wp_step))
 refine v7 X hx hc hm ?_
 repeat (any_goals (first|assumption|wp_step))
theorem pQ(X:K.In h)(hx:h.get? a=some o)(hc:o.cls=.ref C)(hm:W.mroIn K C (.type "BaseException")=some true)(hq:Q () ⟨h,g,d,t,os⟩):wpAny M A (checkBuiltinCall "BaseException.__getattribute__" ⟨[.ref a,nameV],[]⟩) Q E ⟨h,g,d,t,os⟩:=by
 have hk:builtinKind "BaseException.__getattribute__"=some .slot:=by decide +kernel
 have hsplit:splitId "BaseException.__getattribute__"=some ("BaseException","__getattribute__"):=by decide +kernel
 have ha:=F.args_bexc_ga (.ref a) nameV;have LM:=W.looks_mroIn (M:=M) X hm;simp only[checkBuiltinCall,hk,hsplit];refine I5z ?_
 .unfold isInstance
  repeat (first|(with_reducible refine wpAny_loadPart_at hx ?_;rw[hc])|with_reducible refine LM.at ?_|wp_step)
  exact hq
theorem xO{fill expr:Bool}(X:K.In h)(hx:h.get? a=some o)(hc:o.cls=.ref C)(hA:nM K C=true)(hq:Q (.ref C) ⟨h,g,d,t,os⟩) :
  wpAny (model prog w) A (getAttrBy (.ref a) (.str "__class__" tk) fill expr) Q E ⟨h,g,d,t,os⟩:=by
 unfold nM at hA;simp only[A3z,beq_iff_eq] at hA;obtain⟨⟨⟨⟨⟨g1,g2⟩,g3⟩,g4⟩,g5⟩,g6⟩:=hA;have f3:=F.excAttr_ValueError.ga.bind (.ref a)
 have hx0:(expr&&onTheHeap (Value.builtin "BaseException.__getattribute__"))=false:=by cases expr<;>rfl
 have hx2:(Value.builtin "BaseException.__getattribute__"==Value.builtin "object.__getattribute__")=false:=by decide +kernel
 have L1:=Z0z (M:=model prog w) X g1
 repeat (any_goals (first|assumption|(with_reducible refine wpAny_loadPart_at hx ?_;rw[hc])|with_reducible refine L1.at ?_|with_reducible refine(Z0z (M:=model prog w) X g2).at ?_|wp_step))
 refine codeAny_call_builtin F.excAttr_ValueError.ga.plain F.entry_bexc_ga (pQ X hx hc g5 (pP X hx hc g4 g3 ?_))
 repeat (any_goals (first|assumption|wp_step))
theorem MP(X:K.In h)(hx:h.get? a=some o)(hc:o.cls=.ref C)(hA:nM K C=true)(hq:Q (some (.ref C)) ⟨h,g,d,t+1,os⟩) :
  wpAny (model prog w) A (getAttr? (.ref a) "__class__") Q E ⟨h,g,d,t,os⟩:=by
 repeat (any_goals (first|assumption|with_reducible apply xO X hx hc hA|wp_step))
end
theorem EY{K:Zf}{a C:Addr}(hA:nM K C=true):W.KitX K (.ref a) (.ref C) (isX a (.ref C)) where
 ty:=λ_ _ _ ⟨o,e,c,_⟩=>xty e c
 it:=λ_ _ X _=>by
  unfold nM at hA;rw[A3z] at hA;obtain⟨cdD,hcD⟩:=Option.isSome_iff_exists.mp hA.2;unfold W.clsIn at hcD;split at hcD
  .rename_i c' d' cd' sl' ho
   intro A' Q' E' s' k q;exact I5z (wpAny_loadPart (k _ _ (X _ _ ho)) (J5z q))
  .cases hcD
 ne:=λh tp dd its n sl X htp=>by
  unfold nM at hA;rw[A3z] at hA;obtain⟨cdD,hcD⟩:=Option.isSome_iff_exists.mp hA.2;refine Bool.eq_false_iff.mpr λq=>?_;have e:=Value.ref.inj (beq_iff_eq.mp q);subst e;unfold W.clsIn at hcD;split at hcD
  .rename_i c' d' cd' sl' ho
   cases ((X _ _ ho).symm.trans htp)
  .cases hcD
 ca:=λ{prog w A E Q s} X p k=>by
  obtain⟨h,g,d,t,os⟩:=s;obtain⟨o,e,c,_⟩:=p;exact MP X e c hA k
section
variable{X:Cx}{y0:List (Addr×Obj)}{Y:St}{H H':Hp}{s s':Shared}{ea C:Addr}
end
end L2
namespace L2
open PySem PySem.Spec PyProof.Rows DE PySem.SeqAt
theorem Same.tup{K:Zf}(e:Same H H')(h:SqT K H a xs):SqT K H' a xs:=by
 obtain(h|⟨o,h⟩)|h:=h
 .exact .inl (.inl (e _ _ h))
 .exact .inl (.inr ⟨o,e _ _ h⟩)
 .exact .inr h
mutual
def Rep(K:Zf)(H:Hp):D->V->Prop
 |.non,v=>v=.non
 |.bl b,v=>v=.bl b
 |.int i,v=>v=.int i
 |.str x,v=>v=.str x
 |.tup ds,v=>∃a vs,v=.ref a/\SqT K H a vs/\aL K H ds vs
 |.lst ds,v=>∃a vs,v=.ref a/\SqL K H a vs/\aL K H ds vs
 |.obj a,v=>v=.ref a
 |.exc c,v=>∃a C,v=.ref a/\W.nsIn K mainGlobals c=some (some (.ref C))/\H a=some (.ext (isX a (.ref C)))
 |.dic ks ds,v=>∃(a:Addr)(kvs:List (Key×V)),v=.ref a/\DAt K H a kvs/\kvs.map (·.1)=ks/\aL K H ds (kvs.map (·.2))
def aL(K:Zf)(H:Hp):List D->List V->Prop
 |[],vs=>vs=[]
 |d::ds,vs=>∃v r,vs=v::r/\Rep K H d v/\aL K H ds r
end
mutual
theorem Rep.same{K:Zf}{H H':Hp}(e:Same H H'):∀(d:D)(v:V),Rep K H d v->Rep K H' d v
 |.non,v,h=>by simpa[Rep] using h
 |.bl b,v,h=>by simpa[Rep] using h
 |.int i,v,h=>by simpa[Rep] using h
 |.str x,v,h=>by simpa[Rep] using h
 |.tup ds,v,h=>by
  simp only[Rep] at h ⊢;obtain⟨a,vs,h1,h2,h3⟩:=h;exact⟨a,vs,h1,e.tup h2,aL.same e ds vs h3⟩
 |.lst ds,v,h=>by
  simp only[Rep] at h ⊢;obtain⟨a,vs,h1,h2,h3⟩:=h;exact⟨a,vs,h1,e.seq h2,aL.same e ds vs h3⟩
 |.obj a,v,h=>by simpa[Rep] using h
 |.exc c,v,h=>by
  simp only[Rep] at h ⊢;obtain⟨a,C,h1,h2,h3⟩:=h;exact⟨a,C,h1,h2,e _ _ h3⟩
 |.dic ks ds,v,h=>by
  simp only[Rep] at h ⊢;obtain⟨a,kvs,h1,h2,h3,h4⟩:=h;refine⟨a,kvs,h1,?_,h3,aL.same e ds _ h4⟩;rcases h2 with⟨o,h2⟩|h2
  .exact .inl ⟨o,e _ _ h2⟩
  .exact .inr h2
theorem aL.same{K:Zf}{H H':Hp}(e:Same H H'):∀(ds:List D)(vs:List V),aL K H ds vs->aL K H' ds vs
 |[],vs,h=>by simpa[aL] using h
 |d::ds,vs,h=>by
  simp only[aL] at h ⊢;obtain⟨v,r,h1,h2,h3⟩:=h;exact⟨v,r,h1,Rep.same e d v h2,aL.same e ds r h3⟩
end
theorem aL.length{K:Zf}:∀{ds:List D}{vs:List V},aL K H ds vs->ds.length=vs.length
 |[],vs,h=>by simp[aL] at h;subst h;rfl
 |d::ds,vs,h=>by
  obtain⟨v,r,rfl,_,h3⟩:=h;simp[h3.length]
theorem aL.nil{K:Zf}:aL K H [] []:=by simp[aL]
theorem aL.cons{K:Zf}(h:Rep K H d v)(r:aL K H ds vs):aL K H (d::ds) (v::vs):=by
 simp only[aL];exact⟨v,vs,rfl,h,r⟩
theorem aL.append{K:Zf}:∀{ds es:List D}{vs us:List V},aL K H ds vs->aL K H es us->aL K H (ds++es) (vs++us)
 |[],es,vs,us,h,h'=>by simp[aL] at h;subst h;exact h'
 |d::ds,es,vs,us,h,h'=>by
  obtain⟨v,r,rfl,h2,h3⟩:=h;exact .cons h2 (h3.append h')
theorem aL.get{K:Zf}:∀{ds:List D}{vs:List V}{i:Nat}{d:D},aL K H ds vs->ds[i]?=some d->∃v,vs[i]?=some v/\Rep K H d v
 |[],vs,i,d,_,e=>by simp at e
 |d'::ds,vs,0,d,h,e=>by
  obtain⟨v,r,rfl,h2,h3⟩:=h;simp at e;subst e;exact⟨v,rfl,h2⟩
 |d'::ds,vs,i+1,d,h,e=>by
  obtain⟨v,r,rfl,h2,h3⟩:=h;obtain⟨u,e1,e2⟩:=h3.get (by simpa using e);exact⟨u,by simpa using e1,e2⟩
theorem aL.take{K:Zf}:∀(n:Nat){ds:List D}{vs:List V},aL K H ds vs->aL K H (ds.take n) (vs.take n)
 |0,_,_,_=>by simpa using aL.nil
 |n+1,[],vs,h=>by simp[aL] at h;subst h;simpa using aL.nil
 |n+1,d::ds,vs,h=>by
  obtain⟨v,r,rfl,h2,h3⟩:=h;simpa using aL.cons h2 (h3.take n)
theorem aL.drop{K:Zf}:∀(n:Nat){ds:List D}{vs:List V},aL K H ds vs->aL K H (ds.drop n) (vs.drop n)
 |0,_,_,h=>by simpa using h
 |n+1,[],vs,h=>by simp[aL] at h;subst h;simpa using aL.nil
 |n+1,d::ds,vs,h=>by
  obtain⟨v,r,rfl,h2,h3⟩:=h;simpa using h3.drop n
theorem aL.reverse{K:Zf}:∀{ds:List D}{vs:List V},aL K H ds vs->aL K H ds.reverse vs.reverse
 |[],vs,h=>by simp[aL] at h;subst h;simpa using aL.nil
 |d::ds,vs,h=>by
  obtain⟨v,r,rfl,h2,h3⟩:=h;simpa using h3.reverse.append (.cons h2 .nil)
structure Ext(Hs H Hs' H':Hp):Prop where
 vis:Same Hs Hs'
 all:Same H H'
 sub:Same Hs' H'
 hid:∀b o,H b=some o->Hs b=none->Hs' b=none
theorem Ext.refl(h:Same Hs H):Ext Hs H Hs H:=⟨.refl _,.refl _,h,λ_ _ _ h=>h⟩
theorem Ext.trans(a:Ext Hs H Hs1 H1)(b:Ext Hs1 H1 Hs2 H2):Ext Hs H Hs2 H2 :=
 ⟨a.vis.trans b.vis,a.all.trans b.all,b.sub,λc o h1 h2=>b.hid c o (a.all c o h1) (a.hid c o h1 h2)⟩
theorem Ext.new{Hs H:Hp}(h:Same Hs H){p:Addr}(o:HO)(hp:H p=none):Ext Hs H (upd Hs p o) (upd H p o) where
 vis:=λb u e=>by rw[ak (aj (h b u e) hp)];exact e
 all:=λb u e=>by rw[ak (aj e hp)];exact e
 sub:=λb u e=>by
  by_cases hb:b=p
  .subst hb;rw[au] at e ⊢;exact e
  .rw[ak hb] at e ⊢;exact h b u e
 hid:=λb u e n=>by rw[ak (aj e hp)];exact n
theorem isT(I:Inv X y0 Y H s)(h:SqT X.K H a vs):∃its:List Value,Vals vs its/\s.heap.IsTuple a its.toArray:=by
 obtain⟨its,r,p,_⟩:=I.tuple h;exact⟨its,r,p⟩
theorem isL(I:Inv X y0 Y H s)(h:SqL X.K H a vs):∃its:List Value,Vals vs its/\s.heap.IsList a its.toArray:=by
 obtain⟨its,r,p,_⟩:=I.list h;exact⟨its,r,p.isList⟩
mutual
theorem j9:∀d:D,dep d<1000->deq d d=true
 |.non,_=>rfl
 |.bl b,_=>by simp[deq]
 |.int i,_=>by simp[deq]
 |.str x,_=>by simp[deq]
 |.tup xs,h=>by simp only[deq];exact mH xs (by simp only[dep] at h;omega)
 |.lst xs,h=>by simp only[deq];exact mH xs (by simp only[dep] at h;omega)
 |.exc c,h=>absurd h (by simp[dep])
 |.dic _ _,h=>absurd h (by simp[dep])
 |.obj _,h=>absurd h (by simp[dep])
theorem mH:∀ds:List D,deps ds<1000->qP ds ds=true
 |[],_=>rfl
 |d::ds,h=>by
  simp only[deps] at h;simp only[qP,j9 d (by omega),mH ds (by omega),N4z]
end
theorem vG:∀{xs ys:List D}{e:Nat->Bool},(∀(j:Nat)(x y:D),xs[j]?=some x->ys[j]?=some y->e j=deq x y)->((List.range (min xs.length ys.length)).all e&&xs.length==ys.length)=qP xs ys
 |[],[],_,_=>rfl
 |[],y::ys,_,_=>by simp[qP]
 |x::xs,[],_,_=>by simp[qP]
 |x::xs,y::ys,e,h=>by
  have ih:=vG λj a b e1 e2=>h (j+1) a b (by simpa using e1) (by simpa using e2);simp only[qP,<- ih,<- (h 0 x y rfl rfl),S2z];rw[show min (xs.length+1) (ys.length+1)=min xs.length ys.length+1 by omega,List.range_succ_eq_map,O4z,List.all_map];rw[Bool.and_assoc];congr 1;congr 1;simp
section
variable{X:Cx}{y0:List (Addr×Obj)}{Y:St}{H:Hp}{s:Shared}
mutual
theorem Rep.inj(I:Inv X y0 Y H s):∀(d d':D)(v:V),dep d<1000->dep d'<1000->Rep X.K H d v->Rep X.K H d' v->d=d'
 |.non,d',v,z,z',h,h'=>by simp only[Rep] at h;subst h;cases d'<;>simp[Rep] at h' ⊢
 |.bl b,d',v,z,z',h,h'=>by simp only[Rep] at h;subst h;cases d'<;>simp[Rep] at h' ⊢;exact h'
 |.int b,d',v,z,z',h,h'=>by simp only[Rep] at h;subst h;cases d'<;>simp[Rep] at h' ⊢;exact h'
 |.str b,d',v,z,z',h,h'=>by simp only[Rep] at h;subst h;cases d'<;>simp[Rep] at h' ⊢;exact h'
 |.tup ds,d',v,z,z',h,h'=>by
  simp only[Rep] at h;obtain⟨a,vs,rfl,h2,h3⟩:=h
  cases d' with
  |tup es =>
   simp only[Rep] at h';obtain⟨a',vs',e,h2',h3'⟩:=h';cases e;have:=I.tuple_inj h2 h2';subst this;rw[aL.inj I ds es vs (by simp only[dep] at z;omega) (by simp only[dep] at z';omega) h3 h3']
  |lst es =>
   simp only[Rep] at h';obtain⟨a',vs',e,h2',h3'⟩:=h';cases e;obtain⟨i1,_,p1⟩:=isT I h2;obtain⟨i2,_,p2⟩:=isL I h2';exact absurd rfl (ne_of_list_tuple p2 p1)
  |non=>simp[Rep] at h'
  |bl _=>simp[Rep] at h'
  |int _=>simp[Rep] at h'
  |str _=>simp[Rep] at h'
  |exc _=>exact absurd z' (by simp[dep])
  |dic _ _=>exact absurd z' (by simp[dep])
  |obj _=>exact absurd z' (by simp[dep])
 |.lst ds,d',v,z,z',h,h'=>by
  simp only[Rep] at h;obtain⟨a,vs,rfl,h2,h3⟩:=h
  cases d' with
  |lst es =>
   simp only[Rep] at h';obtain⟨a',vs',e,h2',h3'⟩:=h';cases e;have:=I.list_inj h2 h2';subst this;rw[aL.inj I ds es vs (by simp only[dep] at z;omega) (by simp only[dep] at z';omega) h3 h3']
  |tup es =>
   simp only[Rep] at h';obtain⟨a',vs',e,h2',h3'⟩:=h';cases e;obtain⟨i1,_,p1⟩:=isL I h2;obtain⟨i2,_,p2⟩:=isT I h2';exact absurd rfl (ne_of_list_tuple p1 p2)
  |non=>simp[Rep] at h'
  |bl _=>simp[Rep] at h'
  |int _=>simp[Rep] at h'
  |str _=>simp[Rep] at h'
  |exc _=>exact absurd z' (by simp[dep])
  |dic _ _=>exact absurd z' (by simp[dep])
  |obj _=>exact absurd z' (by simp[dep])
 |.exc c,d',v,z,z',h,h'=>absurd z (by simp[dep])
 |.dic _ _,d',v,z,z',h,h'=>absurd z (by simp[dep])
 |.obj _,d',v,z,z',h,h'=>absurd z (by simp[dep])
theorem aL.inj(I:Inv X y0 Y H s):∀(ds es:List D)(vs:List V),deps ds<1000->deps es<1000->aL X.K H ds vs->aL X.K H es vs->ds=es
 |[],es,vs,z,z',h,h'=>by
  simp only[aL] at h;subst h
  cases es with
  |nil=>rfl
  |cons e es=>simp[aL] at h'
 |d::ds,es,vs,z,z',h,h'=>by
  simp only[aL] at h;obtain⟨v,r,rfl,h2,h3⟩:=h
  cases es with
  |nil=>simp[aL] at h'
  |cons e es =>
   simp only[aL] at h';obtain⟨v',r',e',h2',h3'⟩:=h';cases e';simp only[deps] at z z';rw[Rep.inj I d e v (by omega) (by omega) h2 h2',aL.inj I ds es r (by omega) (by omega) h3 h3']
end
def eJ(ds es:List D)(j:Nat):Bool:=match ds[j]?,es[j]? with
 |some x,some y=>deq x y
 |_,_=>true
theorem Bf(ds es:List D):((List.range (min ds.length es.length)).all (eJ ds es)&&ds.length==es.length)=qP ds es :=
 vG λj x y e1 e2=>by unfold eJ;rw[e1,e2]
theorem Bd(ds es:List D)(h:ds.length=es.length):(List.range ds.length).all (eJ ds es)=qP ds es:=by
 rw[<- Bf ds es,<- h];simp
theorem oY:∀{xs ys:List D},xs.length≠ys.length->qP xs ys=false
 |[],[],h=>absurd rfl h
 |[],_::_,_=>rfl
 |_::_,[],_=>rfl
 |x::xs,y::ys,h=>by
  simp[qP,oY (xs:=xs) (ys:=ys) (by intro e;exact h (by simp[e])),F4z]
theorem iQ{A:Around}:A.in1.units=A.units+1:=rfl
mutual
theorem tM(I:Inv X y0 Y H s):∀(d d':D)(v v':V)(u u':Value)(A:Around),Rep X.K H d v->Rep X.K H d' v'->RelV v u->RelV v' u'->A.units+dep d<cLine->dep d<1000->dep d'<1000->fW d d'=true->EqAt A s u u' (deq d d')
 |.non,d',v,v',u,u',A,h,h',r,r',hu,z,z',kk=>by cases d'<;>simp[fW] at kk
 |.bl c,d',v,v',u,u',A,h,h',r,r',hu,z,z',kk=>by
  simp only[Rep] at h;subst h;cases (show u=Value.bool c from r)
  have hu0:A.units<cLine:=U1z (Y2z _ _) hu
  cases d' with
  |bl b=>simp only[Rep] at h';subst h';cases (show u'=Value.bool b from r');exact EqAt.bool_bool c b
  |_=>simp[fW] at kk
 |.int c,d',v,v',u,u',A,h,h',r,r',hu,z,z',kk=>by
  simp only[Rep] at h;subst h;obtain⟨t0,rfl⟩:=r
  have hu0:A.units<cLine:=U1z (Y2z _ _) hu
  cases d' with
  |int i=>simp only[Rep] at h';subst h';obtain⟨t,rfl⟩:=r';exact EqAt.int_int c t0 i t
  |_=>simp[fW] at kk
 |.str c,d',v,v',u,u',A,h,h',r,r',hu,z,z',kk=>by
  simp only[Rep] at h;subst h;obtain⟨t0,rfl⟩:=r
  have hu0:A.units<cLine:=U1z (Y2z _ _) hu
  cases d' with
  |bl b=>simp only[Rep] at h';subst h';cases (show u'=Value.bool b from r');exact EqAt.str_bool c t0 b
  |str x=>simp only[Rep] at h';subst h';obtain⟨t,rfl⟩:=r';exact EqAt.str_str c t0 x t
  |tup es=>simp only[Rep] at h';obtain⟨a,vs,rfl,h2,h3⟩:=h';cases (show u'=Value.ref a from r');obtain⟨its,_,p⟩:=isT I h2;exact EqAt.str_tuple c t0 p hu0
  |_=>simp[fW] at kk
 |.tup ds,d',v,v',u,u',A,h,h',r,r',hu,z,z',kk=>by
  have hh:=h;simp only[Rep] at h;obtain⟨a,vs,rfl,h2,h3⟩:=h;cases (show u=Value.ref a from r);obtain⟨its,rv,p⟩:=isT I h2;have hu0:A.units<cLine:=U1z (Y2z _ _) hu
  have hu1:A.in1.units+deps ds<cLine:=by have:dep (.tup ds)=deps ds+1:=rfl;rw[iQ];omega
  cases d' with
  |str x=>simp only[Rep] at h';subst h';obtain⟨t,rfl⟩:=r';exact EqAt.tuple_str x t p hu0
  |tup es =>
   have hh':=h';simp only[Rep] at h';obtain⟨b,us,rfl,h2',h3'⟩:=h';cases (show u'=Value.ref b from r');obtain⟨its',rv',p'⟩:=isT I h2'
   by_cases hab:a=b
   .subst hab
    have:=Rep.inj I _ _ _ z z' hh hh';rw[<- this,j9 _ z];exact EqAt.same _
   .have q:=RcAt.tuples p p' hu0 (e:=eJ ds es) λj g1 g2=>jj I ds es vs us its its' A.in1 h3 h3' rv rv' hu1 (by simp only[dep] at z;omega) (by simp only[dep] at z';omega) kk j _ _ (by simp at g1 ⊢) (by simp at g2 ⊢)
    have l1:=h3.length;have l2:=rv.length;have l3:=h3'.length;have l4:=rv'.length
    rw[H2z,H2z,<- l2,<- l1,<- l4,<- l3,Bf] at q;exact .of_refs hab q
  |_=>simp[fW] at kk
 |.lst ds,d',v,v',u,u',A,h,h',r,r',hu,z,z',kk=>by
  have hh:=h;simp only[Rep] at h;obtain⟨a,vs,rfl,h2,h3⟩:=h;cases (show u=Value.ref a from r);obtain⟨its,rv,p⟩:=isL I h2;have hu0:A.units<cLine:=U1z (Y2z _ _) hu
  have hu1:A.in1.units+deps ds<cLine:=by have:dep (.lst ds)=deps ds+1:=rfl;rw[iQ];omega
  cases d' with
  |lst es =>
   have hh':=h';simp only[Rep] at h';obtain⟨b,us,rfl,h2',h3'⟩:=h';cases (show u'=Value.ref b from r');obtain⟨its',rv',p'⟩:=isL I h2';have l1:=h3.length;have l2:=rv.length;have l3:=h3'.length;have l4:=rv'.length
   by_cases hab:a=b
   .subst hab
    have:=Rep.inj I _ _ _ z z' hh hh';rw[<- this,j9 _ z];exact EqAt.same _
   .by_cases hl:ds.length=es.length
    .have q:=RcAt.lists p p' (by simp;omega) hu0 (e:=eJ ds es) λj g1 g2=>jj I ds es vs us its its' A.in1 h3 h3' rv rv' hu1 (by simp only[dep] at z;omega) (by simp only[dep] at z';omega) kk j _ _ (by simp at g1 ⊢) (by simp at g2 ⊢)
     rw[H2z,<- l2,<- l1,Bd _ _ hl] at q;exact .of_refs hab q
    .have q:=RcAt.lists_lengths p p' (by simp;omega) hu0
     rw[show deq (.lst ds) (.lst es)=qP ds es from rfl,oY hl];exact .of_refs hab q
  |_=>simp[fW] at kk
 |.exc c,d',v,v',u,u',A,h,h',r,r',hu,z,z',kk=>by cases d'<;>simp[fW] at kk
 |.dic _ _,d',v,v',u,u',A,h,h',r,r',hu,z,z',kk=>by cases d'<;>simp[fW] at kk
 |.obj _,d',v,v',u,u',A,h,h',r,r',hu,z,z',kk=>by cases d'<;>simp[fW] at kk
theorem jj(I:Inv X y0 Y H s):∀(ds es:List D)(vs us:List V)(its its':List Value)(A:Around),aL X.K H ds vs->aL X.K H es us->Vals vs its->Vals us its'->A.units+deps ds<cLine->deps ds<1000->deps es<1000->o9 ds es=true ->
  ∀(j:Nat)(u u':Value),its[j]?=some u->its'[j]?=some u'->EqAt A s u u' (eJ ds es j)
 |[],es,vs,us,its,its',A,h,h',r,r',hu,z,z',kk,j,u,u',e1,e2=>by
  simp only[aL] at h;subst h;cases r;simp at e1
 |d::ds,es,vs,us,its,its',A,h,h',r,r',hu,z,z',kk,j,u,u',e1,e2=>by
  simp only[aL] at h;obtain⟨v,vr,rfl,h2,h3⟩:=h
  cases r with
  |cons r rr =>
   cases es with
   |nil=>simp only[aL] at h';subst h';cases r';simp at e2
   |cons e es =>
    simp only[aL] at h';obtain⟨v',vr',rfl,h2',h3'⟩:=h'
    cases r' with
    |cons r' rr' =>
     rw[o9,A3z] at kk;have hd:dep d<=deps (d::ds):=Nat.le_max_left _ _;have hds:deps ds<=deps (d::ds):=Nat.le_max_right _ _
     cases j with
     |zero =>
      simp at e1 e2;subst e1 e2
      exact tM I d e v v' _ _ A h2 h2' r r' (by omega) (by simp only[deps] at z;omega) (by simp only[deps] at z';omega) kk.1
     |succ j =>
      have q:=jj I ds es vr vr' _ _ A h3 h3' rr rr' (by omega) (by simp only[deps] at z;omega) (by simp only[deps] at z';omega) kk.2 j u u' (by simpa using e1) (by simpa using e2)
      simpa[eJ] using q
end
theorem pq(I:Inv X y0 Y H s)(A:Around)(h:Rep X.K H d v)(h':Rep X.K H d' v')(r:RelV v u)(r':RelV v' u')(hu:A.units+dep d<cLine)(z:dep d<1000)(z':dep d'<1000)(kk:fW d d'=true):RcAt A s u u' (deq d d')/\RcNeAt A s u u' (!deq d d'):=by
 have hu0:=U1z (Y2z _ _) hu
 cases d with
 |bl c =>
  simp[Rep] at h;subst h;cases r
  cases d' with
  |bl b=>simp[Rep] at h';subst h';cases r';exact⟨RcAt.bool_bool c b,RcNeAt.bool_bool c b⟩
  |_=>simp[fW] at kk
 |int c =>
  simp[Rep] at h;subst h;obtain⟨t0,rfl⟩:=r
  cases d' with
  |int i=>simp[Rep] at h';subst h';obtain⟨t,rfl⟩:=r';exact⟨RcAt.int_int c t0 i t,RcNeAt.int_int c t0 i t⟩
  |_=>simp[fW] at kk
 |str c =>
  simp[Rep] at h;subst h;obtain⟨t0,rfl⟩:=r
  cases d' with
  |bl b=>simp[Rep] at h';subst h';cases r';exact⟨RcAt.str_bool c t0 b,RcNeAt.str_bool c t0 b⟩
  |str x=>simp[Rep] at h';subst h';obtain⟨t,rfl⟩:=r';exact⟨RcAt.str_str c t0 x t,RcNeAt.str_str c t0 x t⟩
  |tup es=>simp only[Rep] at h';obtain⟨a,vs,rfl,h2,h3⟩:=h';cases r';obtain⟨its,_,p⟩:=isT I h2;exact⟨RcAt.str_tuple c t0 p hu0,RcNeAt.str_tuple c t0 p hu0⟩
  |_=>simp[fW] at kk
 |tup ds =>
  simp only[Rep] at h;obtain⟨a,vs,rfl,h2,h3⟩:=h;cases r;obtain⟨its,rv,p⟩:=isT I h2
  have hu1:A.in1.units+deps ds<cLine:=by have:dep (.tup ds)=deps ds+1:=rfl;rw[iQ];omega
  cases d' with
  |str x=>simp[Rep] at h';subst h';obtain⟨t,rfl⟩:=r';exact⟨RcAt.tuple_str x t p hu0,RcNeAt.tuple_str x t p hu0⟩
  |tup es =>
   simp only[Rep] at h';obtain⟨b,us,rfl,h2',h3'⟩:=h';cases r';obtain⟨its',rv',p'⟩:=isT I h2'
   have l1:=h3.length;have l2:=rv.length;have l3:=h3'.length;have l4:=rv'.length
   have he:∀j (g1:j<its.toArray.size) (g2:j<its'.toArray.size),EqAt A.in1 s its.toArray[j] its'.toArray[j] (eJ ds es j):=λj g1 g2=>jj I ds es vs us its its' A.in1 h3 h3' rv rv' hu1 (by simp[dep] at z;omega) (by simp[dep] at z';omega) kk j _ _ (by simp at g1 ⊢) (by simp at g2 ⊢)
   have q:=RcAt.tuples p p' hu0 he;have q':=RcNeAt.tuples p p' hu0 he;rw[H2z,H2z,<- l2,<- l1,<- l4,<- l3,Bf] at q q';exact⟨q,q'⟩
  |_=>simp[fW] at kk
 |lst ds =>
  simp only[Rep] at h;obtain⟨a,vs,rfl,h2,h3⟩:=h;cases r;obtain⟨its,rv,p⟩:=isL I h2
  have hu1:A.in1.units+deps ds<cLine:=by have:dep (.lst ds)=deps ds+1:=rfl;rw[iQ];omega
  cases d' with
  |lst es =>
   simp only[Rep] at h';obtain⟨b,us,rfl,h2',h3'⟩:=h';cases r';obtain⟨its',rv',p'⟩:=isL I h2'
   have l1:=h3.length;have l2:=rv.length;have l3:=h3'.length;have l4:=rv'.length
   by_cases hl:ds.length=es.length
   .have he:∀j (g1:j<its.toArray.size) (g2:j<its'.toArray.size),EqAt A.in1 s its.toArray[j] its'.toArray[j] (eJ ds es j):=λj g1 g2=>jj I ds es vs us its its' A.in1 h3 h3' rv rv' hu1 (by simp[dep] at z;omega) (by simp[dep] at z';omega) kk j _ _ (by simp at g1 ⊢) (by simp at g2 ⊢)
    have q:=RcAt.lists p p' (by simp;omega) hu0 he
    have q':=RcNeAt.lists p p' (by simp;omega) hu0 he
    rw[H2z,<- l2,<- l1,Bd _ _ hl] at q q';exact⟨q,q'⟩
   .rw[show deq (.lst ds) (.lst es)=qP ds es from rfl,oY hl]
    exact⟨RcAt.lists_lengths p p' (by simp;omega) hu0,RcNeAt.lists_lengths p p' (by simp;omega) hu0⟩
  |_=>simp[fW] at kk
 |_=>cases d'<;>simp[fW] at kk
end
def gZ(X:Cx)(e:Expr):TE:=λY H Q=>∀y0 s,Inv X y0 Y H s->wpAny (model X.prog X.w) X.A (eval e X.env) (EP X y0 Y Q) X.xe s
def nQ(X:Cx)(e:Expr):TT:=λY H Q=>∀y0 s,Inv X y0 Y H s->wpAny (model X.prog X.w) X.A (isTrue e X.env (eval e X.env)) (TP X y0 Y Q) X.xe s
def yu(X:Cx)(es:List Expr):TA:=λY H Q=>∀pos y0 s,Inv X y0 Y H s->wpAny (model X.prog X.w) X.A (spliced (backTo pos (starEach es X.env))) (AP X y0 Y Q) X.xe s
def wB(X:Cx)(tg iter:Expr):TI:=λY H R=>∀y0 s,Inv X y0 Y H s->wpAny (model X.prog X.w) X.A (eval iter X.env) (λv s1=>wpAny (model X.prog X.w) X.A (pyIter v) (PIE X y0 Y tg R) X.xe s1) X.xe s
section
variable{X:Cx}{e:Expr}
theorem aq:PE X e (gZ X e):=λy0 s Y H Q I h=>h y0 s I
theorem dG:PT X e (nQ X e):=λy0 s Y H Q I h=>h y0 s I
theorem cQ:PA X es (yu X es):=λpos y0 s Y H Q I h=>h pos y0 s I
theorem uP:PI X tg iter (wB X tg iter):=λy0 s Y H R I h=>h y0 s I
theorem PE.sem(h:PE X e t)(q:t Y H Q):gZ X e Y H Q:=λy0 s I=>h y0 s Y H Q I q
theorem PT.sem(h:PT X e t)(q:t Y H Q):nQ X e Y H Q:=λy0 s I=>h y0 s Y H Q I q
theorem PA.sem(h:PA X es t)(q:t Y H Q):yu X es Y H Q:=λpos y0 s I=>h pos y0 s Y H Q I q
theorem PI.sem(h:PI X tg iter t)(q:t Y H R):wB X tg iter Y H R:=λy0 s I=>h y0 s Y H R I q
end
def bL(K:Zf)(Hs:Hp)(U:Rho)(Y:St):Prop:=∀(i:Nat)(x:Str)(d:D),U[i]?=some (x,.sh d)->∃v,Y[i]?=some (some v)/\Rep K Hs d v
theorem bL.same{K:Zf}(h:bL K Hs U Y)(e:Same Hs Hs'):bL K Hs' U Y:=λi x d q=>by
 obtain⟨v,e1,e2⟩:=h i x d q;exact⟨v,e1,Rep.same e d v e2⟩
def Mi(K:Zf)(J:It)(Hs0:Hp)(ds:List D):Prop:=∀Hs H,Same Hs0 Hs->Same Hs H->J.stop ds.length H/\∀(i:Nat)(d:D),ds[i]?=some d->J.go i H/\∀x H',J.yld i H x H'->∃Hs',Ext Hs H Hs' H'/\Rep K Hs' d x
def Ev(X:Cx)(U:Rho)(e:Expr)(d:D):Prop:=∀Y H Hs Q,Same Hs H->bL X.K Hs U Y->(∀v H' Hs',Ext Hs H Hs' H'->Rep X.K Hs' d v->Q v H')->gZ X e Y H Q
def EvT(X:Cx)(U:Rho)(e:Expr)(b:Bool):Prop:=∀Y H Hs Q,Same Hs H->bL X.K Hs U Y->(∀H' Hs',Ext Hs H Hs' H'->Q b H')->nQ X e Y H Q
def EvA(X:Cx)(U:Rho)(es:List Expr)(ds:List D):Prop:=∀Y H Hs Q,Same Hs H->bL X.K Hs U Y->(∀vs H' Hs',Ext Hs H Hs' H'->aL X.K Hs' ds vs->Q vs H')->yu X es Y H Q
def EvI(X:Cx)(U:Rho)(tg iter:Expr)(ds:List D):Prop:=∀Y H Hs R,Same Hs H->bL X.K Hs U Y->(∀J H' Hs',Ext Hs H Hs' H'->Mi X.K J Hs' ds->R J H')->wB X tg iter Y H R
def spX(K:Zf)(call:Str->List D->Option D)(callx:Str->List D->Option Str)(f:Str)(ps:List Str):Sp:=λvs H Q E=>vs.length=ps.length/\∃Hs ds,Same Hs H/\aL K Hs ds vs /\
 ((∃d,call f ds=some d/\∀v H' Hs',Ext Hs H Hs' H'->Rep K Hs' d v->Q v H')\/(∃c,callx f ds=some c/\∀C H' Hs',PySem.W.nsIn K mainGlobals c=some (some (.ref C))->Ext Hs H Hs' H'->E (.ref C) none H'))
def Gp(K:Zf)(exs:List Str)(top:Str):Bool:=match PySem.W.nsIn K mainGlobals top with
  |some (some (.ref M))=>exs.all λc=>match PySem.W.nsIn K mainGlobals c with
    |some (some (.ref C))=>xIn K C M && nM K C && PySem.W.exmOne K (.ref C) (.ref M)==some true && PySem.W.kitOne K (.ref C) (.ref M)==some true && PySem.W.kitOne K (.ref C) (.type "ValueError")==some true &&
      exs.all λc'=>match PySem.W.nsIn K mainGlobals c' with
        |some (some (.ref C'))=>PySem.W.kitOne K (.ref C) (.ref C')==some (c==c')
        |_=>false
    |_=>false
  |_=>exs.isEmpty
structure XText(K:Zf)(mg:Str->Option Value)(exs:List Str)(top:Str):Prop where
 glob:∀x v,PySem.W.nsIn K mainGlobals x=some (some v)->mg x=some v
 cls:∀c,exs.contains c=true->∃C M,PySem.W.nsIn K mainGlobals c=some (some (.ref C))/\PySem.W.nsIn K mainGlobals top=some (some (.ref M))/\xIn K C M=true/\nM K C=true/\PySem.W.exmOne K (.ref C) (.ref M)=some true/\PySem.W.kitOne K (.ref C) (.ref M)=some true/\PySem.W.kitOne K (.ref C) (.type "ValueError")=some true
 sub:∀c c',exs.contains c=true->exs.contains c'=true->∃C C',PySem.W.nsIn K mainGlobals c=some (some (.ref C))/\PySem.W.nsIn K mainGlobals c'=some (some (.ref C'))/\PySem.W.kitOne K (.ref C) (.ref C')=some (c==c')
theorem XText.of{K:Zf}(hg:∀x v,PySem.W.nsIn K mainGlobals x=some (some v)->mg x=some v)(h:Gp K exs top=true):XText K mg exs top:=by
 unfold Gp at h;split at h
 .rename_i M hM
  have all:=λc (hc:exs.contains c=true)=>G3z.mp h c (by simpa using hc);refine⟨hg,λc hc=>?_,λc c' hc hc'=>?_⟩
  .have q:=all c hc
   split at q
   .rename_i C hC
    simp[A3z,beq_iff_eq] at q;exact⟨C,M,hC,hM,q.1.1.1.1.1,q.1.1.1.1.2,q.1.1.1.2,q.1.1.2,q.1.2⟩
   .cases q
  .have q:=all c hc
   split at q
   .rename_i C hC
    simp only[A3z] at q;have q2:=G3z.mp q.2 c' (by simpa using hc');split at q2
    .rename_i C' hC'
     exact⟨C,C',hC,hC',by simpa using q2⟩
    .cases q2
   .cases q
 .have e:exs=[]:=by simpa using h
  subst e;exact⟨hg,λc hc=>absurd hc (by simp),λc c' hc=>absurd hc (by simp)⟩
structure Good(cx:Cxt)(k:Nat)(X:Cx)(sc:Scope):Prop where
 calm:X.calm=true
 room:Room k X.A
 sce:X.env.scope=sc
 kind:sc.kind=.function
 nd:X.N.Nodup
 cst:∀x d,cx.cst.lookup x=some d->∃v u,(∀H,Rep X.K H d v)/\X.mg x=some u/\RelV v u
 blt:∀x b,cx.blt.lookup x=some b->X.mg x=none/\x=Str.ofString b
 exs:XText X.K X.mg cx.exs cx.top
 fns:∀f,cx.fns.contains f=true->(f==("__debug__":Str))=false/\∃a fd ps,(∀ds d,cx.call f ds=some d->ds.length=ps.length)/\(∀ds c,cx.callx f ds=some c->ds.length=ps.length)/\X.mg f=some (.ref a)/\PySem.W.keepIn X.K (.ref a)=true/\Binds X.K fd ps []/\FnOk X.prog X.w X.K X.mg X.base (CX1 X.prog X.w) k a fd ps (spX X.K cx.call cx.callx f ps)
 kw:KnW X.K X.w
section
variable{X:Cx}{U:Rho}{cx:Cxt}{k:Nat}{sc:Scope}
theorem eZ:∀{U:Rho}{x:Str}{s:Sl},U.lookup x=some s->∃i:Nat,U[i]?=some (x,s)/\(U.map (·.1)).idxOf? x=some i
 |(y,t)::r,x,s,h=>by
  rw[U2z] at h
  cases hb:x==y with
  |true =>
   rw[hb] at h;cases h
   have:x=y:=by simpa using hb
   subst this;exact⟨0,rfl,by simp[List.idxOf?,List.findIdx?_cons]⟩
  |false =>
   rw[hb] at h;obtain⟨i,h1,h2⟩:=eZ h;refine⟨i+1,by simpa using h1,?_⟩
   have hy:(y==x)=false:=by
    rw[H1z] at hb ⊢;exact λe=>hb e.symm
   simp only[I4z,List.idxOf?,List.findIdx?_cons,hy];simp only[List.idxOf?] at h2;rw[h2];rfl
theorem Aw(hN:X.N=U.map (·.1))(hv:Vis X.env.scope x)(hp:aK x=true)(h:U.lookup x=some (.sh d)):Ev X U (.Name x pos) d:=by
 intro Y H Hs Q hs hr hq;obtain⟨i,h1,_⟩:=eZ h;obtain⟨v,e1,e2⟩:=hr i x d h1;unfold aK at hp;rw[A3z,M5z,M5z] at hp;refine PE.sem (m7 (by rw[hN,List.getElem?_map,h1];rfl) hv (by simpa using hp.1) (by simpa using hp.2)) ⟨v,e1,hq v H Hs (.refl hs) e2⟩
theorem Qs(hg:Gl X x)(hd:∀H,Rep X.K H d v)(hm:X.mg x=some u)(r:RelV v u)(hp:aK x=true):Ev X U (.Name x pos) d:=by
 intro Y H Hs Q hs hr hq;unfold aK at hp;rw[A3z,M5z,M5z] at hp;exact PE.sem (lM hg hm r (by simpa using hp.1)) (hq _ H Hs (.refl hs) (hd Hs))
theorem vq(h:(match c with|.none=>some D.non|.bool b=>some (.bl b)|.int i=>some (.int i)|.str x=>some (.str x)|_=>none)=some d):Ev X U (.Constant c j pos) d:=by
 intro Y H Hs Q hs hr hq
 cases c<;>simp at h<;>subst h
 .exact PE.sem Hj (hq _ H Hs (.refl hs) (by simp[Rep]))
 .exact PE.sem SQ (hq _ H Hs (.refl hs) (by simp[Rep]))
 .exact PE.sem m8 (hq _ H Hs (.refl hs) (by simp[Rep]))
 .exact PE.sem lK (hq _ H Hs (.refl hs) (by simp[Rep]))
theorem fP(ha:Ev X U a x)(hb:Ev X U b y)(hp:PE X e (tOp r (gZ X a) (gZ X b)))
  (hr:∀u v H Hs Q,Same Hs H->Rep X.K Hs x u->Rep X.K Hs y v->(∀w H' Hs',Ext Hs H Hs' H'->Rep X.K Hs' d w->Q w H')->r u v H Q):Ev X U e d:=by
 intro Y H Hs Q hs hst hq;exact hp.sem (ha Y H Hs _ hs hst λu H1 Hs1 E1 r1=>hb Y H1 Hs1 _ E1.sub (hst.same E1.vis) λv H2 Hs2 E2 r2=>(hr u v H2 Hs2 Q E2.sub (Rep.same E2.vis x u r1) r2 λw H' Hs' E3 r3=>hq w H' Hs' (E1.trans (E2.trans E3)) r3))
theorem uG(h:small i=true):-(2^64)<i/\i<2^64:=by
 unfold small at h;rw[A3z,N2z,N2z] at h;exact h
theorem jJ(h:szl n=true):n<=sizeLine:=by
 unfold szl at h;rw[N2z] at h;exact T4z h (by decide)
theorem Gy(h:szl n=true):n<sizeLine:=by
 unfold szl at h;rw[N2z] at h;exact U1z h (by decide)
theorem aY{K:Zf}(h:Rep K H (.int i) v):v=.int i:=by simpa[Rep] using h
theorem dD{K:Zf}(h:Rep K H (.bl i) v):v=.bl i:=by simpa[Rep] using h
theorem cH{K:Zf}(h:Rep K H (.tup ds) v):∃a vs,v=.ref a/\SqT K H a vs/\aL K H ds vs:=by simpa[Rep] using h
theorem cU{K:Zf}(h:Rep K H (.lst ds) v):∃a vs,v=.ref a/\SqL K H a vs/\aL K H ds vs:=by simpa[Rep] using h
theorem iC{Q:VK}(hs:Same Hs H)(hr:aL X.K Hs ds vs)(hp:H p=none)(hq:∀w H' Hs',Ext Hs H Hs' H'->Rep X.K Hs' (.tup ds) w->Q w H'):Q (.ref p) (upd H p (.tup vs)) :=
 hq _ _ _ (Ext.new hs (.tup vs) hp) (by simp only[Rep];exact⟨p,vs,rfl,.of au,aL.same (Ext.new hs (.tup vs) hp).vis ds vs hr⟩)
theorem jA{Q:VK}(hs:Same Hs H)(hr:aL X.K Hs ds vs)(hp:H p=none)(hq:∀w H' Hs',Ext Hs H Hs' H'->Rep X.K Hs' (.lst ds) w->Q w H'):Q (.ref p) (upd H p (.lst vs)) :=
 hq _ _ _ (Ext.new hs (.lst vs) hp) (by simp only[Rep];exact⟨p,vs,rfl,.of au,aL.same (Ext.new hs (.lst vs) hp).vis ds vs hr⟩)
def SM(K:Zf):R2:=λx y H Q=>∃a b xs ys,x=.ref a/\y=.ref b/\SqT K H a xs/\SqT K H b ys/\xs.length+ys.length<=sizeLine /\
 (xs=[]->Q (.ref b) H)/\(xs≠[]->ys=[]->Q (.ref a) H)/\(xs≠[]->ys≠[]->∀p,H p=none->Q (.ref p) (upd H p (.tup (xs++ys))))
theorem J2:OpR X (binaryOp .Add) (SM X.K):=by
 intro y0 s Y H x y v u Q I rx ry h;obtain⟨a,b,xs,ys,rfl,rfl,ha,hb,hz,q0,q1,q2⟩:=h
 by_cases hx:xs=[]
 .subst hx
  cases rx;cases ry;obtain⟨its,r1,p1,_⟩:=I.tuple ha;obtain⟨its2,r2,p2,_⟩:=I.tuple hb;have e0:=r1.nil_iff.mpr rfl;subst e0;obtain⟨⟨c,dd,data,sl⟩,ho,hc,n,hd⟩:=id p1;obtain⟨⟨c2,dd2,data2,sl2⟩,ho2,hc2,n2,hd2⟩:=id p2;subst hc hd hc2 hd2;exact concat_meets ⟨_,ho,rfl⟩ ⟨_,ho2,rfl⟩ noFill_tuple_add seq_tuple_add M0z F0z (C0z _ _) (tuple_addW0 a b _ its2.toArray n n2 dd dd2 sl sl2 rfl) ⟨ho,ho2,.ref b,H,I,rfl,q0 rfl⟩
 .exact JZ y0 s Y H (.ref a) (.ref b) v u Q I rx ry ⟨a,b,xs,ys,rfl,rfl,ha,hb,hx,hz,q1 hx,q2 hx⟩
theorem aL.rep{K:Zf}(h:aL K H ds vs):∀n:Nat,aL K H (List.replicate n ds).flatten (List.replicate n vs).flatten
 |0=>by simp[aL]
 |n+1=>by
  exact h.append (h.rep n)
def Va(i j:Int):Prop:=Vb i j\/(i.natAbs.log2<10000/\j.natAbs.log2<10000)
theorem Hu(h:mid i=true):i.natAbs.log2<10000:=by unfold mid at h;simpa using h
theorem vN(h:i.natAbs.log2<10000):Builtin.Int.intBits i<=2^20:=by
 unfold Builtin.Int.intBits
 split<;>omega
theorem JW:OpR X (binaryOp .Mult) (rI Va λi j=>.int (i*j)):=opI λ_ _ _ _ _ _ _ hc q=>mul_int q (hc.elim (λz=>z.ok) λz=>.of_bits (vN z.1) (vN z.2))
theorem vA(ha:Ev X U a x)(hb:Ev X U b y)(h:binop op x y=some d):Ev X U (.BinOp a op b pos) d:=by
 unfold binop at h;split at h
 .split at h
  .split at h
   .cases h
    exact fP ha hb (qw O4 aq aq) λu v H Hs Q hs r1 r2 hq=>⟨_,_,aY r1,aY r2,hq _ H Hs (.refl hs) (by simp[Rep])⟩
   .cases h
  .split at h
   .split at h
    .rename_i hz
     cases h;refine fP ha hb (qw J2 aq aq) λu v H Hs Q hs r1 r2 hq=>?_;obtain⟨p,us,rfl,h1,h2⟩:=cH r1;obtain⟨q,ws,rfl,h3,h4⟩:=cH r2;have l1:=h2.length;have l2:=h4.length
     have nil:∀(l:List D),l.length=0->l=[]:=λl hl=>by cases l<;>simp at hl ⊢
     refine⟨p,q,us,ws,rfl,rfl,hs.tup h1,hs.tup h3,by have:=jJ hz;omega,λe=>?_,λ_ e=>?_,λ_ _ l hl=>iC hs (h2.append h4) hl hq⟩
     .subst e
      have e2:=nil _ l1;subst e2;exact hq _ H Hs (.refl hs) r2
     .subst e
      have e2:=nil _ l2;subst e2;refine hq _ H Hs (.refl hs) ?_;rw[L3z];exact r1
    .cases h
   .cases h
  .split at h
   .split at h
    .rename_i hz
     cases h;refine fP ha hb (qw J1 aq aq) λu v H Hs Q hs r1 r2 hq=>?_;obtain⟨p,us,rfl,h1,h2⟩:=cU r1;obtain⟨q,ws,rfl,h3,h4⟩:=cU r2;have l1:=h2.length;have l2:=h4.length;exact⟨p,q,us,ws,rfl,rfl,hs.seq h1,hs.seq h3,by have:=jJ hz;omega,λl hl=>jA hs (h2.append h4) hl hq⟩
    .cases h
   .cases h
  .cases h
 .split at h
  .split at h
   .cases h
    exact fP ha hb (qw OD aq aq) λu v H Hs Q hs r1 r2 hq=>⟨_,_,aY r1,aY r2,hq _ H Hs (.refl hs) (by simp[Rep])⟩
   .cases h
  .cases h
 .split at h
  .split at h
   .split at h
    .rename_i hz
     cases h;rw[V3z,V3z,A3z] at hz;exact fP ha hb (qw JW aq aq) λu v H Hs Q hs r1 r2 hq=>⟨_,_,aY r1,aY r2,(hz.elim (λz=>z.elim (λz=>.inl (.inl (uG z))) (λz=>.inl (.inr (uG z)))) (λz=>.inr ⟨Hu z.1,Hu z.2⟩)),hq _ H Hs (.refl hs) (by simp[Rep])⟩
    .cases h
   .cases h
  .split at h
   .split at h
    .rename_i hz
     cases h;rw[A3z,A3z,N2z,N2z] at hz;refine fP ha hb (qw JT aq aq) λu v H Hs Q hs r1 r2 hq=>?_;obtain⟨p,us,rfl,h1,h2⟩:=cU r1;exact⟨p,_,us,rfl,aY r2,hs.seq h1,by omega,by omega,by have:=jJ hz.2;rw[<- h2.length];exact this,λl hl=>jA hs (h2.rep _) hl hq⟩
    .cases h
   .cases h
  .cases h
 .split at h
  .split at h
   .split at h
    .rename_i hz
     cases h;rw[A3z,N2z,N2z] at hz;exact fP ha hb (qw JX aq aq) λu v H Hs Q hs r1 r2 hq=>⟨_,_,aY r1,aY r2,hz,hq _ H Hs (.refl hs) (by simp[Rep])⟩
    .cases h
   .cases h
  .cases h
 .split at h
  .split at h
   .split at h
    .rename_i hz
     cases h;rw[N2z] at hz;exact fP ha hb (qw O1 aq aq) λu v H Hs Q hs r1 r2 hq=>⟨_,_,aY r1,aY r2,hz,hq _ H Hs (.refl hs) (by simp[Rep])⟩
    .cases h
   .cases h
  .cases h
 .cases h
end
end L2
namespace PySem
theorem gU:typeLookup (.type "list") "__getattr__"=pure none:=by rw[Q3z,R0z];rfl'
theorem qM:typeLookup (.type "list") "keys"=pure none:=am_miss_of_fast rfl
theorem FW:entryFor table "list.__getattribute__"=some Builtin.«object.__getattribute__» :=
 entryFor_alias (id':="object.__getattribute__") rfl rfl (by decide +kernel) rfl
theorem FQ(u:Tok) :
  Meets (Builtin.«object.__getattribute__» ⟨[.ref a,.str "keys" u],[]⟩) (λA R s=>s.heap.get? a=some {cls:=.type "list",dict:=none,data:=.seq vs c,slots:=sl}/\raisesAttr (.ref a) "keys" A R s) :=
 Meets.of_wp λprog w A R s hs=>by
  obtain⟨hp,g,d,tk,os⟩:=s;obtain⟨ho,hs⟩:=hs;have hmiss:=qM
  repeat (any_goals (first|assumption|wp_step))
  exact wpAny_raiseAttrError hs.1 hs.2 (attrMsg_fits (by decide +kernel) (by decide))
theorem Bj(ho:s.heap.get? a=some {cls:=.type "list",dict:=none,data:=.seq vs c,slots:=sl})(hA:A.handled=none)
  (h:∀h' tk,(∀b ob,s.heap.get? b=some ob->h'.get? b=some ob)->Q none {s with heap:=h',toks:=tk}) :
  wpAny (model prog w) A (getAttr? (.ref a) "keys") Q E s:=by
 obtain⟨hp,g,d,tk,os⟩:=s;have hT:∀(h':Heap) g d tk os,h'.get? a=some {cls:=.type "list",dict:=none,data:=.seq vs c,slots:=sl}->Shared.TypeIs ⟨h',g,d,tk,os⟩ (.ref a) "list":=λh' g d tk os e=>⟨_,e,rfl⟩;have f1:=sub_AttributeError;have f3:=F.slot_list_getattribute.lookup;have f4:=F.slot_list_getattribute.bind (.ref a);have f5:=gU
 repeat (any_goals (first|assumption|((with_reducible show wpAny _ _ (call (Value.builtin "list.__getattribute__") _ _) _ _ _);refine L5z F.slot_list_getattribute (hT _ _ _ _ _ ho) FW (F.args_list_getattribute_2 _ _) (FQ _) ⟨ho,hA,λh' tk' e hx=>?_⟩)|wp_step))
 obtain⟨t',u',he⟩:=hx.there;unfold getattributeRaised
 repeat (any_goals (first|assumption|wp_step))
 exact h h' tk' hx.keeps
theorem vB:plainId "dict.update.loop"=true:=by decide +kernel
theorem qN:entryFor table "dict.update.loop"=some Builtin.«dict.update.loop» :=X2z rfl
def rT(h:Heap)(b:Addr)(u v:Value):Prop:=∃o m,h.get? b=some o/\o.cls=.type "tuple"/\o.data=.seq #[u,v] m
section
variable{prog:Program}{w:World}{A:Around}{E:Value->Shared->Prop}{s:Shared}
theorem Lf(h:rT s.heap b u v)(hq:Q [u,v] s):wpAny (model prog w) A (Builtin.Dict.pairItems (.ref b)) Q E s:=by
 obtain⟨o,m,h1,h2,h3⟩:=h;refine I5z (Y4z ⟨o,h1,h2⟩ ?_);exact I5z (D4z h1 h3 (J5z hq))
end
section
variable{prog:Program}{w:World}{A:Around}{R:Result->Shared->Prop}{I:Addr}{fp wr:List Addr}{G:Array GenState->Array GenState->Prop}{n:Nat}{P:Nat->Value->Prop}{St:Nat->Shared->Prop}{K:Type}[DecidableEq K]{knd:KeyKind prog w K}
theorem Lg(W:WalksS prog w A.in1 I fp wr G n P St)(d:Addr)(hdf:d∉fp)(hN:∀b∈d::wr,N<=b){bs:Nat->Addr}{ks:Nat->K}{us ws:Nat->Value}(hval:∀i v,i<n->P i v->v=.ref (bs i))(hk:∀i,i<n->rT h0 (bs i) (us i) (ws i)/\knd.is (ks i) (us i)=true)(hlt:∀i,i<n->bs i<N) :
    ∀(k i:Nat)(s:Shared)(kvs:List (K×Value))(j:Int)(t:Tok), n - i=k->i<=n->St i s->(∀b o, b < N->h0.get? b=some o->s.heap.get? b=some o)->s.heap.DictOf knd d kvs->kvs.length + k<=sizeLine ->
      (∀s',Moved (d::wr) G s s'->s'.heap.DictOf knd d (merged kvs ((List.range' i k).map λj=>(ks j,ws j)))->R (.ok (.ret .none)) s') ->
      codeAny (model prog w) A (.builtin "dict.update.loop" ⟨[.ref d,.ref I,.int j t,.none],[]⟩) R s:=by
  have hdw:=λh=>hdf (W.sub _ h)
  have hsub:∀b∈wr,b∈d::wr:=λb hb=>X0z _ hb
  intro k
  induction k with
  |zero =>
    intro i s kvs j t hki hi hst hold hd hz hR
    have hin:i=n:=by omega
    subst hin
    refine S3z qN ?_
    refine I5z (W.done s _ _ hst λs' hm=>?_)
    refine J5z (hR s' (hm.mono hsub) ?_)
    obtain⟨o,es,ep,ho,r⟩:=hd
    exact⟨o,es,ep,hm.heap d _ hdw ho,r⟩
  |succ k ih =>
    intro i s kvs j t hki hi hst hold hd hz hR
    have hin:i<n:=by omega
    refine S3z qN ?_
    refine I5z (W.item i s _ _ hin hst λv s' hP hst' hm=>?_)
    obtain rfl:=hval i v hin hP
    have hd':s'.heap.DictOf knd d kvs:=by
      obtain⟨o,es,ep,ho,r⟩:=hd
      exact⟨o,es,ep,hm.heap d _ hdw ho,r⟩
    have hold':=λb o hb e=>hm.heap b o (λq=>absurd (hN b (hsub b q)) (Nat.not_le.mpr hb)) (hold b o hb e)
    obtain⟨⟨o,m,a1,a2,a3⟩,a4⟩:=hk i hin
    have hp:rT s'.heap (bs i) (us i) (ws i):=⟨o,m,hold' _ _ (hlt i hin) a1,a2,a3⟩
    refine I5z (L4z (I5z (wpAny_tryCatch (Lf hp ?_))))
    refine L4z (wpAny_dictSet_pairs a4 hd' (λh' hd2 hs=>?_) (by omega))
    refine J5z ⟨K4z vB _,ih (i+1) _ (stored kvs (ks i) (ws i)) _ _ (by omega) hin (W.frame _ s' _ _ hst' (Nat.le_succ _) λb hb o e=>?_) (λb o hb e=>?_) hd2 ?_ λs'' hm'' hd3=>?_⟩
    . rw[hs.2 b (λh:b=d=>hdf (by rw[<- h];exact hb))];exact e
    . rw[hs.2 b (λh:b=d=>absurd (hN d N1z) (by rw[<- h];exact Nat.not_le.mpr hb))]
      exact hold' b o hb e
    . have:(stored kvs (ks i) (ws i)).length<=kvs.length+1:=by
        unfold stored
        split<;>simp
      omega
    . refine hR s'' (Moved.trans W.gtrans ((hm.mono hsub).then_heap (Nat.le_succ _) λb o hb e=>?_) hm'') ?_
      . rw[hs.2 b (λh:b=d=>hb (by rw[h];exact N1z))];exact e
      . exact hd3
end
section
variable{prog:Program}{w:World}{A:Around}{E:Value->Shared->Prop}{s:Shared}{K:Type}[DecidableEq K]{knd:KeyKind prog w K}
theorem Lh{bs:Nat->Addr}{ks:Nat->K}{us ws:Nat->Value}(hh:A.handled=none)(ho:s.heap.get? l=some {cls:=.type "list",dict:=none,data:=.seq items c,slots:=sl})
  (hv:∀i v,i<items.size->items[i]?=some v->v=.ref (bs i)) (hk:∀i,i<items.size->rT s.heap (bs i) (us i) (ws i)/\knd.is (ks i) (us i)=true) (hz:items.size<=sizeLine)
  (h:∀h' tk,h'.DictOf knd s.heap.objs.size (merged [] ((List.range' 0 items.size).map λj=>(ks j,ws j)))->(∀b o,s.heap.get? b=some o->h'.get? b=some o)->Q (.ref s.heap.objs.size) {s with heap:=h',toks:=tk}) :
  wpAny (model prog w) A (call (.type "dict") [.ref l]) Q E s:=by
 refine callType_codes (Q₁:=λobj s₁=>obj=.ref s.heap.objs.size/\s₁={s with heap:=s.heap.push {cls:=.type "dict",data:=.dict #[]} }) F.kt_called_dict (F.kt_typeCall_dict_1 _) F.entry_dict_init (kt_code_dict_new _ ⟨rfl,rfl⟩) ?_;rintro obj s₁ ⟨rfl,rfl⟩;have hnew:(s.heap.push {cls:=.type "dict",data:=.dict #[]}).DictOf knd s.heap.objs.size []:=Heap.DictOf.new s.heap;have ho1:(s.heap.push {cls:=.type "dict",data:=.dict #[]}).get? l=some {cls:=.type "list",dict:=none,data:=.seq items c,slots:=sl}:=Heap.get?_push_of_some _ ho;have hlS:=R4z ho;refine⟨hnew.typeIs,F.args_dict_init_2 _ _,?_⟩;refine I5z ?_;refine I5z (wpAny_notOrdered_dict hnew.typeIs ?_);refine J5z ?_;show wpAny _ _ (Builtin.Dict.updateFrom "dict.__init__" s.heap.objs.size (.ref l) [] .none) _ _ _;refine I5z (Y4z ⟨_,ho1,rfl⟩ ?_);refine I5z (Bj ho1 (by simp[hh]) λh1 tk1 keep=>?_);have ho2:=keep _ _ ho1;have hl2:h1.IsList l items:=⟨_,ho2,rfl,c,rfl⟩
 have hd2:h1.DictOf knd s.heap.objs.size []:=by
  obtain⟨o,es,ep,h3,r⟩:=hnew;exact⟨o,es,ep,keep _ _ h3,r⟩
 have hSz:s.heap.objs.size<h1.objs.size:=by
  obtain⟨o,es,ep,h3,r⟩:=hd2;exact R4z h3
 refine I5z (K5z ?_);refine I5z (wpAny_pyIter_list hl2 ?_)
 have hSf:s.heap.objs.size∉[h1.objs.size,l]:=by
  simp only[P4z,B3z,or_false,not_or];exact⟨S4z hSz,V4z hlS⟩
 refine J5z ⟨K4z vB _,?_⟩
 refine Lg (knd:=knd) ((Walks.list (by simp[hh]) _ l (S4z (R4z ho2)) items).toS) s.heap.objs.size hSf (N:=s.heap.objs.size) (λb hb=>?_) hv hk (λi hi=>?_) (items.size-0) 0 _ [] _ _ rfl (D5z _)
  ⟨⟨_,Heap.get?_push_size _ rfl,rfl,rfl⟩,hl2.push _⟩ (λb o hb e=>Heap.get?_push_of_some _ (keep _ _ (Heap.get?_push_of_some _ e))) (hd2.push _) (by simpa using hz) ?hR
 .obtain rfl|hb:=P4z.mp hb
  .exact B5z _
  .rw[D2z.mp hb];exact U4z hSz
 .obtain⟨⟨o,_,e,_⟩,_⟩:=hk i hi
  exact R4z e
 case hR =>
  intro s' hm hd3;obtain⟨h',g',d',tk',os'⟩:=s';have eg:=hm.gens;have ed:=hm.drawn;have eo:=hm.os;subst eg;subst ed;subst eo;refine⟨rfl,h h' tk' hd3 λb o e=>?_⟩;have hb:=R4z e;have hb2:b≠h1.objs.size:=S4z (Nat.lt_trans hb hSz);exact hm.heap b o (by simp only[P4z,B3z,or_false,not_or];exact⟨(S4z hb),hb2⟩) (Heap.get?_push_of_some _ (keep _ _ (Heap.get?_push_of_some _ e)))
end
end PySem
namespace L2
open PySem PySem.Spec PyProof.Rows
def xr(K:Zf)(H:Hp):List V->List (Key×V)->Prop
 |[],kvs=>kvs=[]
 |x::r,kvs=>∃b k v q,x=.ref b/\kvs=(k,v)::q/\SqT K H b [kV k,v]/\xr K H r q
section
variable{X:Cx}{y0:List (Addr×Obj)}{Y:St}{H:Hp}{s:Shared}
abbrev DRow:=Addr×Value×Key×Value
theorem Hg(I:Inv X y0 Y H s):∀{vs:List V}{its:List Value}{kvs:List (Key×V)},xr X.K H vs kvs->Vals vs its ->
  ∃rows:List DRow,KV kvs (rows.map λr=>(r.2.2.1,r.2.2.2))/\its=rows.map (λr=>Value.ref r.1)/\∀r∈rows,rT s.heap r.1 r.2.1 r.2.2.2/\(aV X.prog X.w).is r.2.2.1 r.2.1=true
 |[],_,_,h,.nil=>by
  cases h;exact⟨[],.nil,rfl,λr h=>by simp at h⟩
 |_::_,_,_,h,.cons r1 r2=>by
  obtain⟨b,k,v,q,rfl,rfl,h1,h2⟩:=h;obtain⟨rows,a1,a2,a3⟩:=Hg I h2 r2;obtain⟨its',r',⟨o,e1,e2,n,e3⟩,_⟩:=I.tuple h1
  cases r' with
  |cons q1 q2 =>
  cases q2 with
  |cons q3 q4 =>
  cases q4;rename_i u w;refine⟨(b,u,k,w)::rows,.cons ⟨rfl,q3⟩ a1,?_,λr h=>?_⟩
  .congr 1
  .obtain rfl|h:=P4z.mp h
   .exact⟨⟨o,n,e1,e2,e3⟩,j4 q1⟩
   .exact a3 r h
theorem wY(hc:X.calm=true):dz X (.type "dict") (λxs H Q=>∃(a:Addr)(vs:List V)(kvs:List (Key×V)),xs=[.ref a]/\SqL X.K H a vs/\xr X.K H vs kvs/\∀p ob,H p=none->Q (.ref p) (upd H p (.frz ob (.dK (dO [] kvs))))):=by
 intro y0 s Y H xs us Q I r h;obtain⟨a,vs,kvs,rfl,hl,hp,q⟩:=h
 obtain⟨u,rfl,rfl⟩:∃u,us=[u]/\u=Value.ref a:=by
  cases r with
  |cons r1 r2=>cases r2;exact⟨_,rfl,r1⟩
 obtain⟨its,r',⟨o,n,e1,e2,e3,e4⟩,z⟩:=I.list hl;obtain⟨oc,od,odt,osl⟩:=o;subst e2 e3 e4;obtain⟨rows,a1,a2,a3⟩:=Hg I hp r'
 have hlen:its.length=rows.length:=by rw[a2,K3z]
 have hkl:kvs.length=rows.length:=by simpa using a1.length
 have d0:DRow:=(0,.none,.inl 0,.none)
 have hrow:∀i,i<its.toArray.size->∃rw,rows[i]?=some rw/\rows.getD i d0=rw/\rw∈rows:=λi hi=>by
  have hi':i<rows.length:=by rw[<- hlen];simpa using hi
  exact⟨rows[i],List.getElem?_eq_getElem hi',by simp[hi'],List.getElem_mem hi'⟩
 have hn:=I.hok.fresh (B5z s.heap.objs.size);have rel:=a1.merge .nil
 have hz:(dO [] kvs).length<=sizeLine:=by
  have h1:=fG kvs [];rw[U3z] at h1;have:=r'.length;omega
 have hmap:(List.range' 0 its.toArray.size).map (λj=>((rows.getD j d0).2.2.1,(rows.getD j d0).2.2.2))=rows.map λr=>(r.2.2.1,r.2.2.2):=by
  apply List.ext_getElem
  .simp[hlen]
  .intro i h1 h2
   simp[K3z] at h2;simp[h2]
 refine Lh (knd:=aV X.prog X.w) (bs:=λi=>(rows.getD i d0).1) (ks:=λi=>(rows.getD i d0).2.2.1) (us:=λi=>(rows.getD i d0).2.1) (ws:=λi=>(rows.getD i d0).2.2.2) (I.ok.hd hc) e1 (λi v hi e=>?_) (λi hi=>?_) (by have:=r'.length;simpa using(by omega:its.length<=sizeLine)) λh' tk dd keep=>?_
 .obtain⟨rw',b1,b2,b3⟩:=hrow i hi
  rw[b2];rw[a2] at e;simp[b1] at e;exact e.symm
 .obtain⟨rw',b1,b2,b3⟩:=hrow i hi
  rw[b2];exact a3 rw' b3
 .rw[hmap] at dd
  obtain⟨ob,hob⟩:∃ob,h'.get? s.heap.objs.size=some ob:=let ⟨ob,_,_,e,_⟩:=dd;⟨ob,e⟩
  refine⟨.ref s.heap.objs.size,_,I.laid (o:=.frz ob (.dK (dO [] kvs))) keep (B5z _) ⟨hob,qO hz ?_ rel dd⟩,rfl,q _ ob hn⟩;exact beq_false_of_ne (V4z I.big)
end
end L2
namespace DE
open PySem
def tX(ks':List (Sum Int Str))(ds':List D):List (Sum Int Str)->List D->Bool
 | k::ks,d::ds=>(match kO ks' ds' k with
  |some d'=>deq d d'
  | none=>false)&&tX ks' ds' ks ds
 |_,_=>true
def Bl(ks:List (Sum Int Str))(ds:List D)(ks':List (Sum Int Str))(ds':List D):Bool:=ks.length==ks'.length&&tX ks' ds' ks ds
end DE
namespace L2
open PySem PySem.Spec PyProof.Rows DE PySem.SeqAt
theorem nO{K:Zf}:∀{kvs:List (Key×V)}{ks:List Key}{ds:List D},kvs.map (·.1)=ks->aL K H ds (kvs.map (·.2)) ->
  (kO ks ds k=none/\jy kvs k=none)\/∃d v,kO ks ds k=some d/\jy kvs k=some v/\Rep K H d v/\d∈ds
 |[],_,ds,rfl,h=>by
  cases ds with
  |nil=>exact .inl ⟨rfl,rfl⟩
  |cons d r=>simp[aL] at h
 |(k',v)::r,_,ds,rfl,h=>by
  cases ds with
  |nil=>simp[aL] at h
  |cons d ds =>
   obtain⟨v',q,e,h1,h2⟩:=h;cases e
   by_cases hk:k'=k
   .refine .inr ⟨d,v,?_,iK hk,h1,N1z ..⟩
    unfold kO;rw[I4z,Z1z,List.find?_cons_of_pos (by simpa using hk)];rfl
   .rw[iM hk]
    have:kO (((k',v)::r).map (·.1)) (d::ds) k=kO (r.map (·.1)) ds k:=by
     unfold kO;rw[I4z,Z1z,List.find?_cons_of_neg (by simpa using hk)]
    rw[this];rcases nO rfl h2 with h3|⟨d',v',a1,a2,a3,a4⟩
    .exact .inl h3
    .exact .inr ⟨d',v',a1,a2,a3,X0z _ a4⟩
section
variable{X:Cx}{y0:List (Addr×Obj)}{Y:St}{H:Hp}{s:Shared}
theorem Ak(I:Inv X y0 Y H s)(A:Around)(hu:A.units+50<cLine)(e':kvs'.map (·.1)=ks')(r':aL X.K H ds' (kvs'.map (·.2)))(kv':KV kvs' vs')(z':∀d∈ds',dep d<=50) :
  ∀{kvs:List (Key×V)}{vs:List (Key×Value)}{ds:List D},aL X.K H ds (kvs.map (·.2))->KV kvs vs->(∀d∈ds,dep d<=50)->(∀d∈ds,∀d'∈ds',fW d d'=true)->W.KeqHits A s vs' vs (tX ks' ds' (kvs.map (·.1)) ds)
 |[],_,ds,_,.nil,_,_=>.nil
 |(k,v)::r,_,ds,h,.cons (b:=(k0,u)) hu1 t,z,zk=>by
  obtain⟨rfl,hu2⟩:k=k0/\RelV v u:=hu1
  cases ds with
  |nil=>simp[aL] at h
  |cons d ds =>
   obtain⟨v',q,e,h1,h2⟩:=h;cases e;show W.KeqHits A s vs' ((k,u)::_) ((match kO ks' ds' k with|some d'=>deq d d'|none=>false)&&tX ks' ds' (r.map (·.1)) ds);rcases nO (k:=k) e' r' with⟨h3,h4⟩|⟨d',v',a1,a2,a3,a4⟩
   .rw[h3]
    have:valueAt vs' k=none:=by
     have:=kv'.val k;rw[h4] at this
     cases q:valueAt vs' k with
     |none=>rfl
     |some x=>rw[q] at this;exact this.elim
    exact .miss this
   .rw[a1]
    have:=kv'.val k;rw[a2] at this
    cases q:valueAt vs' k with
    |none=>rw[q] at this;exact this.elim
    |some x =>
     rw[q] at this;have zd:=z d (N1z ..);have zd':=z' d' a4;exact .hit q (tM I d d' v v' u x A h1 a3 hu2 this (by omega) (by omega) (by omega) (zk d (N1z ..) d' a4)) (Ak I A hu e' r' kv' z' h2 t (λd hd=>z d (X0z _ hd)) λd hd=>zk d (X0z _ hd))
def WK(X:Cx)(g:Bool->Bool):R2:=λu v H Q=>∃Hs ks ds ks' ds',Same Hs H/\Rep X.K Hs (.dic ks ds) u/\Rep X.K Hs (.dic ks' ds') v/\(∀d∈ds,dep d<=50)/\(∀d∈ds',dep d<=50)/\(∀d∈ds,∀d'∈ds',fW d d'=true)/\Q (.bl (g (Bl ks ds ks' ds'))) H
theorem OJ(hr:Room k X.A)(kw:KnW X.K X.w):OpR X (compareOp .NotEq) (WK X (!·)):=by
 intro y0 s Y H u v w z Q I ru rv h;obtain⟨Hs,ks,ds,ks',ds',hs,h1,h2,z1,z2,zk,q⟩:=h;obtain⟨a,kvs,rfl,a1,a2,a3⟩:=Rep.same hs _ _ h1;obtain⟨b,kvs',rfl,b1,b2,b3⟩:=Rep.same hs _ _ h2;cases ru;cases rv;obtain⟨ha,vs,ra,da⟩:=eG I kw a1;obtain⟨hb,vs',rb,db⟩:=eG I kw b1;have hun:=hr.un;refine W.keq_ne (r:=tX ks' ds' ks ds) ha hb da db (by omega) (λ_=>?_) ⟨.bl _,H,I,?_,q⟩
 .have:=Ak I X.A.in1 (by rw[PySem.Around.in1_units];omega) b2 b3 rb z2 a3 ra z1 zk
  rw[a2] at this;exact this
 .congr 2
  rw[<- ra.length,<- rb.length,<- a2,<- b2,Bl];simp
end
end L2
namespace L2
open PySem PySem.Spec PyProof.Rows
def qR(CX:CXT)(P:Program)(w:World)(K:Zf)(mg:Str->Option Value)(base:Heap)(N:List Str)(qual:Str)(scope:Scope)(f:Addr)(cd:Value)(cl:List (Str×Addr))(A:Around)(outer:List Env)(s:Shared)(H:Hp)(E:XK):Cx where
 prog:=P
 w:=w
 K:=K
 mg:=mg
 base:=base
 A:=A.deeper (W.envX qual scope s.heap.objs.size f cd cl)
 N:=N
 s₀:=s
 H₀:=H
 env:=W.envX qual scope s.heap.objs.size f cd cl
 outer:=outer
 stack:=W.envX qual scope s.heap.objs.size f cd cl::outer
 ex:=[]
 calm:=true
 fn:=λ_=>false
 pn:=[]
 xe:=λe s'=>wpAny (model P w) (A.deeper (W.envX qual scope s.heap.objs.size f cd cl)) (leaving (W.envX qual scope s.heap.objs.size f cd cl) e) (λ_ s''=>CX outer H s E e s'') (λe' s''=>CX outer H s E e' s'') s'
structure LamNames(base:Heap)(scope:Scope)(N:List Str)(ws:List V)(cl:List (Str×Addr)):Prop where
 kind:scope.kind=.function
 co:scope.isCoroutine=false
 gen:scope.isGenerator=false
 own:∀x∈scope.names,x.2≠.cell
 len:ws.length=N.length
 val:∀(i:Nat) x v,N[i]?=some x->ws[i]?=some v->scope.names.lookup x=some .free/\∃c u,cl.lookup x=some c/\RelV v u/\base.IsCell c (some u)
 inj:∀x y c,cl.lookup x=some c->cl.lookup y=some c->x=y
 has:∀x,scope.names.lookup x=some .free->∃c,cl.lookup x=some c
 cell:∀x c,cl.lookup x=some c->∃v,base.IsCell c v
theorem fH{h h':Heap}(x:h.IsCell c v)(k:∀b o,h.get? b=some o->h'.get? b=some o):h'.IsCell c v:=by
 obtain⟨o,h1,h2⟩:=x;exact⟨o,k _ _ h1,h2⟩
theorem PK{K:Zf}
       (lk:base.get? f=some (W.kla_obj name qual params body scope cl pm c' ctv)) (hcd:base.CodeRec (.ref c') qual) (L:LamNames base scope N ws cl)
    (len:∀vs H Q E,sp vs H Q E->vs.length=0)
    (hbody:∀(A:Around)(outer:List Env)(s:Shared)(H:Hp)(Q:VK)(E:XK),Room k (A.deeper (W.envX qual scope s.heap.objs.size f (.ref c') cl))->sp [] H Q E ->
      ∃t,PE (qR CX P w K mg base N qual scope f (.ref c') cl A outer s H E) body t/\t (ws.map some) H Q) :
    FnOk P w K mg base CX (k+1) f (W.kla_fn name qual params body scope cl pm (.ref c') ctv) [] sp:=by
  refine⟨len,λA outer s H args us vs Q E hr e0 hb r hsp=>?_⟩
  obtain rfl:vs=[]:=List.length_eq_zero_iff.mp (len _ _ _ _ hsp)
  have keep:=λb o e=>(e0.bs b o e).1
  have lim:=e0.mod.nolimit.keeps keep
  refine W.kla_callFunE hr.depth (keep _ _ lk) rfl L.co L.gen rfl (hcd.keeps keep) (hb _ _ _ _ ?_)
  refine wpAny_newFunctionEnv L.own (λx hx=>by simp at hx) (λh1 hns hsb=>?_) L.kind
  have hk1:=λb o e=>hsb.extBut b o (S4z (R4z e)) (Heap.get?_push_of_some _ e)
  refine⟨lim.keeps hk1,?_⟩
  obtain⟨t,ht,hq⟩:=hbody A outer s H Q E (hr.deeper _) hsp
  have noA:∀b:Addr,b∉(qR CX P w K mg base N qual scope f (.ref c') cl A outer s H E).ex:=λb z=>absurd (show b∈([]:List Addr) from z) (by simp)
  have nocell:∀x,scope.names.lookup x≠some .cell:=λx e=>L.own _ (F1z e) rfl
  have I:Inv (qR CX P w K mg base N qual scope f (.ref c') cl A outer s H E) [] (ws.map some) H {s with heap:=h1,toks:=s.toks+0}:=by
    refine⟨⟨e0.mod,L.kind,rfl,rfl,B5z _,λy z c h1 h2=>L.inj y z c h1 h2,λy hy=>?_,λy c z _=>(nomatch z),λ_=>hr.hd,Around.frames_deeper e0.frames,.inr ⟨rfl,rfl⟩,λb z=>absurd z (noA b),e0.bs,e0.bsz,λb _ _=>noA b,λb z=>absurd z (noA b),e0.funs,e0.frf⟩,
      rfl,e0.bare,Un.kept hk1,⟨_,hns,λi y v a1 a2 a3=>?_⟩,λy c a=>?_,e0.hok.fresh (B5z _),λy c a=>?_,λp hp=>absurd (show p∈([]:List (Addr×Obj)) from hp) (by simp),e0.hok.kept hk1,?_⟩
    . obtain hy|hy:=hy
      . exact absurd hy (nocell y)
      . exact L.has y hy
    . have a2':ws[i]?=some v:=by
        rw[List.getElem?_map] at a2
        cases e:ws[i]? with
        |none=>rw[e] at a2;cases a2
        |some b=>rw[e] at a2;cases a2;rfl
      obtain⟨b1,c,u,b2,b3,b4⟩:=L.val i y v a1 a2'
      exact⟨u,b3,.inr ⟨.inr b1,c,b2,fH (fH b4 keep) hk1⟩⟩
    . obtain⟨v,b1⟩:=L.cell y c a
      exact⟨v,fH (fH b1 keep) hk1⟩
    . obtain⟨v,o,b1,_⟩:=L.cell y c a
      exact(e0.bs _ _ b1).2
    . rw[K3z]
      exact L.len
  refine W.kla_codeExpr (H5z (ht [] _ (ws.map some) H _ I hq) (λu s' hs=>?_) λe s' hs=>hs)
  obtain⟨v,H',J,rv,q⟩:=hs
  exact⟨v,H',J.os,J.bare,J.base,J.hok,rv,q⟩
def uo(P:Addr)(ps:Array Value):HO:=.ext λh=>h.get? P=some (W.tabObj ps)
theorem Gx(e:h.get? P=some (W.tabObj ps)):cX p w H h P (uo P ps) :=
 ⟨e,⟨_,e⟩,λh1 h2 a b=>b _ a⟩
def Cy(h:Heap)(H:Hp)(fs:List Addr):Heap:=W.hideAll (Cu h H) fs
theorem pG(e:h.get? b=some o)(n:H b=none)(f:b∉fs):(Cy h H fs).get? b=some o:=B1z _ (vg e n) f
theorem O8(e:(Cy h H fs).get? b=some o):h.get? b=some o/\H b=none:=zL (M1z _ e)
theorem qK{h base base':Heap}:∀{l:List Env},h.FunFrames base l->(∀b∈frs l,base'.get? b=none)->h.FunFrames base' l
 |[],_,_=>trivial
 |env::r,hl,hb=>by
  obtain⟨hk,⟨L,o,hf,hn,ho,hd⟩,hr⟩:=hl;refine⟨hk,⟨L,o,hf,hb L ?_,ho,hd⟩,qK hr λb z=>hb b ?_⟩
  .unfold frs;rw[C1z,hf];exact N1z
  .unfold frs at z ⊢;rw[C1z,hf];exact X0z _ z
section
variable{X:Cx}{y0:List (Addr×Obj)}{Y:St}{H:Hp}{s:Shared}
theorem Inv.inBig(I:Inv X y0 Y H s):∀b o,X.base.get? b=some o->(Cy s.heap H (frs X.stack)).get? b=some o:=λb o e=>by
 obtain⟨h1,h2⟩:=I.bs b o e;refine pG h1 h2 λz=>?_;obtain⟨n,_⟩:=I.stack.mem z;rw[n] at e;cases e
theorem Inv.modBig(I:Inv X y0 Y H s):Mod X.K X.mg (Cy s.heap H (frs X.stack)):=by
 have k:=I.inBig;obtain⟨mb,b1,b2⟩:=I.mod.blt;exact⟨I.mod.kin.keeps k,I.mod.glob.keeps k,⟨mb,b1.keeps k,b2⟩,I.mod.nolimit.keeps k⟩
theorem Inv.env0Big(I:Inv X y0 Y H s):Env0 X.prog X.w X.K X.mg (Cy s.heap H (frs X.stack)) X.A X.stack s H :=
 ⟨I.ok.frames,I.modBig,λb o e=>O8 e,by unfold Cy;rw[W.hideAll_size,qJ];exact B5z _,qK I.stack λb hb=>W.hideAll_none _ hb,I.stkFree,I.hok,I.bare⟩
theorem Ey(I:Inv X y0 Y H s)
  (hdef:defaultsOf params X.env=([],[])) (hcode:X.env.code=.ref c) (C:W.CodeHd X.base c P) (hcl:closureFor scope X.env=pure clos) (hb:X.base.BuiltinsAt X.mg P) (hge:X.env.globals=mainGlobals)
  (hP:H P=some (uo P ps)) (ht:TriplesOk ps.toList) (hn:codeAmong pos ps.toList=none)
  (h:∀(f c':Addr)(ctv pm:Value)(s':Shared), Inv X y0 Y (upd H P (uo P (ps ++ #[rawInt pos.line, rawInt pos.col, .ref c']))) s' ->
   s'.heap.get? f=some (W.kla_obj "<lambda>" (X.env.qual++"<lambda>") params body scope clos pm c' ctv)->s'.heap.CodeRec (.ref c') (X.env.qual++"<lambda>")->(∃o,s'.heap.get? c'=some o)->s.heap.objs.size<=f->s.heap.objs.size<=c' ->
   (∀b o,b≠P->s.heap.get? b=some o->s'.heap.get? b=some o)->R (.ref f) s') :
  wpAny (model X.prog X.w) X.A (eval (.Lambda params body scope pos) X.env) R X.xe s:=by
 have hg:=I.mod.glob.keeps I.bk
 have hgP:mainGlobals≠P:=λq=>by
  obtain⟨o,es,ep,e,hd,_⟩:=I.mod.glob;rw[q] at e;have:=(I.bs _ _ e).2;rw[hP] at this;cases this
 obtain⟨bm,ob,b1,b2,b3,b4,b5,b6,b7,b8⟩:=hb;refine W.kla_eval hdef (W.kla_makeFunction (mg:=X.mg) hcl hge hg hcode (C.keeps I.bk) ((I.hok P _ hP).1) ht hn hgP ⟨bm,ob,b1,b2,b3,b4,I.bk _ _ b5,b6,b7,b8⟩ λc' ctv h' tk hx hge hlt hrec htb=>?_);have keep:∀b o,b≠P->s.heap.get? b=some o->(h'.push (W.kla_obj "<lambda>" (X.env.qual++"<lambda>") params body scope clos ((X.mg "__name__").getD .none) c' ctv)).get? b=some o:=λb o hbP e=>Heap.get?_push_of_some _ (hx b o hbP e);have hnew:=Heap.get?_push_of_some (W.kla_obj "<lambda>" (X.env.qual++"<lambda>") params body scope clos ((X.mg "__name__").getD .none) c' ctv) htb;refine h h'.objs.size c' ctv _ _ (I.write (by rw[hP];exact trivial) (.inl rfl) (λb u hb e=>keep b u hb e) ⟨_,hnew⟩ (Gx hnew)) (Heap.get?_push_size _ rfl) ?_ ?_ (T4z hge (U4z hlt)) hge keep
 .obtain⟨c2,oc,vs,t,e1,e2,e3,e4⟩:=hrec
  exact⟨c2,oc,vs,t,e1,Heap.get?_push_of_some _ e2,e3,e4⟩
 .obtain⟨c2,oc,vs,t,e1,e2,e3,e4⟩:=hrec
  cases e1;exact⟨oc,Heap.get?_push_of_some _ e2⟩
end
section
variable{X:Cx}{y0:List (Addr×Obj)}{Y:St}{H:Hp}{s:Shared}
theorem Inv.track(I:Inv X y0 Y H s)(f:xJ X y0 H c)(ok:cX X.prog X.w (upd H c o) s.heap c o):Inv X y0 Y (upd H c o) s:=by
 have hn:=f.1
 refine I.call' (ch:=[c]) rfl ?_ ?_ I.bare λb hb=>by
  have e:b=c:=by simpa using hb
  subst e;exact⟨f.2.2.2.1,f.2.1,f.2.2.2.2.1,f.2.2.2.2.2⟩
 .refine⟨λb u e _ _ hc=>e,λb u e _ _ hc=>⟨u.slots,e⟩,λb u e n hc=>?_,λb u e hc=>⟨u,e⟩,λb xs e=>?_,λb u xs e=>?_,λb ps e=>⟨#[],?_⟩⟩
  .rw[ak (λz=>hc (by simp[z]))];exact n
  .rw[ak (aj e hn)];exact e
  .rw[ak (aj e hn)];exact e
  .rw[ak (aj e hn),e];simp
 .intro b u e
  by_cases hb:b=c
  .subst hb;rw[au] at e;cases e;exact ok
  .rw[ak hb] at e
   exact(I.hok b u e).stay (λ_ v _ q=>q) (λd q=>by rw[ak (aj q hn)];exact q) λd xs q=>by rw[ak (aj q hn)];exact q
def xu(c':Addr)(qual:Str):HO:=.ext λh=>h.CodeRec (.ref c') qual
theorem QB(e:h.CodeRec (.ref c') qual):cX p w H h c' (xu c' qual):=by
 obtain⟨c2,oc,vs,t,a1,a2,a3,a4⟩:=e;cases a1;refine⟨⟨c',oc,vs,t,rfl,a2,a3,a4⟩,⟨oc,a2⟩,λh1 h2 q k=>?_⟩;obtain⟨c3,od,vs',t',b1,b2,b3,b4⟩:=q;cases b1;exact⟨c',od,vs',t',rfl,k _ b2,b3,b4⟩
theorem xu.rec(ok:HOk p w H h)(e:H c'=some (xu c' qual)):h.CodeRec (.ref c') qual:=(ok c' _ e).1
theorem z6(I:Inv X y0 Y H s)
  (hdef:defaultsOf params X.env=([],[])) (hcode:X.env.code=.ref c) (C:W.CodeHd X.base c P) (hcl:closureFor scope X.env=pure clos) (hb:X.base.BuiltinsAt X.mg P) (hge:X.env.globals=mainGlobals)
  (hP:H P=some (uo P ps)) (ht:TriplesOk ps.toList) (hn:codeAmong pos ps.toList=some (.ref c'))
  (h:∀(f:Addr)(ctv pm:Value)(s':Shared), Inv X y0 Y H s'->s'.heap.get? f=some (W.kla_obj "<lambda>" (X.env.qual++"<lambda>") params body scope clos pm c' ctv)->s.heap.objs.size<=f ->
   (∀b o,s.heap.get? b=some o->s'.heap.get? b=some o)->R (.ref f) s') :
  wpAny (model X.prog X.w) X.A (eval (.Lambda params body scope pos) X.env) R X.xe s:=by
 have hg:=I.mod.glob.keeps I.bk;obtain⟨bm,ob,b1,b2,b3,b4,b5,b6,b7,b8⟩:=hb;refine W.kla_eval hdef (W.kla_makeFunctionHit (mg:=X.mg) hcl hge hg hcode (C.keeps I.bk) ((I.hok P _ hP).1) ht hn ⟨bm,ob,b1,b2,b3,b4,I.bk _ _ b5,b6,b7,b8⟩ λctv h' tk hx hsz=>?_);have keep:∀b o,s.heap.get? b=some o->(h'.push (W.kla_obj "<lambda>" (X.env.qual++"<lambda>") params body scope clos ((X.mg "__name__").getD .none) c' ctv)).get? b=some o:=λb o e=>Heap.get?_push_of_some _ (hx b o e);exact h h'.objs.size ctv _ _ (I.kept keep) (Heap.get?_push_size _ rfl) hsz keep
theorem zZ(I:Inv X y0 Y H s)
  (hdef:defaultsOf params X.env=([],[])) (hcode:X.env.code=.ref c) (C:W.CodeHd X.base c P) (hcl:closureFor scope X.env=pure clos) (hb:X.base.BuiltinsAt X.mg P) (hge:X.env.globals=mainGlobals)
  (hP:H P=some (uo P ps)) (ht:TriplesOk ps.toList) (hn:codeAmong pos ps.toList=none)
  (h:∀(f c':Addr)(ctv pm:Value)(s':Shared), H c'=none->c'≠P->Inv X y0 Y (upd (upd H P (uo P (ps ++ #[rawInt pos.line, rawInt pos.col, .ref c']))) c' (xu c' (X.env.qual++"<lambda>"))) s' ->
   s'.heap.get? f=some (W.kla_obj "<lambda>" (X.env.qual++"<lambda>") params body scope clos pm c' ctv)->s.heap.objs.size<=f->f≠c' ->
   (∀b o,b≠P->s.heap.get? b=some o->s'.heap.get? b=some o)->R (.ref f) s') :
  wpAny (model X.prog X.w) X.A (eval (.Lambda params body scope pos) X.env) R X.xe s:=by
 refine Ey I hdef hcode C hcl hb hge hP ht hn λf c' ctv pm s' J e1 e2 e3 e4 e5 keep=>?_
 have hcP:c'≠P:=λz=>by rw[z] at e5;exact absurd (L1z (I.hok.lt hP) e5) (G4z _)
 have fp:=I.fpOk e5 (I.hok.fresh e5);have hcn:=I.hok.fresh e5;refine h f c' ctv pm s' hcn hcP (J.track ⟨by rw[ak hcP];exact hcn,fp.2⟩ (QB e2)) e1 e4 (λz=>?_) keep;obtain⟨c2,oc,vs,t,a1,a2,a3,a4⟩:=e2;cases a1;rw[z,a2] at e1;have:=congrArg (λo:Option Obj=>o.map Obj.data) e1;rw[I3z this] at a3;cases a3
end
def rQ(p a:Addr)(h:Heap):Prop:=h.IsItemsView p a
theorem Ip(x:rQ p a h):cX P w H h p (.ext (rQ p a)) :=
 ⟨x,let ⟨o,e,_⟩:=x;⟨o,e⟩,λ_ _ ⟨o,e,r⟩ k=>⟨o,k o e,r⟩⟩
def Nu(K:Zf)(td:TE):TE:=λY H Q=>td Y H λx H1=>∃(a:Addr)(kvs:List (Key×V)),x=.ref a/\DAt K H1 a kvs/\∀p,H1 p=none->Q (.ref p) (upd H1 p (.ext (rQ p a)))
theorem Lj(hd:(d==sysModules)=false):MeetsIn prog w (Builtin.«dict.items» ⟨[.ref d],[]⟩) (λ_ R s=>s.TypeIs (.ref d) "dict" /\
   R (.ok (.ret (.ref s.heap.objs.size))) {s with heap:=s.heap.push {cls:=.type "dict_items",data:=.fields #[.ref d]} }) :=
 .of_wp λA R s ⟨ht,q⟩=>by
  refine I5z (I5z (wpAny_notOrdered_dict ht ?_));apply J5z;unfold Builtin.Dict.showsAll;simp only[hd];exact I5z (J5z (I5z (F2z (J5z ⟨_,rfl,q⟩))))
section
variable{X:Cx}{y0:List (Addr×Obj)}{Y:St}{H:Hp}{s:Shared}
theorem Dz(kw:KnW X.K X.w)(ho:PE X o td)(hbase:attributeBase o "items" X.env (eval o X.env)=eval o X.env)(hline:(apos.endLine==cpos.line)=true) :
  PE X (.Call (.Attribute o "items" apos) [] [] cpos) (Nu X.K td):=by
 intro y0 s Y H Q I h;refine wpAny_Call_method0_late hbase hline (thn (ho y0 s Y H _ I h) λv s1 ⟨x,H1,I1,r1,a,kvs,ex,e1,q1⟩=>?_);subst ex;cases r1;obtain⟨hd,vs,rel,dd⟩:=eG I1 kw e1;have t1:=dd.typeIs
 have t2:∀b,Value.ref a=.ref b->∃ob,s1.heap.get? b=some ob/\ob.dict=none:=λb q=>by
  cases q;obtain⟨ob,_,_,h1,h2,_⟩:=dd;exact⟨ob,h1,h2.2.1⟩
 refine⟨"dict","dict.items",G0z,PySem.F.slot_dict_items,PySem.F.type_dict_items,t1,t2,N0z rfl (PySem.evalArgs_none ?_)⟩;refine call_meetsIn PySem.F.slot_dict_items t1 PySem.F.entry_dict_items (PySem.F.args_dict_items_1 _) (Lj hd) ⟨t1,?_⟩;refine⟨.ref s1.heap.objs.size,_,I1.laid (λ_ _ q=>Heap.get?_push_of_some _ q) (B5z _) (Ip ⟨_,Heap.get?_push_size _ rfl,rfl,rfl⟩),rfl,q1 _ (I1.hok.fresh (B5z _))⟩
def CZ:List (Key×V)->Hp->(List Addr->Hp->Prop)->Prop
 |[],H,Q=>Q [] H
 |(k,v)::r,H,Q=>∀b,H b=none->CZ r (upd H b (.tup [kV k,v])) λbs H'=>Q (b::bs) H'
theorem qm(h:(aV P w).is k u=true):RelV (kV k) u:=by
 obtain⟨i,t,e1,e2⟩|⟨z,t,e1,e2⟩:=bJ h
 .subst e1 e2;exact⟨t,rfl⟩
 .subst e1 e2;exact⟨t,rfl⟩
theorem pX(I0:Inv X y0 Y H0 s0):∀{kvs:List (Key×V)}{vs:List (Key×Value)}{as:List Addr}{H:Hp}{Q:List Addr->Hp->Prop},KV kvs vs->as.length=vs.length->as.Pairwise (· < ·)->(∀a∈as,s0.heap.objs.size<=a/\H a=none) ->
  (∀(j:Nat)(a:Addr),as[j]?=some a->∃key k x,vs[j]?=some (k,x)/\(aV X.prog X.w).is k key=true/\s.heap.get? a=some {cls:=.type "tuple",data:=.seq #[key,x]})->Inv X y0 Y H s->CZ kvs H Q->∃H',Inv X y0 Y H' s/\Q as H'/\∀b,b∉as->H' b=H b
 |[],_,as,H,Q,.nil,hl,_,_,_,I,q=>by
  cases as with
  |nil=>exact⟨H,I,q,λ_ _=>rfl⟩
  |cons _ _=>simp at hl
 |(k,v)::r,_,as,H,Q,.cons (b:=(k0,x)) hr t,hl,hp,hf,hg,I,q=>by
  obtain⟨rfl,rx⟩:k=k0/\RelV v x:=hr
  cases as with
  |nil=>simp at hl
  |cons a as =>
   obtain⟨key,k',x',e1,e2,e3⟩:=hg 0 a rfl;cases e1;obtain⟨f1,f2⟩:=hf a (N1z ..);have I2:Inv X y0 Y (upd H a (.tup [kV k,v])) s:=I.track (I0.fpOk f1 f2) ⟨by show 2<=sizeLine;decide,[key,x],.cons (qm e2) (.cons rx .nil),⟨_,e3,rfl,0,rfl⟩⟩
   obtain⟨H',I',q',k'⟩:=pX I0 t (by simpa using hl) (List.Pairwise.of_cons hp) (λb hb=>⟨(hf b (X0z _ hb)).1,by rw[ak ((λb hb=>V4z (List.rel_of_pairwise_cons hp hb)) b hb)];exact(hf b (X0z _ hb)).2⟩) (λj b e=>by
    obtain⟨key',k',x',e1,e2,e3⟩:=hg (j+1) b (by simpa using e)
    exact⟨key',k',x',by simpa using e1,e2,e3⟩) I2 (q a f2)
   refine⟨H',I',q',λb hb=>?_⟩;rw[k' b (λz=>hb (X0z _ z)),ak (λz=>hb (by rw[z];exact N1z ..))]
theorem mX(hc:X.calm=true)(kw:KnW X.K X.w):dz X (.type "list") (λxs H Q=>∃(v a:Addr)(kvs:List (Key×V)),xs=[.ref v]/\H v=some (.ext (rQ v a))/\DAt X.K H a kvs/\kvs.length<=1000/\CZ kvs H λbs H'=>∀l,H' l=none->Q (.ref l) (upd H' l (.lst (bs.map V.ref)))):=by
 intro y0 s Y H xs us Q I r h;obtain⟨v,a,kvs,rfl,hv,hd,hz,q⟩:=h
 obtain⟨u,rfl,rfl⟩:∃u,us=[u]/\u=Value.ref v:=by
  cases r with
  |cons r1 r2=>cases r2;exact⟨_,rfl,r1⟩
 obtain⟨lo,vs,rel,dd⟩:=eG I kw hd;obtain⟨ep,hat⟩:=dd.dictAt;have hvw:s.heap.IsItemsView v a:=(I.hok v _ hv).1;have hl:vs.length=kvs.length:=rel.length.symm
 have hz2:(1000:Nat)<=sizeLine:=by decide
 refine W.kdx_call (knd:=aV X.prog X.w) (I.ok.hd hc) hvw hat (by omega) λh' tk acc c as keep hS hal hG hacc=>?_;have I1:Inv X y0 Y H {s with heap:=h',toks:=tk}:=I.kept keep;obtain⟨H',I2,q2,k2⟩:=pX (s:={s with heap:=h',toks:=tk}) I rel (by rw[hal]) hG.rise (λb hb=>⟨U4z (hG.above b hb),I.hok.fresh (U4z (hG.above b hb))⟩) hG.pairs I1 q
 have hn:H' s.heap.objs.size=none:=by
  rw[k2 _ λz=>G4z _ (hG.above _ z)];exact I.hok.fresh (B5z _)
 refine⟨.ref s.heap.objs.size,_,I2.track (o:=.lst (as.map V.ref)) (I.fpOk (B5z _) hn) ⟨by rw[K3z];omega,acc.toList,c,?_,by simpa using hS⟩,rfl,q2 _ hn⟩
 rw[hacc];exact vals_refs as
where
 vals_refs:∀as:List Addr,Vals (as.map V.ref) (as.map Value.ref)
  |[]=>.nil
  |a::r=>.cons rfl (vals_refs r)
end
def Ml(K:Zf)(H:Hp)(d:Addr)(kvs:List (Key×V))(o:Obj):Prop:=H d=some (.frz o (.dK kvs))\/(K.lookup d=some o/\KDc K d kvs)
theorem DAt.obj{K:Zf}(h:DAt K H d kvs):∃o,Ml K H d kvs o:=by
 obtain⟨o,h⟩|h:=h
 .exact⟨o,.inl h⟩
 .obtain⟨o,es,n,h1,r⟩:=id h
  exact⟨o,.inr ⟨h1,h⟩⟩
def Itk(K:Zf)(d:Addr)(kvs:List (Key×V))(o:Obj):It :=
 ⟨λi H=>Ml K H d kvs o/\i<kvs.length,λi H x H'=>H'=H/\∃k v,kvs[i]?=some (k,v)/\x=kV k,λi H=>Ml K H d kvs o/\i=kvs.length⟩
theorem TQ(r:KV kvs vs){i:Nat}(h:kvs[i]?=some (k,v)):∃u,vs[i]?=some (k,u)/\RelV v u:=by
 induction r generalizing i with
 |nil=>cases h
 | @cons p q ps qs hq t ih =>
  cases i with
  |zero =>
   cases h;obtain⟨q1,q2⟩:=q;obtain⟨rfl,h2⟩:k=q1/\RelV v q2:=hq;exact⟨q2,rfl,h2⟩
  |succ i=>exact ih (by simpa using h)
theorem tW(I:Inv X y0 Y H s)(kw:KnW X.K X.w)(e:Ml X.K H d kvs o):(d==sysModules)=false/\d<s.heap.objs.size/\∃es ep vs,o.data=.dict es ep/\KV kvs vs/\s.heap.DictAt (aV X.prog X.w) d vs ep:=by
 obtain e|⟨e,o',es,n,h1,h2,h3,h4,h5,h6⟩:=e
 .obtain⟨h1,_,hS,vs,rel,o',es',ep',h2,r1,r2,r3⟩:=I.hok d _ e
  rw[h1] at h2;cases h2;exact⟨hS,R4z h1,es',ep',vs,r2,rel,o,es',h1,r1,r2,r3⟩
 .rw[h1] at e
  cases e;obtain⟨vs,g1,g2,g3,g4⟩:=qG h6 (kw.at h1 h3);exact⟨h4,R4z (I.kIn d o h1),es,n,vs,h3,g1,o,es,I.kIn d o h1,h2,h3,λe he=>g4 e (by simpa using he),g2,by rw[g3];exact h5⟩
theorem xY{P:Program}{w:World}{K:Zf}{tg:Expr}{d it:Addr}{kvs:List (Key×V)}{o:Obj}{es:Array DictEntry}{ep:Nat}(kw:KnW K w)(hd:o.data=.dict es ep)(hne:d≠it) :
  Turn P w K tg (Itk K d kvs o) [it] it (λi h=>h.IsKeyIter it d i kvs.length ep) where
 mem:=by simp
 obj:=λi h st b hb=>by
  have e:b=it:=by simpa using hb
  subst e;obtain⟨o,e,c,d⟩:=st;exact⟨o,e,λv z=>by rw[d] at z;cases z⟩
 keep:=λi h h' st k=>st.at λo e=>k it (by simp) o e
 item:=by
  intro X hP hw hK hc i y0 s Y H E I hf st hg;subst hP hw hK;obtain⟨e,hi⟩:=hg;obtain⟨_,_,es',ep',vs,hd',rel,hat⟩:=tW I kw e;rw[hd] at hd';cases hd';obtain⟨⟨k,v⟩,hx⟩:∃p,kvs[i]?=some p:=⟨kvs[i],List.getElem?_eq_getElem hi⟩;obtain⟨u,hu,_⟩:=TQ rel hx;obtain⟨f0,f1,f2,f3,f4,f5⟩:=hf it (by simp);refine wpAny_pyNext_dict_item (by rw[<- rel.length];exact st) hat hu λkey h' hkey st' sb=>?_;have I1:=I.turned (t':=s.toks) (λb o hb e=>(sb.2 b hb).trans e) f0 f1 f3 f4 f5;rw[<- rel.length] at st';obtain⟨oi,ei,ci,di⟩:=id st';exact⟨key,rfl,wO ei ci di rfl ⟨kV k,H,I1,qm hkey,⟨rfl,k,v,hx,rfl⟩,st',λb hb=>(hf b hb).1⟩⟩
 done:=by
  intro X hP hw hK hc i y0 s Y H E I hf st hg;subst hP hw hK;obtain⟨e,hi⟩:=hg;obtain⟨_,_,es',ep',vs,hd',rel,hat⟩:=tW I kw e;rw[hd] at hd';cases hd';obtain⟨f0,f1,f2,f3,f4,f5⟩:=hf it (by simp);exact wpAny_pyNext_dict_end (I.ok.hd hc) (by rw[<- rel.length];exact st) hat (by have:=rel.length;simp;omega) λh' eb=>⟨rfl,I.turned (λb o hb e=>eb b o hb e) f0 f1 f3 f4 f5⟩
 self:=λ_ _ _ _ _ st h=>wpAny_pyIter_keyiter st h
def Ui(K:Zf)(td:TE):TI:=λY H R=>td Y H λx H1=>∃a kvs o,x=.ref a/\Ml K H1 a kvs o/\R (Itk K a kvs o) H1
theorem JF(kw:KnW X.K X.w)(ho:PE X o td):PI X tg o (Ui X.K td):=by
 intro y0 s Y H R I h;refine thn (ho y0 s Y H _ I h) λv s1 ⟨x,H1,I1,r1,a,kvs,ob,ex,e1,q1⟩=>?_;subst ex;cases r1;obtain⟨hS,lt,es,ep,vs,hd,rel,hat⟩:=tW I1 kw e1;refine wpAny_pyIter_dict hS hat ?_;refine⟨s1.heap.objs.size,[s1.heap.objs.size],_,_,H1,rfl,I1.kept λb o e=>Heap.get?_push_of_some _ e,xY kw hd (S4z lt),?_,λb hb=>?_,q1⟩
 .rw[rel.length]
  exact⟨_,Heap.get?_push_size _ rfl,rfl,rfl⟩
 .have e:b=s1.heap.objs.size:=by simpa using hb
  subst e;exact I1.fpOk (B5z _) (I1.hok.fresh (B5z _))
def NK:TE:=λ_ H Q=>∀p ob,H p=none->Q (.ref p) (upd H p (.frz ob (.dK [])))
theorem DN:PE X (.Dict [] [] pos) NK:=λy0 s Y H Q I h =>
 wpAny_Dict_empty ⟨.ref s.heap.objs.size,_,I.laid (o:=.frz _ (.dK [])) (λ_ _ q=>Heap.get?_push_of_some _ q) (B5z _) ⟨Heap.get?_push_size _ rfl,oV s.heap I.big⟩,rfl,h _ _ (I.hok.fresh (B5z _))⟩
end L2
namespace DE
open PySem
theorem Ah:∀(l1:List Str),l1++a::l2∈ins a (l1++l2)
 |[]=>by cases l2<;>simp[ins]
 |b::r=>by
  simp only[List.cons_append,ins,P4z,List.mem_map];exact .inr ⟨_,Ah r,rfl⟩
theorem qu:∀{l ks:List Str},l.Perm ks->l∈perms ks
 |l,[],h=>by rw[h.eq_nil];simp[perms]
 |l,a::r,h=>by
  obtain⟨l1,l2,rfl⟩:=List.append_of_mem (h.symm.subset (N1z ..));simp only[perms,List.mem_flatMap];exact⟨_,qu ((List.perm_cons a).mp (List.perm_middle.symm.trans h)),Ah l1⟩
theorem yH(h:GR ks=some x)(hp:l.Perm ks)(hs:PyProof.Rows.sortedS l=true):l=x:=by
 unfold GR at h;split at h
 .rename_i y e
  cases h;have:=List.mem_filter.mpr ⟨qu hp,hs⟩;rw[e] at this;simpa using this
 .cases h
theorem uE:∀{ks:List (Sum Int Str)}{l:List Str},Dg ks=some l->ks=l.map Sum.inr
 |[],_,h=>by cases h;rfl
 |.inr k::r,l,h=>by
  obtain⟨l',h1,rfl⟩:=O0z.mp h;rw[uE h1];rfl
 |.inl _::_,_,h=>by cases h
end DE
namespace L2
open PySem PySem.Spec PyProof.Rows DE
section
variable{X:Cx}
theorem O2(kw:KnW X.K X.w):OpR X (compareOp .In) (λu v H Q=>∃(a:Addr)(kvs:List (Key×V))(k:Key),u=kV k/\v=.ref a/\DAt X.K H a kvs/\Q (.bl (jy kvs k).isSome) H):=by
 intro y0 s Y H u v w z Q I ru rv h;obtain⟨a,kvs,k,rfl,rfl,hd,q⟩:=h;cases rv;obtain⟨hS,vs,rel,dd⟩:=eG I kw hd;refine wpAny_in_of (j4 ru) hS dd.mapOf ?_;rw[<- (rel.val k).isSome_eq];exact⟨.bl _,H,I.tok _,rfl,q⟩
theorem zF(kw:KnW X.K X.w):OpR X (compareOp .NotIn) (λu v H Q=>∃(a:Addr)(kvs:List (Key×V))(k:Key),u=kV k/\v=.ref a/\DAt X.K H a kvs/\Q (.bl (!(jy kvs k).isSome)) H):=by
 intro y0 s Y H u v w z Q I ru rv h;obtain⟨a,kvs,k,rfl,rfl,hd,q⟩:=h;cases rv;obtain⟨hS,vs,rel,dd⟩:=eG I kw hd;refine wpAny_notIn_of (j4 ru) hS dd.mapOf ?_;rw[<- (rel.val k).isSome_eq];exact⟨.bl _,H,I.tok _,rfl,q⟩
theorem pW{K:Zf}(e:kvs.map (·.1)=ks)(h:aL K H ds (kvs.map (·.2))):(jy kvs k).isSome=(kO ks ds k).isSome:=by
 rcases nO e h with⟨h1,h2⟩|⟨d,v,h1,h2,_⟩<;>rw[h1,h2]<;>rfl
theorem yZ{K:Zf}:∀{xs:List D}{vs:List V}{l:List (Sum Int Str×D)},iV xs=some l->aL K H xs vs->∃kvs:List (Key×V),xr K H vs kvs/\kvs.map (·.1)=l.map (·.1)/\aL K H (l.map (·.2)) (kvs.map (·.2))
 |[],vs,l,h,r=>by
  cases h;cases r;exact⟨[],rfl,rfl,rfl⟩
 |x::xs,vs,l,h,r=>by
  obtain⟨v,q,rfl,r1,r2⟩:=r;unfold iV at h;split at h
  .rename_i heq;cases heq
  .rename_i k d r' heq
   cases heq;obtain⟨l',h1,rfl⟩:=O0z.mp h;obtain⟨kvs,a1,a2,a3⟩:=yZ h1 r2;obtain⟨b,ws,rfl,b1,b2⟩:=r1;obtain⟨w1,t1,rfl,c1,c2⟩:=b2;obtain⟨w2,t2,rfl,c3,c4⟩:=c2;cases c4;cases (show w1=.str k by simpa[Rep] using c1);exact⟨(.inr k,w2)::kvs,⟨b,.inr k,w2,kvs,rfl,rfl,b1,a1⟩,by simp[a2],⟨w2,_,rfl,c3,a3⟩⟩
  .cases h
theorem uK{K:Zf}(r:Rep K H d v):∀{l:List (Sum Int Str×D)}{kvs:List (Key×V)},kvs.map (·.1)=l.map (·.1)->aL K H (l.map (·.2)) (kvs.map (·.2)) ->
  (kvs.map λkv=>if kv.1=k then(kv.1,v) else kv).map (·.1)=(l.map λq=>if q.1=k then(q.1,d) else q).map (·.1)/\aL K H ((l.map λq=>if q.1=k then(q.1,d) else q).map (·.2)) ((kvs.map λkv=>if kv.1=k then(kv.1,v) else kv).map (·.2))
 |[],kvs,e,h=>by
  cases kvs with
  |nil=>exact⟨rfl,rfl⟩
  |cons _ _=>simp at e
 |(k1,d1)::l,kvs,e,h=>by
  cases kvs with
  |nil=>simp at e
  |cons q kvs =>
   obtain⟨k2,v2⟩:=q;simp[I4z,W3z] at e;obtain⟨rfl,e⟩:=e;obtain⟨v',t,e',h1,h2⟩:=h;cases e';obtain⟨a1,a2⟩:=uK r e h2;simp only[I4z]
   by_cases hk:k2=k
   .rw[T5z hk,T5z hk]
    exact⟨by rw[a1],⟨v,_,rfl,r,a2⟩⟩
   .rw[U5z hk,U5z hk]
    exact⟨by rw[a1],⟨v2,_,rfl,h1,a2⟩⟩
theorem Jx{K:Zf}(r:Rep K H d v)(e:kvs.map (·.1)=l.map (·.1))(h:aL K H (l.map (·.2)) (kvs.map (·.2))):(putK kvs k v).map (·.1)=(putD l k d).map (·.1)/\aL K H ((putD l k d).map (·.2)) ((putK kvs k v).map (·.2)):=by
 have key:(kvs.any λkv=>decide (kv.1=k))=l.any λq=>decide (q.1=k):=by
  have:(kvs.map (·.1)).any (λx=>decide (x=k))=(l.map (·.1)).any λx=>decide (x=k):=by rw[e]
  simpa[Function.comp_def] using this
 unfold putK putD;rw[key];split
 .exact uK r e h
 .refine⟨by simp[e],?_⟩
  rw[X3z,X3z];exact h.append ⟨v,[],rfl,r,rfl⟩
theorem qC{K:Zf}:∀{l:List (Sum Int Str×D)}{kvs:List (Key×V)}{l0:List (Sum Int Str×D)}{kvs0:List (Key×V)},kvs.map (·.1)=l.map (·.1)->aL K H (l.map (·.2)) (kvs.map (·.2))->kvs0.map (·.1)=l0.map (·.1)->aL K H (l0.map (·.2)) (kvs0.map (·.2)) ->
  (dO kvs0 kvs).map (·.1)=(l.foldl (λa q=>putD a q.1 q.2) l0).map (·.1)/\aL K H ((l.foldl (λa q=>putD a q.1 q.2) l0).map (·.2)) ((dO kvs0 kvs).map (·.2))
 |[],kvs,l0,kvs0,e,h,e0,h0=>by
  cases kvs with
  |nil=>exact⟨e0,h0⟩
  |cons _ _=>simp at e
 |(k1,d1)::l,kvs,l0,kvs0,e,h,e0,h0=>by
  cases kvs with
  |nil=>simp at e
  |cons q kvs =>
   obtain⟨k2,v2⟩:=q;simp[I4z,W3z] at e;obtain⟨rfl,e⟩:=e;obtain⟨v',t,e',h1,h2⟩:=h;cases e';obtain⟨a1,a2⟩:=Jx h1 e0 h0;exact qC (l0:=putD l0 k2 d1) (kvs0:=putK kvs0 k2 v2) e h2 a1 a2
end
end L2
namespace L2
open PySem PySem.Spec PyProof.Rows
def Nv(trs:List (TE×TE)):TE:=λY H Q=>∀p,H p=none->uD trs Y (upd H p (.dK [])) λps H2=>H2 p=some (.dK [])/\∃kvs:List (Key×V),ps=kvs.map (λkv=>(kV kv.1,kv.2))/\kvs.length<=15/\∀ob,Q (.ref p) (upd H2 p (.frz ob (.dK (dO [] kvs))))
theorem DP(h:PPs X pos keys values trs)(hall:keys.all (·.isSome)=true)(hl:keys.length=values.length)(h0:keys≠[])
  (h15:keys.length<=15):PE X (.Dict keys values pos) (Nv trs):=by
 intro y0 s Y H Q I q;have hn:=I.hok.fresh (B5z s.heap.objs.size);have I1:=I.laid (t':=s.toks) (λ_ _ q=>Heap.get?_push_of_some _ q) (B5z _) (oV s.heap I.big);refine wpAny_Dict_walk (knd:=aV X.prog X.w) hall hl h0 h15 (thn (h y0 _ Y _ _ I1 (q _ hn)) λws s2 ⟨ps,H2,I2,rel,e,kvs,ep,lk,q2⟩=>?_);subst ep;obtain⟨rs,c,rk⟩:=nH rel;obtain⟨z,hd,vs0,r0,dd⟩:=FZ I2.hok e;cases r0;refine⟨rs,c,dd,λh' dd' hs=>?_⟩
 have hz:(dO [] kvs).length<=sizeLine:=by
  have h1:=fG kvs [];rw[U3z] at h1;rw[C5z];omega
 obtain⟨ob,he⟩:∃q,h'.get? s.heap.objs.size=some q:=let ⟨q,_,_,hq,_⟩:=dd';⟨q,hq⟩
 exact⟨.ref s.heap.objs.size,_,o8 I2 (by rw[e];exact True.intro) hs ⟨ob,he⟩ (show cX X.prog X.w _ h' _ (.frz ob (.dK (dO [] kvs))) from⟨he,qO hz hd (rk.merge .nil) dd'⟩),rfl,q2 ob⟩
end L2
namespace L2
open PySem PySem.Spec PyProof.Rows DE PySem.SeqAt
section
variable{X:Cx}{U:Rho}{cx:Cxt}{k:Nat}{sc:Scope}
theorem aA(h:aJ e=true):starEach (e::es) env=(false,eval e env)::starEach es env:=by
 cases e<;>first|rfl|(simp[aJ] at h)
theorem oA(h:aJ e=true):Cq e:=by
 intro o i
 cases e<;>first|rfl|(simp[aJ] at h)
theorem iU(h:aJ e=true)(x:Value):foldedSetIterable e env x=pure x:=by
 cases e<;>first|rfl|(simp[aJ] at h)
theorem dB(h:aJ e=true):behindInMarks op e=false:=by
 cases e<;>first|rfl|(simp[aJ] at h)
theorem dU:∀{es:List Expr},(∀e∈es,aJ e=true)->(backTo pos (starEach es env)).any (·.1)=false
 |[],_=>rfl
 |e::es,h=>by
  rw[aA (h e N1z)];show((false:Bool)||(backTo pos (starEach es env)).any (·.1))=false;rw[(dU (env:=env) (pos:=pos) λe' he=>h e' (X0z _ he))];rfl
theorem aZ:∀{n:Nat}{U:Rho}{e:Expr}{d:D},ev cx n sc U e=some d->aJ e=true
 |0,_,_,_,h=>by simp[ev] at h
 |n+1,U,e,d,h=>by
  cases e<;>first|rfl|(exact nomatch h)
def Iz(X:Cx)(e:Expr):TT:=λY H Q=>∀whole y0 s,Inv X y0 Y H s->wpAny (model X.prog X.w) X.A (isTrue e X.env whole) (TP X y0 Y Q) X.xe s
def EvW(X:Cx)(U:Rho)(e:Expr)(b:Bool):Prop:=∀Y H Hs Q,Same Hs H->bL X.K Hs U Y->(∀H' Hs',Ext Hs H Hs' H'->Q b H')->Iz X e Y H Q
theorem uN:PW X e (Iz X e):=λwhole y0 s Y H Q I h=>h whole y0 s I
theorem PW.sem(h:PW X e t)(q:t Y H Q):Iz X e Y H Q:=λwhole y0 s I=>h whole y0 s Y H Q I q
theorem EvW.t(h:EvW X U e b):EvT X U e b:=λY H Hs Q hs hr hq y0 s I=>h Y H Hs Q hs hr hq _ y0 s I
theorem Az(h:Ev X U e (.bl b))(he:∀whole,isTrue e X.env whole=(do let v <- whole;standAt e.pos;holding [v] (truthy v))):EvT X U e b:=λY H Hs Q hs hr hq =>
 (yV aq he).sem (h Y H Hs _ hs hr λv H' Hs' E1 r1=>⟨b,dD r1,hq H' Hs' E1⟩)
theorem HW(h:Ev X U a (.bl b)):Ev X U (.UnaryOp .Not a pos) (.bl (!b)):=λY H Hs Q hs hr hq =>
 (Oo aq).sem (h Y H Hs _ hs hr λv H' Hs' E1 r1=>⟨b,dD r1,hq _ H' Hs' E1 (by simp[Rep])⟩)
theorem Ba(h:EvT X U a b):EvT X U (.UnaryOp .Not a pos) (!b):=λY H Hs Q hs hr hq =>
 (yW dG).sem (h Y H Hs _ hs hr λH' Hs' E1=>hq H' Hs' E1)
theorem Qn(h:Ev X U a (.int i)):Ev X U (.UnaryOp .USub a pos) (.int (-i)):=λY H Hs Q hs hr hq =>
 (SN Ni aq).sem (h Y H Hs _ hs hr λv H' Hs' E1 r1=>⟨i,aY r1,hq _ H' Hs' E1 (by simp[Rep])⟩)
theorem mF:∀{es:List Expr}{d:D},(∀e∈es,∀d,f e=some d->Ev X U e d/\∀b,d=.bl b->EvT X U e b)->cR op f es=some d ->
  Ev X U (.BoolOp op es pos) d/\∀b,d=.bl b->EvW X U (.BoolOp op es pos) b
 |[],d,_,h=>by simp[cR] at h
 |[e],d,hf,h=>by
  obtain⟨h1,h2⟩:=hf e (by simp) d (by simpa[cR] using h);refine⟨λY H Hs Q hs hr hq=>(Om aq).sem (h1 Y H Hs Q hs hr hq),λb hb Y H Hs Q hs hr hq=>?_⟩
  cases op with
  |And=>exact(Jw dG).sem (h2 b hb Y H Hs Q hs hr hq)
  |Or=>exact(G6 dG).sem (h2 b hb Y H Hs Q hs hr hq)
 |e::e'::r,d,hf,h=>by
  simp[cR] at h
  cases he:f e with
  |none=>rw[he] at h;simp at h
  |some x =>
   rw[he] at h
   cases x with
   |bl c =>
    obtain⟨h1,h2⟩:=hf e (by simp) _ he;have h2':=h2 c rfl;simp[asB] at h;have ih:=λd' (q:cR op f (e'::r)=some d')=>mF (pos:=pos) (λa ha=>hf a (X0z _ ha)) q
    cases op with
    |And =>
     cases c with
     |true =>
      obtain⟨i1,i2⟩:=ih d h;exact⟨λY H Hs Q hs hr hq=>(Hl aq aq).sem (h1 Y H Hs _ hs hr λv H' Hs' E1 r1=>⟨true,dD r1,oH (i1 Y H' Hs' Q E1.sub (hr.same E1.vis) λw H2 Hs2 E2 r2=>hq w H2 Hs2 (E1.trans E2) r2)⟩),λb hb Y H Hs Q hs hr hq=>((G7 dG uN).sem (h2' Y H Hs _ hs hr λH' Hs' E1=>oH (i2 b hb Y H' Hs' Q E1.sub (hr.same E1.vis) λH2 Hs2 E2=>hq H2 Hs2 (E1.trans E2))))⟩
     |false =>
      simp[V1z,Q5z,O2z] at h;subst h;refine⟨λY H Hs Q hs hr hq=>(Hl aq aq).sem (h1 Y H Hs _ hs hr λv H' Hs' E1 r1=>⟨false,dD r1,mW (hq _ H' Hs' E1 (by simp[Rep]))⟩),λb hb Y H Hs Q hs hr hq=>?_⟩;cases hb;exact(G7 dG uN).sem (h2' Y H Hs _ hs hr λH' Hs' E1=>mW (hq H' Hs' E1))
    |Or =>
     cases c with
     |true =>
      simp[S5z,O2z] at h;subst h;refine⟨λY H Hs Q hs hr hq=>(Ol aq aq).sem (h1 Y H Hs _ hs hr λv H' Hs' E1 r1=>⟨true,dD r1,oH (hq _ H' Hs' E1 (by simp[Rep]))⟩),λb hb Y H Hs Q hs hr hq=>?_⟩;cases hb;exact(Jv dG uN).sem (h2' Y H Hs _ hs hr λH' Hs' E1=>oH (hq H' Hs' E1))
     |false =>
      obtain⟨i1,i2⟩:=ih d h;exact⟨λY H Hs Q hs hr hq=>(Ol aq aq).sem (h1 Y H Hs _ hs hr λv H' Hs' E1 r1=>⟨false,dD r1,mW (i1 Y H' Hs' Q E1.sub (hr.same E1.vis) λw H2 Hs2 E2 r2=>hq w H2 Hs2 (E1.trans E2) r2)⟩),λb hb Y H Hs Q hs hr hq=>((Jv dG uN).sem (h2' Y H Hs _ hs hr λH' Hs' E1=>mW (i2 b hb Y H' Hs' Q E1.sub (hr.same E1.vis) λH2 Hs2 E2=>hq H2 Hs2 (E1.trans E2))))⟩
   |_=>simp[asB] at h
def Sw(X:Cx)(op:CmpOp):R2:=λu v H Q=>∃Hs x y d,Same Hs H/\Rep X.K Hs x u/\Rep X.K Hs y v/\cmpop op x y=some d/\∃b,d=.bl b/\Q (.bl b) H
theorem oh{K:Zf}(h:Rep K H .non v):v=.non:=by simpa[Rep] using h
theorem vf{K:Zf}(h:Rep K H x v):Ku x=decide (v=V.non):=by
  cases x with
  |non=>rw[oh h];rfl
  |bl b=>rw[dD h];rfl
  |int b=>rw[aY h];rfl
  | str b => have e : v = .str b := by simpa [Rep] using h
             rw[e];rfl
  |tup b=>obtain⟨a,vs,e,_⟩:=cH h;rw[e];rfl
  |lst b=>obtain⟨a,vs,e,_⟩:=cU h;rw[e];rfl
  |exc c=>simp only[Rep] at h;obtain⟨a,C,e,_⟩:=h;rw[e];rfl
  |dic k x=>simp only[Rep] at h;obtain⟨a,C,e,_⟩:=h;rw[e];rfl
  | obj a => have e : v = .ref a := by simpa [Rep] using h
             rw[e];rfl
theorem vX{K:Zf}:∀{ds:List D}{ns:List Int}{vs:List V},rO ds=some ns->aL K H ds vs->vs=ns.map V.int
 |[],ns,vs,h,r=>by
  simp[rO,O2z] at h;subst h
  simpa[aL] using r
 |.int i::ds,ns,vs,h,r=>by
  simp[rO,O0z] at h;obtain⟨ms,h1,rfl⟩:=h;obtain⟨v,r',rfl,h2,h3⟩:=r;rw[aY h2,vX h1 h3];rfl
 |.non::ds,ns,vs,h,r=>by simp[rO] at h
 |.bl _::ds,ns,vs,h,r=>by simp[rO] at h
 |.str _::ds,ns,vs,h,r=>by simp[rO] at h
 |.tup _::ds,ns,vs,h,r=>by simp[rO] at h
 |.lst _::ds,ns,vs,h,r=>by simp[rO] at h
 |.exc _::ds,ns,vs,h,r=>by simp[rO] at h
 |.dic _ _::ds,ns,vs,h,r=>by simp[rO] at h
 |.obj _::ds,ns,vs,h,r=>by simp[rO] at h
theorem vV{K:Zf}:∀{ds:List D}{ns:List Str}{vs:List V},vW ds=some ns->aL K H ds vs->vs=ns.map V.str
 |[],ns,vs,h,r=>by
  simp[vW,O2z] at h;subst h
  simpa[aL] using r
 |.str i::ds,ns,vs,h,r=>by
  obtain⟨ms,h1,rfl⟩:=O0z.mp h;obtain⟨v,rr,rfl,h2,h3⟩:=r
  have e:v=.str i:=by simpa[Rep] using h2
  rw[vV h1 h3,e];rfl
 |.non::ds,ns,vs,h,r=>by simp[vW] at h
 |.bl _::ds,ns,vs,h,r=>by simp[vW] at h
 |.int _::ds,ns,vs,h,r=>by simp[vW] at h
 |.tup _::ds,ns,vs,h,r=>by simp[vW] at h
 |.lst _::ds,ns,vs,h,r=>by simp[vW] at h
 |.exc _::ds,ns,vs,h,r=>by simp[vW] at h
 |.dic _ _::ds,ns,vs,h,r=>by simp[vW] at h
 |.obj _::ds,ns,vs,h,r=>by simp[vW] at h
def eS(x:D):Value->Bool
 |.str t _=>deq (.str t) x
 |_=>false
theorem vY(x:D):∀{ns:List Str}{us:List Value},Vals (ns.map V.str) us->us.any (eS x)=ns.any λt=>deq (.str t) x
 |[],us,r=>by rw[X4z] at r;cases r;rfl
 |n::ns,us,r=>by
  cases r with
  |cons r1 r2 =>
   obtain⟨t,e⟩:=r1;subst e;simp[M4z,vY x r2,eS]
theorem uY:∀{ns:List Str}{us:List Value},Vals (ns.map V.str) us->∀y∈us,∃j t,y=Value.str j t
 |[],us,r,y,hy=>by rw[X4z] at r;cases r;simp at hy
 |n::ns,us,r,y,hy=>by
  cases r with
  |cons r1 r2 =>
   obtain⟨t,e⟩:=r1;subst e;obtain rfl|hy:=P4z.mp hy
   .exact⟨n,t,rfl⟩
   .exact uY r2 y hy
theorem Kw(I:Inv X y0 Y H s)(A:Around)(hA:A.units+2<cLine)(hx:Rep X.K H x u)(hd:dep x<=50)(kk:fW (.str "") x=true)(hv:Rep X.K H (.tup ys) v)(hn:vW ys=some ns)(ru:RelV u w)(rv:RelV v z) :
  (∀(Q:Value->Shared->Prop)(E:Value->Shared->Prop),Q (.bool (ns.any λt=>deq (.str t) x)) s->wpAny (model X.prog X.w) A (compareOp .In w z) Q E s)/\(∀(Q:Value->Shared->Prop)(E:Value->Shared->Prop),Q (.bool (!ns.any λt=>deq (.str t) x)) s->wpAny (model X.prog X.w) A (compareOp .NotIn w z) Q E s):=by
 obtain⟨a,vs,rfl,h1,h2⟩:=cH hv;cases rv;have e:=vV hn h2;subst e;obtain⟨its,r,p⟩:=isT I h1
 have he:∀y,y∈its.toArray->EqAt A.in1 s y w (eS x y):=λy hy=>by
  obtain⟨j,t',rfl⟩:=uY r y (by simpa using hy);exact tM I (.str j) x (.str j) u (.str j t') w A.in1 (by simp[Rep]) hx ⟨t',rfl⟩ ru (by rw[iQ];simp[dep];omega) (by simp[dep]) (by omega) (by cases x<;>first|rfl|cases kk)
 have ea:its.toArray.any (eS x)=ns.any λt=>deq (.str t) x:=by
  rw[List.any_toArray];exact vY x r
 refine⟨λQ E q=>in_tupleAt _ p he (by rw[ea];exact q),λQ E q=>notIn_tupleAt _ p he (by rw[ea];exact q)⟩
theorem Qh(h:inT x ys=some b):∃ss,vW ys=some ss/\(dep x<=50/\fW (.str "") x=true)/\b=ss.any λt=>deq (.str t) x:=by
 obtain⟨ss,h1,h2⟩:=Option.bind_eq_some_iff.mp h;split at h2
 .rename_i hd
  cases h2;rw[A3z,N2z] at hd;exact⟨ss,h1,hd,rfl⟩
 .cases h2
theorem Qg(I:Inv X y0 Y H s)(A:Around)(hA:A.units+2<cLine)(hx:Rep X.K H x u)(hv:Rep X.K H (.tup ys) v)(h:inT x ys=some b)(ru:RelV u w)(rv:RelV v z) :
  (∀(Q:Value->Shared->Prop)(E:Value->Shared->Prop),Q (.bool b) s->wpAny (model X.prog X.w) A (compareOp .In w z) Q E s)/\(∀(Q:Value->Shared->Prop)(E:Value->Shared->Prop),Q (.bool (!b)) s->wpAny (model X.prog X.w) A (compareOp .NotIn w z) Q E s):=by
 obtain⟨ss,e1,⟨e2,kk⟩,rfl⟩:=Qh h;exact Kw I A hA hx e2 kk hv e1 ru rv
theorem lR(hr:Room k X.A)(kw:KnW X.K X.w)(op:CmpOp):OpR X (compareOp op) (Sw X op):=by
 intro y0 s Y H u v w z Q I ru rv h;obtain⟨Hs,x,y,d,hs,rx,ry,hc,b,rfl,q⟩:=h;have rx':=Rep.same hs x u rx;have ry':=Rep.same hs y v ry;unfold cmpop at hc;split at hc
 .split at hc
  .rename_i hd
   rw[A3z,A3z,N2z,N2z] at hd;obtain⟨⟨hd1,hd2⟩,kk⟩:=hd;cases hc;exact(pq I X.A rx' ry' ru rv (by have:=hr.un;omega) (by omega) (by omega) kk).1 _ _ _ _ ⟨.bl _,H,I,rfl,q⟩
  .cases hc
 .split at hc
  .rename_i hd
   rw[A3z,A3z,N2z,N2z] at hd;obtain⟨⟨hd1,hd2⟩,kk⟩:=hd;cases hc;exact(pq I X.A rx' ry' ru rv (by have:=hr.un;omega) (by omega) (by omega) kk).2 _ _ _ _ ⟨.bl _,H,I,rfl,q⟩
  .cases hc
 .split at hc
  .split at hc
   .cases hc;exact SX y0 s Y H u v w z Q I ru rv ⟨_,_,aY rx,aY ry,q⟩
   .cases hc
  .cases hc
 .split at hc
  .split at hc
   .cases hc;exact Tc y0 s Y H u v w z Q I ru rv ⟨_,_,aY rx,aY ry,q⟩
   .cases hc
  .cases hc
 .split at hc
  .cases hc;rw[vf rx] at q;exact JV y0 s Y H u v w z Q I ru rv ⟨oh ry,q⟩
  .cases hc
 .split at hc
  .obtain⟨ns,hn,he⟩:=O0z.mp hc
   cases he;exact(Qg I X.A (by have:=hr.un;omega) rx' ry' hn ru rv).2 _ _ ⟨.bl _,H,I,rfl,q⟩
  .split at hc
   .rename_i ks ds _ a
    cases hc
    have ex:u=.str a:=by simpa[Rep] using rx
    obtain⟨p,kvs,rfl,g1,g2,g3⟩:=ry';rw[<- pW g2 g3] at q;exact zF kw y0 s Y H u _ w z Q I ru rv ⟨p,kvs,.inr a,ex,rfl,g1,q⟩
   .cases hc
  .cases hc
 .split at hc
  .split at hc
   .rename_i a _ b
    cases hc
    have ex:u=.str a:=by simpa[Rep] using rx
    have ey:v=.str b:=by simpa[Rep] using ry
    exact zG y0 s Y H u v w z Q I ru rv ⟨_,_,ex,ey,q⟩
   .rename_i a _ ks ds
    cases hc
    have ex:u=.str a:=by simpa[Rep] using rx
    obtain⟨p,kvs,rfl,g1,g2,g3⟩:=ry';rw[<- pW g2 g3] at q;exact O2 kw y0 s Y H u _ w z Q I ru rv ⟨p,kvs,.inr a,ex,rfl,g1,q⟩
   .cases hc
  .cases hc
 .cases hc
theorem Ia(h:cmpop op x y=some d):∃b,d=.bl b:=by
 unfold cmpop at h
 repeat' split at h
 all_goals first|(cases h;exact⟨_,rfl⟩)|(obtain⟨_,_,rfl⟩:=O0z.mp h;exact⟨_,rfl⟩)|cases h
theorem K8(hr:Room k X.A)(kw:KnW X.K X.w)(ha:Ev X U a x)(hb:Ev X U b y)(hm:aJ b=true)(h:cmpop op x y=some d):Ev X U (.Compare a [op] [b] pos) d/\∀c,d=.bl c->EvT X U (.Compare a [op] [b] pos) c:=by
 obtain⟨c,rfl⟩:=Ia h;refine⟨fP ha hb (zA (lR hr kw op) aq aq (dB hm)) λu v H Hs Q hs r1 r2 hq=>⟨Hs,x,y,_,hs,r1,r2,h,c,rfl,hq _ H Hs (.refl hs) (by simp[Rep])⟩,λc' hc' Y H Hs Q hs hst hq=>?_⟩;cases hc';exact(ou (lR hr kw op) aq aq (dB hm)).sem (ha Y H Hs _ hs hst λu H1 Hs1 E1 r1=>hb Y H1 Hs1 _ E1.sub (hst.same E1.vis) λv H2 Hs2 E2 r2=>⟨Hs2,x,y,_,E2.sub,Rep.same E2.vis x u r1,r2,h,c,rfl,c,rfl,hq H2 Hs2 (E1.trans E2)⟩)
theorem zX(h:aJ c=true):lastMarks [op,op'] [b,c]=false:=dB h
theorem Ay(hr:Room k X.A)(kw:KnW X.K X.w)(ha:Ev X U a x)(hb:Ev X U b y)(hm:aJ e=true)(h:cmpop op x y=some (.bl c))(hd:(c=true->∃z,Ev X U e z/\cmpop op' y z=some d)/\(c=false->d=.bl false)) :
  Ev X U (.Compare a [op,op'] [b,e] pos) d/\∀c,d=.bl c->EvT X U (.Compare a [op,op'] [b,e] pos) c:=by
 have core:∀Y H Hs Q,Same Hs H->bL X.K Hs U Y->(∀v H' Hs',Ext Hs H Hs' H'->Rep X.K Hs' d v->Q v H')->yw (Sw X op) (Sw X op') (gZ X a) (gZ X b) (gZ X e) Y H Q:=by
  intro Y H Hs Q hs hst hq;refine ha Y H Hs _ hs hst λu H1 Hs1 E1 r1=>hb Y H1 Hs1 _ E1.sub (hst.same E1.vis) λv H2 Hs2 E2 r2=>?_;refine⟨Hs2,x,y,_,E2.sub,Rep.same E2.vis x u r1,r2,h,c,rfl,c,rfl,?_⟩
  cases c with
  |false=>rw[hd.2 rfl] at hq;exact mW (hq _ H2 Hs2 (E1.trans E2) (by simp[Rep]))
  |true =>
   obtain⟨z,hz,hc⟩:=hd.1 rfl;obtain⟨c',rfl⟩:=Ia hc;exact oH (hz Y H2 Hs2 _ E2.sub ((hst.same E1.vis).same E2.vis) λw H3 Hs3 E3 r3=>⟨Hs3,y,z,_,E3.sub,Rep.same E3.vis y v r2,r3,hc,c',rfl,hq _ H3 Hs3 (E1.trans (E2.trans E3)) (by simp[Rep])⟩)
 refine⟨λY H Hs Q hs hst hq=>(DR (lR hr kw op) (lR hr kw op') aq aq aq (zX hm)).sem (core Y H Hs Q hs hst hq),λc' hc' Y H Hs Q hs hst hq=>?_⟩;subst hc';exact(Dr (lR hr kw op) (lR hr kw op') aq aq aq (zX hm)).sem (core Y H Hs _ hs hst λv H' Hs' E1 r1=>⟨c',dD r1,hq H' Hs' E1⟩)
theorem Qq(hc:EvT X U c t)(ha:t=true->Ev X U a d)(hb:t=false->Ev X U b d):Ev X U (.IfExp c a b pos) d:=λY H Hs Q hs hst hq =>
 (uT dG aq aq).sem (hc Y H Hs _ hs hst λH1 Hs1 E1=>by
  cases t with
  |true=>exact oH (ha rfl Y H1 Hs1 Q E1.sub (hst.same E1.vis) λv H' Hs' E2 r=>hq v H' Hs' (E1.trans E2) r)
  | false=>exact mW (hb rfl Y H1 Hs1 Q E1.sub (hst.same E1.vis) λv H' Hs' E2 r=>hq v H' Hs' (E1.trans E2) r))
theorem HX(hc:EvT X U c t)(ha:t=true->EvT X U a r)(hb:t=false->EvT X U b r):EvT X U (.IfExp c a b pos) r:=by
 intro Y H Hs Q hs hst hq y0 s I;refine isTrue_IfExp (thn (hc Y H Hs (λb' H'=>b'=t/\∃Hs',Ext Hs H Hs' H') hs hst (λH1 Hs1 E1=>⟨rfl,Hs1,E1⟩) y0 s I) λb' s2 ⟨H2,I2,e2,Hs2,E2⟩=>?_);subst e2
 cases b' with
 |true=>exact oH (ha rfl Y H2 Hs2 Q E2.sub (hst.same E2.vis) (λH' Hs' E3=>hq H' Hs' (E2.trans E3)) y0 s2 I2)
 |false=>exact mW (hb rfl Y H2 Hs2 Q E2.sub (hst.same E2.vis) (λH' Hs' E3=>hq H' Hs' (E2.trans E3)) y0 s2 I2)
theorem dY:∀{es:List Expr}{ds:List D},(∀e∈es,∀d,f e=some d->Ev X U e d/\aJ e=true)->jZ f es=some ds->EvA X U es ds/\(∀e∈es,aJ e=true)
 |[],ds,_,h=>by
  simp[jZ,O2z] at h;subst h;exact⟨λY H Hs Q hs hst hq=>aM.sem (hq [] H Hs (.refl hs) .nil),λe he=>absurd he (by simp)⟩
 |e::es,ds,hf,h=>by
  simp[jZ,bind,Option.bind] at h
  cases he:f e with
  |none=>rw[he] at h;cases h
  |some d =>
   rw[he] at h
   cases hr:jZ f es with
   |none=>rw[hr] at h;cases h
   |some dr =>
    rw[hr] at h;simp[O2z] at h;subst h;obtain⟨h1,hp⟩:=hf e (by simp) d he;obtain⟨h2,hps⟩:=dY (λa ha=>hf a (X0z _ ha)) hr;refine⟨λY H Hs Q hs hst hq=>(aB aq cQ (aA hp)).sem (h1 Y H Hs _ hs hst λv H1 Hs1 E1 r1=>h2 Y H1 Hs1 _ E1.sub (hst.same E1.vis) λvs H2 Hs2 E2 r2=>?_),λa ha=>?_⟩
    .exact hq _ H2 Hs2 (E1.trans E2) (.cons (Rep.same E2.vis d v r1) r2)
    .obtain rfl|ha:=P4z.mp ha
     .exact hp
     .exact hps a ha
theorem Fq(h:EvA X U es ds)(hz:szl ds.length=true):Ev X U (.Tuple es j pos) (.tup ds):=λY H Hs Q hs hst hq =>
 (uQ cQ).sem (h Y H Hs _ hs hst λvs H1 Hs1 E1 r1=>⟨by rw[<- r1.length];exact jJ hz,λp hp=>iC E1.sub r1 hp λw H' Hs' E2 r2=>hq w H' Hs' (E1.trans E2) r2⟩)
theorem Ax(h:EvA X U es ds)(hz:szl ds.length=true):Ev X U (.List es pos) (.lst ds):=λY H Hs Q hs hst hq =>
 (qx cQ).sem (h Y H Hs _ hs hst λvs H1 Hs1 E1 r1=>⟨by rw[<- r1.length];exact jJ hz,λp hp=>jA E1.sub r1 hp λw H' Hs' E2 r2=>hq w H' Hs' (E1.trans E2) r2⟩)
theorem Qe(n:Nat)(i:Int):ixD n i=ixN n i:=rfl
theorem Cd{K:Zf}(h:aL K H ds vs)(e:atD ds i=some d):∃v,atI vs i=some v/\Rep K H d v:=by
 unfold atD at e;rw[Qe,h.length] at e
 cases q:ixN vs.length i with
 |none=>rw[q] at e;cases e
 |some j =>
  rw[q] at e;obtain⟨v,h1,h2⟩:=h.get e;exact⟨v,by unfold atI;rw[q];exact h1,h2⟩
theorem Js{K:Zf}(h:Rep K H (.dic ks ds) v):∃(a:Addr)(kvs:List (Key×V)),v=.ref a/\DAt K H a kvs/\kvs.map (·.1)=ks/\aL K H ds (kvs.map (·.2)):=by simpa[Rep] using h
theorem xU{K:Zf}{k:Key}:∀{kvs:List (Key×V)}{ds:List D},aL K H ds (kvs.map (·.2))->kO (kvs.map (·.1)) ds k=some d->∃v,jy kvs k=some v/\Rep K H d v
 |[],ds,r,h=>by simp[kO] at h
 |(k',v')::kvs,ds,r,h=>by
  cases ds with
  |nil=>simp[kO] at h
  |cons d' ds =>
   obtain⟨v,rr,e,h2,h3⟩:=r;cases e;unfold kO at h;simp only[I4z,Z1z,List.find?_cons] at h;unfold jy;rw[List.find?_cons]
   by_cases q:k'=k
   .simp only[q,decide_true] at h ⊢
    simp only[O3z,O2z] at h ⊢;subst h;exact⟨v',rfl,h2⟩
   .simp only[q] at h ⊢
    exact xU h3 h
theorem Aa{K:Zf}{k:Key}(h:Qd d=some k)(r:Rep K H d v):v=kV k:=by
 cases d<;>simp[Qd] at h
 .subst h;exact aY r
 .subst h
  rename_i x
  have e:v=.str x:=by simpa[Rep] using r
  exact e
theorem K6(kw:KnW X.K X.w)(ha:Ev X U a (.dic ks ds))(hb:Ev X U b y)(hp:aJ b=true)(hk:Qd y=some k')(hd:kO ks ds k'=some d):Ev X U (.Subscript a b pos) d:=by
 intro Y H Hs Q hs hst hq;refine PE.sem (JM kw aq aq λov iv=>oA hp ov iv) (ha Y H Hs _ hs hst λv H1 Hs1 E1 r1=>hb Y H1 Hs1 _ E1.sub (hst.same E1.vis) λu H2 Hs2 E2 r2=>?_);obtain⟨p,kvs,rfl,h1,rfl,h3⟩:=Js (Rep.same E2.vis _ v r1);obtain⟨w,h4,h5⟩:=xU h3 hd;exact⟨p,w,kvs,k',rfl,(λe r=>r.elim (λ⟨o,q⟩=>.inl ⟨o,e _ _ q⟩) .inr) E2.sub h1,Aa hk r2,h4.symm,hq w H2 Hs2 (E1.trans E2) h5⟩
theorem obd(h:(x >>=f)=some b):∃a,x=some a/\f a=some b:=Option.bind_eq_some_iff.mp h
def R6(X:Cx):List (Option Expr)->List Expr->List (TE×TE)
 |some k::ks,v::vs=>(gZ X k,gZ X v)::R6 X ks vs
 |_,_=>[]
def iu(K:Zf)(H:Hp)(l:List (Sum Int Str×D))(kvs:List (Key×V)):Prop:=kvs.map (·.1)=l.map (·.1)/\aL K H (l.map (·.2)) (kvs.map (·.2))
theorem iu.nil{K:Zf}:iu K H [] []:=⟨rfl,.nil⟩
theorem iu.cons{K:Zf}{k:Key}(h:Rep K H d v)(r:iu K H l kvs):iu K H ((k,d)::l) ((k,v)::kvs):=⟨by simp[r.1],.cons h r.2⟩
theorem iu.inv{K:Zf}{k:Key}(r:iu K H ((k,d)::l) kvs):∃v kvs',kvs=(k,v)::kvs'/\Rep K H d v/\iu K H l kvs':=by
 obtain⟨r1,r2⟩:=r
 cases kvs with
 |nil=>simp at r1
 |cons q kvs =>
  obtain⟨k',v⟩:=q;simp[I4z,W3z] at r1;obtain⟨v',rr,e,h2,h3⟩:=r2;cases e;exact⟨v,kvs,by rw[r1.1],h2,r1.2,h3⟩
theorem iu.nil_inv{K:Zf}(r:iu K H [] kvs):kvs=[]:=by
 have:=r.1;simpa using this
theorem iu.any{K:Zf}(k:Key):∀{l:List (Sum Int Str×D)}{kvs:List (Key×V)},iu K H l kvs->(l.any λq=>decide (q.1=k))=kvs.any λq=>decide (q.1=k)
 |[],kvs,r=>by rw[r.nil_inv];rfl
 |(k',d)::l,kvs,r=>by
  obtain⟨v,kvs',rfl,_,r'⟩:=r.inv;simp[M4z,iu.any k r']
theorem iu.repl{K:Zf}{k:Key}(hd:Rep K H d v):∀{l:List (Sum Int Str×D)}{kvs:List (Key×V)},iu K H l kvs->iu K H (l.map λq=>if q.1=k then(q.1,d) else q) (kvs.map λq=>if q.1=k then(q.1,v) else q)
 |[],kvs,r=>by rw[r.nil_inv];exact .nil
 |(k',d')::l,kvs,r=>by
  obtain⟨v',kvs',rfl,h,r'⟩:=r.inv;simp[I4z]
  by_cases q:k'=k
  .rw[T5z q,T5z q];exact .cons hd (iu.repl hd r')
  .rw[U5z q,U5z q];exact .cons h (iu.repl hd r')
theorem iu.snoc{K:Zf}{k:Key}(hd:Rep K H d v):∀{l:List (Sum Int Str×D)}{kvs:List (Key×V)},iu K H l kvs->iu K H (l++[(k,d)]) (kvs++[(k,v)])
 |[],kvs,r=>by rw[r.nil_inv];exact .cons hd .nil
 |(k',d')::l,kvs,r=>by
  obtain⟨v',kvs',rfl,h,r'⟩:=r.inv;exact .cons h (iu.snoc hd r')
theorem iu.put{K:Zf}{k:Key}(hd:Rep K H d v)(r:iu K H l kvs):iu K H (putD l k d) (putK kvs k v):=by
 unfold putD putK;rw[r.any k];split
 .exact r.repl hd
 .exact r.snoc hd
theorem iu.mrg{K:Zf}:∀{l:List (Sum Int Str×D)}{kvs:List (Key×V)}{a:List (Sum Int Str×D)}{b:List (Key×V)},iu K H l kvs->iu K H a b->iu K H (l.foldl (λa q=>putD a q.1 q.2) a) (dO b kvs)
 |[],kvs,a,b,r,r2=>by rw[r.nil_inv];exact r2
 |(k',d')::l,kvs,a,b,r,r2=>by
  obtain⟨v',kvs',rfl,h,r'⟩:=r.inv;exact iu.mrg (l:=l) (kvs:=kvs') r' (r2.put h)
theorem oR(ha:Ev X U a x)(hb:Ev X U b (.int i))(hp:aJ b=true)(hx:items x=some xs)(hd:atD xs i=some d):Ev X U (.Subscript a b pos) d:=by
 cases x with
 |tup ys =>
  simp[items,O2z] at hx;subst hx;refine fP ha hb (zx u9 aq aq (oA hp)) λu v H Hs Q hs r1 r2 hq=>?_;obtain⟨p,vs,rfl,h1,h2⟩:=cH r1;obtain⟨w,h3,h4⟩:=Cd h2 hd;exact⟨p,vs,i,w,rfl,aY r2,hs.tup h1,h3,hq w H Hs (.refl hs) h4⟩
 |lst ys =>
  simp[items,O2z] at hx;subst hx;refine fP ha hb (zx Kr aq aq (oA hp)) λu v H Hs Q hs r1 r2 hq=>?_;obtain⟨p,vs,rfl,h1,h2⟩:=cU r1;obtain⟨w,h3,h4⟩:=Cd h2 hd;exact⟨p,vs,i,w,rfl,aY r2,hs.seq h1,h3,hq w H Hs (.refl hs) h4⟩
 |_=>simp[items] at hx
theorem Jr{lo hi:Option Expr}(h:Sd x lo hi oi=some d):lo=none/\hi=none/\oi=some (-1)/\∃us,(x=.lst us/\d=.lst us.reverse)\/(x=.tup us/\d=.tup us.reverse):=by
 unfold Sd at h;split at h
 .split at h
  .rename_i i q
   cases h
   have e:i=(-1:Int):=by simpa using q
   subst e;exact⟨rfl,rfl,rfl,_,.inl ⟨rfl,rfl⟩⟩
  .cases h
 .split at h
  .rename_i i q
   cases h
   have e:i=(-1:Int):=by simpa using q
   subst e;exact⟨rfl,rfl,rfl,_,.inr ⟨rfl,rfl⟩⟩
  .cases h
 .cases h
theorem aL.rev{K:Zf}:∀{ds:List D}{vs:List V},aL K H ds vs->aL K H ds.reverse vs.reverse
 |[],vs,h=>by
  have:vs=[]:=by simpa[aL] using h
  simpa[aL] using h
 |d::ds,vs,h=>by
  obtain⟨w,r,rfl,h1,h2⟩:=h;rw[I2z,I2z];exact(aL.rev h2).append (.cons h1 .nil)
theorem K3(ha:Ev X U a (.lst us))(hc:Ev X U c (.int (-1))):Ev X U (.Subscript a (.Slice none none (some c) p2) pos) (.lst us.reverse):=by
 intro Y H Hs Q hs hst hq;refine(JL aq aq).sem (ha Y H Hs _ hs hst λu H1 Hs1 E1 r1=>hc Y H1 Hs1 _ E1.sub (hst.same E1.vis) λv H2 Hs2 E2 r2=>?_);obtain⟨p,ws,rfl,g1,g2⟩:=cU (Rep.same E2.vis _ _ r1);exact⟨p,ws,rfl,aY r2,E2.sub.seq g1,λq hq'=>jA E2.sub g2.rev hq' λw H' Hs' E r=>hq w H' Hs' ((E1.trans E2).trans E) r⟩
theorem K1(ha:Ev X U a (.tup us))(hc:Ev X U c (.int (-1))):Ev X U (.Subscript a (.Slice none none (some c) p2) pos) (.tup us.reverse):=by
 intro Y H Hs Q hs hst hq;refine(JK aq aq).sem (ha Y H Hs _ hs hst λu H1 Hs1 E1 r1=>hc Y H1 Hs1 _ E1.sub (hst.same E1.vis) λv H2 Hs2 E2 r2=>?_);obtain⟨p,ws,rfl,g1,g2⟩:=cH (Rep.same E2.vis _ _ r1);exact⟨p,ws,rfl,aY r2,E2.sub.tup g1,λq hq'=>iC E2.sub g2.rev hq' λw H' Hs' E r=>hq w H' Hs' ((E1.trans E2).trans E) r⟩
theorem K9(G:Good cx k X sc)(hg:Gl X f)(hf:cx.fns.contains f=true)(hne:es≠[])(h:EvA X U es ds)(hp:∀e∈es,aJ e=true)(hc:cx.call f ds=some d) :
  Ev X U (.Call (.Name f p) es [] pos) d:=by
 obtain⟨hdb,a,fd,ps,har,_,hm,hk,hb,F⟩:=G.fns f hf
 cases es with
 |nil=>exact absurd rfl hne
 |cons e es =>
  intro Y H Hs Q hs hst hq;refine(dX F G.room hg hm hk hb .nil lN cQ hdb (aA (hp e (by simp))) (dU λe' he=>hp e' (X0z _ he))).sem (h Y H Hs _ hs hst λvs H1 Hs1 E1 r1=>?_);refine⟨?_,Hs1,ds,E1.sub,?_,.inl ⟨d,hc,λv H' Hs' E2 r2=>hq v H' Hs' (E1.trans E2) r2⟩⟩
  .rw[L3z,<- r1.length,har ds d hc]
  .rw[L3z];exact r1
def Ra(X:Cx)(f:Value):List V->Hp->VK->Prop:=λvs H Q=>∀y0 s Y us,Inv X y0 Y H s->Vals vs us->wpAny (model X.prog X.w) X.A (call f us) (EP X y0 Y Q) X.xe s
theorem cL:dz X f (Ra X f):=λy0 s Y H xs us Q I r h=>h y0 s Y us I r
theorem dz.sem(h:dz X f r)(q:r vs H Q):Ra X f vs H Q:=λy0 s Y us I rv=>h y0 s Y H vs us Q I rv q
def EvC(X:Cx)(f:Value)(ds:List D)(d:D):Prop:=∀vs H Hs Q,Same Hs H->aL X.K Hs ds vs->(∀v H' Hs',Ext Hs H Hs' H'->Rep X.K Hs' d v->Q v H')->Ra X f vs H Q
theorem repL1{K:Zf}(h:aL K H [d] vs):∃v,vs=[v]/\Rep K H d v:=by
 obtain⟨v,r,rfl,h1,h2⟩:=h;subst h2;exact⟨v,rfl,h1⟩
theorem repL2{K:Zf}(h:aL K H [d,e] vs):∃v w,vs=[v,w]/\Rep K H d v/\Rep K H e w:=by
 obtain⟨v,r,rfl,h1,w,r2,rfl,h2,h3⟩:=h;subst h3;exact⟨v,w,rfl,h1,h2⟩
theorem qj{K:Zf}(h:Rep K H d v)(e:items d=some l):∃a vs,v=.ref a/\(SqL K H a vs\/SqT K H a vs)/\aL K H l vs:=by
 cases d with
 |tup xs=>simp[items,O2z] at e;subst e;obtain⟨a,vs,e1,e2,e3⟩:=cH h;exact⟨a,vs,e1,.inr e2,e3⟩
 |lst xs=>simp[items,O2z] at e;subst e;obtain⟨a,vs,e1,e2,e3⟩:=cU h;exact⟨a,vs,e1,.inl e2,e3⟩
 |_=>simp[items] at e
theorem kI{K:Zf}:∀{ds:List D}{bs:List Bool}{vs:List V},rP ds=some bs->aL K H ds vs->vs=bs.map V.bl
 |[],ns,vs,h,r=>by
  simp[rP,O2z] at h;subst h
  simpa[aL] using r
 |.bl i::ds,ns,vs,h,r=>by
  simp[rP,O0z] at h;obtain⟨ms,h1,rfl⟩:=h;obtain⟨v,r',rfl,h2,h3⟩:=r;rw[dD h2,kI h1 h3];rfl
 |.non::ds,ns,vs,h,r=>by simp[rP] at h
 |.int _::ds,ns,vs,h,r=>by simp[rP] at h
 |.str _::ds,ns,vs,h,r=>by simp[rP] at h
 |.tup _::ds,ns,vs,h,r=>by simp[rP] at h
 |.lst _::ds,ns,vs,h,r=>by simp[rP] at h
 |.exc _::ds,ns,vs,h,r=>by simp[rP] at h
 |.dic _ _::ds,ns,vs,h,r=>by simp[rP] at h
 |.obj _::ds,ns,vs,h,r=>by simp[rP] at h
theorem mQ:∀{bs:List Bool}{us:List Value},Vals (bs.map V.bl) us->LSm.BoolsAre us bs
 |[],us,r=>by rw[X4z] at r;cases r;exact .nil
 |b::bs,us,r=>by
  cases r with
  |cons r1 r2 =>
   cases r1;exact .cons b (mQ r2)
theorem Bv(hc:X.calm=true):dz X (.builtin "sum") (λxs H Q=>∃(p:Addr)(ns:List Int),xs=[.ref p]/\SqL X.K H p (ns.map V.int)/\Q (.int ns.sum) H):=by
 intro y0 s Y H xs us Q I r h;obtain⟨p,ns,rfl,hq,q⟩:=h;obtain⟨u,rfl,rx⟩:=vals1 r;cases rx;obtain⟨its,r',pl,hz⟩:=I.list hq;have hi:=intsAre_of r';obtain⟨zs,hx⟩:=hi.allInts.items;refine sum_intListG (I.ok.hd hc) (hx▸pl.isList) λh' tk t' hk=>⟨.int ns.sum,H,I.kept hk,⟨t',?_⟩,q⟩
 have e1:ns=zs.toList.map (·.1):=by
  rw[<- nums_intItems,<- hx];exact hi.numsOf.symm
 rw[preSum_eq,List.take_of_length_le (by simp),e1]
theorem BJ(hc:X.calm=true):dz X (.builtin "all") (λxs H Q=>∃(p:Addr)(bs:List Bool),xs=[.ref p]/\SqL X.K H p (bs.map V.bl)/\Q (.bl (bs.all id)) H):=by
 intro y0 s Y H xs us Q I r h;obtain⟨p,bs,rfl,hq,q⟩:=h;obtain⟨u,rfl,rx⟩:=vals1 r;cases rx;obtain⟨its,r',pl,hz⟩:=I.list hq;have hb:=mQ r';have hl:=pl.isList
 have hlt:p<s.heap.objs.size:=by obtain⟨_,e,_⟩:=hl;exact R4z e
 refine call_all_walk (wpAny_pyIter_list hl ⟨s.heap.objs.size,[s.heap.objs.size,p],[s.heap.objs.size],its.toArray.size,_,_,λi=>(bs[i]?).getD true,rfl,Walks.list (A:=X.A.in1) (I.ok.hd hc) _ p (S4z hlt) its.toArray,⟨⟨_,Heap.get?_push_size _ rfl,rfl,rfl⟩,hl.push _⟩,λi v s' Q' E' hP hQ=>?_,λh' tk hk=>?_⟩)
 .obtain⟨b,e,rfl⟩:=hb.get i v (by simpa using hP)
  simp[e] at hQ;exact E2z hQ
 .have e:((List.range its.toArray.size).all λi=>(bs[i]?).getD true)=bs.all id:=by rw[H2z,hb.length];exact LSm.range_all bs
  rw[e];exact⟨.bl _,H,I.kept (LSm.kept_iter hk),rfl,q⟩
theorem KR(hl:items d0=some l):EvC X (.type "tuple") [d0] (.tup l):=by
 intro vs H Hs Q hs hr hq;obtain⟨v,rfl,r1⟩:=repL1 hr;refine dz.sem pC ?_
 cases d0 with
 |tup xs =>
  simp[items,O2z] at hl;subst hl
  obtain⟨a,us,rfl,h1,h2⟩:=cH r1;exact⟨a,us,rfl,.inr ⟨hs.tup h1,hq _ H Hs (.refl hs) r1⟩⟩
 |lst xs =>
  simp[items,O2z] at hl;subst hl
  obtain⟨a,us,rfl,h1,h2⟩:=cU r1;exact⟨a,us,rfl,.inl ⟨hs.seq h1,λp hp=>iC hs h2 hp hq⟩⟩
 |_=>simp[items] at hl
def VJ:String->Value
 |"tuple"=>.type "tuple"
 |"list"=>.type "list"
 |"int"=>.type "int"
 |"dict"=>.type "dict"
 |b=>.builtin b
theorem lQ:∀{ks:List (Option Expr)}{vs:List Expr}{l:List (Sum Int Str×D)}{pos:Pos},eY f ks vs=some l->PPs X pos ks vs (R6 X ks vs)/\ks.all (·.isSome)=true/\ks.length=vs.length/\l.length=ks.length
 |[],[],l,pos,h=>by simp[eY,O2z] at h;subst h;exact⟨JC,rfl,rfl,rfl⟩
 |some k::ks,v::vs,l,pos,h=>by
  obtain⟨x,h1,h⟩:=obd h;obtain⟨d,h2,h⟩:=obd h;obtain⟨r,h3,h⟩:=obd h;cases h;obtain⟨a1,a2,a3,a4⟩:=lQ h3;exact⟨Ds aq aq a1,by simpa using a2,by simp[a3],by simp[a4]⟩
 |[],_::_,l,pos,h=>by simp[eY] at h
 |none::ks,vs,l,pos,h=>by cases vs<;>simp[eY] at h
 |some k::ks,[],l,pos,h=>by simp[eY] at h
theorem m9(hf:∀e d,f e=some d->Ev X U e d):∀{ks:List (Option Expr)}{vs:List Expr}{l:List (Sum Int Str×D)},eY f ks vs=some l->∀Y H Hs (Q:List (V×V)->Hp->Prop),Same Hs H->bL X.K Hs U Y ->
  (∀kvs H' Hs',Ext Hs H Hs' H'->iu X.K Hs' l kvs->Q (kvs.map λq=>(kV q.1,q.2)) H')->uD (R6 X ks vs) Y H Q
 |[],[],l,h,Y,H,Hs,Q,hs,hst,hq=>by
  simp[eY,O2z] at h;subst h
  exact hq [] H Hs (.refl hs) .nil
 |some k::ks,v::vs,l,h,Y,H,Hs,Q,hs,hst,hq=>by
  obtain⟨x,h1,h⟩:=obd h;obtain⟨d,h2,h⟩:=obd h;obtain⟨r,h3,h⟩:=obd h;cases h;obtain⟨kd,h4,h5⟩:=obd h1;refine hf _ _ h4 Y H Hs _ hs hst λu H1 Hs1 E1 r1=>hf _ _ h2 Y H1 Hs1 _ E1.sub (hst.same E1.vis) λw H2 Hs2 E2 r2=>?_;refine m9 hf h3 Y H2 Hs2 _ E2.sub ((hst.same E1.vis).same E2.vis) λkvs H3 Hs3 E3 r3=>?_;have:=hq ((x,w)::kvs) H3 Hs3 (E1.trans (E2.trans E3)) (.cons (Rep.same E3.vis _ _ r2) r3);rw[I4z,<- Aa h5 r1] at this;exact this
 |[],_::_,l,h,_,_,_,_,_,_,_=>by simp[eY] at h
 |none::ks,vs,l,h,_,_,_,_,_,_,_=>by cases vs<;>simp[eY] at h
 |some k::ks,[],l,h,_,_,_,_,_,_,_=>by simp[eY] at h
theorem Fy(hf:∀e d,f e=some d->Ev X U e d)(h0:ks.isEmpty=false)(h15:ks.length<=15)(h:eY f ks vs=some l):Ev X U (.Dict ks vs pos) (oX (Ht l)):=by
  intro Y H Hs Q hs hst hq
  obtain⟨a1,a2,a3,a4⟩:=lQ h
  refine PE.sem (DP a1 a2 a3 (by intro e;rw[e] at h0;simp at h0) h15) λp hp=>?_
  have Hn:Hs p=none:=by
    cases e:Hs p with
    |none=>rfl
    |some u=>rw[hs _ _ e] at hp;cases hp
  refine m9 hf h Y _ Hs _ (λb u e=>by rw[ak (aj e Hn)];exact hs b u e) hst λkvs H' Hs' E r=>?_
  have Hn':Hs' p=none:=E.hid _ _ au Hn
  have hz:kvs.length=l.length:=by have:=congrArg List.length r.1;simpa using this
  refine⟨(E.all _ _ au),kvs,rfl,by omega,λob=>?_⟩
  have E2:Ext Hs H (upd Hs' p (.frz ob (.dK (dO [] kvs)))) (upd H' p (.frz ob (.dK (dO [] kvs)))) :=
    { vis:=λb u e=>by rw [ak (aj e Hn)]; exact E.vis b u e
      all:=λb u e=>by rw[ak (aj e hp)];exact E.all b u (by rw[ak (aj e hp)];exact e)
      sub:=λb u e=>by
        by_cases hb:b=p
        . subst hb;rw[au] at e ⊢;exact e
        . rw[ak hb] at e ⊢;exact E.sub b u e
      hid:=λb u e n=>by rw[ak (aj e hp)];exact E.hid b u (by rw[ak (aj e hp)];exact e) n }
  refine hq _ _ _ E2 ?_
  have r2:=iu.mrg r .nil
  refine⟨p,dO [] kvs,rfl,.inl ⟨ob,au⟩,r2.1,aL.same (λb u e=>?_) _ _ r2.2⟩
  rw[ak (aj e Hn')];exact e
theorem vp(hc:X.calm=true){xs:List D}{l:List (Sum Int Str×D)}(h:iV xs=some l):EvC X (.type "dict") [.lst xs] (oX (Ht l)):=by
 intro vs H Hs Q hs hr hq
 obtain⟨v,rfl,a,us,rfl,h1,h2⟩:∃v,vs=[v]/\Rep X.K Hs (.lst xs) v:=by
  obtain⟨v,t,rfl,r1,r2⟩:=hr;cases (show t=[] from r2);exact⟨v,rfl,r1⟩
 obtain⟨kvs,p1,p2,p3⟩:=yZ h h2;obtain⟨m1,m2⟩:=qC (l0:=[]) (kvs0:=[]) p2 p3 rfl rfl;refine dz.sem (wY hc) ⟨a,us,kvs,rfl,hs.seq h1,prs_same hs p1,λp ob hp=>?_⟩;have E:=Ext.new hs (.frz ob (.dK (dO [] kvs))) hp;exact hq _ _ _ E ⟨p,_,rfl,.inl ⟨ob,au⟩,m1,aL.same E.vis _ _ m2⟩
where
 prs_same {K:Zf} {Hs H:Hp} (hs:Same Hs H):∀{vs:List V}{kvs:List (Key×V)},xr K Hs vs kvs->xr K H vs kvs
  |[],_,h=>h
  |_::_,_,h=>by
   obtain⟨b,k,v,q,e1,e2,e3,e4⟩:=h
   exact⟨b,k,v,q,e1,e2,hs.tup e3,prs_same hs e4⟩
theorem Fv(hc:X.calm=true)(kw:KnW X.K X.w){ks:List (Sum Int Str)}{ds:List D}{l l':List Str}(h1:Dg ks=some l)(h2:l.length<64)(h3:GR l=some l'):EvC X (.builtin "sorted") [.dic ks ds] (.lst (l'.map .str)):=by
 intro vs H Hs Q hs hr hq
 obtain⟨v,rfl,a,kvs,rfl,g1,g2,g3⟩:∃v,vs=[v]/\Rep X.K Hs (.dic ks ds) v:=by
  obtain⟨v,t,rfl,r1,r2⟩:=hr;cases (show t=[] from r2);exact⟨v,rfl,r1⟩
 have g1':DAt X.K H a kvs:=g1.elim (λ⟨o,q⟩=>.inl ⟨o,hs _ _ q⟩) .inr;refine dz.sem (jT hc) ⟨a,kvs,l,rfl,λ_ _ _ I=>eG I kw g1',by rw[g2,uE h1],h2,λp ss hp hperm hsort=>?_⟩;have e:=yH h3 hperm hsort;rw[e];have E:=Ext.new hs (.lst (l'.map V.str)) hp;refine hq _ _ _ E ⟨p,_,rfl,.inl (.inl au),?_⟩;exact strs_rep l'
where
 strs_rep {K:Zf} {H:Hp}:∀ss:List Str,aL K H (ss.map D.str) (ss.map V.str)
  |[]=>rfl
  |s::r=>⟨_,_,rfl,by simp[Rep],strs_rep r⟩
theorem Qt(hc:X.calm=true)(kw:KnW X.K X.w)(h:DE.blt b ds=some d):EvC X (VJ b) ds d:=by
 intro vs H Hs Q hs hr hq;unfold DE.blt at h;split at h
 .split at h
  .rename_i hb
   subst hb;split at h
   .split at h
    .rename_i x hz
     cases h;obtain⟨v,rfl,r1⟩:=repL1 hr
     have e:v=.str x:=by simpa[Rep] using r1
     subst e;exact dz.sem rz ⟨x,rfl,jJ hz,hq _ H Hs (.refl hs) (by simp[Rep])⟩
    .cases h
   .simp[bind,Option.bind] at h
    split at h
    .cases h
    .rename_i l hl
     cases h;obtain⟨v,rfl,r1⟩:=repL1 hr;obtain⟨a,us,rfl,h1,h2⟩:=qj r1 hl;refine dz.sem eU ⟨a,us,rfl,h1.imp hs.seq hs.tup,?_⟩;rw[<- h2.length];exact hq _ H Hs (.refl hs) (by simp[Rep])
  .split at h
   .rename_i hb
    subst hb;split at h
    .simp[bind,Option.bind] at h
     split at h
     .cases h
     .rename_i l hl
      cases h;obtain⟨v,rfl,r1⟩:=repL1 hr;obtain⟨a,us,rfl,h1,h2⟩:=cU r1;have e:=kI hl h2;subst e;exact dz.sem (BJ hc) ⟨a,_,rfl,hs.seq h1,hq _ H Hs (.refl hs) (by simp[Rep])⟩
    .cases h
   .split at h
    .rename_i hb
     subst hb;split at h
     .simp[bind,Option.bind] at h
      split at h
      .cases h
      .rename_i l hl
       cases h;obtain⟨v,rfl,r1⟩:=repL1 hr;obtain⟨a,us,rfl,h1,h2⟩:=cU r1;have e:=vX hl h2;subst e;exact dz.sem (Bv hc) ⟨a,_,rfl,hs.seq h1,hq _ H Hs (.refl hs) (by simp[Rep])⟩
     .cases h
    .split at h
     .rename_i hb
      subst hb;simp[bind,Option.bind] at h;split at h
      .cases h
      .rename_i l hl
       cases h;exact KR hl vs H Hs Q hs hr hq
     .split at h
      .rename_i hb
       subst hb;simp[bind,Option.bind] at h;split at h
       .cases h
       .rename_i l hl
        cases h;obtain⟨v,rfl,r1⟩:=repL1 hr;obtain⟨a,us,rfl,h1,h2⟩:=qj r1 hl;exact dz.sem gG ⟨a,us,rfl,h1.imp hs.seq hs.tup,λp hp=>jA hs h2 hp hq⟩
      .split at h
       .rename_i hb
        subst hb;split at h
        .cases h
         obtain⟨v,rfl,r1⟩:=repL1 hr;exact dz.sem Bw (.inr ⟨_,by rw[dD r1],hq _ H Hs (.refl hs) (by simp[Rep,DE.b2i])⟩)
        .cases h
       .split at h
        .rename_i hb
         subst hb;split at h
         .obtain⟨l,h1,rfl⟩:=O0z.mp h
          exact vp hc h1 vs H Hs Q hs hr hq
         .cases h
        .split at h
         .rename_i hb
          subst hb;split at h
          .obtain⟨l',h1,rfl⟩:=O0z.mp h
           obtain⟨l,h2,h3⟩:=Option.bind_eq_some_iff.mp h1;split at h3
           .rename_i hz
            exact Fv hc kw h2 (P2z hz) h3 vs H Hs Q hs hr hq
           .cases h3
          .cases h
         .cases h
 .cases h
end
section
variable{X:Cx}{U:Rho}{cx:Cxt}{k:Nat}{sc:Scope}
theorem dh(G:Good cx k X sc)(h:cg cx sc x=some b):Gl X x/\X.mg x=none/\x=Str.ofString b:=by
 unfold cg rY at h;split at h
 .rename_i hg
  have e:sc.names.lookup x=some .globalImplicit:=by simpa using hg
  refine⟨?_,G.blt x b h⟩;show X.env.scope.names.lookup x=_;rw[G.sce,e]
 .cases h
theorem BL(h:DE.blt b ds=some d):b="len"\/b="all"\/b="sum"\/b="tuple"\/b="list"\/b="min"\/b="max"\/b="abs"\/b="int"\/b="any"\/b="dict"\/b="sorted":=by
 by_cases e:b="len"\/b="all"\/b="sum"\/b="tuple"\/b="list"\/b="min"\/b="max"\/b="abs"\/b="int"\/b="any"\/b="dict"\/b="sorted"
 .exact e
 .simp only[not_or] at e
  unfold DE.blt at h;split at h
  all_goals simp[e] at h
theorem FJ(G:Good cx k X sc)(hx:cg cx sc x=some b)(h:EvA X U (e::es) ds)(hp:∀a∈e::es,aJ a=true)(hd:DE.blt b ds=some d) :
  Ev X U (.Call (.Name x p) (e::es) [] pos) d:=by
 obtain⟨hg,hm,rfl⟩:=dh G hx;have c:=Qt G.calm G.kw hd;have s1:=aA (env:=X.env) (es:=es) (hp e (by simp));have s2:=dU (env:=X.env) (pos:=pos) λa ha=>hp a (X0z _ ha)
 have fin:∀f:Value,VJ b=f->PE X (.Call (.Name (Str.ofString b) p) (e::es) [] pos) (tCB (Ra X f) (yu X (e::es)))->Ev X U (.Call (.Name (Str.ofString b) p) (e::es) [] pos) d:=by
  intro f hf hpe Y H Hs Q hs hst hq;rw[hf] at c;exact hpe.sem (h Y H Hs _ hs hst λvs H1 Hs1 E1 r1=>(c vs H1 Hs1 Q E1.sub r1 λv H' Hs' E2 r2=>hq v H' Hs' (E1.trans E2) r2))
 obtain rfl|rfl|rfl|rfl|rfl|rfl|rfl|rfl|rfl|rfl|rfl|rfl:=BL hd
 .exact fin (.builtin "len") rfl (bY cL hg hm rfl cQ (by decide) rfl s1 s2)
 .exact fin (.builtin "all") rfl (bY cL hg hm rfl cQ (by decide) rfl s1 s2)
 .exact fin (.builtin "sum") rfl (bY cL hg hm rfl cQ (by decide) rfl s1 s2)
 .exact fin (.type "tuple") rfl (cZ cL hg hm rfl cQ (by decide) rfl s1 s2)
 .exact fin (.type "list") rfl (cZ cL hg hm rfl cQ (by decide) rfl s1 s2)
 .exact fin (.builtin "min") rfl (bY cL hg hm rfl cQ (by decide) rfl s1 s2)
 .exact fin (.builtin "max") rfl (bY cL hg hm rfl cQ (by decide) rfl s1 s2)
 .exact fin (.builtin "abs") rfl (bY cL hg hm rfl cQ (by decide) rfl s1 s2)
 .exact fin (.type "int") rfl (cZ cL hg hm rfl cQ (by decide) rfl s1 s2)
 .exact fin (.builtin "any") rfl (bY cL hg hm rfl cQ (by decide) rfl s1 s2)
 .exact fin (.type "dict") rfl (cZ cL hg hm rfl cQ (by decide) rfl s1 s2)
 .exact fin (.builtin "sorted") rfl (bY cL hg hm rfl cQ (by decide) rfl s1 s2)
def WD(K:Zf)(T:String):List V->Hp->VK->Prop:=λxs H Q=>∃x d,xs=[x,.ty T]/\Rep K H d x/\isExc d=false/\Q (.bl (Rh T d)) H
theorem uy(h:kW T=true):T="int"\/T="bool"\/T="tuple"\/T="list"\/T="str":=by
 unfold kW at h
 split at h<;>first|(simp;done)|cases h
theorem wk(r:Vals (x::vs) us):∃u w,us=u::w/\RelV x u/\Vals vs w:=by
 cases r with
 |cons r rr=>exact⟨_,_,rfl,r,rr⟩
theorem Gh(hk:kW T=true):dz X (.builtin "isinstance") (WD X.K T):=by
 intro y0 s Y H xs us Q I r h;obtain⟨x,d,rfl,rd,hne,q⟩:=h;obtain⟨u,w1,rfl,rx,rr⟩:=wk r;obtain⟨c,w2,rfl,rc,rr2⟩:=wk rr;cases rr2;cases rc;have fin:∀b,b=Rh T d->∀tk,EP X y0 Y Q (.bool b) {s with toks:=tk}:=λb hb tk=>⟨.bl _,H,I.tok _,by rw[hb];rfl,q⟩;have ks:=uy hk
 cases d with
 |exc c=>exact absurd hne (by simp[isExc])
 |dic _ _=>exact absurd hne (by simp[isExc])
 |obj _=>exact absurd hne (by simp[isExc])
 |non =>
  cases oh rd;cases rx
  rcases ks with rfl|rfl|rfl|rfl|rfl<;>exact Y3z W.kitx_none I.kIn True.intro rfl (λz=>nomatch z) (fin _ rfl)
 |bl y =>
  cases dD rd;cases rx
  obtain rfl|rfl|rfl|rfl|rfl:=ks
  .exact Y3z Q2z I.kIn True.intro rfl (λz=>nomatch z) (fin _ rfl)
  .exact Y3z Q2z I.kIn True.intro rfl (λz=>nomatch z) (fin _ rfl)
  .exact Y3z Q2z I.kIn True.intro rfl (λz=>nomatch z) (fin _ rfl)
  .exact Y3z Q2z I.kIn True.intro rfl (λz=>nomatch z) (fin _ rfl)
  .exact Y3z Q2z I.kIn True.intro rfl (λz=>nomatch z) (fin _ rfl)
 |int y =>
  cases aY rd;obtain⟨t,e⟩:=rx;cases e;obtain rfl|rfl|rfl|rfl|rfl:=ks
  .exact Y3z C3z I.kIn True.intro rfl (λz=>nomatch z) (fin _ rfl)
  .exact Y3z C3z I.kIn True.intro rfl (λz=>nomatch z) (fin _ rfl)
  .exact Y3z C3z I.kIn True.intro rfl (λz=>nomatch z) (fin _ rfl)
  .exact Y3z C3z I.kIn True.intro rfl (λz=>nomatch z) (fin _ rfl)
  .exact Y3z C3z I.kIn True.intro rfl (λz=>nomatch z) (fin _ rfl)
 |str y =>
  have ev:x=.str y:=by simpa[Rep] using rd
  subst ev;obtain⟨t,e⟩:=rx;cases e;obtain rfl|rfl|rfl|rfl|rfl:=ks
  .exact Y3z D3z I.kIn True.intro rfl (λz=>nomatch z) (fin _ rfl)
  .exact Y3z D3z I.kIn True.intro rfl (λz=>nomatch z) (fin _ rfl)
  .exact Y3z D3z I.kIn True.intro rfl (λz=>nomatch z) (fin _ rfl)
  .exact Y3z D3z I.kIn True.intro rfl (λz=>nomatch z) (fin _ rfl)
  .exact Y3z D3z I.kIn True.intro rfl (λz=>nomatch z) (fin _ rfl)
 |tup ds =>
  obtain⟨a,vs,rfl,h1,h2⟩:=cH rd;cases rx;obtain⟨its,_,o,g1,g2,_⟩:=isT I h1;obtain rfl|rfl|rfl|rfl|rfl:=ks
  .exact Y3z A2z I.kIn ⟨o,g1,g2⟩ rfl (λz=>nomatch z) (fin _ rfl)
  .exact Y3z A2z I.kIn ⟨o,g1,g2⟩ rfl (λz=>nomatch z) (fin _ rfl)
  .exact Y3z A2z I.kIn ⟨o,g1,g2⟩ rfl (λz=>nomatch z) (fin _ rfl)
  .exact Y3z A2z I.kIn ⟨o,g1,g2⟩ rfl (λz=>nomatch z) (fin _ rfl)
  .exact Y3z A2z I.kIn ⟨o,g1,g2⟩ rfl (λz=>nomatch z) (fin _ rfl)
 |lst ds =>
  obtain⟨a,vs,rfl,h1,h2⟩:=cU rd;cases rx;obtain⟨its,_,o,g1,g2,_⟩:=isL I h1;obtain rfl|rfl|rfl|rfl|rfl:=ks
  .exact Y3z R2z I.kIn ⟨o,g1,g2⟩ rfl (λz=>nomatch z) (fin _ rfl)
  .exact Y3z R2z I.kIn ⟨o,g1,g2⟩ rfl (λz=>nomatch z) (fin _ rfl)
  .exact Y3z R2z I.kIn ⟨o,g1,g2⟩ rfl (λz=>nomatch z) (fin _ rfl)
  .exact Y3z R2z I.kIn ⟨o,g1,g2⟩ rfl (λz=>nomatch z) (fin _ rfl)
  .exact Y3z R2z I.kIn ⟨o,g1,g2⟩ rfl (λz=>nomatch z) (fin _ rfl)
theorem Qo(G:Good cx k X sc)(hx:cg cx sc x=some "isinstance")(ht:cg cx sc t=some T)(hk:kW T=true)(ha:Ev X U a d)(hp:aJ a=true)(hne:isExc d=false) :
  Ev X U (.Call (.Name x p) [a,.Name t pt] [] pos) (.bl (Rh T d)):=by
 obtain⟨hg,hm,rfl⟩:=dh G hx;obtain⟨hg2,hm2,rfl⟩:=dh G ht
 have htv:PE X (.Name (Str.ofString T) pt) (tC (.ty T)):=by
  rcases uy hk with rfl|rfl|rfl|rfl|rfl<;>exact sJ hg2 hm2 rfl rfl
 intro Y H Hs Q hs hst hq;refine(bY (Gh hk) hg hm rfl (aB aq (aB htv aM (aA rfl)) (aA hp)) (by decide) rfl (aA hp) rfl).sem ?_;exact ha Y H Hs _ hs hst λv H1 Hs1 E1 r1=>⟨v,d,rfl,Rep.same E1.sub d v r1,hne,hq _ H1 Hs1 E1 (by simp[Rep])⟩
def Ss(K:Zf)(cv:V)(C:Addr)(b:Bool):List V->Hp->VK->Prop:=λxs H Q=>∃a,xs=[.ref a,cv]/\H a=some (.ext (isX a (.ref C)))/\Q (.bl b) H
theorem rC(hA:nM X.K C=true)(hc:∀u,RelV cv u->u=c)(e:W.kitOne X.K (.ref C) c=some b):dz X (.builtin "isinstance") (Ss X.K cv C b):=by
 intro y0 s Y H xs us Q I r h;obtain⟨a,rfl,ha,q⟩:=h;obtain⟨u,w1,rfl,rx,rr⟩:=wk r;obtain⟨u2,w2,rfl,rc,rr2⟩:=wk rr;cases rr2;cases rx;cases hc u2 rc;exact Y3z (EY hA) I.kIn (I.hok _ _ ha).1 e (λz=>nomatch z) λtk=>⟨.bl _,H,I.tok _,rfl,q⟩
theorem tL(G:Good cx k X sc)(hx:cg cx sc x=some "isinstance")(hc:cx.exs.contains c=true)(ht:PE X t (tC cv))(hpt:aJ t=true)(hcv:∀u,RelV cv u->u=cw)
  (hk:∀C,W.nsIn X.K mainGlobals c=some (some (.ref C))->W.kitOne X.K (.ref C) cw=some b) (ha:Ev X U a (.exc c)) (hp:aJ a=true):Ev X U (.Call (.Name x p) [a,t] [] pos) (.bl b):=by
 obtain⟨hg,hm,rfl⟩:=dh G hx;obtain⟨C,M,e1,_,_,e2,_⟩:=G.exs.cls c hc;intro Y H Hs Q hs hst hq;refine(bY (rC e2 hcv (hk C e1)) hg hm rfl (aB aq (aB ht aM (aA hpt)) (aA hp)) (by decide) rfl (aA hp) (by rw[aA hpt];rfl)).sem ?_;refine ha Y H Hs _ hs hst λv H1 Hs1 E1 r1=>?_;have r2:=Rep.same E1.sub _ v r1;obtain⟨a0,C0,rfl,f1,f2⟩:=r2;rw[e1] at f1;cases f1;exact⟨a0,rfl,f2,hq _ H1 Hs1 E1 (by simp[Rep])⟩
theorem K5{x t c:Str}{a:Expr}{p pt pos:Pos}(G:Good cx k X sc)(hx:cg cx sc x=some "isinstance")(ht:cg cx sc t=some "ValueError")(hc:cx.exs.contains c=true)(ha:Ev X U a (.exc c))(hp:aJ a=true):Ev X U (.Call (.Name x p) [a,.Name t pt] [] pos) (.bl true):=by
 obtain⟨hg2,hm2,rfl⟩:=dh G ht;refine tL (cv:=.ty "ValueError") G hx hc (sJ hg2 hm2 rfl rfl) rfl (λu r=>r) (λC e=>?_) ha hp;obtain⟨C',M,e1,_,_,_,_,_,e2⟩:=G.exs.cls c hc;rw[e] at e1;cases e1;exact e2
theorem Gq(h:xOf cx sc t=some c'):∃pt,t=.Name c' pt/\rY cx sc c'=true/\(cx.exs.contains c'=true\/c'=cx.top)/\(c'==("__debug__":Str))=false:=by
 unfold xOf at h;split at h
 .rename_i y pt
  split at h
  .rename_i q
   cases h;rw[A3z,A3z,V3z] at q;have q2:=q.2;unfold aK at q2;rw[A3z,M5z] at q2;exact⟨pt,rfl,q.1.1,q.1.2.imp id (λz=>by simpa using z),by simpa using q2.1⟩
  .cases h
 .cases h
theorem K4{x c c':Str}{t a:Expr}{p pos:Pos}(G:Good cx k X sc)(hx:cg cx sc x=some "isinstance")(ht:xOf cx sc t=some c')(hc:cx.exs.contains c=true)(ha:Ev X U a (.exc c))(hp:aJ a=true):Ev X U (.Call (.Name x p) [a,t] [] pos) (.bl (xM cx.top c c')):=by
 obtain⟨pt,rfl,hgl,hin,hd⟩:=Gq ht
 have hg:Gl X c':=by
  have e:sc.names.lookup c'=some .globalImplicit:=by unfold rY at hgl;simpa using hgl
  show X.env.scope.names.lookup c'=_;rw[G.sce,e]
 by_cases htop:c'=cx.top
 .subst htop
  obtain⟨C,M,e1,e2,_,_,_,e3,_⟩:=G.exs.cls c hc
  have:xM cx.top c cx.top=true:=by unfold xM;simp
  rw[this];refine tL (cv:=.ref M) G hx hc (lM hg (G.exs.glob _ _ e2) rfl hd) rfl (λu r=>r) (λC' e=>?_) ha hp;rw[e] at e1;cases e1;exact e3
 .obtain⟨C,C',e1,e2,e3⟩:=G.exs.sub c c' hc (hin.resolve_right htop)
  have:xM cx.top c c'=(c==c'):=by
   unfold xM
   have:(c'==cx.top)=false:=by simpa using htop
   rw[this,Bool.or_false]
  rw[this];refine tL (cv:=.ref C') G hx hc (lM hg (G.exs.glob _ _ e2) rfl hd) rfl (λu r=>r) (λC'' e=>?_) ha hp;rw[e] at e1;cases e1;exact e3
end
section
variable{X:Cx}{U:Rho}{cx:Cxt}{k:Nat}{sc:Scope}
theorem xT:∀{vs:List V}{us:List Value},vs.length=us.length->(∀(i:Nat)(v:V)(u:Value),vs[i]?=some v->us[i]?=some u->RelV v u)->Vals vs us
 |[],[],_,_=>.nil
 |[],u::us,h,_=>by simp at h
 |v::vs,[],h,_=>by simp at h
 |v::vs,u::us,h,hr=>.cons (hr 0 v u rfl rfl) (xT (by simpa using h) λi a b e1 e2=>hr (i+1) a b (by simpa using e1) (by simpa using e2))
theorem uL{K:Zf}{f:α->D}{g:α->V}(h:∀x,Rep K H (f x) (g x)):∀l:List α,aL K H (l.map f) (l.map g)
 |[]=>.nil
 |x::r=>.cons (h x) (uL h r)
theorem G4(h:qg i=true):-(2^62)<=i/\i<2^62:=by
 unfold qg at h;rw[A3z,N2z,N2z] at h;exact h
theorem El(m:Moved wr (λa b=>b=a) s s'):s'={s with heap:=s'.heap,toks:=s'.toks}:=by
 have h1:=m.gens;have h2:=m.drawn;have h3:=m.os;cases s;cases s';subst h1 h2 h3;rfl
theorem KY(G:Good cx k X sc)(hx:cg cx sc x=some "tuple")(hy:cg cx sc y=some "reversed")(ha:Ev X U a (.tup xs))(hp:aJ a=true) :
  Ev X U (.Call (.Name x p) [.Call (.Name y q) [a] [] q'] [] pos) (.tup xs.reverse):=by
 obtain⟨hg,hm,rfl⟩:=dh G hx;obtain⟨hg2,hm2,rfl⟩:=dh G hy;intro Y H Hs Q hs hst hq y0 s I;refine Call_ (jP I hg hm (show bootBuiltins "tuple"=some (.type "tuple") by decide +kernel) (A0z ?_ rfl rfl));refine Q1z ?_;refine Call_ (jP I hg2 hm2 boot_reversed (A0z ?_ (aA hp) rfl))
 refine thn ((aB aq aM (aA hp)) q' y0 s Y H (λvs H1=>∃Hs1 b ws,vs=[.ref b]/\SqT X.K Hs1 b ws/\aL X.K Hs1 xs ws/\Ext Hs H Hs1 H1) I (ha Y H Hs _ hs hst λv H1 Hs1 E1 r1=>by
  obtain⟨b,ws,rfl,h1,h2⟩:=cH r1
  exact⟨Hs1,b,ws,rfl,h1,h2,E1⟩)) λus s1 ⟨vs,H1,I1,r1,Hs1,b,ws,e1,t1,r2,E1⟩=>?_
 subst e1;obtain⟨u,w1,rfl,rx,rr⟩:=wk r1;cases rr;cases rx;obtain⟨its,rv,pt,hz⟩:=I1.tuple (E1.sub.tup t1);have hl:=rv.length;refine rm pt (by simp;omega) λtk=>G2z ?_;have st:d7 (s1.heap.push (Jq b ((its.toArray.size:Int)-1))) s1.heap.objs.size b ((its.toArray.size:Int)-1):=Heap.get?_push_size _ rfl;have I2:Inv X y0 Y H1 {s1 with heap:=s1.heap.push (Jq b ((its.toArray.size:Int)-1)),toks:=tk}:=I1.kept λb o e=>Heap.get?_push_of_some _ e;obtain⟨f0,f1,f2,f3,f4,f5⟩:=I1.fpOk (B5z _) (I1.hok.fresh (B5z _))
 have pt2:IsTup (s1.heap.push (Jq b ((its.toArray.size:Int)-1))) b its.toArray:=by
  obtain⟨o,e1,e2⟩:=pt;exact⟨o,Heap.get?_push_of_some _ e1,e2⟩
 refine mK (I1.ok.hd G.calm) st pt2 (by simp;omega) λs' acc hm hacc=>?_
 have I3:Inv X y0 Y H1 s':=by
  rw[El hm];exact I2.turned (λc o hc e=>hm.heap c o (by simpa using hc) e) f0 f1 f3 f4 f5
 have hv:Vals ws.reverse acc.toList:=by
  have ha:acc.toList.length=its.length:=by
   have:=hacc.1;simpa using this
  refine xT (by rw[J1z,ha];exact hl) λi v u e1 e2=>?_
  have e3:=hacc.2 i u (by simpa using e2);rw[H2z,List.getElem?_toArray] at e3
  have hi:i<ws.length:=by have:=(List.getElem?_eq_some_iff.mp e1).1;simpa using this
  rw[List.getElem?_reverse hi] at e1;obtain⟨u',e4,e5⟩:=rv.get e1;rw[hl] at e4;rw[e3] at e4;cases e4;exact e5
 have hz2:ws.reverse.length<=sizeLine:=by simpa using hz
 have I4 :=
  I3.laid (t':=s'.toks) (λb o e=>Heap.get?_push_of_some _ e) (B5z _) (show cX X.prog X.w _ _ _ (.tup ws.reverse) from⟨hz2,acc.toList,hv,by simpa using IsTup.new s'.heap acc⟩)
 exact⟨.ref s'.heap.objs.size,_,I4,rfl,iC E1.sub r2.reverse (I3.hok.fresh (B5z _)) λw H' Hs' E2 r2=>hq w H' Hs' (E1.trans E2) r2⟩
variable{tg iter a b:Expr}
theorem Ld(h:Ev X U iter d)(hl:items d=some l):EvI X U tg iter l:=by
 intro Y H Hs R hs hst hq
 cases d with
 |lst xs =>
  simp[items,O2z] at hl;subst hl
  refine(zu aq).sem (h Y H Hs _ hs hst λv H1 Hs1 E1 r1=>?_);obtain⟨p,vs,rfl,h1,h2⟩:=cU r1;refine⟨p,rfl,⟨vs,E1.sub.seq h1⟩,hq _ H1 Hs1 E1 λHs' H' e1 e2=>⟨⟨vs,e2.seq (e1.seq h1),by rw[h2.length];exact B5z _⟩,λi d hd=>?_⟩⟩;obtain⟨v,g1,g2⟩:=h2.get hd;refine⟨⟨vs,v,e2.seq (e1.seq h1),g1⟩,λx H2 y=>?_⟩;obtain⟨rfl,y⟩:=y;have:=y vs (e2.seq (e1.seq h1));rw[g1] at this;cases this;exact⟨Hs',.refl e2,Rep.same e1 d v g2⟩
 |tup xs =>
  simp[items,O2z] at hl;subst hl
  refine(Oh aq).sem (h Y H Hs _ hs hst λv H1 Hs1 E1 r1=>?_);obtain⟨p,vs,rfl,h1,h2⟩:=cH r1;refine⟨p,rfl,⟨vs,E1.sub.tup h1⟩,hq _ H1 Hs1 E1 λHs' H' e1 e2=>⟨⟨vs,e2.tup (e1.tup h1),by rw[h2.length];exact B5z _⟩,λi d hd=>?_⟩⟩;obtain⟨v,g1,g2⟩:=h2.get hd;refine⟨⟨vs,v,e2.tup (e1.tup h1),g1⟩,λx H2 y=>?_⟩;obtain⟨rfl,y⟩:=y;have:=y vs (e2.tup (e1.tup h1));rw[g1] at this;cases this;exact⟨Hs',.refl e2,Rep.same e1 d v g2⟩
 |_=>simp[items] at hl
theorem Lb(kw:KnW X.K X.w)(h:Ev X U iter d)(hl:vd d=some l):EvI X U tg iter l:=by
 cases d with
 |dic ks ds =>
  cases hl;intro Y H Hs R hs hst hq;refine(JF kw aq).sem (h Y H Hs _ hs hst λv H1 Hs1 E1 r1=>?_);obtain⟨a,kvs,rfl,g1,g2,g3⟩:=r1;obtain⟨o,ho⟩:=g1.obj;have up:∀{H1 H2:Hp},Same H1 H2->Ml X.K H1 a kvs o->Ml X.K H2 a kvs o:=λe r=>r.elim (λq=>.inl (e _ _ q)) .inr;refine⟨a,kvs,o,rfl,up E1.sub ho,hq _ H1 Hs1 E1 λHs' H' e1 e2=>⟨⟨up e2 (up e1 ho),by rw[K3z,<- g2,K3z]⟩,λi d hd=>?_⟩⟩;rw[<- g2,Z4z,List.getElem?_map] at hd;obtain⟨q,h1,rfl⟩:=O0z.mp hd;have hi:=(List.getElem?_eq_some_iff.mp h1).1;refine⟨⟨up e2 (up e1 ho),hi⟩,λy H2 hy=>?_⟩;obtain⟨rfl,k,v,h2,rfl⟩:=hy;rw[h1] at h2;cases h2;refine⟨Hs',.refl e2,?_⟩
  cases k with
  |inl n=>simp[Rep,kD,kV]
  |inr n=>simp[Rep,kD,kV]
 |str x =>
  simp only[vd] at hl;split at hl
  .rename_i ha
   cases hl;intro Y H Hs R hs hst hq;refine(Oi aq).sem (h Y H Hs _ hs hst λv H1 Hs1 E1 r1=>?_)
   have e:v=.str x:=by simpa[Rep] using r1
   subst e;refine⟨x,rfl,ha,hq _ H1 Hs1 E1 λHs' H' e1 e2=>⟨?_,λi d hd=>?_⟩⟩
   .show x.cps.size<=_
    simp
   .rw[List.getElem?_map] at hd
    obtain⟨c,h1,rfl⟩:=O0z.mp hd
    have hi:i<x.cps.size:=by
     have:=(List.getElem?_eq_some_iff.mp h1).1;simpa using this
    refine⟨hi,λy H2 hy=>?_⟩;obtain⟨rfl,c',h2,rfl⟩:=hy
    have:c'=c:=by
     rw[<- Array.getElem?_toList] at h2;rw[h1] at h2;cases h2;rfl
    subst this;exact⟨Hs',.refl e2,by simp[Rep]⟩
  .cases hl
 |_=>exact Ld h hl
theorem tD{K:Zf}{lo hi:Int}(hn:n=(hi-lo).toNat):Mi K (Itr lo n) Hs0 (f9 lo hi):=by
 have hl:(f9 lo hi).length=n:=by rw[hn];simp[f9]
 intro Hs H e1 e2;refine⟨by show n<=_;rw[hl];exact B5z _,λi d hd=>?_⟩
 have hi:i<n:=by have:=(List.getElem?_eq_some_iff.mp hd).1;rw[hl] at this;exact this
 refine⟨hi,λx H' y=>?_⟩;obtain⟨rfl,rfl⟩:=y;refine⟨Hs,.refl e2,?_⟩;unfold f9 at hd;rw[List.getElem?_map] at hd;obtain⟨j,e3,rfl⟩:=O0z.mp hd;rw[List.getElem?_eq_some_iff] at e3;obtain⟨_,e3⟩:=e3;subst e3;simp[Rep]
theorem wU(G:Good cx k X sc)(hx:cg cx sc x=some "range")(ha:Ev X U a (.int j))(hp:aJ a=true)(hj:qg j=true):EvI X U tg (.Call (.Name x p) [a] [] pos) (f9 0 j):=by
 obtain⟨hg,hm,rfl⟩:=dh G hx;intro Y H Hs R hs hst hq;refine PI.sem (zq (tg:=tg) (p:=p) (pos:=pos) hg hm (aB (aq (X:=X) (e:=a)) aM (aA hp)) (aA hp)) (ha Y H Hs _ hs hst λv H1 Hs1 E1 r1=>?_);exact⟨j,by rw[aY r1],(G4 hj).1,(G4 hj).2,hq _ H1 Hs1 E1 (tD (by simp))⟩
theorem Le(G:Good cx k X sc)(hx:cg cx sc x=some "reversed")(ha:Ev X U a (.tup xs))(hp:aJ a=true):EvI X U tg (.Call (.Name x p) [a] [] pos) xs.reverse:=by
 obtain⟨hg,hm,rfl⟩:=dh G hx;intro Y H Hs R hs hst hq;refine PI.sem (Oj (tg:=tg) (p:=p) (pos:=pos) hg hm (aB (aq (X:=X) (e:=a)) aM (aA hp)) (aA hp)) (ha Y H Hs _ hs hst λv H1 Hs1 E1 r1=>?_);obtain⟨b,vs,rfl,h1,h2⟩:=cH r1;have hl:=h2.length;refine⟨b,vs,rfl,E1.sub.tup h1,hq _ H1 Hs1 E1 λHs' H' e1 e2=>⟨by show _=_;rw[J1z,hl],λi d hd=>?_⟩⟩
 have hi:i<xs.length:=by have:=(List.getElem?_eq_some_iff.mp hd).1;simpa using this
 rw[List.getElem?_reverse hi] at hd;obtain⟨v,g1,g2⟩:=h2.get hd;rw[hl] at g1;refine⟨⟨vs,e2.tup (e1.tup h1),rfl,by rw[<- hl];exact hi⟩,λx H2 y=>?_⟩;obtain⟨rfl,y⟩:=y;have:=y vs (e2.tup (e1.tup h1));rw[g1] at this;cases this;exact⟨Hs',.refl e2,Rep.same e1 d v g2⟩
theorem La(G:Good cx k X sc)(hx:cg cx sc x=some "zip")(ha:Ev X U a (.tup xs))(hp:aJ a=true)(hb:Ev X U b (.tup ys))(hpb:aJ b=true) :
  EvI X U (.Tuple es kt pt) (.Call (.Name x p) [a,b] [] pos) ((xs.zip ys).map λq=>.tup [q.1,q.2]):=by
 obtain⟨hg,hm,rfl⟩:=dh G hx;intro Y H Hs R hs hst hq;refine PI.sem (Og (es:=es) (kt:=kt) (pt:=pt) (p:=p) (pos:=pos) hg hm (aB (aq (X:=X) (e:=a)) (aB (aq (X:=X) (e:=b)) aM (aA hpb)) (aA hp)) (by rw[aA hp,aA hpb];rfl) (aA hpb)) (ha Y H Hs _ hs hst λv H1 Hs1 E1 r1=>hb Y H1 Hs1 _ E1.sub (hst.same E1.vis) λv' H2 Hs2 E2 r2=>?_);obtain⟨c,vs,rfl,h1,h2⟩:=cH (Rep.same E2.vis _ _ r1);obtain⟨d,us,rfl,h3,h4⟩:=cH r2;have l1:=h2.length;have l2:=h4.length;refine⟨c,d,rfl,⟨vs,E2.sub.tup h1⟩,⟨us,E2.sub.tup h3⟩,hq _ H2 Hs2 (E1.trans E2) λHs' H' e1 e2=>⟨⟨vs,us,e2.tup (e1.tup h1),e2.tup (e1.tup h3),?_⟩,λi z hz=>?_⟩⟩
 .rw[K3z,Z3z]
  omega
 .rw[List.getElem?_map] at hz
  obtain⟨⟨x1,y1⟩,e3,rfl⟩:=O0z.mp hz;rw[List.getElem?_zip_eq_some] at e3;obtain⟨v1,g1,g2⟩:=h2.get e3.1;obtain⟨v2,g3,g4⟩:=h4.get e3.2;refine⟨⟨vs,us,v1,v2,e2.tup (e1.tup h1),e2.tup (e1.tup h3),g1,g3⟩,λw H3 y=>?_⟩;obtain⟨p,hp',rfl,y⟩:=y;rw[y vs us v1 v2 (e2.tup (e1.tup h1)) (e2.tup (e1.tup h3)) g1 g3];refine⟨_,Ext.new e2 (.tup [v1,v2]) hp',?_⟩;have sm:=(Ext.new e2 (.tup [v1,v2]) hp').vis;exact⟨p,[v1,v2],rfl,.of au,.cons (Rep.same sm _ _ (Rep.same e1 _ _ g2)) (.cons (Rep.same sm _ _ (Rep.same e1 _ _ g4)) .nil)⟩
end
theorem bw(h:(x >>=f)=some y):∃a,x=some a/\f a=some y:=by
 cases x with
 |none=>cases h
 |some a=>exact⟨a,rfl,h⟩
def KC(X:Cx)(tg:Expr):TG:=λv Y H Q=>∀y0 s u,Inv X y0 Y H s->RelV v u->wpAny (model X.prog X.w) X.A (assign tg X.env u) (λ_ s'=>∃Y' H',Inv X y0 Y' H' s'/\Q Y' H') X.xe s
def Ky(X:Cx)(es:List Expr):TGs:=λvs Y H Q=>∀y0 s us,Inv X y0 Y H s->Vals vs us->wpAny (model X.prog X.w) X.A (assignInOrder ((assignEach es X.env).map (·.2)) us) (λ_ s'=>∃Y' H',Inv X y0 Y' H' s'/\Q Y' H') X.xe s
section
variable{X:Cx}{tg:Expr}{es:List Expr}
theorem lJ:PG X tg (KC X tg):=λy0 s Y H v u Q I r h=>h y0 s u I r
theorem PG.sem(h:PG X tg t)(q:t v Y H Q):KC X tg v Y H Q:=λy0 s u I r=>h y0 s Y H v u Q I r q
theorem sI:PGs X es (Ky X es):=λy0 s Y H v u Q I r h=>h y0 s u I r
theorem PGs.sem(h:PGs X es t)(q:t v Y H Q):Ky X es v Y H Q:=λy0 s u I r=>h y0 s Y H v u Q I r q
end
theorem aQ:∀(U:Rho)(x:Str)(v:Sl),(fL U x v).map (·.1)=U.map (·.1)
 |[],_,_=>rfl
 |(y,s)::r,x,v=>by
  unfold fL;split
  .rfl
  .simp[aQ r x v]
theorem cB:∀{U:Rho}{x:Str}{v:Sl}{i:Nat},(U.map (·.1)).Nodup->(U.map (·.1))[i]?=some x->∀j:Nat,(fL U x v)[j]?=if j=i then some (x,v) else U[j]?
 |[],x,v,i,_,h,_=>by simp at h
 |(y,s)::r,x,v,0,hn,h,j=>by
  simp at h;subst h
  cases j with
  |zero=>simp[fL]
  |succ j=>simp[fL]
 |(y,s)::r,x,v,i+1,hn,h,j=>by
  rw[I4z,N3z] at hn
  have h':(r.map (·.1))[i]?=some x:=by simpa using h
  have hne:(x==y)=false:=by
   rw[H1z];intro e;subst e;exact hn.1 (List.mem_of_getElem? h')
  simp[fL,hne,V1z,Q5z]
  cases j with
  |zero=>simp
  |succ j =>
   have:=cB (v:=v) hn.2 h' j;simp[List.getElem?_cons_succ,this,Nat.add_right_cancel_iff]
theorem cW{l:List Str}(h:l.contains x=true):∃i:Nat,l[i]?=some x:=by
 have:=List.mem_of_elem_eq_true h;exact List.mem_iff_getElem?.mp this
structure Owns(X:Cx)(scope:Scope):Prop where
 own:∀x,ownIn scope x=true->Loc X.env.scope x/\(X.fn x=true\/X.env.scope.names.lookup x=some .local)
def nJ(K:Zf)(Hs:Hp)(scope:Scope)(P:Rho->St->Prop):Prop:=∀U Y (i:Nat) x d v,(U.map (·.1)).Nodup->(U.map (·.1))[i]?=some x->ownIn scope x=true->P U Y->Rep K Hs d v->P (fL U x (.sh d)) (Y.set i (some v))
section
variable{X:Cx}{scope:Scope}{Hs H:Hp}{P:Rho->St->Prop}{Q:St->Hp->Prop}
theorem rF(hO:Owns X scope)(hnd:X.N.Nodup)(hN:X.N=U.map (·.1))(KE:nJ X.K Hs scope P)(hb:(if ownIn scope x&&(U.map (·.1)).contains x then some (fL U x (.sh d)) else none)=some U')(hp:P U Y)(rd:Rep X.K Hs d v)
  (hq:∀Y',X.N=U'.map (·.1)->P U' Y'->Q Y' H):KC X (.Name x pos) v Y H Q:=by
 split at hb
 .rename_i hc
  cases hb;rw[A3z] at hc;obtain⟨i,hi⟩:=cW hc.2;obtain⟨h1,h2⟩:=hO.own x hc.1;exact PG.sem (JH hnd (by rw[hN];exact hi) h1 h2) (hq _ (by rw[aQ];exact hN) (KE U Y i x d v (by rw[<- hN];exact hnd) hi hc.1 hp rd))
 .cases hb
theorem gH:∀{es:List Expr}{ds:List D}{U U':Rho},bindNames scope es ds U=some U'->(assignEach es env).length=es.length/\(assignEach es env).findIdx? (·.1)=none/\es.length=ds.length
 |[],[],_,_,_=>⟨rfl,rfl,rfl⟩
 |[],d::ds,U,U',h=>by simp[bindNames] at h
 |e::es,[],U,U',h=>by cases e<;>simp[bindNames] at h
 |e::es,d::ds,U,U',h=>by
  cases e<;>try (simp[bindNames] at h;done)
  rename_i x pos;simp only[bindNames] at h;split at h
  .obtain⟨h1,h2,h3⟩:=gH h
   refine⟨by show(assignEach es env).length+1=_;rw[h1];rfl,?_,by simp[h3]⟩
   show((false,assign (.Name x pos) env)::assignEach es env).findIdx? (·.1)=none;rw[List.findIdx?_cons];simp only[Q5z,h2];rfl
  .cases h
theorem jD(hO:Owns X scope)(hnd:X.N.Nodup)(KE:nJ X.K Hs scope P):∀{es:List Expr}{ds:List D}{vs:List V}{U U':Rho}{Y:St},X.N=U.map (·.1)->bindNames scope es ds U=some U'->P U Y->aL X.K Hs ds vs->(∀Y',X.N=U'.map (·.1)->P U' Y'->Q Y' H)->Ky X es vs Y H Q
 |[],[],vs,U,U',Y,hN,h,hp,rd,hq=>by
  simp[bindNames,O2z] at h;subst h;exact PGs.sem JG ⟨rd,hq _ hN hp⟩
 |[],d::ds,vs,U,U',Y,hN,h,hp,rd,hq=>by simp[bindNames] at h
 |e::es,[],vs,U,U',Y,hN,h,hp,rd,hq=>by cases e<;>simp[bindNames] at h
 |e::es,d::ds,vs,U,U',Y,hN,h,hp,rd,hq=>by
  cases e<;>try (simp[bindNames] at h;done)
  rename_i x pos;simp only[bindNames] at h;split at h
  .rename_i hc
   obtain⟨v,r,rfl,r1,r2⟩:=rd;refine PGs.sem (Dw lJ sI) ⟨v,r,rfl,?_⟩;exact rF hO hnd hN KE (by rw[T5z hc]) hp r1 λY' hN' hp'=>jD hO hnd KE hN' h hp' r2 hq
  .cases h
theorem pF(hc:X.calm=true)(hO:Owns X scope)(hnd:X.N.Nodup)(hs:Same Hs H)(hN:X.N=U.map (·.1))(KE:nJ X.K Hs scope P)(hb:d9 scope tg d U=some U')(hp:P U Y)(rd:Rep X.K Hs d v)
  (hq:∀Y',X.N=U'.map (·.1)->P U' Y'->Q Y' H):KC X tg v Y H Q:=by
 unfold d9 at hb;split at hb
 .exact rF hO hnd hN KE hb hp rd hq
 .obtain⟨a,vs,rfl,h1,h2⟩:=cH rd
  obtain⟨e1,e2,e3⟩:=gH hb;exact PG.sem (Hh hc sI e1 e2) ⟨a,vs,rfl,hs.tup h1,by rw[<- h2.length,e3],jD hO hnd KE hN hb hp h2 hq⟩
 .cases hb
end
section
variable{X Xc:Cx}{scope sc:Scope}{cx:Cxt}{k:Nat}{U:Rho}
theorem gk:∀{l:List Str},lU l=true->l.Nodup
 |[],_=>.nil
 |x::r,h=>by
  unfold lU at h;rw[A3z] at h;refine N3z.mpr ⟨λhm=>?_,gk h.2⟩
  have:r.contains x=true:=by simpa using hm
  rw[this] at h;exact absurd h.1 (by decide)
theorem gC(G:Good cx k X sc)(h:jm sc scope=true):scope.kind=.function/\(scope.names.map (·.1)).Nodup/\∀x,(x,NameKind.free)∈scope.names->X.env.kindOf x=some .cell\/X.env.kindOf x=some .free:=by
 unfold jm at h;rw[A3z,A3z] at h;refine⟨by simpa using h.1.1,gk h.1.2,λx hx=>?_⟩;have:=G3z.mp h.2 _ hx;show X.env.scope.names.lookup x=_\/X.env.scope.names.lookup x=_;rw[G.sce];simpa using this
theorem Ob(G:Good cx k X sc):relabel scope X.env=qp scope sc:=by
 unfold relabel qp Env.kindOf;rw[G.sce]
theorem Good.comp(G:Good cx k X sc)(C:CompOf X scope Xc)(h:jm sc scope=true):Good cx k Xc (qp scope sc) where
 calm:=C.calm
 room:=by rw[C.A];exact G.room
 sce:=by rw[C.sc,Ob G]
 kind:=(gC G h).1
 nd:=by rw[C.N];exact(gC G h).2.1
 cst:=by rw[C.mg,C.K];exact G.cst
 blt:=by rw[C.mg];exact G.blt
 exs:=by rw[C.mg,C.K];exact G.exs
 fns:=by rw[C.mg,C.prog,C.w,C.K,C.base];exact G.fns
 kw:=by rw[C.K,C.w];exact G.kw
theorem Owns.comp(G:Good cx k X sc)(C:CompOf X scope Xc):Owns Xc scope where
 own:=λx hx=>by
  unfold ownIn at hx;rw[V3z] at hx
  have look:∀kd,scope.names.lookup x=some kd->kd≠.free->Xc.env.scope.names.lookup x=some kd:=λkd e hne=>by
   rw[C.sc];show(scope.names.map _).lookup x=_;rw[eX,e];simp[hne]
  obtain hx|hx:=hx
  .have e:scope.names.lookup x=some .local:=by simpa using hx
   have e2:=look _ e (by decide);exact⟨.inl e2,.inr e2⟩
  .have e:scope.names.lookup x=some .cell:=by simpa using hx
   refine⟨.inr (look _ e (by decide)),.inl ?_⟩;rw[C.fn];show(scope.names.lookup x==some .cell)=true;rw[e];rfl
theorem jl:(cN scope U).map (·.1)=scope.names.map (·.1):=by
 unfold cN;rw[Z4z];rfl
theorem tZ{K:Zf}(hN:N=U.map (·.1))(h:bL K Hs U Y):bL K Hs (cN scope U) (zQ N scope.names Y):=by
 intro i x d e;unfold cN at e;rw[List.getElem?_map] at e;obtain⟨p,e1,e2⟩:=O0z.mp e
 cases hk:p.2==NameKind.free with
 |false=>rw[hk] at e2;simp at e2
 |true =>
  rw[hk] at e2;simp[Prod.mk.injEq] at e2;obtain⟨rfl,e2⟩:=e2
  have e3:U.lookup p.1=some (.sh d):=by
   cases q:U.lookup p.1 with
   |none=>rw[q] at e2;simp[Mu] at e2
   |some sl =>
    rw[q] at e2
    cases sl<;>simp[Mu] at e2
    rw[e2]
  obtain⟨j,g1,g2⟩:=eZ e3;obtain⟨v,g3,g4⟩:=h j _ d g1;refine⟨v,?_,g4⟩;unfold zQ;rw[List.getElem?_map,e1];simp only[O3z,hk];unfold uH;rw[hN,g2];simp[g3]
def CSt(K:Zf)(Hs:Hp)(n:Nat)(U0:Rho):Rho->St->Prop:=λU Y=>Y.length=n/\bL K Hs U Y/\bL K Hs U0 Y
theorem ql{K:Zf}(hn:(U.map (·.1)).Nodup)(hi:(U.map (·.1))[i]?=some x)(hl:i<Y.length)(h:bL K Hs U Y)(r:Rep K Hs d v):bL K Hs (fL U x (.sh d)) (Y.set i (some v)):=by
 intro j y d' e;rw[cB hn hi j] at e;split at e
 .rename_i hj
  subst hj;cases e;exact⟨v,by rw[List.getElem?_set_self hl],r⟩
 .rename_i hj
  obtain⟨w,h1,h2⟩:=h j y d' e;exact⟨w,by rw[List.getElem?_set_ne (λz=>hj z.symm)];exact h1,h2⟩
theorem wN{K:Zf}(hnd:(scope.names.map (·.1)).Nodup)(hn:n=scope.names.length):nJ K Hs scope (λU1 Y=>U1.map (·.1)=scope.names.map (·.1)/\CSt K Hs n (cN scope U) U1 Y):=by
 intro U1 Y i x d v h1 h2 h3 ⟨h4,h5,h6,h7⟩ r;refine⟨by rw[aQ];exact h4,by rw[A4z];exact h5,?_,?_⟩
 .have hi:i<Y.length:=by
   rw[h5,hn];have:=(List.getElem?_eq_some_iff.mp h2).1;rw[h4] at this;simpa using this
  exact ql h1 h2 hi h6 r
 .intro j y d' e
  obtain⟨w,g1,g2⟩:=h7 j y d' e;refine⟨w,?_,g2⟩
  have hj:i≠j:=by
   intro z;subst z;rw[h4] at h2;unfold cN at e;rw[List.getElem?_map] at e;rw[List.getElem?_map] at h2;obtain⟨p,e1,e2⟩:=O0z.mp e;rw[e1] at h2
   have ex:p.1=x:=by simpa using h2
   cases hk:p.2==NameKind.free with
   |false=>rw[hk] at e2;simp at e2
   |true =>
    have ek:p.2=.free:=by simpa using hk
    have hm:=List.mem_of_getElem? e1;have:=cJ hnd (by rw[show p=(x,p.2) from by rw[<- ex]] at hm;exact hm);unfold ownIn at h3;rw[this,ek] at h3;exact absurd h3 (by decide)
  rw[List.getElem?_set_ne hj];exact g1
def Aj(X:Cx)(ifs:List Expr):TT:=λY H Q=>∀y0 s,Inv X y0 Y H s->wpAny (model X.prog X.w) X.A (forIn ifs true λc r=>if r=true then do let ok <- isTrue c X.env (eval c X.env);pure (ForInStep.yield ok) else pure (ForInStep.yield r)) (TP X y0 Y Q) X.xe s
theorem uO:Gm X ifs (Aj X ifs):=λy0 s Y H Q I h=>h y0 s I
theorem Gm.sem(h:Gm X ifs t)(q:t Y H Q):Aj X ifs Y H Q:=λy0 s I=>h y0 s Y H Q I q
theorem Ext.acc{Hs H Hs' H':Hp}{acc:Addr}{o:HO}(E:Ext Hs H Hs' H')(h:H acc=none)(h':Hs' acc=none):Ext Hs H Hs' (upd H' acc o) where
 vis:=E.vis
 all:=λb u e=>by rw[ak (aj e h)];exact E.all b u e
 sub:=λb u e=>by rw[ak (aj e h')];exact E.sub b u e
 hid:=E.hid
theorem uc(h:bU f (d::r)=some out):(∃v o',f d=some (some v)/\bU f r=some o'/\out=v::o')\/(f d=some none/\bU f r=some out):=by
 simp[bU,bind,Option.bind] at h
 cases hf:f d with
 |none=>rw[hf] at h;cases h
 |some o =>
  rw[hf] at h
  cases o with
  |none=>exact .inr ⟨rfl,h⟩
  |some v =>
   simp[O0z] at h;obtain⟨o',h1,rfl⟩:=h;exact .inl ⟨v,o',rfl,h1,rfl⟩
def ud(E:Rho->Expr->Option D)(scope:Scope)(U:Rho)(tg elt:Expr)(ifs:List Expr):D->Option (Option D):=λd=>do
 let U1 <- d9 scope tg d (cN scope U)
 let b <- oJ (E U1) ifs
 if b then(E U1 elt).map some else some none
abbrev Qz(cx:Cxt)(n:Nat)(sc scope:Scope)(U:Rho)(tg elt:Expr)(ifs:List Expr):D->Option (Option D):=ud (ev cx n (qp scope sc)) scope U tg elt ifs
def QV(Hs0 H0:Hp)(X:Cx)(U:Rho)(e:Expr)(d:D):Prop:=∀Y H Hs Q,Ext Hs0 H0 Hs H->bL X.K Hs U Y->(∀v H' Hs',Ext Hs H Hs' H'->Rep X.K Hs' d v->Q v H')->gZ X e Y H Q
def Mj(Hs0 H0:Hp)(X:Cx)(U:Rho)(e:Expr)(b:Bool):Prop:=∀Y H Hs Q,Ext Hs0 H0 Hs H->bL X.K Hs U Y->(∀H' Hs',Ext Hs H Hs' H'->Q b H')->nQ X e Y H Q
theorem Qp(hf:∀e,e∈ifs->∀d,f e=some d->QV Hs0 H0 X U e d/\∀b,d=.bl b->Mj Hs0 H0 X U e b)(h:oJ f ifs=some b)(hs:Ext Hs0 H0 Hs H)(hst:bL X.K Hs U Y)(hq:∀H' Hs',Ext Hs H Hs' H'->Q b H'):Aj X ifs Y H Q:=by
 unfold oJ at h;split at h
 .cases h
  exact Gm.sem Du (hq H Hs (.refl hs.sub))
 .rename_i c
  cases hc:f c with
  |none=>rw[hc] at h;cases h
  |some d =>
   rw[hc] at h
   cases d<;>simp[asB] at h
   subst h;exact Gm.sem (Dt dG) ((hf c (by simp) _ hc).2 _ rfl Y H Hs Q hs hst hq)
 .cases h
theorem nF(G:Good cx k X sc)(hN:X.N=U.map (·.1))(hok:jm sc scope=true)(hI:∀R,(∀J H' Hs',Ext Hs H Hs' H'->Mi X.K J Hs' l->R J H')->wB X tg iter Y H R)(hz:szl l.length=true)(hgo:bU (ud E scope U tg elt ifs) l=some out)
    (hE:∀Xc, CompOf X scope Xc->∀U1:Rho, Xc.N=U1.map (·.1)->∀e, (e=elt \/ e∈ifs)->∀d, E U1 e=some d->QV Hs H Xc U1 e d/\∀b, d=.bl b->Mj Hs H Xc U1 e b)
     (hst:bL X.K Hs U Y) (hq:∀acc vs Hs' H',Ext Hs H Hs' H'->H acc=none->Hs' acc=none->H' acc=some (.lst vs)->aL X.K Hs' out vs->Q (.ref acc) H') :
    Dc X scope (wB X tg iter) (zQ X.N scope.names) (λXc=>KC Xc tg) (λXc=>Aj Xc ifs) (λXc=>gZ Xc elt) Y H Q:=by
  obtain⟨ok1,ok2,ok3⟩:=gC G hok
  refine hI _ λJ H1 Hs1 E1 hJ acc hacc Xc C=>?_
  have GC:=G.comp C hok
  have OC:=Owns.comp G C
  have hNc:∀U1:Rho,U1.map (·.1)=scope.names.map (·.1)->Xc.N=U1.map (·.1):=λU1 h=>by rw[C.N,h]
  have a1:=E1.sub.free hacc
  have a0:=E1.all.free hacc
  let W:Nat->Nat->St->Hp->Prop:=λi m Yc H=>m=l.length-i/\i<=l.length/\∃Hs3 ys pre rest,Ext Hs1 H1 Hs3 H/\Hs3 acc=none/\H acc=some (.lst ys)/\aL X.K Hs3 pre ys/\bU (ud E scope U tg elt ifs) (l.drop i)=some rest/\pre++rest=out/\pre.length<=i/\Yc.length=scope.names.length/\bL X.K Hs3 (cN scope U) Yc
  refine⟨W,⟨l.length,rfl,D5z _,Hs1,[],[],out,Ext.acc (.refl E1.sub) hacc a1,a1,au,.nil,by simpa using hgo,rfl,B5z _,by simp[zQ],tZ hN (hst.same E1.vis)⟩,?_⟩
  rintro i m Yc H3 ⟨rfl,hi,Hs3,ys,pre,rest,E3,b3,c3,r3,g3,p3,q3,l3,s3⟩
  obtain⟨st3,go3⟩:=hJ Hs3 H3 E3.vis E3.sub
  by_cases hlt:i<l.length
  . have hd:=List.getElem?_eq_getElem hlt
    obtain⟨gi,yi⟩:=go3 i l[i] hd
    refine .inr ⟨gi,λY' H'=>W (i+1) (l.length-(i+1)) Y' H',λY' H' w=>⟨_,by omega,w⟩,λx H4 y4=>?_⟩
    obtain⟨Hs4,E4,rx⟩:=yi x H4 y4
    have b4:=E4.hid acc _ c3 b3
    have c4:=E4.all _ _ c3
    rw[List.drop_eq_getElem_cons hlt] at g3
    have key:∃U1,d9 scope tg l[i] (cN scope U)=some U1/\∃b,oJ (E U1) ifs=some b/\((b=true/\∃v o',E U1 elt=some v/\bU (ud E scope U tg elt ifs) (l.drop (i+1))=some o'/\rest=v::o')\/(b=false/\bU (ud E scope U tg elt ifs) (l.drop (i+1))=some rest)):=by
      have inv:∀o,ud E scope U tg elt ifs l[i]=some o->∃U1,d9 scope tg l[i] (cN scope U)=some U1/\∃b,oJ (E U1) ifs=some b/\(if b then(E U1 elt).map some else some none)=some o:=by
        intro o h
        obtain⟨U1,h1,h⟩:=bw h
        obtain⟨b,h2,h⟩:=bw h
        exact⟨U1,h1,b,h2,h⟩
      obtain⟨v,o',f1,f2,f3⟩|⟨f1,f2⟩:=uc g3
      . obtain⟨U1,h1,b,h2,h3⟩:=inv _ f1
        refine⟨U1,h1,b,h2,?_⟩
        cases b with
        |false=>simp at h3
        |true =>
          simp only[S5z,O0z] at h3
          obtain⟨w,h3,h4⟩:=h3
          have h5:=I3z h4
          subst h5
          exact .inl ⟨rfl,w,o',h3,f2,f3⟩
      . obtain⟨U1,h1,b,h2,h3⟩:=inv _ f1
        refine⟨U1,h1,b,h2,?_⟩
        cases b with
        |true=>simp at h3
        |false=>exact .inr ⟨rfl,f2⟩
    obtain⟨U1,k1,b,k2,k3⟩:=key
    have s4:=s3.same E4.vis
    have KE:=wN (K:=Xc.K) (Hs:=Hs4) (U:=U) ok2 rfl
    refine pF GC.calm OC GC.nd E4.sub (hNc _ jl) KE k1 ⟨jl,l3,by rw[C.K];exact s4,by rw[C.K];exact s4⟩ (by rw[C.K];exact rx) λY5 hN5 p5=>?_
    obtain⟨_,l5,s5,s5'⟩:=p5
    have hev:=hE Xc C U1 hN5
    refine Qp (λe he=>hev e (.inr he)) k2 (E1.trans (E3.trans E4)) s5 λH6 Hs6 E6=>?_
    have b6:=E6.hid acc _ c4 b4
    have c6:=E6.all _ _ c4
    have s6:bL X.K Hs6 (cN scope U) Y5:=by rw[<- C.K];exact s5'.same E6.vis
    obtain⟨rfl,v,o',k3,k4,k5⟩|⟨rfl,k3⟩:=k3
    . refine oH ((hev elt (.inl rfl) v k3).1 Y5 H6 Hs6 _ (E1.trans (E3.trans (E4.trans E6))) (s5.same E6.vis) λw H7 Hs7 E7 r7=>?_)
      have b7:=E7.hid acc _ c6 b6
      refine⟨ys,(E7.all _ _ c6),?_,rfl,hlt,Hs7,ys++[w],pre++[v],o',Ext.acc (E3.trans (E4.trans (E6.trans E7))) hacc b7,b7,au,?_,k4,?_,by simp;omega,l5,s6.same E7.vis⟩
      . have:=r3.length
        have:=Gy hz
        omega
      . rw[<- C.K]
        refine aL.append ?_ (.cons r7 .nil)
        rw[C.K]
        exact aL.same (E4.trans (E6.trans E7)).vis pre ys r3
      . rw[<- p3,k5];simp
    . exact mW ⟨rfl,hlt,Hs6,ys,pre,rest,E3.trans (E4.trans E6),b6,c6,aL.same (E4.trans E6).vis pre ys r3,k3,p3,by omega,l5,s6⟩
  . have hi':i=l.length:=by omega
    subst hi'
    refine .inl ⟨st3,?_⟩
    rw[List.drop_length] at g3
    simp[bU,O2z] at g3
    subst g3
    rw[L3z] at p3
    subst p3
    exact hq acc ys Hs3 H3 (E1.trans E3) a0 b3 c3 r3
theorem QV.of(h:Ev Xc U1 e d/\∀b,d=.bl b->EvT Xc U1 e b):QV Hs0 H0 Xc U1 e d/\∀b,d=.bl b->Mj Hs0 H0 Xc U1 e b:=⟨λY H Hs Q E=>h.1 Y H Hs Q E.sub,λb hb Y H Hs Q E=>h.2 b hb Y H Hs Q E.sub⟩
theorem Bq(G:Good cx k X sc)(hN:X.N=U.map (·.1))(hok:jm sc scope=true)(hI:EvI X U tg iter l)(hz:szl l.length=true)(hgo:bU (Qz cx n sc scope U tg elt ifs) l=some out)
    (hE:∀Xc,CompOf X scope Xc->∀U1:Rho,Xc.N=U1.map (·.1)->∀e d,ev cx n (qp scope sc) U1 e=some d->Ev Xc U1 e d/\∀b,d=.bl b->EvT Xc U1 e b)
       (hs:Same Hs H) (hst:bL X.K Hs U Y) (hq:∀acc vs Hs' H',Ext Hs H Hs' H'->H acc=none->Hs' acc=none->H' acc=some (.lst vs)->aL X.K Hs' out vs->Q (.ref acc) H') :
    Dc X scope (wB X tg iter) (zQ X.N scope.names) (λXc=>KC Xc tg) (λXc=>Aj Xc ifs) (λXc=>gZ Xc elt) Y H Q :=
  nF G hN hok (λR k=>hI Y H Hs R hs hst k) hz hgo (λXc C U1 h e _ d q=>QV.of (hE Xc C U1 h e d q)) hst hq
end
def bIs(b:Bool):Value->Bool
 |.bool y=>y==b
 |_=>false
theorem sy:∀{bs:List Bool}{its:List Value},Vals (bs.map V.bl) its->its=bs.map Value.bool
 |[],its,r=>by cases r;rfl
 |b::bs,its,r=>by
  obtain⟨u,w,rfl,r1,r2⟩:=wk r;cases r1;rw[sy r2];rfl
theorem HY(b:Bool):∀bs:List Bool,(bs.map Value.bool).countP (bIs b)=cntB b bs
 |[]=>rfl
 |c::bs=>by
  rw[I4z,List.countP_cons,HY b bs];unfold cntB;rw[Z2z];show _+(if(c==b)=true then 1 else 0)=_
  cases c==b<;>simp
theorem Vq:∀(bs:List Bool)(m:Nat)(h:m<bs.length),m<bs.idxOf b->(bs[m]==b)=false
 |[],m,h,_=>absurd h (by simp)
 |c::bs,m,h,hl=>by
  rw[List.idxOf_cons] at hl
  cases hc:c==b with
  |true=>rw[hc] at hl;simp at hl
  |false =>
   cases m with
   |zero=>simpa using hc
   |succ m =>
    rw[hc] at hl;simp[cond_false] at hl;simpa using Vq bs m (by simpa using h) (by omega)
section
variable{X:Cx}{U:Rho}{cx:Cxt}{k:Nat}{sc scope:Scope}
def Oe(K:Zf):V->List V->Hp->VK->Prop:=λx vs H Q=>∃(l:Addr)(bs:List Bool)(b:Bool),x=.ref l/\vs=[.bl b]/\SqL K H l (bs.map V.bl)/\Q (.int (cntB b bs:Nat)) H
theorem Ek:MtM X "list.count" (Oe X.K):=by
 intro y0 s Y H x vs v us Q I rx rv h;obtain⟨l,bs,b,rfl,rfl,hB,q⟩:=h;cases rx;obtain⟨u,rfl,ru⟩:=rv.one;cases ru;obtain⟨its2,r2,pl,hz2⟩:=I.list hB;have ei:=sy r2;subst ei;obtain⟨⟨c2,dd2,data2,sl2⟩,n2,e2,hc2,hd2,hs2⟩:=pl;obtain⟨h3,h4⟩:=(show dd2=none/\data2=.seq (bs.map Value.bool).toArray n2 from⟨hd2,hs2⟩);subst hc2 h4;refine L5z F.slot_list_count ⟨_,e2,rfl⟩ F.entry_list_count (F.args_list_count_2 _ _) (list_countAt l (bs.map Value.bool).toArray n2 dd2 sl2 (.bool b) (bIs b)) ⟨e2,λy hy=>?_,?_⟩
 .have hy':y∈bs.map Value.bool:=by simpa using hy
  obtain⟨c,_,rfl⟩:=List.mem_map.mp hy';exact EqAt.bool_bool c b
 .rw[show(bs.map Value.bool).toArray.toList=bs.map Value.bool from rfl,HY]
  exact⟨.int _,H,I.tok _,⟨_,rfl⟩,q⟩
def Od(K:Zf):V->List V->Hp->VK->Prop:=λx vs H Q=>∃(l:Addr)(bs:List Bool)(b:Bool),x=.ref l/\vs=[.bl b]/\SqL K H l (bs.map V.bl)/\bs.contains b=true/\Q (.int (bs.idxOf b:Nat)) H
theorem Ej:MtM X "list.index" (Od X.K):=by
 intro y0 s Y H x vs v us Q I rx rv h;obtain⟨l,bs,b,rfl,rfl,hB,hin,q⟩:=h;cases rx;obtain⟨u,rfl,ru⟩:=rv.one;cases ru;obtain⟨its2,r2,pl,hz2⟩:=I.list hB;have ei:=sy r2;subst ei;obtain⟨⟨c2,dd2,data2,sl2⟩,n2,e2,hc2,hd2,hs2⟩:=pl;obtain⟨h3,h4⟩:=(show dd2=none/\data2=.seq (bs.map Value.bool).toArray n2 from⟨hd2,hs2⟩);subst hc2 h4;have hj:=List.idxOf_lt_length_iff.mpr (by simpa using hin);have hn:=qF
 have hz3:bs.length<=sizeLine:=by simpa using hz2
 refine L5z F.slot_list_index ⟨_,e2,rfl⟩ F.entry_list_index (F.args_list_index_2 _ _) (list_indexAt l (bs.map Value.bool).toArray n2 dd2 sl2 (.bool b) (bIs b) (bs.idxOf b) (by simpa using hj) (by omega) ?_ ?_) ⟨e2,λy hy=>?_,?_⟩
 .simp only[List.getElem_map,bIs]
  simpa using List.getElem_idxOf hj
 .intro m hm hlt
  simp only[List.getElem_toArray,List.getElem_map];exact Vq bs m (by simpa using hm) hlt
 .have hy':y∈bs.map Value.bool:=by simpa using hy
  obtain⟨c,_,rfl⟩:=List.mem_map.mp hy';exact EqAt.bool_bool c b
 .exact⟨.int _,H,I.tok _,⟨_,rfl⟩,q⟩
theorem Fw(ha:Ev X U (.Name y py) x)(he:Ev X U e z)(hp:aJ e=true)(hline:(ap.endLine==cp.line)=true)(h:sX m x z=some d):Ev X U (.Call (.Attribute (.Name y py) m ap) [e] [] cp) d:=by
 unfold sX at h;split at h
 .rename_i xs b
  obtain⟨bs,hb,h2⟩:=bw h;intro Y H Hs Q hs hst hq;split at h2
  .rename_i hm
   have em:m="count":=by simpa using hm
   subst em;cases h2;refine(wI H0z PySem.F.slot_list_count PySem.F.type_list_count Ek aq (aB aq aM (aA hp)) rfl (by rw[aA hp];rfl) hline (aA hp) rfl).sem ?_;refine ha Y H Hs _ hs hst λv H1 Hs1 E1 r1=>?_;obtain⟨l,vs,rfl,g1,g2⟩:=cU r1;have ev:=kI hb g2;subst ev;refine⟨.inl ⟨rfl,_,E1.sub.seq g1⟩,?_⟩;refine he Y H1 Hs1 _ E1.sub (hst.same E1.vis) λv2 H2 Hs2 E2 r2=>?_;rw[dD r2];exact⟨l,bs,b,rfl,rfl,E2.sub.seq (E2.vis.seq g1),hq _ H2 Hs2 (E1.trans E2) (by simp[Rep])⟩
  .split at h2
   .rename_i hm
    rw[A3z] at hm
    have em:m="index":=by simpa using hm.1
    subst em;cases h2;refine(wI H0z PySem.F.slot_list_index PySem.F.type_list_index Ej aq (aB aq aM (aA hp)) rfl (by rw[aA hp];rfl) hline (aA hp) rfl).sem ?_;refine ha Y H Hs _ hs hst λv H1 Hs1 E1 r1=>?_;obtain⟨l,vs,rfl,g1,g2⟩:=cU r1;have ev:=kI hb g2;subst ev;refine⟨.inl ⟨rfl,_,E1.sub.seq g1⟩,?_⟩;refine he Y H1 Hs1 _ E1.sub (hst.same E1.vis) λv2 H2 Hs2 E2 r2=>?_;rw[dD r2];exact⟨l,bs,b,rfl,rfl,E2.sub.seq (E2.vis.seq g1),hm.2,hq _ H2 Hs2 (E1.trans E2) (by simp[Rep])⟩
   .cases h2
 .cases h
end
theorem Ext.shown{Hs H Hs' H':Hp}{acc:Addr}{o:HO}(E:Ext Hs H Hs' H')(h:H acc=none)(h1:Hs' acc=none)(h2:H' acc=some o):Ext Hs H (upd Hs' acc o) H' where
 vis:=λb u e=>by rw[ak (aj (E.vis b u e) h1)];exact E.vis b u e
 all:=E.all
 sub:=λb u e=>by
  by_cases hb:b=acc
  .subst hb;rw[au] at e;rw[h2];exact e
  .rw[ak hb] at e;exact E.sub b u e
 hid:=λb u e n=>by rw[ak (aj e h)];exact E.hid b u e n
section
variable{X:Cx}{U:Rho}{cx:Cxt}{k:Nat}{sc scope:Scope}
theorem K7(G:Good cx k X sc)(hN:X.N=U.map (·.1))(hok:jm sc scope=true)(hI:EvI X U tg iter l)(hp:aJ iter=true)(hz:szl l.length=true)(hgo:bU (Qz cx n sc scope U tg elt ifs) l=some out)
  (hE:∀Xc,CompOf X scope Xc->∀U1:Rho,Xc.N=U1.map (·.1)->∀e d,ev cx n (qp scope sc) U1 e=some d->Ev Xc U1 e d/\∀b,d=.bl b->EvT Xc U1 e b) :
  Ev X U (.ListComp elt [⟨tg,iter,ifs,0⟩] scope pos) (.lst out):=by
 obtain⟨ok1,ok2,ok3⟩:=gC G hok;intro Y H Hs Q hs hst hq;refine PE.sem (zy G.calm ok1 ok2 ok3 uP (λXc C=>⟨lJ,uO,aq⟩) (iU hp)) (Bq G hN hok hI hz hgo hE hs hst λacc vs Hs' H' E1 h1 h2 h3 r=>?_);refine hq _ H' _ (E1.shown h1 h2 h3) ?_;refine⟨acc,vs,rfl,.of au,aL.same (λb u e=>?_) out vs r⟩;rw[ak (aj e h2)];exact e
def WkP(cx:Cxt)(sc:Scope)(e:Expr):Wk->Prop
    |.r1 a=>∃x p pos,e=.Call (.Name x p) [a] [] pos/\cg cx sc x=some "range"
    |.zp a b=>∃x p pos,e=.Call (.Name x p) [a,b] [] pos/\cg cx sc x=some "zip"
    |.rv a=>∃x p pos,e=.Call (.Name x p) [a] [] pos/\cg cx sc x=some "reversed"
    |.sq=>True
theorem Nh:WkP cx sc e (wj cx sc e):=by
 unfold wj;split
 .rename_i x p args pos
  split
  .rename_i h
   split
   .exact⟨x,p,pos,rfl,h⟩
   .trivial
  .rename_i h
   split
   .exact⟨x,p,pos,rfl,h⟩
   .trivial
  .rename_i h
   split
   .exact⟨x,p,pos,rfl,h⟩
   .trivial
  .trivial
 .trivial
theorem gR(h:x.bind asI=some i):x=some (.int i):=by
 obtain⟨d,h1,h2⟩:=bw h
 cases d<;>simp[asI] at h2
 subst h2;exact h1
theorem fK(h:x.bind asB=some i):x=some (.bl i):=by
 obtain⟨d,h1,h2⟩:=bw h
 cases d<;>simp[asB] at h2
 subst h2;exact h1
theorem yc(h:x.bind tupI=some i):x=some (.tup i):=by
 obtain⟨d,h1,h2⟩:=bw h
 cases d<;>simp[tupI] at h2
 subst h2;exact h1
theorem Bb(G:Good cx k X sc)(hf:∀e d,f e=some d->Ev X U e d/\aJ e=true)(h:evI cx (fM tg) f sc e=some l):EvI X U tg e l/\aJ e=true:=by
 unfold evI at h;have w:=Nh (cx:=cx) (sc:=sc) (e:=e);split at h
 .rename_i a hw
  rw[hw] at w;obtain⟨x,p,pos,rfl,hx⟩:=w;obtain⟨j,h1,h⟩:=bw h;split at h
  .rename_i hj
   cases h;obtain⟨ha,hp⟩:=hf _ _ (gR h1);exact⟨wU G hx ha hp hj,rfl⟩
  .cases h
 .rename_i a b hw
  rw[hw] at w;obtain⟨x,p,pos,rfl,hx⟩:=w;obtain⟨d1,h1,h⟩:=bw h;obtain⟨d2,h2,h⟩:=bw h;have h':=h;split at h'
  .rename_i ht
   obtain⟨ha,hp⟩:=hf _ _ h1;obtain⟨hb,hpb⟩:=hf _ _ h2
   cases tg<;>simp[fM] at ht
   unfold Vc at h';split at h'
   .cases h';exact⟨La G hx ha hp hb hpb,rfl⟩
   .cases h'
  .cases h'
 .rename_i a hw
  rw[hw] at w;obtain⟨x,p,pos,rfl,hx⟩:=w;obtain⟨xs,h1,h⟩:=bw h;cases h;obtain⟨d1,h1,hu⟩:=bw h1;obtain⟨ha,hp⟩:=hf _ _ h1
  cases d1<;>simp[tupI] at hu
  subst hu;exact⟨Le G hx ha hp,rfl⟩
 .obtain⟨d,h1,h2⟩:=bw h
  obtain⟨ha,hp⟩:=hf _ _ h1;exact⟨Lb G.kw ha h2,hp⟩
theorem xW(h:tyOf cx sc t=some T):∃x p,t=.Name x p/\cg cx sc x=some T:=by
 unfold tyOf at h;split at h
 .exact⟨_,_,rfl,h⟩
 .cases h
def WcP(cx:Cxt)(sc:Scope)(b:String)(args:List Expr):Wc->Prop
    |.tv a=>∃x p pos,args=[.Call (.Name x p) [a] [] pos]/\cg cx sc x=some "reversed"/\b="tuple"
    |.li a=>∃y py ap p,a=.Name y py/\args=[.Call (.Attribute (.Name y py) "items" ap) [] [] p]/\(ap.endLine==p.line)=true/\b="list"
    |.al=>True
theorem RG:WcP cx sc b args (CJ cx sc b args):=by
 unfold CJ;split
 .rename_i e
  have w:=Nh (cx:=cx) (sc:=sc) (e:=e);split
  .rename_i hw
   rw[hw] at w;obtain⟨x,p,pos,rfl,hx⟩:=w;exact⟨x,p,pos,rfl,hx,rfl⟩
  .split
   .rename_i a ha
    unfold Vt at ha;split at ha
    .rename_i y py m ap p _
     split at ha
     .rename_i hb
      rw[A3z] at hb;cases ha;have em:=eq_of_beq hb.1;subst em;exact⟨y,py,ap,p,rfl,rfl,hb.2,rfl⟩
     .cases ha
    .cases ha
   .trivial
  .trivial
 .trivial
theorem uz{K:Zf}:∀{kvs:List (Key×V)}{ds:List D}{Hs H:Hp}{Q:List Addr->Hp->Prop},Same Hs H->aL K Hs ds (kvs.map (·.2))->(∀bs H' Hs',Ext Hs H Hs' H'->aL K Hs' (((kvs.map (·.1)).zip ds).map λq=>.tup [kD q.1,q.2]) (bs.map V.ref)->Q bs H')->CZ kvs H Q
 |[],ds,Hs,H,Q,hs,h,q=>by
  cases ds with
  |nil=>exact q [] H Hs (.refl hs) rfl
  |cons _ _=>obtain⟨_,_,e,_⟩:=h;cases e
 |(k,v)::r,ds,Hs,H,Q,hs,h,q=>by
  cases ds with
  |nil=>cases h
  |cons d ds =>
   obtain⟨v',t,e,h1,h2⟩:=h;cases e;intro b hb;have E:=Ext.new hs (.tup [kV k,v]) hb;refine uz E.sub (aL.same E.vis _ _ h2) λbs H' Hs' E' r'=>q (b::bs) H' Hs' (E.trans E') ⟨.ref b,_,rfl,⟨b,[kV k,v],rfl,.inl (.inl (E'.vis _ _ au)),⟨_,_,rfl,?_,⟨_,_,rfl,h1.same ((E.trans E').vis),rfl⟩⟩⟩,r'⟩
   cases k with
   |inl n=>simp[Rep,kD,kV]
   |inr n=>simp[Rep,kD,kV]
theorem Fx(G:Good cx k X sc)(hx:cg cx sc x=some "list")(hl:(ap.endLine==pp.line)=true)(ha:Ev X U (.Name y py) (.dic ks ds))(hz:ks.length<=1000) :
  Ev X U (.Call (.Name x p) [.Call (.Attribute (.Name y py) "items" ap) [] [] pp] [] pos) (.lst ((ks.zip ds).map λq=>.tup [kD q.1,q.2])):=by
 obtain⟨hg,hm,rfl⟩:=dh G hx;intro Y H Hs Q hs hst hq;refine(cZ (mX G.calm G.kw) hg hm rfl (aB (Dz G.kw aq rfl hl) aM rfl) (by decide) rfl rfl rfl).sem (ha Y H Hs _ hs hst λv H1 Hs1 E1 r1=>?_);obtain⟨a,kvs,rfl,g1,rfl,g3⟩:=r1;have g1':DAt X.K H1 a kvs:=g1.elim (λ⟨o,q⟩=>.inl ⟨o,E1.sub _ _ q⟩) .inr;refine⟨a,kvs,rfl,g1',λw hw=>?_⟩;have E2:Ext Hs1 H1 Hs1 (upd H1 w (.ext (rQ w a))):=⟨.refl _,λb u q=>by rw[ak (aj q hw)];exact q,λb u q=>by rw[ak (aj (E1.sub b u q) hw)];exact E1.sub b u q,λ_ _ _ z=>z⟩;refine⟨w,a,kvs,rfl,au,g1'.elim (λ⟨o,q⟩=>.inl ⟨o,E2.all _ _ q⟩) .inr,by simpa using hz,uz E2.sub g3 λbs H' Hs' E3 r3 l hl'=>?_⟩;have E4:=Ext.new E3.sub (.lst (bs.map V.ref)) hl';exact hq _ _ _ (E1.trans (E2.trans (E3.trans E4))) ⟨l,_,rfl,.inl (.inl au),aL.same E4.vis _ _ r3⟩
end
theorem d8(cx:Cxt):∀(n:Nat){k:Nat}{X:Cx}{sc:Scope}{U:Rho}{e:Expr}{d:D},Good cx k X sc->X.N=U.map (·.1)->ev cx n sc U e=some d->Ev X U e d/\∀b,d=.bl b->EvT X U e b
 |0,k,X,sc,U,e,d,_,_,h=>nomatch h
 |n+1,k,X,sc,U,e,d,G,hN,h=>by
  have ih:∀e d,ev cx n sc U e=some d->Ev X U e d/\∀b,d=.bl b->EvT X U e b:=λe d h=>d8 cx n G hN h;have ihp:∀e d,ev cx n sc U e=some d->Ev X U e d/\aJ e=true:=λe d h=>⟨(ih e d h).1,aZ h⟩;have val:∀{e d},(∀whole,isTrue e X.env whole=(do let v <- whole;standAt e.pos;holding [v] (truthy v)))->Ev X U e d->Ev X U e d/\∀b,d=.bl b->EvT X U e b:=λhe h1=>⟨h1,λb hb=>by subst hb;exact Az h1 he⟩
  cases e with
  |Name x pos =>
   simp only[ev] at h;split at h
   .rename_i hp
    refine val (λ_=>rfl) ?_
    have fin:∀kd,sc.names.lookup x=some kd->(kd=.local\/kd=.cell\/kd=.free)->(match U.lookup x with|some (.sh d)=>some d|_=>none)=some d->Ev X U (.Name x pos) d:=by
     intro kd hk hkd hm;split at hm
     .rename_i d' hl
      cases hm;refine Aw hN ?_ hp hl;unfold Vis;rw[G.sce,hk];obtain rfl|rfl|rfl:=hkd
      .exact .inl rfl
      .exact .inr (.inl rfl)
      .exact .inr (.inr rfl)
     .cases hm
    split at h
    .rename_i hk;exact fin _ hk (.inl rfl) h
    .rename_i hk;exact fin _ hk (.inr (.inl rfl)) h
    .rename_i hk;exact fin _ hk (.inr (.inr rfl)) h
    .rename_i hk
     obtain⟨v,u,h0,h1,h2⟩:=G.cst x d h;exact Qs (show X.env.scope.names.lookup x=_ by rw[G.sce];exact hk) h0 h1 h2 hp
    .cases h
   .cases h
  |Constant c j pos =>
   exact val (λ_=>rfl) (vq h)
  |BinOp a op b pos =>
   obtain⟨x,h1,h⟩:=bw h;obtain⟨y,h2,h⟩:=bw h;exact val (λ_=>rfl) (vA (ih _ _ h1).1 (ih _ _ h2).1 h)
  |UnaryOp op a pos =>
   obtain⟨x,h1,h⟩:=bw h
   cases op<;>simp only[O0z] at h<;>try (cases h;done)
   .obtain⟨b,h2,rfl⟩:=h
    cases x<;>simp[asB] at h2
    subst h2;refine⟨HW (ih _ _ h1).1,λc hc=>?_⟩;cases hc;exact Ba ((ih _ _ h1).2 _ rfl)
   .obtain⟨i,h2,rfl⟩:=h
    cases x<;>simp[asI] at h2
    subst h2;exact val (λ_=>rfl) (Qn (ih _ _ h1).1)
  |BoolOp op es pos =>
   obtain⟨h1,h2⟩:=mF (λe _ d hd=>ih e d hd) h;exact⟨h1,λb hb=>(h2 b hb).t⟩
  |Compare a ops bs pos =>
   simp[ev] at h;split at h
   .obtain⟨x,h1,h⟩:=bw h
    obtain⟨y,h2,h⟩:=bw h;exact K8 G.room G.kw (ih _ _ h1).1 (ih _ _ h2).1 (aZ h2) h
   .split at h
    .cases h
    rename_i e3 hpl
    have hpl':aJ e3=true:=by simpa using hpl
    obtain⟨x,h1,h⟩:=bw h;obtain⟨y,h2,h⟩:=bw h;obtain⟨c,h3,h⟩:=bw h;have h3':=fK h3
    cases c with
    |false =>
     simp[V1z,Q5z,O2z] at h;subst h;exact Ay G.room G.kw (ih _ _ h1).1 (ih _ _ h2).1 hpl' h3' ⟨λq=>(nomatch q),λ_=>rfl⟩
    |true =>
     obtain⟨z,h4,h⟩:=bw h;exact Ay G.room G.kw (ih _ _ h1).1 (ih _ _ h2).1 (aZ h4) h3' ⟨λ_=>⟨z,(ih _ _ h4).1,h⟩,λq=>nomatch q⟩
   .cases h
  |IfExp c a b pos =>
   obtain⟨t,h1,h⟩:=bw h;have h1':=(ih _ _ (fK h1)).2 _ rfl
   cases t with
   |true =>
    refine⟨Qq h1' (λ_=>(ih _ _ h).1) (λq=>nomatch q),λr hr=>HX h1' (λ_=>(ih _ _ h).2 r hr) (λq=>nomatch q)⟩
   |false =>
    refine⟨Qq h1' (λq=>nomatch q) (λ_=>(ih _ _ h).1),λr hr=>HX h1' (λq=>nomatch q) (λ_=>(ih _ _ h).2 r hr)⟩
  |Tuple es j pos =>
   obtain⟨ds,h1,h⟩:=bw h;split at h
   .rename_i hz
    cases h;exact val (λ_=>rfl) (Fq (dY (λe _ d hd=>ihp e d hd) h1).1 hz)
   .cases h
  |Dict ks vs pos =>
   simp only[ev] at h;split at h
   .rename_i hc
    rw[A3z,E3z,E3z] at hc;obtain⟨rfl,rfl⟩:=hc;cases h;refine⟨λY H Hs Q hs hst hq=>DN.sem λp ob hp=>?_,λb hb=>by cases hb⟩;exact hq _ _ _ (Ext.new hs (.frz ob (.dK [])) hp) ⟨p,[],rfl,.inl ⟨ob,au⟩,rfl,rfl⟩
   .split at h
    .cases h
    .rename_i hz
     obtain⟨l,h1,rfl⟩:=O0z.mp h;simp only[V3z,N2z,not_or,Bool.not_eq_true] at hz;exact val (λ_=>rfl) (Fy (λe d hd=>(ih e d hd).1) hz.1 (by omega) h1)
  |List es pos =>
   obtain⟨ds,h1,h⟩:=bw h;split at h
   .rename_i hz
    cases h;exact val (λ_=>rfl) (Ax (dY (λe _ d hd=>ihp e d hd) h1).1 hz)
   .cases h
  |Subscript a b pos =>
   obtain⟨x,h1,h⟩:=bw h;split at h
   .split at h
    .simp at h
    .obtain⟨rfl,rfl,hc,us,⟨rfl,rfl⟩|⟨rfl,rfl⟩⟩:=Jr h
     .exact val (λ_=>rfl) (K3 (ih _ _ h1).1 (ih _ _ (gR hc)).1)
     .exact val (λ_=>rfl) (K1 (ih _ _ h1).1 (ih _ _ (gR hc)).1)
   .obtain⟨y,h2,h⟩:=bw h
    have hp2:=aZ h2;unfold Mt at h;split at h
    .exact val (λ_=>rfl) (oR (ih _ _ h1).1 (ih _ _ h2).1 hp2 rfl h)
    .exact val (λ_=>rfl) (oR (ih _ _ h1).1 (ih _ _ h2).1 hp2 rfl h)
    .obtain⟨k',h3,h4⟩:=Option.bind_eq_some_iff.mp h
     exact val (λ_=>rfl) (K6 G.kw (ih _ _ h1).1 (ih _ _ h2).1 hp2 h3 h4)
    .cases h
  |Call f args kws pos =>
   refine val (λ_=>rfl) ?_;simp only[ev] at h;split at h
   .rename_i x p
    split at h
    .rename_i hg
     have hb:∀{b},cx.blt.lookup x=some b->cg cx sc x=some b:=λq=>by unfold cg;rw[T5z hg];exact q
     split at h
     .rename_i hx
      split at h
      .obtain⟨d',h1,h⟩:=bw h
       split at h
       .rename_i c' hxo
        split at h
        .split at h
         .rename_i hin
          cases h;exact K4 G (hb hx) hxo hin (ih _ _ h1).1 (aZ h1)
         .cases h
        .cases h
       .obtain⟨T,h2,h5⟩:=bw h
        obtain⟨t,pt,rfl,ht⟩:=xW h2;split at h5
        .split at h5
         .rename_i hc
          rw[A3z] at hc
          have eT:T="ValueError":=by simpa using hc.2
          subst eT;cases h5;exact K5 G (hb hx) ht hc.1 (ih _ _ h1).1 (aZ h1)
         .cases h5
        .cases h5
        .cases h5
        .rename_i hne hne2 hne3
         split at h5
         .rename_i hk
          cases h5;refine Qo G (hb hx) ht hk (ih _ _ h1).1 (aZ h1) ?_
          cases d'<;>first|rfl|exact absurd rfl (hne _)|exact absurd rfl (hne2 _ _)|exact absurd rfl (hne3 _)
         .cases h5
      .cases h
     .rename_i b _ hx
      have wc:=RG (cx:=cx) (sc:=sc) (b:=b) (args:=args);split at h
      .rename_i a hw
       rw[hw] at wc;obtain⟨y,q,q',rfl,hy,rfl⟩:=wc;obtain⟨xs,h1,h⟩:=bw h;cases h;have h1':=yc h1;exact KY G (hb hx) hy (ih _ _ h1').1 (aZ h1')
      .rename_i a hw
       rw[hw] at wc;obtain⟨y,py,ap,q,rfl,rfl,hy,rfl⟩:=wc;obtain⟨d',h1,h2⟩:=Option.bind_eq_some_iff.mp h;unfold Ue at h2;split at h2
       .split at h2
        .rename_i hz
         cases h2;exact Fx G (hb hx) hy (ih _ _ h1).1 (P2z hz)
        .cases h2
       .cases h2
      .split at h
       .cases h
       .rename_i hne
        obtain⟨ds,h1,h2⟩:=bw h;obtain⟨ha,hp⟩:=dY (λe _ d hd=>ihp e d hd) h1
        cases args with
        |nil=>exact absurd rfl hne
        |cons e es=>exact FJ G (hb hx) ha hp h2
     .split at h
      .rename_i hf
       rw[A3z] at hf;obtain⟨ds,h1,h⟩:=bw h;obtain⟨ha,hp⟩:=dY (λe _ d hd=>ihp e d hd) h1
       have hgl:Gl X x:=by
        have e:sc.names.lookup x=some .globalImplicit:=by unfold rY at hg;simpa using hg
        show X.env.scope.names.lookup x=_;rw[G.sce,e]
       refine K9 G hgl hf.1 (λq=>?_) ha hp h;rw[q] at hf;exact absurd hf.2 (by decide)
      .cases h
    .cases h
   .cases h
  |ListComp elt gens scope pos =>
   refine val (λ_=>rfl) ?_;simp only[ev] at h;split at h
   .rename_i tg iter ifs a
    split at h
    .rename_i hok
     rw[A3z] at hok
     have ea:a=0:=by simpa using hok.1
     subst ea;obtain⟨l,h1,h⟩:=bw h;split at h
     .rename_i hz
      obtain⟨out,h2,h⟩:=bw h;cases h;obtain⟨hI,hp⟩:=Bb G ihp h1;exact K7 G hN hok.2 hI hp hz h2 λXc C U1 hN1 e d he=>d8 cx n (G.comp C hok.2) hN1 he
     .cases h
    .cases h
   .cases h
  |_=>exact nomatch h
end L2
namespace L2
open PySem PySem.Spec PyProof.Rows
structure LamT(H:Hp)(P:Addr)(qual:Str)(l:List (Pos×Addr)):Prop where
 tab:H P=some (uo P (triples l).toArray)
 cod:∀q∈l,H q.2=some (xu q.2 qual)
theorem jz:∀l:List (Pos×Addr),TriplesOk (triples l)
 |[]=>trivial
 |(p,c)::r=>jz r
theorem mR(pos:Pos):∀l:List (Pos×Addr),codeAmong pos (triples l)=none\/∃q∈l,codeAmong pos (triples l)=some (.ref q.2)
 |[]=>.inl rfl
 |(p,c)::r=>by
  have e:codeAmong pos (triples ((p,c)::r))=if(((p.line:Nat):Int)==((pos.line:Nat):Int)&&((p.col:Nat):Int)==((pos.col:Nat):Int))=true then some (.ref c) else codeAmong pos (triples r):=rfl;rw[e];split
  .exact .inr ⟨(p,c),N1z,rfl⟩
  .obtain h|⟨q,hq,h⟩:=mR pos r
   .exact .inl h
   .exact .inr ⟨q,X0z _ hq,h⟩
theorem LamT.same(h:LamT H P qual l)(e:∀b o,H b=some o->H' b=some o):LamT H' P qual l:=⟨e _ _ h.tab,λq hq=>e _ _ (h.cod q hq)⟩
theorem LamT.upd{H:Hp}{P a:Addr}{qual:Str}{l:List (Pos×Addr)}{us vs:List V}(h:LamT H P qual l)(e:H a=some (.lst us)):LamT (upd H a (.lst vs)) P qual l:=by
 refine⟨?_,λq hq=>?_⟩
 .rw[ak λz=>by rw[<- z,h.tab] at e;cases e];exact h.tab
 .rw[ak λz=>by rw[<- z,h.cod q hq] at e;cases e];exact h.cod q hq
theorem LamT.ne(T:LamT H P qual l)(ok:HOk p' w H h)(hp:p∈l):p.2≠P:=λz=>by
 have e:=T.cod p hp;rw[z,T.tab] at e;have:=I3z e;have hc:=xu.rec ok (T.cod p hp);rw[z] at hc;obtain⟨c2,oc,vs,t,a1,a2,a3,a4⟩:=hc;cases a1;rw[((ok P _ T.tab).1)] at a2;cases a2;have a3':=a3;injection a3' with a3';subst a3'
 cases l with
 |nil=>cases hp
 |cons x r =>
  obtain⟨p0,c0⟩:=x;simp[triples,rawInt] at a4
section
variable{X:Cx}{y0:List (Addr×Obj)}{Y:St}{H:Hp}{s:Shared}
theorem Kq(I:Inv X y0 Y H s)
  (hdef:defaultsOf params X.env=([],[])) (hcode:X.env.code=.ref c) (C:W.CodeHd X.base c P) (hcl:closureFor scope X.env=pure clos) (hb:X.base.BuiltinsAt X.mg P) (hge:X.env.globals=mainGlobals)
  (T:LamT H P (X.env.qual++"<lambda>") l)
  (h:∀(f c':Addr)(ctv pm:Value)(s':Shared)(H':Hp)(l':List (Pos×Addr)), Inv X y0 Y H' s'->LamT H' P (X.env.qual++"<lambda>") l'->H' c'=some (xu c' (X.env.qual++"<lambda>"))->c'≠P->(H c'=none \/ ∃q∈l, q.2=c')->(∀q∈l', q∈l \/ q.2=c')->(∀b o, b≠P->H b=some o->H' b=some o) ->
   s'.heap.get? f=some (W.kla_obj "<lambda>" (X.env.qual++"<lambda>") params body scope clos pm c' ctv)->s.heap.objs.size<=f->H' f=none->(∀b o,b≠P->s.heap.get? b=some o->s'.heap.get? b=some o)->R (.ref f) s') :
  wpAny (model X.prog X.w) X.A (eval (.Lambda params body scope pos) X.env) R X.xe s:=by
 rcases mR pos l with hn|⟨q,hq,hn⟩
 .refine zZ I hdef hcode C hcl hb hge T.tab (by rw[K1z];exact jz l) (by rw[K1z];exact hn) λf c' ctv pm s' hcn hcP J e1 e4 hfc keep=>?_
  have hfP:f≠P:=λz=>by rw[z] at e4;exact absurd (L1z (I.hok.lt T.tab) e4) (G4z _)
  refine h f c' ctv pm s' _ (l++[(pos,c')]) J ⟨?_,λp hp=>?_⟩ au hcP (.inl hcn) (λq hq=>(List.mem_append.mp hq).imp id λz=>by rw[D2z.mp z]) (λb o hbP e=>?_) e1 e4 ?_ keep
  .rw[ak hcP.symm,au,triples_append]
   simp
  .obtain hp|hp:=List.mem_append.mp hp
   .have e:=T.cod p hp
    have n2:p.2≠P:=T.ne I.hok hp;rw[ak (aj e hcn),ak n2];exact e
   .have e:p=(pos,c'):=by simpa using hp
    subst e;exact au
  .rw[ak (aj e hcn),ak hbP];exact e
  .rw[ak hfc,ak hfP];exact I.hok.fresh e4
 .exact z6 I hdef hcode C hcl hb hge T.tab (by rw[K1z];exact jz l) (by rw[K1z];exact hn) λf ctv pm s' J e1 e4 keep=>h f q.2 ctv pm s' H l J T (T.cod q hq) (T.ne I.hok hq) (.inr ⟨q,hq,rfl⟩) (λ_ z=>.inl z) (λ_ _ _ e=>e) e1 e4 (I.hok.fresh e4) λb o _ e=>keep b o e
end
end L2
namespace L2
open PySem PySem.Spec PyProof.Rows DE PySem.SeqAt
section
variable{prog:Program}{w:World}{A:Around}{E:Value->Shared->Prop}
end
section
variable{X:Cx}{es:List Expr}{k:Nat}{t:TGs}{n:Nat}{pos:Pos}
end
structure Hd(K:Zf)(lm:Option (Addr×Str))(Hs0 H0 Hs H:Hp)(U:Rho)(Y:St):Prop where
 ext:Ext Hs0 H0 Hs H
 len:Y.length=U.length
 sh:bL K Hs U Y
 ow:∀(i:Nat)(x:Str)(ds:List D),U[i]?=some (x,.ow ds)->∃a vs,Y[i]?=some (some (.ref a))/\H a=some (.lst vs)/\aL K Hs ds vs/\Hs a=none/\H0 a=none
 dis:∀(i j:Nat)(x y:Str)(ds es:List D)(a:Addr),i≠j->U[i]?=some (x,.ow ds)->U[j]?=some (y,.ow es)->Y[i]?=some (some (.ref a))->Y[j]?=some (some (.ref a))->False
 oo:∀(i:Nat)(x:Str)(dss:List (List D)),U[i]?=some (x,.oo dss)->False
 lam:∀p,lm=some p->H0 p.1=none/\∃l,LamT H p.1 p.2 l/\Hs p.1=none/\∀q∈l,Hs q.2=none
section
variable{K:Zf}{lm:Option (Addr×Str)}{Hs0 H0 Hs H Hs' H':Hp}{U:Rho}{Y:St}
theorem Hd.step(h:Hd K lm Hs0 H0 Hs H U Y)(E:Ext Hs H Hs' H'):Hd K lm Hs0 H0 Hs' H' U Y where
 ext:=h.ext.trans E
 len:=h.len
 sh:=h.sh.same E.vis
 ow:=λi x ds e=>by
  obtain⟨a,vs,h1,h2,h3,h4,h5⟩:=h.ow i x ds e;exact⟨a,vs,h1,E.all _ _ h2,aL.same E.vis ds vs h3,E.hid a _ h2 h4,h5⟩
 dis:=h.dis
 oo:=h.oo
 lam:=λp hp=>by
  obtain⟨h0,l,T,n1,n2⟩:=h.lam p hp;exact⟨h0,l,T.same E.all,E.hid _ _ T.tab n1,λq hq=>E.hid _ _ (T.cod q hq) (n2 q hq)⟩
def LmT(lm:Option (Addr×Str))(H:Hp):Prop:=∀p,lm=some p->∃l,LamT H p.1 p.2 l
theorem Hd.lmt(h:Hd K lm Hs0 H0 Hs H U Y):LmT lm H:=λp hp=>by
 obtain⟨_,l,T,_⟩:=h.lam p hp;exact⟨l,T⟩
theorem mz{i:Nat}(h:(frz n e U)[i]?=some (x,s)):(U[i]?=some (x,s)/\(Uw s=false->gn n x e=false))\/(∃ds,s=.sh (.lst ds)/\U[i]?=some (x,.ow ds)/\gn n x e=true)\/∃dss,s=.sh (.lst (dss.map .lst))/\U[i]?=some (x,.oo dss)/\gn n x e=true:=by
 unfold frz at h;rw[List.getElem?_map] at h;obtain⟨⟨y,t⟩,h1,h2⟩:=O0z.mp h
 cases t with
 |no=>simp at h2;obtain⟨rfl,rfl⟩:=h2;exact .inl ⟨h1,λz=>nomatch z⟩
 |sh d=>simp at h2;obtain⟨rfl,rfl⟩:=h2;exact .inl ⟨h1,λz=>nomatch z⟩
 |ow ds =>
  simp only at h2
  cases hm:gn n y e with
  |true =>
   rw[hm,T5z rfl] at h2;cases h2;exact .inr (.inl ⟨ds,rfl,h1,hm⟩)
  |false =>
   rw[hm] at h2;obtain⟨rfl,rfl⟩:=h2;exact .inl ⟨h1,λ_=>hm⟩
 |oo dss =>
  simp only at h2
  cases hm:gn n y e with
  |true =>
   rw[hm,T5z rfl] at h2;cases h2;exact .inr (.inr ⟨dss,rfl,h1,hm⟩)
  |false =>
   rw[hm] at h2;obtain⟨rfl,rfl⟩:=h2;exact .inl ⟨h1,λ_=>hm⟩
theorem bK(n:Nat)(e:Expr):(frz n e U).map (·.1)=U.map (·.1):=by
 unfold frz;rw[Z4z];apply I1z;intro p _;obtain⟨x,s⟩:=p
 cases s<;>simp<;>(split<;>rfl)
open Classical in
theorem Hd.frozen2(n:Nat)(e:Expr)(h:Hd K lm Hs0 H0 Hs H U Y):∃Hs1,Same Hs Hs1/\(∀b o,Hs1 b=some o->Hs b=some o\/∃vs,o=.lst vs)/\Hd K lm Hs0 H0 Hs1 H (frz n e U) Y:=by
 let Fo:Addr->Prop:=λb=>∃(i:Nat)(x:Str)(ds:List D),U[i]?=some (x,Sl.ow ds)/\gn n x e=true/\Y[i]?=some (some (V.ref b))
 let Hs1:Hp:=λb=>if Fo b then H b else Hs b
 have vis:=λb o q=>by
  show(if Fo b then H b else Hs b)=some o;split
  .exact h.ext.sub b o q
  .exact q
 have sub:=λb o q=>by
  have q':(if Fo b then H b else Hs b)=some o:=q;split at q'
  .exact q'
  .exact h.ext.sub b o q'
 have fz:∀b,Fo b->∃vs,H b=some (.lst vs)/\H0 b=none:=λb ⟨i,x,ds,g1,_,g3⟩=>by
  obtain⟨a,vs,k1,k2,k3,k4,k5⟩:=h.ow i x ds g1;rw[k1] at g3;cases g3;exact⟨vs,k2,k5⟩
 have shp:∀b o,Hs1 b=some o->Hs b=some o\/∃vs,o=.lst vs:=λb o q=>by
  have q':(if Fo b then H b else Hs b)=some o:=q;split at q'
  .rename_i f
   obtain⟨vs,k2,_⟩:=fz b f;rw[k2] at q';cases q';exact .inr ⟨vs,rfl⟩
  .exact .inl q'
 have hz:∀(b:Addr)(u:Heap->Prop),H b=some (.ext u)->Hs b=none->Hs1 b=none:=λb u q n=>by
  show(if Fo b then H b else Hs b)=none;rw[U5z λf=>?_]
  .exact n
  .obtain⟨vs,k2,_⟩:=fz b f
   rw[k2] at q;cases q
 refine⟨Hs1,vis,shp,⟨h.ext.vis.trans vis,h.ext.all,sub,λb o q z=>?_⟩,by rw[h.len];simp[frz],λi x d q=>?_,λi x ds q=>?_,λi j x y ds es a hij q1 q2=>?_,λi x dss q=>?_,λp hp=>by obtain⟨h0,l,T,n1,n2⟩:=h.lam p hp;exact⟨h0,l,T,hz _ _ T.tab n1,λq hq=>hz _ _ (T.cod q hq) (n2 q hq)⟩⟩
 .show(if Fo b then H b else Hs b)=none
  rw[U5z λf=>by obtain⟨_,_,k⟩:=fz b f;rw[k] at q;cases q]
  exact h.ext.hid b o q z
 .obtain⟨q,_⟩|⟨ds,e1,q2,hm⟩|⟨dss,e1,q2,hm⟩:=mz q
  .obtain⟨v,k1,k2⟩:=h.sh i x d q
   exact⟨v,k1,Rep.same vis d v k2⟩
  .cases e1
   obtain⟨a,vs,k1,k2,k3,k4,k5⟩:=h.ow i x ds q2;refine⟨_,k1,?_⟩;refine⟨a,vs,rfl,.of ?_,aL.same vis ds vs k3⟩;show(if Fo a then H a else Hs a)=_;rw[T5z ⟨i,x,ds,q2,hm,k1⟩];exact k2
  .exact(h.oo i x dss q2).elim
 .obtain⟨q,hm⟩|⟨ds',e1,q,hm⟩|⟨ds',e1,q,hm⟩:=mz q
  .obtain⟨a,vs,k1,k2,k3,k4,k5⟩:=h.ow i x ds q
   refine⟨a,vs,k1,k2,aL.same vis ds vs k3,?_,k5⟩;show(if Fo a then H a else Hs a)=none;rw[U5z]
   .exact k4
   .rintro⟨j,y,es,g1,g2,g3⟩
    by_cases hij:i=j
    .subst hij
     rw[q] at g1;cases g1;rw[hm rfl] at g2;cases g2
    .exact h.dis i j x y ds es a hij q g1 k1 g3
  .cases e1
  .cases e1
 .obtain⟨q1,_⟩|⟨ds',e1,_⟩|⟨ds',e1,_⟩:=mz q1
  .obtain⟨q2,_⟩|⟨ds',e1,_⟩|⟨ds',e1,_⟩:=mz q2
   .exact h.dis i j x y ds es a hij q1 q2
   .cases e1
   .cases e1
  .cases e1
  .cases e1
 .obtain⟨q,_⟩|⟨ds',e1,_⟩|⟨ds',e1,_⟩:=mz q
  .exact h.oo i x dss q
  .cases e1
  .cases e1
theorem Hd.frozen(n:Nat)(e:Expr)(h:Hd K lm Hs0 H0 Hs H U Y):∃Hs1,Same Hs Hs1/\Hd K lm Hs0 H0 Hs1 H (frz n e U) Y :=
 let ⟨Hs1,a,_,b⟩:=h.frozen2 n e
 ⟨Hs1,a,b⟩
theorem Hd.set(h:Hd K lm Hs0 H0 Hs H U Y)(hn:(U.map (·.1)).Nodup)(hi:(U.map (·.1))[i]?=some x)(r:Rep K Hs d v):Hd K lm Hs0 H0 Hs H (fL U x (.sh d)) (Y.set i (some v)):=by
 have hl:i<Y.length:=by have:=(List.getElem?_eq_some_iff.mp hi).1;rw[h.len];simpa using this
 refine⟨h.ext,by rw[A4z,h.len];have:=congrArg List.length (aQ U x (.sh d));simpa using this.symm,ql hn hi hl h.sh r,λj y ds e=>?_,λj j' y y' ds es a hjj e1 e2 e3 e4=>?_,λj y dss e=>?_,h.lam⟩
 .rw[cB hn hi j] at e
  split at e
  .cases e
  .rename_i hj
   obtain⟨a,vs,k1,k⟩:=h.ow j y ds e;exact⟨a,vs,by rw[List.getElem?_set_ne (λz=>hj z.symm)];exact k1,k⟩
 .rw[cB hn hi] at e1 e2
  split at e1
  .cases e1
  .rename_i hj
   split at e2
   .cases e2
   .rename_i hj'
    rw[List.getElem?_set_ne (λz=>hj z.symm)] at e3;rw[List.getElem?_set_ne (λz=>hj' z.symm)] at e4;exact h.dis j j' y y' ds es a hjj e1 e2 e3 e4
 .rw[cB hn hi j] at e
  split at e
  .cases e
  .rename_i hj
   exact h.oo j y dss e
theorem Hd.own(h:Hd K lm Hs0 H0 Hs H U Y)(hn:(U.map (·.1)).Nodup)(hi:(U.map (·.1))[i]?=some x)(h1:H acc=some (.lst vs))(r:aL K Hs ds vs)(h2:Hs acc=none)(h3:H0 acc=none)
  (no:∀(j:Nat) y dss,j≠i->U[j]?=some (y,.oo dss)->False) (ap:∀(j:Nat) y es,j≠i->U[j]?=some (y,.ow es)->Y[j]?=some (some (.ref acc))->False):Hd K lm Hs0 H0 Hs H (fL U x (.ow ds)) (Y.set i (some (.ref acc))):=by
 have hl:i<Y.length:=by have:=(List.getElem?_eq_some_iff.mp hi).1;rw[h.len];simpa using this
 refine⟨h.ext,by rw[A4z,h.len];have:=congrArg List.length (aQ U x (.ow ds));simpa using this.symm,λj y d e=>?_,λj y es e=>?_,λj j' y y' ds' es a hjj e1 e2 e3 e4=>?_,λj y dss e=>?_,h.lam⟩
 .rw[cB hn hi j] at e
  split at e
  .cases e
  .rename_i hj
   obtain⟨v,k1,k2⟩:=h.sh j y d e;exact⟨v,by rw[List.getElem?_set_ne (λz=>hj z.symm)];exact k1,k2⟩
 .rw[cB hn hi j] at e
  split at e
  .rename_i hj
   subst hj;cases e;exact⟨acc,vs,by rw[List.getElem?_set_self hl],h1,r,h2,h3⟩
  .rename_i hj
   obtain⟨a,vs',k1,k⟩:=h.ow j y es e;exact⟨a,vs',by rw[List.getElem?_set_ne (λz=>hj z.symm)];exact k1,k⟩
 .rw[cB hn hi] at e1 e2
  split at e1
  .rename_i hj
   split at e2
   .rename_i hj'
    exact hjj (hj.trans hj'.symm)
   .rename_i hj'
    subst hj;rw[List.getElem?_set_self hl] at e3;cases e3;rw[List.getElem?_set_ne (λz=>hj' z.symm)] at e4;exact ap j' y' es hj' e2 e4
  .rename_i hj
   split at e2
   .rename_i hj'
    subst hj';rw[List.getElem?_set_self hl] at e4;cases e4;rw[List.getElem?_set_ne (λz=>hj z.symm)] at e3;exact ap j y ds' hj e1 e3
   .rename_i hj'
    rw[List.getElem?_set_ne (λz=>hj z.symm)] at e3;rw[List.getElem?_set_ne (λz=>hj' z.symm)] at e4;exact h.dis j j' y y' ds' es a hjj e1 e2 e3 e4
 .rw[cB hn hi j] at e
  split at e
  .cases e
  .rename_i hj
   exact(no j y dss hj e).elim
theorem Hd.app{i:Nat}(h:Hd K lm Hs0 H0 Hs H U Y)(hn:(U.map (·.1)).Nodup)(hi:U[i]?=some (x,.ow ds))(hY:Y[i]?=some (some (.ref a)))(r:aL K Hs es vs):Hd K lm Hs0 H0 Hs (upd H a (.lst vs)) (fL U x (.ow es)) Y:=by
 obtain⟨a',vs',k1,k2,k3,k4,k5⟩:=h.ow i x ds hi;rw[hY] at k1;cases k1
 have hi':(U.map (·.1))[i]?=some x:=by rw[List.getElem?_map,hi];rfl
 refine⟨Ext.acc h.ext k5 k4,by rw[h.len];have:=congrArg List.length (aQ U x (.ow es));simpa using this.symm,λj y d e=>?_,λj y es' e=>?_,λj j' y y' ds' es' b hjj e1 e2 e3 e4=>?_,λj y dss e=>?_,λp hp=>by obtain⟨h0,l,T,n⟩:=h.lam p hp;exact⟨h0,l,T.upd k2,n⟩⟩
 .rw[cB hn hi' j] at e
  split at e
  .cases e
  .exact h.sh j y d e
 .rw[cB hn hi' j] at e
  split at e
  .rename_i hj
   subst hj;cases e;exact⟨a,vs,hY,au,r,k4,k5⟩
  .rename_i hj
   obtain⟨b,us,g1,g2,g⟩:=h.ow j y es' e;refine⟨b,us,g1,?_,g⟩;rw[ak]
   .exact g2
   .rintro rfl
    exact h.dis j i y x es' ds b hj e hi g1 hY
 .rw[cB hn hi'] at e1 e2
  split at e1
  .rename_i hj
   split at e2
   .rename_i hj'
    exact hjj (hj.trans hj'.symm)
   .subst hj
    exact h.dis j j' x y' ds es' b hjj hi e2 e3 e4
  .split at e2
   .rename_i hj'
    subst hj';exact h.dis j j' y x ds' ds b hjj e1 hi e3 e4
   .exact h.dis j j' y y' ds' es' b hjj e1 e2 e3 e4
 .rw[cB hn hi' j] at e
  split at e
  .cases e
  .rename_i hj
   exact h.oo j y dss e
theorem Kd(hn:(U.map (·.1)).Nodup)(hi:(U.map (·.1))[i]?=some x)(h:pN U x=true):∀(j:Nat) y dss,j≠i->U[j]?=some (y,.oo dss)->False:=λj y dss hj e=>by
 have:=G3z.mp h _ (List.mem_of_getElem? e);rw[V3z] at this;obtain q|q:=this
 .have ey:y=x:=by simpa using q
  have e':(U.map (·.1))[j]?=some x:=by rw[List.getElem?_map,e,<- ey];rfl
  exact hj ((List.getElem?_inj (List.getElem?_eq_some_iff.mp e').1 hn).mp (e'.trans hi.symm))
 .exact nomatch q
theorem j8:nJ K Hs scope (λU Y=>Hd K lm Hs0 H0 Hs H U Y):=λU Y i x d v hn hi _ h r=>h.set hn hi r
end
end L2
namespace L2
open PySem PySem.Spec PyProof.Rows PySem.SeqAt
open DE hiding st
def n6(X:Cx)(s:Stmt):TS:=λD Y H=>∀y0 s0,Inv X y0 Y H s0->wpAny (model X.prog X.w) X.A (exec s X.env) (SP X y0 D) X.xe s0
def dW(X:Cx)(s:List Stmt):TS:=λD Y H=>∀y0 s0,Inv X y0 Y H s0->wpAny (model X.prog X.w) X.A (execs s X.env) (SP X y0 D) X.xe s0
section
variable{X:Cx}{s:Stmt}{ss:List Stmt}{t:TS}{D:Ends}{Y:St}{H:Hp}
theorem jK:PS X s (n6 X s):=λy0 s Y H D I h=>h y0 s I
theorem PS.sem(h:PS X s t)(q:t D Y H):n6 X s D Y H:=λy0 s I=>h y0 s Y H D I q
theorem bf:PSs X ss (dW X ss):=λy0 s Y H D I h=>h y0 s I
theorem PSs.sem(h:PSs X ss t)(q:t D Y H):dW X ss D Y H:=λy0 s I=>h y0 s Y H D I q
end
def Runs(X:Cx)(Hs0 H0:Hp)(U:Rho)(fl:Fl)(t:TS):Prop:=∀Y H Hs D,Hd X.K X.lm Hs0 H0 Hs H U Y->X.N=U.map (·.1)->(∀U' Y' Hs' H',fl=.nxt U'->Same Hs Hs'->X.N=U'.map (·.1)->Hd X.K X.lm Hs0 H0 Hs' H' U' Y'->D.nx Y' H') ->
 (∀d v Hs' H',fl=.ret d->Ext Hs0 H0 Hs' H'->Rep X.K Hs' d v->LmT X.lm H'->D.rt v H')->t D Y H
structure GoodS(cx:Cxt)(k:Nat)(X:Cx)(sc:Scope):Prop where
 good:Good cx k X sc
 own:Owns X sc
 pass:PassesOwn (model X.prog X.w) X.A X.env X.xe
 stk:X.stack=X.env::X.outer/\X.env.frame=some X.env.locals
section
variable{X:Cx}{U:Rho}{cx:Cxt}{k F:Nat}{sc scope:Scope}{Hs0 H0:Hp}{e:Expr}{d:D}
theorem Ft(G:GoodS cx k X sc)(hN:X.N=U.map (·.1))(he:ev cx F sc (frz F e U) e=some d)(h:Hd X.K X.lm Hs0 H0 Hs H U Y)(q:∀v Hs' H',Same Hs Hs'->Hd X.K X.lm Hs0 H0 Hs' H' (frz F e U) Y->Rep X.K Hs' d v->Q v H'):gZ X e Y H Q:=by
 obtain⟨Hs1,sm1,h1⟩:=h.frozen F e;exact(d8 cx F G.good (by rw[bK];exact hN) he).1 Y H Hs1 Q h1.ext.sub h1.sh λv H' Hs' E r=>q v Hs' H' (sm1.trans E.vis) (h1.step E) r
theorem KZ(G:GoodS cx k X sc)(hN:X.N=U.map (·.1))(he:ev cx F sc (frz F e U) e=some (.bl b))(h:Hd X.K X.lm Hs0 H0 Hs H U Y)(q:∀Hs' H',Same Hs Hs'->Hd X.K X.lm Hs0 H0 Hs' H' U Y->Q b H'):nQ X e Y H Q:=by
 obtain⟨Hs1,sm1,shp,h1⟩:=h.frozen2 F e;exact(d8 cx F G.good (by rw[bK];exact hN) he).2 b rfl Y H Hs1 Q h1.ext.sub h1.sh λH' Hs' E=>q Hs H' (.refl _) (h.step ⟨.refl _,E.all,h.ext.sub.trans E.all,λ_ _ _ z=>z⟩)
theorem kZ(he:ev cx F sc U e=some d)(hc:∀a b c p,e≠.ListComp a b c p):swapsWith e t l env=pure false:=by
 cases F with
 |zero=>simp[ev] at he
 |succ F =>
  cases e<;>first|rfl|(exact nomatch (show(Option.none:Option D)=some d from he))|(exact absurd rfl (hc _ _ _ _))
theorem Di(h:cu e=false):nW e d=.sh d:=by
 unfold nW;split
 .rw[h];rfl
 .rfl
def Xk(X:Cx)(U:Rho)(e:Expr)(ds:List D):Prop:=∀Y H Hs Q,Same Hs H->bL X.K Hs U Y->(∀acc vs Hs' H',Ext Hs H Hs' H'->H acc=none->Hs' acc=none->H' acc=some (.lst vs)->aL X.K Hs' ds vs->Q (.ref acc) H')->gZ X e Y H Q
theorem DX(h:EvA X U es ds)(hz:szl ds.length=true):Xk X U (.List es pos) ds:=λY H Hs Q hs hst hq =>
 (qx cQ).sem (h Y H Hs _ hs hst λvs H1 Hs1 E1 r1=>⟨by rw[<- r1.length];exact jJ hz,λp hp =>
  hq p vs Hs1 _ (Ext.acc E1 (E1.all.free hp) (E1.sub.free hp)) (E1.all.free hp) (E1.sub.free hp) au r1⟩)
theorem N6(G:GoodS cx k X sc)(hN:X.N=U.map (·.1))(hx:ownIn sc x=true)(hc:(U.map (·.1)).contains x=true)(hno:pN (frz F e U) x=true)
  (hrun:∀(i:Nat),X.N[i]?=some x->∀Y H Hs D,Same Hs H->bL X.K Hs (frz F e U) Y->(∀acc vs Hs' H',Ext Hs H Hs' H'->H acc=none->Hs' acc=none->H' acc=some (.lst vs)->aL X.K Hs' ds vs->D.nx (Y.set i (some (.ref acc))) H')->n6 X (.Assign [.Name x px] e pos) D Y H) :
  Runs X Hs0 H0 U (.nxt (fL (frz F e U) x (.ow ds))) (n6 X (.Assign [.Name x px] e pos)):=by
 intro Y H Hs D h _ hn hr;obtain⟨i,hi⟩:=cW hc;obtain⟨Hs1,sm1,h1⟩:=h.frozen F e
 have hnd:((frz F e U).map (·.1)).Nodup:=by rw[bK,<- hN];exact G.good.nd
 refine hrun i (by rw[hN];exact hi) Y H Hs1 D h1.ext.sub h1.sh λacc vs Hs' H' E a1 a2 a3 r=>?_
 refine hn _ _ Hs' H' rfl (sm1.trans E.vis) (by rw[aQ,bK];exact hN) ((h1.step E).own hnd (by rw[bK];exact hi) a3 r a2 (h1.ext.all.free a1) (Kd hnd (by rw[bK];exact hi) hno) λj y es hj q1 q2=>?_)
 obtain⟨b,us,k1,k2,_⟩:=h1.ow j y es q1;rw[k1] at q2;cases q2;rw[a1] at k2;cases k2
theorem IW(G:GoodS cx k X sc)(hN:X.N=U.map (·.1))(hx:ownIn sc x=true)(hc:(U.map (·.1)).contains x=true)(hlc:ooE cx sc e=false)(hno:cu e=true->pN (frz F e U) x=true)(he:ev cx F sc (frz F e U) e=some d) :
  Runs X Hs0 H0 U (.nxt (fL (frz F e U) x (nW e d))) (n6 X (.Assign [.Name x px] e pos)):=by
 obtain⟨ox,of⟩:=G.own.own x hx
 have hN':X.N=(frz F e U).map (·.1):=by rw[bK];exact hN
 by_cases hfr:cu e=true
 .cases F with
  |zero=>simp[ev] at he
  |succ F =>
   cases e with
   |List es p2 =>
    obtain⟨ds,h1,he⟩:=bw he;split at he
    .rename_i hz
     cases he;refine N6 G hN hx hc (hno rfl) λi hi Y H Hs D hs hst hq=>?_;refine PS.sem (g8 G.good.nd hi ox aq rfl of) (DX ((dY (λe _ d hd=>⟨(d8 cx F G.good hN' hd).1,aZ hd⟩) h1).1) hz Y H Hs _ hs hst λacc vs Hs' H' E a1 a2 a3 r=>hq acc vs Hs' H' E a1 a2 a3 r)
    .cases he
   |ListComp elt gens scope p2=>cases hlc
   |_=>simp[cu] at hfr
 .have hfr':cu e=false:=by simpa using hfr
  rw[Di hfr'];intro Y H Hs D h _ hn hr;obtain⟨i,hi⟩:=cW hc;refine PS.sem (g8 (i:=i) G.good.nd (by rw[hN];exact hi) ox aq (kZ (t:=some (.Name x px)) (l:=pos.line) (env:=X.env) he λa b c p q=>by rw[q] at hfr';cases hfr') of) (Ft G hN he h λv Hs' H' sm h' r=>?_);exact hn _ _ Hs' H' rfl sm (by rw[aQ];exact hN') (h'.set (by rw[<- hN'];exact G.good.nd) (by rw[bK];exact hi) r)
theorem w6(G:GoodS cx k X sc)(hs:Same Hs H)(hN:X.N=U.map (·.1))(KE:nJ X.K Hs sc P)(hl:tupI d=some l)(hb:bindNames sc es l U=some U')(hp:P U Y)(rd:Rep X.K Hs d v)
  (hq:∀Y',X.N=U'.map (·.1)->P U' Y'->Q Y' H):KC X (.Tuple es kt pos) v Y H Q:=by
 obtain⟨e1,e2,e3⟩:=gH (env:=X.env) hb
 cases d with
 |tup xs =>
  simp[tupI,O2z] at hl;subst hl
  obtain⟨a,vs,rfl,h1,h2⟩:=cH rd;exact PG.sem (Hh G.good.calm sI e1 e2) ⟨a,vs,rfl,hs.tup h1,by rw[<- h2.length,e3],jD G.own G.good.nd KE hN hb hp h2 hq⟩
 |_=>simp[tupI] at hl
theorem uX(h:nc0 e=true):foldedForSure n e=false/\constantsAlone n e=false:=by
 cases e with
 |Name x p =>
  have h':(!(x==("__debug__":Str)))=true:=h
  have e:(x==("__debug__":Str))=false:=by simpa using h'
  exact⟨by cases n<;>rfl,by cases n<;>exact e⟩
 |_=>cases n<;>first|exact⟨rfl,rfl⟩|exact nomatch h
theorem Pr(h:nc1 e=true):constantsAlone (n+1) e=false:=by
 unfold nc1 at h;split at h
 .show(constantsAlone n _&&constantsAlone n _)=false
  rw[(uX h).2];rfl
 .exact(uX h).2
theorem Ef(h:nc e=true):foldedForSure 8 e=false/\constantsAlone 8 e=false:=by
 unfold nc at h;split at h
 .rw[V3z] at h
  refine⟨rfl,show(constantsAlone 7 _&&constantsAlone 7 _)=false from ?_⟩
  rcases h with h|h<;>simp[(uX h).2]
 .rw[V3z] at h
  refine⟨rfl,show(constantsAlone 7 _&&constantsAlone 7 _)=false from ?_⟩
  rcases h with h|h<;>simp[Pr h]
 .exact uX h
theorem Gi(G:Good cx k X sc):X.env.blockKind=.function:=by
 unfold Env.blockKind;rw[G.sce,G.kind];rfl
theorem NT(G:Good cx k X sc)(h:swp sc es e=some false):swappedStores [.Tuple es kt pt] e X.env=pure none:=by
 cases e with
 |Tuple vs k2 p2 =>
  simp[swp] at h;split at h
  .split at h
   .split at h<;>cases h
   .cases h
  .cases h
 |_=>rfl
theorem yx(G:Good cx k X sc)(h:swp sc es e=some true):∃x px y py a b k2 p2,es=[.Name x px,.Name y py]/\e=.Tuple [a,b] k2 p2/\X.env.scope.names.lookup x=some .local/\X.env.scope.names.lookup y=some .local/\x≠y/\aJ a=true/\aJ b=true /\
    swappedStores [.Tuple es kt pt] e X.env=pure (some [x,y]):=by
  cases e with
  |Tuple vs k2 p2 =>
    simp only[swp] at h
    split at h
    . rename_i x px y py a b
      split at h
      . rename_i hl
        split at h
        . rename_i hq
          rw[A3z] at hl
          rw[A3z,A3z,A3z,A3z,V3z] at hq
          obtain⟨⟨⟨⟨q1,q2⟩,q3⟩,q4⟩,q5⟩:=hq
          have l1:X.env.kindOf x=some .local:=by unfold Env.kindOf;rw[G.sce];simpa using hl.1
          have l2:X.env.kindOf y=some .local:=by unfold Env.kindOf;rw[G.sce];simpa using hl.2
          have hxy:x≠y:=by simpa using q2
          have hpl : py.line = px.line := by have : px.line = py.line := by simpa using q1
                                             exact this.symm
          have f1:(foldedForSure 8 a&&foldedForSure 8 b)=false:=by
            obtain q|q:=q3
            . rw[(Ef q).1];rfl
            . rw[(Ef q).1,F4z]
          have f2:(constantsAlone 8 a&&constantsAlone 8 b)=false:=by
            obtain q|q:=q3
            . rw[(Ef q).2];rfl
            . rw[(Ef q).2,F4z]
          refine⟨x,px,y,py,a,b,k2,p2,rfl,rfl,l1,l2,hxy,q4,q5,?_⟩
          unfold swappedStores
          have ed:([x,y]:List Str).eraseDups.length=2:=by
            have:(y==x)=false:=by simpa using hxy.symm
            simp[List.eraseDups_cons,this]
          have al1:[a,b].all (foldedForSure 8)=false:=by simpa using f1
          have al2:[a,b].all (constantsAlone 8)=false:=by simpa using f2
          simp only[al1,al2,Gi G]
          generalize hst:[a,b].any _=sb
          have hsb:sb=false:=by
            rw[<- hst,M4z,M4z,List.any_nil,Bool.or_false,Bool.or_eq_false_iff]
            refine⟨?_,?_⟩
            . cases a<;>first|rfl|(simp[aJ] at q4)
            . cases b<;>first|rfl|(simp[aJ] at q5)
          generalize hf:List.filterMap _ [Expr.Name x px,Expr.Name y py]=nm
          have hnm:nm=[x,y]:=by
            rw[<- hf]
            simp[l1,l2,hpl,Expr.pos]
          rw[hsb,hnm]
          simp only[ed]
          rfl
        . cases h
      . cases h
    . cases h
  |_=>simp[swp] at h
end
def XOk(X:Cx)(Y:St)(E:XK):Prop:=∀y0 H s e s',Inv X y0 Y H s->CX1 X.prog X.w X.stack H s E e s'->X.xe e s'
def Cp(X:Cx)(Y:St)(E:XK):Prop:=∀y0 H s (C e:Addr) h' args,Inv X y0 Y H s->Heap.MadeExcOf s.heap h' e (.ref C) args->E (.ref C) none H->X.xe (.ref e) {s with heap:=h'}
def EX(X:Cx)(c:Str)(Hs H:Hp)(E:XK):Prop:=∀C H' Hs',W.nsIn X.K mainGlobals c=some (some (.ref C))->Ext Hs H Hs' H'->E (.ref C) none H'
theorem EX.step(h:EX X c Hs H E)(e:Ext Hs H Hs1 H1):EX X c Hs1 H1 E:=λC H' Hs' hn e'=>h C H' Hs' hn (e.trans e')
def EvX(X:Cx)(U:Rho)(e:Expr)(c:Str):Prop:=∀Y H Hs E,Same Hs H->bL X.K Hs U Y->EX X c Hs H E->XOk X Y E->∀Q,gZ X e Y H Q
def VP(X:Cx)(U:Rho)(es:List Expr)(c:Str):Prop:=∀Y H Hs E,Same Hs H->bL X.K Hs U Y->EX X c Hs H E->XOk X Y E->∀Q,yu X es Y H Q
section
variable{X:Cx}{U:Rho}{cx:Cxt}{k:Nat}{sc scope:Scope}
theorem yQ(F:FnOk X.prog X.w X.K X.mg X.base (CX1 X.prog X.w) k f fd ps sp)(hr:Room k X.A)(hb:Binds X.K fd ps [])(hx:XOk X Y E)
  (I:Inv X y0 Y H s) (r:Vals vs us) (h:sp vs H Q E):wpAny (model X.prog X.w) X.A (call (.ref f) us) (EP X y0 Y Q) X.xe s:=by
 have hl:(us++([]:List Value)).length=ps.length:=by rw[L3z,<- r.length];exact F.len _ _ _ _ h
 have hb':=hb s us I.kIn hl;rw[L3z] at hb';refine wpAny_call (W4z (F.run X.A X.stack s H ⟨us,[]⟩ us vs Q E hr I.env0 hb' r h) λr s' hq=>?_)
 cases r with
 |error e=>exact hx y0 H s e s' I hq
 |ok fl =>
  cases fl with
  |ret u=>exact I.after hq
  |next=>exact False.elim hq
  |brk=>exact False.elim hq
  |cont=>exact False.elim hq
theorem Ii(hf:∀e d,f e=some d->Ev X U e d)(hg:∀e c,g e=some c->EvX X U e c):∀{es:List Expr},(∀e∈es,aJ e=true)->xg f g es=some c->VP X U es c
 |[],_,h=>by simp[xg] at h
 |e::es,hp,h=>by
  simp[xg] at h;intro Y H Hs E hs hst hE hx Q;refine(aB aq cQ (aA (hp e (by simp)))).sem ?_
  cases he:f e with
  |some d =>
   rw[he] at h;exact hf e d he Y H Hs _ hs hst λv H1 Hs1 E1 _=>Ii hf hg (λe' h'=>hp e' (X0z _ h')) h Y H1 Hs1 E E1.sub (hst.same E1.vis) (hE.step E1) hx _
  |none =>
   rw[he] at h;exact hg e c h Y H Hs E hs hst hE hx _
theorem Fz(G:Good cx k X sc)(hg:Gl X f)(hf:cx.fns.contains f=true)(hne:es≠[])(hp:∀e∈es,aJ e=true)(h:VP X U es c\/∃ds,EvA X U es ds/\cx.callx f ds=some c) :
  EvX X U (.Call (.Name f p) es [] pos) c:=by
 obtain⟨hdb,a,fd,ps,_,har,hm,hk,hb,F⟩:=G.fns f hf
 cases es with
 |nil=>exact absurd rfl hne
 |cons e es =>
  intro Y H Hs E hs hst hE hx Q y0 s I;refine R1z (gq I hg hm ?_ hdb);refine S1z I.ok.mod.kin hk ?_ (aA (hp e (by simp))) (dU λe' he=>hp e' (X0z _ he));obtain h|⟨ds,hA,hc⟩:=h
  .exact thn (h Y H Hs E hs hst hE hx (λ_ _=>False) pos y0 s I) λus s1 ⟨vs,H1,I1,r,q⟩=>q.elim
  .exact thn (hA Y H Hs (λvs H1=>∃Hs1,Ext Hs H Hs1 H1/\aL X.K Hs1 ds vs) hs hst (λvs H1 Hs1 E1 r1=>⟨Hs1,E1,r1⟩) pos y0 s I) λus s1 ⟨vs,H1,I1,r,Hs1,E1,r1⟩=>⟨I1.kIn,(yQ F G.room hb hx I1 r ⟨by rw[<- r1.length,har ds c hc],Hs1,ds,E1.sub,r1,.inr ⟨c,hc,hE.step E1⟩⟩)⟩
theorem HN(cx:Cxt):∀(n:Nat){k:Nat}{X:Cx}{sc:Scope}{U:Rho}{e:Expr}{c:Str},Good cx k X sc->X.N=U.map (·.1)->evx cx n sc U e=some c->EvX X U e c
 |0,k,X,sc,U,e,c,_,_,h=>nomatch h
 |n+1,k,X,sc,U,e,c,G,hN,h=>by
  have ih:∀e d,ev cx n sc U e=some d->Ev X U e d/\∀b,d=.bl b->EvT X U e b:=λe d h=>d8 cx n G hN h;simp only[evx] at h;split at h
  .rename_i x p args pos
   split at h
   .rename_i hc
    simp only[A3z] at hc;obtain⟨⟨⟨hgl,hne⟩,hpl⟩,hfn⟩:=hc
    have hg:Gl X x:=by
     have e:sc.names.lookup x=some .globalImplicit:=by unfold rY at hgl;simpa using hgl
     show X.env.scope.names.lookup x=_;rw[G.sce,e]
    have hp:=λe he=>G3z.mp hpl e he;refine Fz G hg hfn (λq=>by rw[q] at hne;exact absurd hne (by decide)) hp ?_;split at h
    .rename_i ds hds
     exact .inr ⟨ds,(dY (λe _ d hd=>⟨(ih e d hd).1,aZ hd⟩) hds).1,h⟩
    .exact .inl (Ii (λe d h=>(ih e d h).1) (λe c h=>HN cx n G hN h) hp h)
   .cases h
  .cases h
end
section
variable{X:Cx}{pos:Pos}
end
section
variable{X:Cx}{U:Rho}{cx:Cxt}{k F:Nat}{sc scope:Scope}{Hs0 H0:Hp}{e:Expr}{d:D}
theorem N5(G:GoodS cx k X sc)(hN:X.N=U.map (·.1))(hs:(swp sc es e).isSome=true)(he:ev cx F sc (frz F e U) e=some d)(hl:tupI d=some l)(hb:bindNames sc es l (frz F e U)=some U') :
  Runs X Hs0 H0 U (.nxt U') (n6 X (.Assign [.Tuple es kt pt] e pos)):=by
 have hN':X.N=(frz F e U).map (·.1):=by rw[bK];exact hN
 obtain⟨b,hb'⟩:=Option.isSome_iff_exists.mp hs
 cases b with
 |false =>
  have hso:swapsWithSole [.Tuple es kt pt] e pos.line X.env=pure false:=by
   show swapsWith e (some (.Tuple es kt pt)) pos.line X.env=pure false
   by_cases hc:∃a b c p,e=.ListComp a b c p
   .obtain⟨a,b,c,p,rfl⟩:=hc
    rfl
   .exact kZ he λa b c p q=>hc ⟨a,b,c,p,q⟩
  intro Y H Hs D h _ hn hr;exact PS.sem (Hf aq lJ hso (NT (kt:=kt) (pt:=pt) G.good hb') rfl) (Ft G hN he h λv Hs' H' sm h' r=>w6 G h'.ext.sub hN' j8 hl hb h' r λY' hN2 p=>hn U' Y' Hs' H' rfl sm hN2 p)
 |true =>
  obtain⟨x,px,y,py,a,b,k2,p2,rfl,rfl,lx,ly,hxy,pa,pb,hw⟩:=yx (kt:=kt) (pt:=pt) G.good hb'
  cases F with
  |zero=>simp[ev] at he
  |succ F =>
   obtain⟨ds,h1,he⟩:=bw he;split at he
   .cases he
    simp[tupI,O2z] at hl;subst hl;have hA:=(dY (λe _ d hd=>⟨(d8 cx F G.good hN' hd).1,aZ hd⟩) h1).1
    have hlen:ds.length=2:=by have:=(gH (env:=X.env) hb).2.2;simpa using this.symm
    obtain⟨d1,d2,rfl⟩:∃d1 d2,ds=[d1,d2]:=by
     match ds,hlen with
     |[d1,d2],_=>exact⟨d1,d2,rfl⟩
    simp only[bindNames] at hb;split at hb
    .rename_i c1
     split at hb
     .rename_i c2
      cases hb;rw[A3z] at c1 c2;rw[aQ] at c2;obtain⟨i,hi⟩:=cW c1.2;obtain⟨j,hj⟩:=cW c2.2;intro Y H Hs D h _ hn hr;obtain⟨Hs1,sm1,h1'⟩:=h.frozen (F+1) (.Tuple [a,b] k2 p2);refine PS.sem (G8 G.good.calm G.good.nd (by rw[hN'];exact hi) (by rw[hN'];exact hj) (λz=>by rw[z,hj] at hi;cases hi;exact hxy rfl) lx ly cQ hw rfl) (hA Y H Hs1 _ h1'.ext.sub h1'.sh λvs H' Hs' E r=>?_);obtain⟨v,w,rfl,r1,r2⟩:=repL2 r
      have nd:((frz (F+1) (.Tuple [a,b] k2 p2) U).map (·.1)).Nodup:=by rw[<- hN'];exact G.good.nd
      have g2:=((h1'.step E).set nd hi r1).set (by rw[aQ];exact nd) (by rw[aQ];exact hj) r2
      exact⟨v,w,rfl,hn _ _ Hs' H' rfl (sm1.trans E.vis) (by rw[aQ,aQ];exact hN') g2⟩
     .cases hb
    .cases hb
   .cases he
theorem yG(G:GoodS cx k X sc)(hN:X.N=U.map (·.1))(hx:(frz F e U).lookup x=some (.ow ds))(ho:ownIn sc x=true)(hp:aK x=true)(hline:(ap.endLine==cp.line)=true)(hz:szl (ds.length+1)=true)(he:ev cx F sc (frz F e U) e=some d) :
  Runs X Hs0 H0 U (.nxt (fL (frz F e U) x (.ow (ds++[d])))) (n6 X (.Expr (.Call (.Attribute (.Name x px) "append" ap) [e] [] cp) pos)):=by
 have hN':X.N=(frz F e U).map (·.1):=by rw[bK];exact hN
 obtain⟨i,hi,_⟩:=eZ hx
 have nd:((frz F e U).map (·.1)).Nodup:=by rw[<- hN'];exact G.good.nd
 have hpl:=aZ he;intro Y H Hs D h _ hn hr;obtain⟨Hs1,sm1,h1⟩:=h.frozen F e;obtain⟨a,vs,k1,k2,k3,k4,k5⟩:=h1.ow i x ds hi;unfold aK at hp;rw[A3z,M5z,M5z] at hp;refine PS.sem (bW (wI H0z D0z E0z iW (m7 (i:=i) (by rw[hN',List.getElem?_map,hi];rfl) ((G.own.own x ho).1.elim .inl λq=>.inr (.inl q)) (by simpa using hp.1) (by simpa using hp.2)) (aB aq aM (aA hpl)) rfl (by rw[aA hpl];rfl) hline (aA hpl) rfl) rfl) ?_;refine⟨_,k1,.inl ⟨rfl,vs,.of k2⟩,?_⟩;refine(d8 cx F G.good hN' he).1 Y H Hs1 _ h1.ext.sub h1.sh λv H' Hs' E r=>?_;refine⟨a,vs,v,rfl,rfl,E.all _ _ k2,by have:=k3.length;have:=Gy hz;omega,?_⟩;exact hn _ _ Hs' _ rfl (sm1.trans E.vis) (by rw[aQ];exact hN') ((h1.step E).app nd hi k1 (aL.append (aL.same E.vis ds vs k3) (.cons r .nil)))
theorem wR(l:Addr)(xs:Array Value)(n:Nat)(b:Addr)(ys:Array Value)(m:Nat)(dd:Option Addr)(sl:Array (Option Value))(c0:¬(!xs.isEmpty&&Builtin.List.listTooLong (xs.size+ys.size))=true)(c1:xs.size<=sizeLine)(c2:xs.size+ys.size<=sizeLine+1) :
  Meets (Builtin.«list.extend» ⟨[.ref l,.ref b],[]⟩) (λ_ R s=>s.heap.get? l=some {cls:=.type "list",data:=.seq xs n}/\s.heap.get? b=some {cls:=.type "tuple",dict:=dd,data:=.seq ys m,slots:=sl} /\
   R (.ok (.ret Value.none)) {s with heap:=s.heap.update l (Obj.mapSeq λx=>x++ys),toks:=s.toks}) :=
 .of_wp λprog w A R s h=>by
  obtain⟨hp,g,d,tk,os⟩:=s;obtain⟨hl,hb,h⟩:=h
  have z:(xs++ys).size<=sizeLine+1:=by rw[Array.size_append];exact c2
  wp_walk using(wpAny_updateSeq hl rfl),AutoSeq1.wpAny_loadPart' hl,AutoSeq1.wpAny_loadPart' hb;exact⟨_,rfl,h⟩
def Sv(K:Zf):V->List V->Hp->VK->Prop:=λx vs H Q=>∃l b xs zs,x=.ref l/\vs=[.ref b]/\H l=some (.lst xs)/\SqT K H b zs/\xs.length+zs.length<=sizeLine/\Q .non (upd H l (.lst (xs++zs)))
theorem Kf:MtM X "list.extend" (Sv X.K):=by
 intro y0 s Y H x vs v us Q I rx rv h;obtain⟨l,b,xs,zs,rfl,rfl,hH,hB,hz,q⟩:=h;cases rx;obtain⟨u,rfl,ru⟩:=rv.one;cases ru;obtain⟨z,its,n,r,hl,e⟩:=I.lstM hH;obtain⟨its2,r2,pl,hz2⟩:=I.tuple hB;have hl2:=r2.length;obtain⟨⟨c2,dd2,data2,sl2⟩,e2,hc2,n2,hs2⟩:=pl
 have hsz:its.toArray.size+its2.toArray.size<=sizeLine:=by rw[H2z,H2z];omega
 have lng:¬ (!its.toArray.isEmpty&&Builtin.List.listTooLong (its.toArray.size+its2.toArray.size))=true:=λw=>by
  rw[uU hsz,F4z] at w;cases w
 subst hc2 hs2;refine L5z F.slot_list_extend ⟨_,e,rfl⟩ F.entry_list_extend (F.args_list_extend_2 _ _) (wR l its.toArray n b its2.toArray n2 dd2 sl2 lng (by rw[H2z];omega) (by omega)) ⟨e,e2,?_⟩;exact⟨.non,_,I.lset hH e (by simp) (r.append r2) (by rw[T1z];omega),rfl,q⟩
theorem wC(G:GoodS cx k X sc)(hN:X.N=U.map (·.1))(hx:(frz F e U).lookup x=some (.ow ds))(ho:ownIn sc x=true)(hp:aK x=true)(hline:(ap.endLine==cp.line)=true)(hz:szl (ds.length+zs.length)=true)(he:ev cx F sc (frz F e U) e=some (.tup zs)) :
  Runs X Hs0 H0 U (.nxt (fL (frz F e U) x (.ow (ds++zs)))) (n6 X (.Expr (.Call (.Attribute (.Name x px) "extend" ap) [e] [] cp) pos)):=by
 have hN':X.N=(frz F e U).map (·.1):=by rw[bK];exact hN
 obtain⟨i,hi,_⟩:=eZ hx
 have nd:((frz F e U).map (·.1)).Nodup:=by rw[<- hN'];exact G.good.nd
 have hpl:=aZ he;intro Y H Hs D h _ hn hr;obtain⟨Hs1,sm1,h1⟩:=h.frozen F e;obtain⟨a,vs,k1,k2,k3,k4,k5⟩:=h1.ow i x ds hi;unfold aK at hp;rw[A3z,M5z,M5z] at hp;refine PS.sem (bW (wI H0z PySem.F.slot_list_extend PySem.F.type_list_extend Kf (m7 (i:=i) (by rw[hN',List.getElem?_map,hi];rfl) ((G.own.own x ho).1.elim .inl λq=>.inr (.inl q)) (by simpa using hp.1) (by simpa using hp.2)) (aB aq aM (aA hpl)) rfl (by rw[aA hpl];rfl) hline (aA hpl) rfl) rfl) ?_;refine⟨_,k1,.inl ⟨rfl,vs,.of k2⟩,?_⟩;refine(d8 cx F G.good hN' he).1 Y H Hs1 _ h1.ext.sub h1.sh λv H' Hs' E r=>?_;obtain⟨b,us,rfl,g1,g2⟩:=cH r;refine⟨a,b,vs,us,rfl,rfl,E.all _ _ k2,E.sub.tup g1,by have:=k3.length;have:=g2.length;have:=jJ hz;omega,?_⟩;exact hn _ _ Hs' _ rfl (sm1.trans E.vis) (by rw[aQ];exact hN') ((h1.step E).app nd hi k1 (aL.append (aL.same E.vis ds vs k3) g2))
theorem Ja(G:GoodS cx k X sc)(hN:X.N=U.map (·.1))(he:ev cx F sc (frz F e U) e=some d)(hc:∀a b c p,e≠.ListComp a b c p):Runs X Hs0 H0 U (.nxt (frz F e U)) (n6 X (.Expr e pos)):=by
 exact λY H Hs D h _ hn hr=>PS.sem (bW aq (kZ he hc)) (Ft G hN he h λv Hs' H' sm h' r=>hn _ _ Hs' H' rfl sm (by rw[bK];exact hN) h')
theorem Kz(hf:∀U s fl,X.N=U.map (·.1)->f U s=some fl->Runs X Hs0 H0 U fl (n6 X s)):∀(l:List Stmt)(U:Rho)(fl:Fl),X.N=U.map (·.1)->lq f l U=some fl->Runs X Hs0 H0 U fl (dW X l)
 |[],U,fl,hN,h=>by
  simp[lq,O2z] at h;subst h;exact λY H Hs D h _ hn hr=>PSs.sem fB (hn _ _ Hs H rfl (.refl _) hN h)
 |s::r,U,fl,hN,h=>by
  obtain⟨fl1,h1,h2⟩:=bw h;intro Y H Hs D hd _ hn hr;refine PSs.sem (aH jK bf) (hf U s fl1 hN h1 Y H Hs _ hd hN (λU' Y' Hs' H' q sm hN' hd'=>?_) λd v Hs' H' q E rr lm'=>?_)
  .subst q
   exact Kz hf r U' fl hN' h2 Y' H' Hs' D hd' hN' (λU2 Y2 Hs2 H2 q2 sm2=>hn U2 Y2 Hs2 H2 q2 (sm.trans sm2)) hr
  .subst q
   cases h2;exact hr d v Hs' H' rfl E rr lm'
theorem N7(G:GoodS cx k X sc)(hN:X.N=U.map (·.1))(hI:evI cx (fM tg) (ev cx F sc (frz F iter U)) sc iter=some l)
  (hf:∀d U1 fl,f d U1=some fl->X.N=U1.map (·.1)->∃U2,d9 sc tg d U1=some U2/\(X.N=U2.map (·.1)->Runs X Hs0 H0 U2 fl (dW X body))) (h:fV f l (frz F iter U)=some fl):Runs X Hs0 H0 U fl (n6 X (.For tg iter body [] pos)):=by
 have hN':X.N=(frz F iter U).map (·.1):=by rw[bK];exact hN
 obtain⟨hI',hp⟩:=Bb G.good (λe d h=>⟨(d8 cx F G.good hN' h).1,aZ h⟩) hI;intro Y H Hs D hd _ hn hr;obtain⟨Hs1,sm1,h1⟩:=hd.frozen F iter;refine PS.sem (G9 G.pass G.good.calm uP lJ bf (iU hp)) (hI' Y H Hs1 _ h1.ext.sub h1.sh λJ H2 Hs2 E2 hJ=>?_)
 let W:Nat->Nat->St->Hp->Prop:=λi m Y H=>m=l.length-i/\i<=l.length/\∃Ui Hsi,Same Hs2 Hsi/\Hd X.K X.lm Hs0 H0 Hsi H Ui Y/\X.N=Ui.map (·.1)/\fV f (l.drop i) Ui=some fl
 refine⟨W,⟨l.length,rfl,D5z _,_,Hs2,.refl _,h1.step E2,hN',by simpa using h⟩,?_⟩;rintro i m Yi Hi ⟨rfl,hi,Ui,Hsi,sm,hdi,hNi,gi⟩;obtain⟨stp,go⟩:=hJ Hsi Hi sm hdi.ext.sub
 by_cases hlt:i<l.length
 .obtain⟨g1,g2⟩:=go i l[i] (List.getElem?_eq_getElem hlt)
  refine .inr ⟨g1,λY' H'=>W (i+1) (l.length-(i+1)) Y' H',λY' H' w=>⟨_,by omega,w⟩,λx H' y=>?_⟩;obtain⟨Hs3,E3,rx⟩:=g2 x H' y;rw[List.drop_eq_getElem_cons hlt] at gi;obtain⟨fl1,b1,b2⟩:=bw gi;obtain⟨U2,c1,c2⟩:=hf _ _ _ b1 hNi;have hd3:=hdi.step E3;refine pF G.good.calm G.own G.good.nd hd3.ext.sub hNi (j8) c1 hd3 rx λY' hN2 p=>?_;refine c2 hN2 Y' H' Hs3 _ p hN2 (λU' Y'' Hs' H'' q sm4 hN3 hd4=>?_) λd v Hs' H'' q E rr lm'=>?_
  .subst q
   exact⟨rfl,hlt,U',Hs',sm.trans (E3.vis.trans sm4),hd4,hN3,b2⟩
  .subst q
   cases b2;exact hr d v Hs' H'' rfl E rr lm'
 .have hi':i=l.length:=by omega
  subst hi';refine .inl ⟨stp,?_⟩;rw[List.drop_length] at gi;simp[fV,O2z] at gi;exact hn Ui Yi Hsi Hi gi.symm (sm1.trans (E2.vis.trans sm)) hNi hdi
end
section
variable{X:Cx}{U:Rho}{cx:Cxt}{k F:Nat}{sc scope:Scope}{Hs0 H0:Hp}{e:Expr}{d:D}
theorem RK{D:Ends}(h:n6 X.nox s D Y H):n6 X s D Y H:=λy0 s0 I=>H5z (h y0 s0 (I.wish _)) (λ_ _ q=>q.unwish) λ_ _ z=>False.elim z
abbrev Cx.pinned(X:Cx)(pn:List (Addr×Obj))(xe:Value->Shared->Prop):Cx:={X with pn:=pn,xe:=xe}
theorem Inv.repin(I:Inv (X.pinned pn xe) y0 Y H s)(h:∀p∈pn'++pins',p∈pn++y0):Inv (X.pinned pn' xe') pins' Y H s :=
 ⟨⟨I.ok.mod,I.ok.kind,I.ok.glob,I.ok.blt,I.ok.above,I.ok.inj,I.ok.has,I.ok.cab,I.ok.hd,I.ok.frames,I.ok.stk,I.ok.exf,I.ok.bs,I.ok.bsz,I.ok.noex,I.ok.exfs,I.ok.funs,I.ok.frf⟩,I.os,I.bare,I.base,I.loc,I.cell,I.free,I.freeC,λp hp=>I.pin p (h p hp),I.hok,I.len⟩
def Gk(rs:Bool)(X:Cx)(Hs0 H0:Hp)(U:Rho)(c:Str)(U':Rho)(t:TS):Prop:=∀Y H Hs D,Hd X.K X.lm Hs0 H0 Hs H U Y->X.N=U.map (·.1) ->
 (∀Y' Hs' H',Same Hs Hs'->X.N=U'.map (·.1)->Hd X.K X.lm Hs0 H0 Hs' H' U' Y'->∃E,EX X c Hs' H' E/\XOk X Y' E/\(rs=true->Cp X Y' E))->t D Y H
theorem Ao(hf:∀U s fl,X.N=U.map (·.1)->f U s=some fl->Runs X.nox Hs0 H0 U fl (n6 X.nox s))(hg:∀U s c U',X.N=U.map (·.1)->g U s=some (c,U')->Gk rs X Hs0 H0 U c U' (n6 X s)) :
  ∀(l:List Stmt)(U:Rho),X.N=U.map (·.1)->lg f g l U=some (c,U')->Gk rs X Hs0 H0 U c U' (dW X l)
 |[],U,hN,h=>by simp[lg] at h
 |s::r,U,hN,h=>by
  simp[lg] at h;intro Y H Hs D hd _ hx;refine PSs.sem (aH jK bf) ?_;split at h
  .rename_i U1 h1
   refine RK (hf U s _ hN h1 Y H Hs _ hd hN (λU2 Y2 Hs2 H2 q sm hN2 hd2=>?_) λd v Hs2 H2 q _ _=>nomatch q);cases q;exact Ao hf hg r U1 hN2 h Y2 H2 Hs2 D hd2 hN2 λY3 Hs3 H3 sm3=>hx Y3 Hs3 H3 (sm.trans sm3)
  .cases h
  .exact hg U s c U' hN h Y H Hs _ hd hN hx
theorem HJ(G:Good cx k X sc)(hN:X.N=U.map (·.1))(he:evx cx F sc (frz F e U) e=some c)(h:Hd X.K X.lm Hs0 H0 Hs H U Y)
  (hx:∀Y' Hs' H',Same Hs Hs'->X.N=(frz F e U).map (·.1)->Hd X.K X.lm Hs0 H0 Hs' H' (frz F e U) Y'->∃E,EX X c Hs' H' E/\XOk X Y' E/\(rs=true->Cp X Y' E)):gZ X e Y H Q:=by
 obtain⟨Hs1,sm1,h1⟩:=h.frozen F e
 have hN':X.N=(frz F e U).map (·.1):=by rw[bK];exact hN
 obtain⟨E,e1,e2,_⟩:=hx Y Hs1 H sm1 hN' h1;exact HN cx F G hN' he Y H Hs1 E h1.ext.sub h1.sh e1 e2 Q
theorem NZ(he:evx cx F sc U e=some c)(hc:cu e=false):swapsWith e t l env=pure false:=by
 cases F with
 |zero=>exact nomatch he
 |succ F =>
  cases e<;>first|rfl|(exact nomatch he)|(exact absurd hc (by simp))
end
mutual
theorem yF(cx:Cxt)(F:Nat):∀(n:Nat){k:Nat}{X:Cx}{sc:Scope}{U:Rho}{s:Stmt}{fl:Fl}{Hs0 H0:Hp},GoodS cx k X sc->X.N=U.map (·.1)->DE.st cx F n sc U s=some fl->Runs X Hs0 H0 U fl (n6 X s)
 |0,k,X,sc,U,s,fl,Hs0,H0,_,_,h=>by simp[DE.st] at h
 |n+1,k,X,sc,U,s,fl,Hs0,H0,G,hN,h=>by
  have block:∀(l:List Stmt)(U:Rho)(fl:Fl),X.N=U.map (·.1)->lq (λU s=>DE.st cx F n sc U s) l U=some fl->Runs X Hs0 H0 U fl (dW X l):=Kz λU s fl hN h=>yF cx F n G hN h
  cases s with
  |Pass pos =>
   simp only[DE.st,O2z] at h;subst h;intro Y H Hs D hd _ hn hr;exact PS.sem Jz (hn _ _ Hs H rfl (.refl _) hN hd)
  |Return v pos =>
   simp only[DE.st] at h
   cases v with
   |none =>
    simp only[O2z] at h;subst h;intro Y H Hs D hd _ hn hr;exact PS.sem Jy (hr .non .non Hs H rfl hd.ext (by simp[Rep]) hd.lmt)
   |some e =>
    simp only[O0z] at h;obtain⟨d,he,rfl⟩:=h;intro Y H Hs D hd _ hn hr;exact PS.sem (cI aq) (Ft G hN he hd λv Hs' H' sm h' r=>hr d v Hs' H' rfl h'.ext r h'.lmt)
  |Assign tgs e pos =>
   simp only[DE.st] at h;split at h
   .split at h
    .rename_i hc
     rw[A3z] at hc;split at h
     .cases h
     .rename_i hoo
      split at h
      .cases h
      .split at h
       .cases h
       .rename_i hno
        split at h
        .cases h
        .simp only[O0z] at h
         obtain⟨d,he,rfl⟩:=h;refine IW G hN hc.1 hc.2 (by cases q:ooE cx sc e with|false=>rfl|true=>exact absurd (show(ooE cx sc e&&true)=true by rw[q];rfl) hoo) (λhf=>?_) he;rw[hf,Bool.true_and] at hno;simpa using hno
    .cases h
   .split at h
    .rename_i hs
     obtain⟨d,he,h⟩:=bw h;obtain⟨l,hl,h⟩:=bw h;simp only[O0z] at h;obtain⟨U',hb,rfl⟩:=h;rcases V3z _ _ |>.mp hs with hs|hs
     .exact N5 G hN hs he hl hb
     .cases hs
    .cases h
   .cases h
  |Expr v pos =>
   simp only[DE.st] at h;split at h
   .rename_i x px m ap e cp
    split at h
    .rename_i ds hx
     split at h
     .rename_i hc
      rw[A3z,A3z] at hc;obtain⟨⟨c1,c2⟩,c4⟩:=hc;split at h
      .rename_i hc2
       rw[A3z] at hc2;simp only[O0z] at h;obtain⟨d,he,rfl⟩:=h
       have em:m="append":=by simpa using hc2.1
       subst em;exact yG G hN hx c1 c2 c4 hc2.2 he
      .split at h
       .rename_i hc3
        obtain⟨d,he,h⟩:=bw h
        have em:m="extend":=by simpa using hc3
        subst em;split at h
        .split at h
         .rename_i hz
          cases h;exact wC G hN hx c1 c2 c4 hz he
         .cases h
        .cases h
       .cases h
     .cases h
    .cases h
   .cases h
   .cases h
   .rename_i h1 h3 h4
    simp only[O0z] at h;obtain⟨d,he,rfl⟩:=h;exact Ja G hN he λa b c p q=>h3 a b c p q
  |If c a b pos =>
   simp only[DE.st] at h;obtain⟨t,h1,h⟩:=bw h;have he:=fK h1;intro Y H Hs D hd _ hn hr;refine PS.sem (mU dG bf bf) (KZ G hN he hd λHs' H' sm h'=>?_)
   cases t with
   |true =>
    simp only[S5z] at h;exact oH (block a _ fl hN h Y H' Hs' D h' hN (λU2 Y2 Hs2 H2 q2 sm2=>hn U2 Y2 Hs2 H2 q2 (sm.trans sm2)) hr)
   |false =>
    simp only[V1z,Q5z] at h;exact mW (block b _ fl hN h Y H' Hs' D h' hN (λU2 Y2 Hs2 H2 q2 sm2=>hn U2 Y2 Hs2 H2 q2 (sm.trans sm2)) hr)
  |For tg iter body orelse pos =>
   simp only[DE.st] at h;split at h
   .obtain⟨l,hI,h⟩:=bw h
    refine N7 G hN hI (λd U1 fl hf hN1=>?_) h;obtain⟨U2,g1,g2⟩:=bw hf;exact⟨U2,g1,λhN2=>block body U2 fl hN2 g2⟩
   .cases h
  |While c body orelse pos =>
   simp only[DE.st] at h;split at h
   .simp at h
   .cases h
  |_=>exact nomatch (show(Option.none:Option Fl)=some fl from h)
theorem GQ(cx:Cxt)(F:Nat):∀(n:Nat){k:Nat}{X:Cx}{sc:Scope}{U:Rho}{s:Stmt}{c:Str}{U':Rho}{Hs0 H0:Hp},GoodS cx k X.nox sc->X.N=U.map (·.1)->DE.stx cx F n sc U s=some (c,U')->Gk cx.rs X Hs0 H0 U c U' (n6 X s)
 |0,k,X,sc,U,s,c,U',Hs0,H0,_,_,h=>by simp[DE.stx] at h
 |n+1,k,X,sc,U,s,c,U',Hs0,H0,G,hN,h=>by
  have GX:Good cx k X sc:=⟨G.good.calm,G.good.room,G.good.sce,G.good.kind,G.good.nd,G.good.cst,G.good.blt,G.good.exs,G.good.fns,G.good.kw⟩
  have block:∀(l:List Stmt)(U:Rho)(c:Str)(U':Rho),X.N=U.map (·.1)->lg (λU s=>DE.st cx F n sc U s) (λU s=>DE.stx cx F n sc U s) l U=some (c,U')->Gk cx.rs X Hs0 H0 U c U' (dW X l):=λl U c U' hN h =>
   Ao (λU s fl hN h=>yF cx F n G hN h) (λU s c U' hN h=>GQ cx F n G hN h) l U hN h
  simp only[DE.stx] at h;split at h
  .split at h
   .split at h
    .split at h
     .split at h
      .split at h
       .skip
        split at h
        .rename_i hc
         cases h;simp only[A3z] at hc;obtain⟨⟨⟨h1,h2⟩,h3⟩,h4⟩:=hc;obtain⟨C,M,e1,_,e2,_⟩:=GX.exs.cls c h3
         have hg:Gl X c:=by
          have e:sc.names.lookup c=some .globalImplicit:=by unfold rY at h2;simpa using h2
          show X.env.scope.names.lookup c=_;rw[GX.sce,e]
         unfold aK at h4;rw[A3z,M5z] at h4;intro Y H Hs D hd _ hx y0 s I;obtain⟨E,x1,x2,x3⟩:=hx Y Hs H (.refl _) hN hd;exact uM I GX.room.hd hg (GX.exs.glob _ _ e1) (by simpa using h4.1) e2 λs2 h' e args I2 hm=>x3 h1 y0 H s2 C e h' args I2 hm (x1 C H Hs e1 (.refl hd.ext.sub))
        .cases h
       .cases h
      .cases h
     .cases h
    .cases h
   .cases h
  .rename_i e pos
   split at h
   .cases h
   .rename_i hfr
    obtain⟨c1,h1,h2⟩:=O0z.mp h;cases h2;intro Y H Hs D hd _ hx;exact PS.sem (bW aq (NZ h1 (by simpa using hfr))) (HJ GX hN h1 hd hx)
  .rename_i e pos
   obtain⟨c1,h1,h2⟩:=O0z.mp h;cases h2;intro Y H Hs D hd _ hx;exact PS.sem (cI aq) (HJ GX hN h1 hd hx)
  .rename_i cc a b pos
   split at h
   .rename_i kk hk
    have he:=fK hk
    have hN':X.N=(frz F cc U).map (·.1):=by rw[bK];exact hN
    intro Y H Hs D hd _ hx;obtain⟨Hs1,sm1,h1⟩:=hd.frozen F cc;refine PS.sem (mU dG bf bf) ((d8 cx F GX hN' he).2 kk rfl Y H Hs1 _ h1.ext.sub h1.sh λH' Hs' E=>?_);have h2:=h1.step E
    cases kk with
    |true=>exact oH (block a _ c U' hN' h Y H' Hs' D h2 hN' λY3 Hs3 H3 sm3=>hx Y3 Hs3 H3 ((sm1.trans E.vis).trans sm3))
    |false=>exact mW (block b _ c U' hN' h Y H' Hs' D h2 hN' λY3 Hs3 H3 sm3=>hx Y3 Hs3 H3 ((sm1.trans E.vis).trans sm3))
   .cases h
  .cases h
end
structure FunAt(K:Zf)(mg:Str->Option Value)(f:Str)(fd:Fd):Prop where
 ex:∃(nm:Str)(t:Stmt)(a:Addr)(g:FuncData),mg f=some (.ref a)/\Fun K nm nm t a g/\Binds K g fd.ps []/\fd.body=aO t/\fd.sc=ao t
 fs:FnScope fd.N fd.ps fd.sc
 nd:(f==("__debug__":Str))=false
structure Text(w:World)(K:Zf)(mg:Str->Option Value)(P:Pg):Prop where
 cst:∀x d,P.cst.lookup x=some d->∃v u,(∀H,Rep K H d v)/\mg x=some u/\RelV v u
 blt:∀x b,P.blt.lookup x=some b->mg x=none/\x=Str.ofString b
 fns:∀f fd,P.defs.lookup f=some fd->FunAt K mg f fd
 exs:XText K mg P.exs P.top
 kw:KnW K w
def VF(ps:List (Str×Str)):D:=.dic (ps.map λp=>.inr p.1) (ps.map λp=>.str p.2)
def dEs(o:Obj):Array DictEntry:=match o.data with|.dict es _=>es|_ => #[]
def dN(o:Obj):Nat:=match o.data with|.dict _ n=>n|_=>0
def isS(x:Str):Value->Bool
 |.str y _=>x==y
 |_=>false
theorem Hv(h:isS x v=true):∃t,v=.str x t:=by
 unfold isS at h;split at h
 .rename_i y t
  have e:x=y:=by simpa using h
  subst e;exact⟨t,rfl⟩
 .cases h
def chk:List (Str×Str)->List DictEntry->Bool
 |[],[]=>true
 |p::r,e::es=>isS p.1 e.key&&isS p.2 e.val&&chk r es
 |_,_=>false
theorem Ie{K:Zf}:∀{ps:List (Str×Str)}{es:List DictEntry},chk ps es=true->∃kvs:List (Key×V),kvs.map (·.1)=ps.map (λp=>Sum.inr p.1)/\aL K H (ps.map λp=>D.str p.2) (kvs.map (·.2))/\Paired (λ(p:Key×V)(e:DictEntry)=>(∃x t,p.1=.inr x/\e.key=.str x t)/\RelV p.2 e.val) kvs es
 |[],[],_=>⟨[],rfl,.nil,.nil⟩
 |p::r,e::es,h=>by
  simp[chk,A3z] at h;obtain⟨⟨h1,h2⟩,h3⟩:=h;obtain⟨kvs,g1,g2,g3⟩:=Ie h3;obtain⟨t,e1⟩:=Hv h1;obtain⟨t',e2⟩:=Hv h2;exact⟨(.inr p.1,.str p.2)::kvs,by simp[g1],.cons (by simp[Rep]) g2,.cons ⟨⟨p.1,t,rfl,e1⟩,⟨t',e2⟩⟩ g3⟩
 |[],_::_,h=>by simp[chk] at h
 |_::_,[],h=>by simp[chk] at h
theorem QD{K:Zf}{ps:List (Str×Str)}{kvs:List (Key×V)}(h:aL K H (ps.map λp=>D.str p.2) (kvs.map (·.2))):aL K H' (ps.map λp=>D.str p.2) (kvs.map (·.2)):=by
 generalize kvs.map (·.2)=vs at h ⊢
 induction ps generalizing vs with
 |nil=>simpa[aL] using h
 |cons p r ih =>
  obtain⟨v,q,h1,h2,h3⟩:=h;exact⟨v,q,h1,by simpa[Rep] using h2,ih _ h3⟩
theorem cD{K:Zf}(X:K.In h)(G:h.Ns mainGlobals mg)(a:Addr)(o:Obj)(e:PySem.W.nsIn K mainGlobals x=some (some (.ref a)))(l:K.lookup a=some o)(ex:o.ExactDict)(hd:o.data=.dict (dEs o) (dN o))(hc:(chk ps (dEs o).toList&&lU (ps.map (·.1)))=true)(hs:(a==sysModules)=false) :
  ∃v u,(∀H,Rep K H (VF ps) v)/\mg x=some u/\RelV v u:=by
 rw[A3z] at hc;obtain⟨kvs,g1,g2,g3⟩:=Ie (H:=λ_=>none) hc.1
 have nd:(kvs.map (·.1)).Nodup:=by
  rw[g1]
  have q:(ps.map λp=>(Sum.inr p.1:Key))=(ps.map (·.1)).map Sum.inr:=by simp
  rw[q];exact List.Pairwise.map _ (λa b hab z=>hab (A5z z)) (gk hc.2)
 refine⟨.ref a,_,λH=>?_,Q4z X G e,rfl⟩;unfold VF;exact⟨a,kvs,rfl,.inr ⟨o,dEs o,dN o,l,ex,hd,hs,nd,g3⟩,g1,QD g2⟩
theorem gK:∀{l:List (Str×α)}{x:Str},(l.map (·.1)).contains x=true->∃a,l.lookup x=some a
 |[],x,h=>by simp at h
 |(y,a)::r,x,h=>by
  rw[U2z]
  cases hb:x==y with
  |true=>exact⟨a,rfl⟩
  |false =>
   refine gK ?_;rw[I4z,List.contains_cons,hb,Bool.false_or] at h;exact h
theorem fZ{K:Zf}(S:FnScope fd.N fd.ps fd.sc)(hl:ds.length=fd.ps.length)(r:aL K H ds vs) :
  fd.N=(bx fd ds).map (·.1)/\(start fd.N vs).length=(bx fd ds).length/\∀(i:Nat)(x:Str)(s:Sl),(bx fd ds)[i]?=some (x,s)->(s=.no\/∃d v,s=.sh d/\(start fd.N vs)[i]?=some (some v)/\Rep K H d v):=by
 have lv:=r.length
 have lz:(fd.ps.zip (ds.map Sl.sh)).length=fd.ps.length:=by rw[Z3z,K3z];omega
 refine⟨?_,?_,λi x s e=>?_⟩
 .unfold bx
  rw[X3z,Z4z,List.map_fst_zip (by rw[K3z];omega)]
  have:(fd.N.drop fd.ps.length).map ((λp:Str×Sl=>p.1)∘λx=>(x,Sl.no))=fd.N.drop fd.ps.length:=by
   rw[show((λp:Str×Sl=>p.1)∘λx=>(x,Sl.no))=id from rfl,G5z]
  rw[this]
  conv=>lhs;rw[<- List.take_append_drop fd.ps.length fd.N,S.pre]
 .unfold start bx
  simp;omega
 .unfold bx at e
  by_cases hi:i<fd.ps.length
  .rw[List.getElem?_append_left (by rw[lz];exact hi),List.getElem?_zip_eq_some] at e
   obtain⟨_,e2⟩:=e;rw[List.getElem?_map] at e2;obtain⟨d,e3,rfl⟩:=O0z.mp e2;obtain⟨v,g1,g2⟩:=r.get e3;refine .inr ⟨d,v,rfl,?_,g2⟩;unfold start;rw[List.getElem?_append_left (by rw[K3z];omega),List.getElem?_map,g1];rfl
  .rw[List.getElem?_append_right (by rw[lz];omega),List.getElem?_map] at e
   obtain⟨y,_,e3⟩:=O0z.mp e;cases e3;exact .inl rfl
section
variable{P:Program}{w:World}{K:Zf}{mg:Str->Option Value}{base:Heap}{T:Pg}{F:Nat}
abbrev vR(c:Str->List D->Option Rs):Str->List D->Option D:=λf ds=>Rs.val? (c f ds)
abbrev xR(c:Str->List D->Option Rs):Str->List D->Option Str:=λf ds=>Rs.exc? (c f ds)
theorem iJ(h:Rs.val? o=some d):o=some (.val d):=by
 unfold Rs.val? at h;split at h
 .cases h;rfl
 .cases h
theorem jh(h:Rs.exc? o=some c):o=some (.exc c):=by
 unfold Rs.exc? at h;split at h
 .cases h;rfl
 .cases h
theorem gP(hf:T.defs.lookup f=some fd):∀ds r,aR T F k f ds=some r->ds.length=fd.ps.length:=by
 intro ds d h
 cases k with
 |zero=>simp[uf] at h
 |succ k =>
  simp only[mL,hf] at h;split at h
  .rename_i hl;simpa using hl
  .cases h
theorem Fun.okX{st:Stmt}(F:Fun K x qual st f fd)(S:FnScope N ps (ao st))(len:∀vs H Q E,sp vs H Q E->vs.length=ps.length)
  (hbody:∀(cdv:Value)(A:Around)(outer:List Env)(s:Shared)(H:Hp)(vs:List V)(Q:VK)(E:XK), Room k (A.deeper (envOfC qual (ao st) s.heap.objs.size f cdv))->sp vs H Q E ->
   ∃t,PSs (gW (CX1 P w) P w K mg base N qual (ao st) f cdv A outer s H E) (aO st) t/\t {nx:=λ_ H'=>Q .non H',rt:=Q} (start N vs) H):FnOk P w K mg base (CX1 P w) (k+1) f fd ps sp:=by
 obtain⟨oc,od,kV,doc,pm,an,cdv,ct,osl,rfl,lk,hcd⟩:=F.ex;exact KQ lk hcd S len λA outer s H vs Q E hr hsp=>hbody cdv A outer s H vs Q E hr hsp
theorem Ck(X:Text w K mg T):∀(k:Nat)(nm f:Str)(fd:Fd)(t:Stmt)(a:Addr)(g:FuncData),T.defs.lookup f=some fd->Fun K nm nm t a g->fd.body=aO t->fd.sc=ao t->FnScope fd.N fd.ps fd.sc->FnOk P w K mg base (CX1 P w) k a g fd.ps (spX K (vR (aR T F k)) (xR (aR T F k)) f fd.ps)
  |0,nm,f,fd,t,a,g,hf,Fn,hb,hs,S=>by
    refine⟨λvs H Q E h=>h.1,λA outer s H args us vs Q E _ _ _ _ h=>?_⟩
    obtain⟨_,Hs,ds,_,_,⟨d,hc,_⟩|⟨c,hc,_⟩⟩:=h
    . have:=iJ hc;simp[uf] at this
    . have:=jh hc;simp[uf] at this
  |k+1,nm,f,fd,t,a,g,hf,Fn,hb,hs,S=>by
    refine Fun.okX Fn (by rw[<- hs];exact S) (λvs H Q E h=>h.1) λcdv A outer s H vs Q E hr h=>?_
    obtain⟨hlv,Hs,ds,hsm,rl,hcase⟩:=h
    have hld:ds.length=fd.ps.length:=by
      obtain⟨d,hc,_⟩|⟨c,hc,_⟩:=hcase
      . exact gP hf ds _ (iJ hc)
      . exact gP hf ds _ (jh hc)
    have unf:aR T F (k+1) f ds=rE (T.cx (aR T F k)) F fd.sc fd.body (bx fd ds):=by
      simp only[mL,hf]
      rw[T5z (by simpa using hld)]
    obtain⟨s1,s2,s3⟩:=fZ S hld rl
    refine⟨dW _ (aO t),bf,?_⟩
    have G:GoodS (T.cx (aR T F k)) k (gW (CX1 P w) P w K mg base fd.N nm (ao t) a cdv A outer s H E).nox fd.sc :=
      { good := { calm := rfl, room := hr, sce := hs.symm, kind := S.kind, nd := S.nd, cst := X.cst, blt := X.blt, exs := X.exs, kw := X.kw
                  fns:=λf' hf'=>by
                    obtain⟨fd',hl'⟩:=gK hf'
                    have FA:=X.fns f' fd' hl'
                    obtain⟨nm',t',a',g',m1,m2,m3,m4,m5⟩:=FA.ex
                    exact⟨FA.nd,a',g',fd'.ps,λds d h=>gP hl' ds _ (iJ h),λds c h=>gP hl' ds _ (jh h),m1,m2.kp,m3,Ck X k nm' f' fd' t' a' g' hl' m2 m4 m5 FA.fs⟩ }
        own:=⟨λx hx=>⟨by
          unfold ownIn at hx
          rw[V3z] at hx
          show(ao t).names.lookup x=_\/(ao t).names.lookup x=_
          rw[<- hs]
          exact hx.imp (λq=>by simpa using q) (λq=>by simpa using q),.inl rfl⟩⟩
        pass:=PassesOwn.never
        stk:=⟨rfl,rfl⟩ }
    have noow:∀(i:Nat)(x:Str)(ds':List D),(bx fd ds)[i]?=some (x,.ow ds')->False:=λi x ds' e=>by
      obtain q|⟨d',v,q,q1,q2⟩:=s3 i x _ e
      . cases q
      . cases q
    have hd:Hd K none Hs H Hs H (bx fd ds) (start fd.N vs):=by
      refine⟨.refl hsm,s2,λi x d e=>?_,λi x ds' e=>(noow i x ds' e).elim,λi j x y ds' es a' _ e=>(noow i x ds' e).elim,(λi x dss e=>by
        obtain q|⟨d',v,q,q1,q2⟩:=s3 i x _ e
        . cases q
        . cases q),λp hp=>nomatch hp⟩
      obtain q|⟨d',v,q,q1,q2⟩:=s3 i x _ e
      . cases q
      . cases q
        exact⟨v,q1,q2⟩
    obtain⟨d,hc,hq⟩|⟨c,hc,hq⟩:=hcase
    . have hc':=iJ hc
      rw[unf] at hc'
      unfold rE at hc'
      intro y0 s0 I
      have fin:∀fl,lq (λU s=>DE.st (T.cx (aR T F k)) F F fd.sc U s) fd.body (bx fd ds)=some fl->(match fl with|.ret d'=>d'=d|.nxt _=>d=.non)->dW (gW (CX1 P w) P w K mg base fd.N nm (ao t) a cdv A outer s H E).nox (aO t) {nx:=λ_ H'=>Q .non H',rt:=Q} (start fd.N vs) H:=by
        intro fl hg hfl
        rw[hb] at hg
        refine Kz (λU s fl hN h=>yF _ F F G hN h) (aO t) (bx fd ds) fl s1 hg (start fd.N vs) H Hs _ hd s1 (λU' Y' Hs' H' q _ _ hd'=>?_) λd' v Hs' H' q E' r _=>?_
        . subst q
          subst hfl
          exact hq .non H' Hs' hd'.ext (by simp[Rep])
        . subst q
          subst hfl
          exact hq v H' Hs' E' r
      have key:dW (gW (CX1 P w) P w K mg base fd.N nm (ao t) a cdv A outer s H E).nox (aO t) {nx:=λ_ H'=>Q .non H',rt:=Q} (start fd.N vs) H:=by
        split at hc'
        . rename_i d' hg;cases hc';exact fin _ hg rfl
        . rename_i U' hg;cases hc';exact fin _ hg rfl
        . split at hc'<;>cases hc'
      exact H5z (key y0 s0 (I.wish _)) (λ_ _ q=>q.unwish) λ_ _ z=>False.elim z
    . have hc':=jh hc
      rw[unf] at hc'
      unfold rE at hc'
      split at hc'
      . cases hc'
      . cases hc'
      . split at hc'
        . rename_i c' U' hg
          cases hc'
          rw[hb] at hg
          refine Ao (λU s fl hN h=>yF _ F F G hN h) (λU s c U' hN h=>GQ _ F F G hN h) (aO t) (bx fd ds) s1 hg (start fd.N vs) H Hs _ hd s1 λY1 Hs1 H1 _ _ hd1=>?_
          refine⟨E,λC H2 Hs2 q E2=>hq C H2 Hs2 q (hd1.ext.trans E2),λy0 H2 s2 e s3 I2 hcx=>aP y0 Y1 H2 s2 e s3 I2 hcx,λ_ y0 H2 s2 C e h' args I2 hm hE=>mZ I2 hm hE⟩
        . cases hc'
end
end L2
namespace L2
open PySem PySem.Spec PyProof.Rows DE
section
variable{P:Program}{w:World}{K:Zf}{mg:Str->Option Value}{base:Heap}{N:List Str}{qual:Str}{scope:Scope}{f:Addr}{cd:Value}{cl:List (Str×Addr)}{A:Around}{outer:List Env}{s:Shared}{H:Hp}{E:XK}
theorem DW:Passes (CX1 P w) (qR (CX1 P w) P w K mg base N qual scope f cd cl A outer s H E) E:=by
 intro y0 Y H1 s1 e s' I h;obtain⟨ea,cls,H',rfl,Fl,hn,hE⟩:=h;obtain⟨B,a0,fl,hokB,kB,tB⟩:=Fl.fly;have hfr:frs (qR (CX1 P w) P w K mg base N qual scope f cd cl A outer s H E).stack=s.heap.objs.size::frs outer:=oN rfl;have nL:∀b o,s.heap.get? b=some o->b≠s.heap.objs.size:=λb o q=>S4z (R4z q)
 have nin:∀b o,s.heap.get? b=some o->b∉frs outer->b∉frs (qR (CX1 P w) P w K mg base N qual scope f cd cl A outer s H E).stack:=λb o q hb z=>by
  obtain z|z:=P4z.mp z
  .exact nL b o q z
  .exact hb z
 have noex:∀b:Addr,b∉(qR (CX1 P w) P w K mg base N qual scope f cd cl A outer s H E).ex:=λb z=>absurd (show b∈([]:List Addr) from z) (by simp);refine wpAny_leaves_onW I.ok.frames rfl fl λh2 fl2 up=>?_;refine⟨ea,cls,H',rfl,⟨Fl.os.trans I.os,Fl.bare,?_,⟨B,a0,fl2,hokB,λb o q n hb=>?_,λb o q hb=>?_⟩,?_⟩,hn,hE⟩
 .have U1:=Un.fly Fl.un kB tB fl2.1 (zO fl.2.2.1) up
  exact((I.base.mono (λb hb=>by rw[hfr];exact X0z _ hb) (λb hb=>hb)).trans U1).restrict λb o hb q=>by
   obtain z|z:=P4z.mp hb
   .exact absurd z (nL b o q)
   .exact z
 .exact kB b o (I.base.keep b o q n hb (noex b)) (I.base.free b o q n (noex b)) (nin b o q hb)
 .obtain⟨o1,q1⟩:=I.base.there b o q (noex b)
  exact tB b o1 q1 (nin b o q hb)
 .cases q:s.heap.get? ea with
  |none=>rfl
  |some o =>
   obtain⟨o1,q1⟩:=I.base.there ea o q (noex ea);rw[Fl.fresh] at q1;cases q1
end
section
variable{P:Program}{w:World}{K:Zf}{mg:Str->Option Value}{base:Heap}{T:Pg}{F k:Nat}
def spL(K:Zf)(Hs0:Hp)(c:Str):Sp:=λvs H Q E=>vs=[]/\Same Hs0 H/\∀C H' Hs',W.nsIn K mainGlobals c=some (some (.ref C))->Ext Hs0 H Hs' H'->E (.ref C) none H'
end
end L2
namespace L2
open PySem PySem.Spec PyProof.Rows DE PySem.SeqAt
structure GoodC(cx:Cxt)(X:Cx)(sc:Scope):Prop where
 un:X.A.units+100<cLine
 sce:X.env.scope=sc
 nd:X.N.Nodup
 blt:∀x b,cx.blt.lookup x=some b->X.mg x=none/\x=Str.ofString b
 exs:XText X.K X.mg cx.exs cx.top
def evC(cx:Cxt):Nat->Scope->Rho->Expr->Option D
 |0,_,_,_=>none
 |n+1,sc,U,e=>match e with
  |.Name x _=>if aK x&&sc.names.lookup x==some .local then(match U.lookup x with|some (.sh d)=>some d|_=>none) else none
  | .Constant c _ _=>(match c with
    |.none=>some .non
    |.bool b=>some (.bl b)
    |.int i=>some (.int i)
    |.str x=>some (.str x)
    | _=>none)
  |.BinOp a op b _=>do let x <- evC cx n sc U a;let y <- evC cx n sc U b;binop op x y
  | .UnaryOp op a _=>(match op with
   |.Not=>do let x <- evC cx n sc U a;(asB x).map λb=>.bl (!b)
   | _=>none)
  |.BoolOp op es _=>cR op (evC cx n sc U) es
  | .Compare a ops bs _=>(match ops,bs with
   | [op],[b]=>(match op with
    |.NotEq=>do let i <- (evC cx n sc U a).bind asI;let j <- (evC cx n sc U b).bind asI;some (.bl (!(i==j)))
    | _=>none)
   | _,_=>none)
  |.List es _=>do let ds <- jZ (evC cx n sc U) es;if szl ds.length then some (.lst ds) else none
  |.Subscript a b _=>do let x <- evC cx n sc U a;let i <- (evC cx n sc U b).bind asI;let xs <- items x;atD xs i
  | .Call f args ks p=>if ks.isEmpty then(match f with
   | .Name x _=>(match args with
    |[a,t]=>if cg cx sc x==some "isinstance" then do
      let d <- evC cx n sc U a
      match d with
      | .exc c=>if cx.exs.contains c then(match xOf cx sc t with
       |some c'=>some (.bl (xM cx.top c c'))
       | none=>if tyOf cx sc t==some "ValueError" then some (.bl true) else none) else none
      |_=>none
     else none
    | _=>none)
   | .Attribute o m ap=>(match o with
    | .Name y py=>(match args with
     |[e]=>if ap.endLine==p.line then do
       let x <- evC cx n sc U (.Name y py)
       let z <- evC cx n sc U e
       sX m x z
      else none
     | _=>none)
    | _=>none)
   | _=>none) else none
  |_=>none
section
variable{X:Cx}{U:Rho}{cx:Cxt}{k:Nat}{sc:Scope}
theorem dI:∀{n:Nat}{U:Rho}{e:Expr}{d:D},evC cx n sc U e=some d->aJ e=true
 |0,_,_,_,h=>by simp[evC] at h
 |n+1,U,e,d,h=>by
  unfold evC at h
  cases e<;>first|rfl|(simp at h;done)
theorem BP(G:GoodC cx X sc)(h:cg cx sc x=some b):Gl X x/\X.mg x=none/\x=Str.ofString b:=by
 unfold cg rY at h;split at h
 .rename_i hg
  have e:sc.names.lookup x=some .globalImplicit:=by simpa using hg
  obtain⟨h1,h2⟩:=G.blt x b h;exact⟨by show X.env.scope.names.lookup x=_;rw[G.sce,e],h1,h2⟩
 .cases h
theorem tE(G:GoodC cx X sc)(hx:cg cx sc x=some "isinstance")(hc:cx.exs.contains c=true)(ht:PE X t (tC cv))(hpt:aJ t=true)(hcv:∀u,RelV cv u->u=cw)
  (hk:∀C,W.nsIn X.K mainGlobals c=some (some (.ref C))->W.kitOne X.K (.ref C) cw=some b) (ha:Ev X U a (.exc c)) (hp:aJ a=true):Ev X U (.Call (.Name x p) [a,t] [] pos) (.bl b):=by
 obtain⟨hg,hm,rfl⟩:=BP G hx;obtain⟨C,M,e1,_,_,e2,_⟩:=G.exs.cls c hc;intro Y H Hs Q hs hst hq;refine(bY (rC e2 hcv (hk C e1)) hg hm rfl (aB aq (aB ht aM (aA hpt)) (aA hp)) (by decide) rfl (aA hp) (by rw[aA hpt];rfl)).sem ?_;refine ha Y H Hs _ hs hst λv H1 Hs1 E1 r1=>?_;have r2:=Rep.same E1.sub _ v r1;obtain⟨a0,C0,rfl,f1,f2⟩:=r2;rw[e1] at f1;cases f1;exact⟨a0,rfl,f2,hq _ H1 Hs1 E1 (by simp[Rep])⟩
theorem Ho(hu:X.A.units<cLine):OpR X (compareOp .NotEq) (λu v H Q=>∃i j,u=.int i/\v=.int j/\Q (.bl (!(i==j))) H):=by
 intro y0 s Y H u v w z Q I ru rv h;obtain⟨i,j,rfl,rfl,q⟩:=h;exact(pq (d:=.int i) (d':=.int j) I X.A (by simp[Rep]) (by simp[Rep]) ru rv (by simp[dep];omega) (by simp[dep]) (by simp[dep]) rfl).2 _ _ _ _ ⟨.bl _,H,I,rfl,q⟩
theorem qL(G:GoodC cx X sc)(hN:X.N=U.map (·.1)):∀(n:Nat){e:Expr}{d:D},evC cx n sc U e=some d->Ev X U e d/\∀b,d=.bl b->EvT X U e b
 |0,e,d,h=>by simp[evC] at h
 |n+1,e,d,h=>by
  have ih:∀e d,evC cx n sc U e=some d->Ev X U e d/\∀b,d=.bl b->EvT X U e b:=λe d h=>qL G hN n h;have ihp:∀e d,evC cx n sc U e=some d->Ev X U e d/\aJ e=true:=λe d h=>⟨(ih e d h).1,dI h⟩;have val:∀{e d},(∀whole,isTrue e X.env whole=(do let v <- whole;standAt e.pos;holding [v] (truthy v)))->Ev X U e d->Ev X U e d/\∀b,d=.bl b->EvT X U e b:=λhe h1=>⟨h1,λb hb=>by subst hb;exact Az h1 he⟩;simp only[evC] at h;split at h
  .split at h
   .rename_i hp
    rw[A3z] at hp;split at h
    .rename_i d' hl
     cases h;exact val (λ_=>rfl) (Aw hN (.inl (by rw[G.sce];simpa using hp.2)) hp.1 hl)
    .cases h
   .cases h
  .exact val (λ_=>rfl) (vq h)
  .obtain⟨x,h1,h⟩:=bw h
   obtain⟨y,h2,h⟩:=bw h;exact val (λ_=>rfl) (vA (ih _ _ h1).1 (ih _ _ h2).1 h)
  .split at h
   .obtain⟨x,h1,h⟩:=bw h
    obtain⟨b,h2,rfl⟩:=O0z.mp h
    cases x<;>simp[asB] at h2
    subst h2;refine⟨HW (ih _ _ h1).1,λc hc=>?_⟩;cases hc;exact Ba ((ih _ _ h1).2 _ rfl)
   .cases h
  .obtain⟨h1,h2⟩:=mF (λe _ d hd=>ih e d hd) h
   exact⟨h1,λb hb=>(h2 b hb).t⟩
  .split at h
   .split at h
    .obtain⟨i,h1,h⟩:=bw h
     obtain⟨j,h2,h⟩:=bw h;cases h;have h1':=gR h1;have h2':=gR h2
     have hu:X.A.units<cLine:=by have:=G.un;omega
     refine⟨fP (ih _ _ h1').1 (ih _ _ h2').1 (zA (Ho hu) aq aq (dB (dI h2'))) λu v H Hs Q hs r1 r2 hq=>⟨i,j,aY r1,aY r2,hq _ H Hs (.refl hs) (by simp[Rep])⟩,λc' hc' Y H Hs Q hs hst hq=>?_⟩;cases hc';exact(ou (Ho hu) aq aq (dB (dI h2'))).sem ((ih _ _ h1').1 Y H Hs _ hs hst λu H1 Hs1 E1 r1=>(ih _ _ h2').1 Y H1 Hs1 _ E1.sub (hst.same E1.vis) λv H2 Hs2 E2 r2=>⟨i,j,aY r1,aY r2,_,rfl,hq H2 Hs2 (E1.trans E2)⟩)
    .cases h
   .cases h
  .obtain⟨ds,h1,h⟩:=bw h
   split at h
   .rename_i hz
    cases h;exact val (λ_=>rfl) (Ax (dY (λe _ d hd=>ihp e d hd) h1).1 hz)
   .cases h
  .obtain⟨x,h1,h⟩:=bw h
   obtain⟨i,h2,h⟩:=bw h;obtain⟨us,h3,h⟩:=bw h;have h2':=gR h2;exact val (λ_=>rfl) (oR (ih _ _ h1).1 (ih _ _ h2').1 (dI h2') h3 h)
  .split at h
   .rename_i hks
    cases E3z.mp hks;split at h
    .split at h
     .split at h
      .rename_i hb
       have hx:=eq_of_beq hb;obtain⟨d1,h1,h⟩:=bw h;split at h
       .rename_i c
        split at h
        .rename_i hc
         refine val (λ_=>rfl) ?_;split at h
         .rename_i c' hxo
          cases h;obtain⟨pt,rfl,hgl,hin,hd⟩:=Gq hxo
          have hg:Gl X c':=by
           have e:sc.names.lookup c'=some .globalImplicit:=by unfold rY at hgl;simpa using hgl
           show X.env.scope.names.lookup c'=_;rw[G.sce,e]
          by_cases htop:c'=cx.top
          .subst htop
           obtain⟨C,M,e1,e2,_,_,_,e3,_⟩:=G.exs.cls c hc
           have:xM cx.top c cx.top=true:=by unfold xM;simp
           rw[this];refine tE (cv:=.ref M) G hx hc (lM hg (G.exs.glob _ _ e2) rfl hd) rfl (λu r=>r) (λC' e=>?_) (ih _ _ h1).1 (dI h1);rw[e] at e1;cases e1;exact e3
          .obtain⟨C,C',e1,e2,e3⟩:=G.exs.sub c c' hc (hin.resolve_right htop)
           have:xM cx.top c c'=(c==c'):=by
            unfold xM
            have:(c'==cx.top)=false:=by simpa using htop
            rw[this,Bool.or_false]
           rw[this];refine tE (cv:=.ref C') G hx hc (lM hg (G.exs.glob _ _ e2) rfl hd) rfl (λu r=>r) (λC'' e=>?_) (ih _ _ h1).1 (dI h1);rw[e] at e1;cases e1;exact e3
         .split at h
          .rename_i ht
           cases h;obtain⟨t,pt,rfl,ht'⟩:=xW (eq_of_beq ht);obtain⟨hg2,hm2,rfl⟩:=BP G ht';refine tE (cv:=.ty "ValueError") G hx hc (sJ hg2 hm2 rfl rfl) rfl (λu r=>r) (λC e=>?_) (ih _ _ h1).1 (dI h1);obtain⟨C',M,e1,_,_,_,_,_,e2⟩:=G.exs.cls c hc;rw[e] at e1;cases e1;exact e2
          .cases h
        .cases h
       .cases h
      .cases h
     .cases h
    .split at h
     .split at h
      .split at h
       .rename_i hl
        obtain⟨x,h1,h⟩:=bw h;obtain⟨z,h2,h⟩:=bw h;exact val (λ_=>rfl) (Fw (ih _ _ h1).1 (ih _ _ h2).1 (dI h2) hl h)
       .cases h
      .cases h
     .cases h
    .cases h
   .cases h
  .cases h
def runC(cx:Cxt)(F:Nat)(sc:Scope):List Stmt->Rho->Option D
 |[],_=>none
 |s::r,U=>match s with
  | .Assign ts e _=>(match ts with
   | [t]=>(match t with
    | .Name x _=>if sc.names.lookup x==some .local&&(U.map (·.1)).contains x then(match e with
     |.ListComp .. =>none
     | e=>(evC cx F sc U e).bind λd=>runC cx F sc r (fL U x (.sh d))) else none
    | _=>none)
   | _=>none)
  | .If c a b _=>(match a,b with
   | [s],[]=>(match s with
    | .Return v _=>(match v with
     |some e=>((evC cx F sc U c).bind asB).bind λb=>if b then evC cx F sc U e else runC cx F sc r U
     | none=>none)
    | _=>none)
   | _,_=>none)
  | .Return v _=>(match v with
   |some e=>evC cx F sc U e
   | none=>none)
  |_=>none
theorem wG{K:Zf}(h:bL K Hs U Y)(hn:(U.map (·.1)).Nodup)(hi:(U.map (·.1))[i]?=some x)(hl:Y.length=U.length)(r:Rep K Hs d v):bL K Hs (fL U x (.sh d)) (Y.set i (some v)):=λj y d' e=>by
 have li:i<Y.length:=by have:=(List.getElem?_eq_some_iff.mp hi).1;rw[hl];simpa using this
 rw[cB hn hi j] at e;split at e
 .rename_i hj
  subst hj;cases e;exact⟨v,by rw[List.getElem?_set_self li],r⟩
 .rename_i hj
  obtain⟨v',q1,q2⟩:=h j y d' e;exact⟨v',by rw[List.getElem?_set_ne (λz=>hj z.symm)];exact q1,q2⟩
theorem sH(G:GoodC cx X sc):∀(l:List Stmt){U:Rho}{d:D}{Y:St}{H Hs:Hp}{D:Ends},X.N=U.map (·.1)->Y.length=U.length->Same Hs H->bL X.K Hs U Y->runC cx F sc l U=some d->(∀v H' Hs',Ext Hs H Hs' H'->Rep X.K Hs' d v->D.rt v H')->dW X l D Y H
 |[],U,d,Y,H,Hs,D,hN,hl,hs,hst,h,hq=>by simp[runC] at h
 |s::r,U,d,Y,H,Hs,D,hN,hl,hs,hst,h,hq=>by
  have nd:(U.map (·.1)).Nodup:=by rw[<- hN];exact G.nd
  simp[runC] at h;split at h
  .split at h
   .split at h
    .rename_i e pos _ _ x px
     split at h
     .rename_i hx
      rw[A3z] at hx
      have lx:sc.names.lookup x=some .local:=by simpa using hx.1
      obtain⟨i,hi⟩:∃i:Nat,(U.map (·.1))[i]?=some x:=List.mem_iff_getElem?.mp (by simpa using hx.2)
      have hlx:X.env.scope.names.lookup x=some .local:=by rw[G.sce];exact lx
      have go:∀d1,evC cx F sc U e=some d1->(∀a b c p,e≠.ListComp a b c p)->runC cx F sc r (fL U x (.sh d1))=some d->dW X (.Assign [.Name x px] e pos::r) D Y H:=λd1 he hne hr=>by
       refine PSs.sem (aH (g8 G.nd (by rw[hN];exact hi) (.inl hlx) aq ?_ (.inr hlx)) bf) ?_
       .cases e<;>first|rfl|exact absurd rfl (hne _ _ _ _)|(simp at he;done)|(cases F<;>simp[evC] at he;done)
       .exact(qL G hN F he).1 Y H Hs _ hs hst λv H1 Hs1 E1 r1=>sH G r (by rw[aQ];exact hN) (by rw[A4z,hl];have:=congrArg List.length (aQ U x (.sh d1));simpa using this.symm) E1.sub (wG (hst.same E1.vis) nd hi hl r1) hr λv' H2 Hs2 E2 r2=>hq v' H2 Hs2 (E1.trans E2) r2
      split at h
      .cases h
      .rename_i hne
       obtain⟨d1,h1,h2⟩:=Option.bind_eq_some_iff.mp h;exact go d1 h1 (λa b c p z=>hne a b c p z) h2
     .cases h
    .cases h
   .cases h
  .split at h
   .split at h
    .split at h
     .obtain⟨b,h1,h⟩:=Option.bind_eq_some_iff.mp h
      refine PSs.sem (aH (mU dG (aW (cI aq)) fB) bf) ?_;refine(qL G hN F (fK h1)).2 b rfl Y H Hs _ hs hst λH1 Hs1 E1=>?_
      cases b with
      |true =>
       exact oH ((qL G hN F h).1 Y H1 Hs1 _ E1.sub (hst.same E1.vis) λv H2 Hs2 E2 r2=>hq v H2 Hs2 (E1.trans E2) r2)
      |false =>
       exact mW (sH G r hN hl E1.sub (hst.same E1.vis) h λv' H2 Hs2 E2 r2=>hq v' H2 Hs2 (E1.trans E2) r2)
     .cases h
    .cases h
   .cases h
  .split at h
   .exact PSs.sem (aH (cI aq) bf) ((qL G hN F h).1 Y H Hs _ hs hst λv H2 Hs2 E2 r2=>hq v H2 Hs2 E2 r2)
   .cases h
  .cases h
end
end L2
namespace L2
open PySem PySem.Spec PyProof.Rows
abbrev Cx.unc(X:Cx):Cx:={X with calm:=false}
structure RoomS(k:Nat)(A:Around):Prop where
 dp:A.depth+3*k+5<recursionLimit
 un:A.units+16*k+200<cLine
theorem RoomS.deeper(r:RoomS (k+1) A)(env:Env):RoomS k (A.deeper env) :=
 ⟨by have:=r.dp;show A.depth+1+3*k+5<_;omega,by have:=r.un;show A.units+3+16*k+200<_;omega⟩
theorem RoomS.depth(r:RoomS k A):A.depth<recursionLimit:=by have:=r.dp;omega
structure FnS(P:Program)(w:World)(K:Zf)(mg:Str->Option Value)(base:Heap)(CX:CXT)(k:Nat)(f:Addr)(fd:FuncData)(ps:List Str)(sp:Sp):Prop where
 len:∀vs H Q E,sp vs H Q E->vs.length=ps.length
 run:∀(A:Around)(outer:List Env)(s:Shared)(H:Hp)(args:Args)(us:List Value)(vs:List V)(Q:VK)(E:XK),RoomS k A->Env0 P w K mg base A outer s H->BindsTo s fd args (ps.zip us)->Vals vs us->sp vs H Q E ->
  codeAny (model P w) A (.call (.ref f) args) (CR CX outer P w H s Q E) s
theorem Qm{K:Zf}{dV kV doc pm cdv ct oc:Value}
       (lk:K.lookup f=some ⟨oc,od,.func (W.fnOf name qual params body scope dV kV doc pm an cdv ct),osl⟩) (hcd:W.codeIn K cdv qual=true) (S:FnScope N ps scope)
    (len:∀vs H Q E,sp vs H Q E->vs.length=ps.length)
    (hbody:∀(A:Around)(outer:List Env)(s:Shared)(H:Hp)(vs:List V)(Q:VK)(E:XK),RoomS k (A.deeper (envOfC qual scope s.heap.objs.size f cdv))->sp vs H Q E ->
      ∃t,PSs (gW CX P w K mg base N qual scope f cdv A outer s H E).unc body t/\t {nx:=λ_ H'=>Q .non H',rt:=Q} (start N vs) H) :
    FnS P w K mg base CX (k+1) f (W.fnOf name qual params body scope dV kV doc pm an cdv ct) ps sp:=by
  refine⟨len,λA outer s H args us vs Q E hr e0 hb r hsp=>?_⟩
  have hl:=len _ _ _ _ hsp
  have KX:=e0.mod.kin.keeps λb o e=>(e0.bs b o e).1
  have hkind:∀y∈ps.zip us,scope.names.lookup y.1=some .local\/(scope.names.lookup y.1=some .cell/\((cellsFrom (s.heap.objs.size+1) scope.names []).lookup y.1).isSome=true):=λ⟨n,v⟩ hy=>by
    rcases S.par n (M3z hy).1 with q|q
    . exact .inl q
    . exact .inr ⟨q,L0z _ _ _ (.inl q)⟩
  refine codeAny_call_function hr.depth (KX _ _ lk) rfl S.co S.gen rfl (W.codeRec_of KX hcd) (hb _ _ _ _ ?_)
  refine wpAny_newFunctionEnv_cells S.kind hkind λenv he s1 x=>?_
  subst he
  refine⟨(e0.mod.nolimit.keeps λb o e=>(e0.bs b o e).1).keeps x.toInCall.keep,codeAny_func ?_⟩
  obtain⟨t,ht,hq⟩:=hbody A outer s H vs Q E (hr.deeper _) hsp
  refine H5z (ht [] s1 (start N vs) H _ (nj (c:=false) S (λz=>nomatch z) e0 hl r x) hq) (λfl s' hs=>?_) λe s' hs=>hs
  have fin:∀{Y':St}{H':Hp}{v:V}{u:Value},Inv (gW CX P w K mg base N qual scope f cdv A outer s H E).unc [] Y' H' s'->RelV v u->Q v H'->CE outer P w H s Q u s' :=
    λ{Y' H' v u} J rv q=>⟨v,H',J.os,J.bare,J.base,J.hok,rv,q⟩
  cases fl with
  |ret u =>
    obtain⟨v,Y',H',J,rv,q⟩:=hs
    exact fin J rv q
  |next =>
    obtain⟨Y',H',J,q⟩:=hs
    exact fin (v:=V.non) J rfl q
  |brk =>
    obtain⟨_,_,_,q⟩:=hs
    exact False.elim q
  |cont =>
    obtain⟨_,_,_,q⟩:=hs
    exact False.elim q
section
variable{X:Cx}{y0:List (Addr×Obj)}{Y:St}{H H':Hp}{s s':Shared}{ea C:Addr}
theorem Lq(I:Inv X y0 Y H s)(Fl:Fly X.prog X.w X.stack H s H' ea (.ref C) s')(hn:H' ea=none)(hst:X.stack=X.env::X.outer/\X.env.frame=some X.env.locals)
  (hg:Gl X c) (hm:X.mg c=some (.ref Mc)) (hcd:(c==("__debug__":Str))=false) (hx:W.exmOne X.K (.ref C) (.ref Mc)=some true) (nd:X.N.Nodup) (hi:X.N[i]?=some n)
  (ln:X.env.scope.names.lookup n=some .local) (d1:(n==("__debug__":Str))=false) (d2:(n==("__classdict__":Str))=false)
  (hps:PSs (X.inSuite (.ref ea) λ_ _=>False) (b1::bd) ts) (hts:ts {nx:=λ_ _=>False,rt:=R} (Y.set i (some (.ref ea))) (upd H' ea (.ext (isX ea (.ref C)))))
  (k:∀s2 Y2 H2 v u,Inv X y0 Y2 H2 s2->RelV v u->R v H2->Q (.ret u) s2) :
  wpAny (model X.prog X.w) X.A (noteFrame (.ref ea) X.env) (λ_ s₂=>wpAny (model X.prog X.w) X.A (setFlight (.ref ea) none) (λ_ s₃ =>
   wpAny (model X.prog X.w) X.A (handleBy (.ref ea) X.env [.ExceptHandler (some (.Name c np)) (some n) (b1::bd) hp]) Q X.xe s₃) X.xe s₂) X.xe s':=by
 obtain⟨B,a0,fl,hokB,kB,tB⟩:=Fl.fly
 have hfr:X.A.frames=some (X.env::X.outer):=by rw[<- hst.1];exact I.ok.frames
 have fl':Heap.FlyingW B (X.env::X.outer) ea (.ref C) a0 s'.heap:=by rw[<- hst.1];exact fl
 refine wpAny_looks_onW hfr hst.2 fl' λh4 held4 up4=>?_;refine wpAny_landsW held4 λh5 fl5 up5=>?_;have I5:Inv X y0 Y H' {s' with heap:=h5}:=Fly.lands I Fl hokB (Un.fly Fl.un kB tB fl5.1 (zO fl.2.2.1) (up4.trans up5)) fl5.1;refine wpAny_handleBy_cons (codeAny_handlers_test ?_) (by intro q;cases q);refine gq (I5.inSuite (.ref ea) X.xe) hg hm ?_ hcd
 have LT:W.Looks (model X.prog X.w) h5 (typeOf (.ref ea)) (.ref C):=by
  obtain⟨ob,hob,hoc⟩:=fl5.there;exact xty hob hoc
 refine(W.exm_one I5.kIn LT hx).here ?_;refine codeAny_handlers_suite_as ?_;refine lands_againW fl5 λh6 fl6 up6=>?_;have U6:=Un.fly Fl.un kB tB fl6.1 (zO fl.2.2.1) ((up4.trans up5).trans up6)
 have hX6:isX ea (.ref C) h6:=by
  obtain⟨oe,ws,e1,e2,e3,_⟩:=fl6.first
  exact⟨oe,e1,e2,ws,e3⟩
 have hok6:HOk X.prog X.w (upd H' ea (.ext (isX ea (.ref C)))) h6:=λb u e=>by
  by_cases hb:b=ea
  .subst hb;rw[au] at e;cases e;exact Qf hX6
  .rw[ak hb] at e
   exact((hokB.kept fl6.1) b u e).stay (λ_ _ _ q=>q) (λb' q=>by rw[ak (aj q hn)];exact q) λb' xs q=>by rw[ak (aj q hn)];exact q
 have U6':Un (frs X.stack) [] H (upd H' ea (.ext (isX ea (.ref C)))) s.heap h6:=by
  refine⟨U6.keep,U6.slot,λb o q n hx=>?_,U6.there,λb xs q=>?_,λb o u q=>?_,λb ps q=>?_⟩
  .rw[ak (λz=>by rw[z,Fl.fresh] at q;cases q)]
   exact U6.free b o q n hx
  .have:=U6.tups b xs q
   rw[ak (aj this hn)];exact this
  .have:=U6.frzs b o u q
   rw[ak (aj this hn)];exact this
  .obtain⟨more,e⟩:=U6.tbls b ps q
   exact⟨more,by rw[ak (aj e hn)];exact e⟩
 have I6:=I.call' (s':={s' with heap:=h6}) Fl.os U6' hok6 Fl.bare (λb z=>absurd z (by simp));refine iT (X:=X.inSuite (.ref ea) X.xe) (I6.inSuite (.ref ea) X.xe) nd hi (.inl ln) (v:=.ref ea) rfl (λs7 I7=>?_) (.inr ln);refine H5z (hps y0 s7 _ _ {nx:=λ_ _=>False,rt:=R} ((I7.outSuite I.ok).inSuite _ _) hts) (λf s8 h8=>?_) λ_ _ z=>z.elim
 cases f with
 |next=>obtain⟨_,_,_,z⟩:=h8;exact z.elim
 |brk=>obtain⟨_,_,_,z⟩:=h8;exact z.elim
 |cont=>obtain⟨_,_,_,z⟩:=h8;exact z.elim
 |ret u =>
  obtain⟨v8,Y8,H8,I8,rv,q8⟩:=h8;have I8':=I8.outSuite I.ok;obtain⟨m,hm8,_⟩:=id I8'.loc;refine wpAny_nameGoes_keeps ln hm8 (by rw[I.ok.kind];rfl) λh9 v hn9 hs9=>?_;exact k _ _ _ _ _ (I8'.unbound nd hi hm8 hn9 hs9) rv q8
end
section
variable{P:Program}{w:World}{K:Zf}{mg:Str->Option Value}{base:Heap}{T:DE.Pg}{F k:Nat}
open DE hiding st
def spC(K:Zf)(c:Str)(d:D):Sp:=λvs H Q _=>vs.length=1/\∃Hs,Same Hs H/\aL K Hs [.exc c] vs/\∀v H' Hs',Ext Hs H Hs' H'->Rep K Hs' d v->Q v H'
theorem QC(X:Text w K mg T)(Fn:Fun K nm nm t a g)(hb:fd.body=aO t)(hs:fd.sc=ao t)(S:FnScope fd.N fd.ps fd.sc)(h1:fd.ps.length=1)
  (hrun:runC (T.cx (aR T F 0)) F fd.sc fd.body (bx fd [.exc c])=some d):FnS P w K mg base CX (k+1) a g fd.ps (spC K c d):=by
 obtain⟨oc,od,kV,doc,pm,an,cdv,ct,osl,rfl,lk,hcd⟩:=Fn.ex;refine Qm lk hcd (by rw[<- hs];exact S) (λvs H Q E h=>by rw[h.1,h1]) λA outer s H vs Q E hr h=>?_;obtain⟨hlv,Hs,hsm,rl,hq⟩:=h;obtain⟨s1,s2,s3⟩:=fZ S (by rw[h1];rfl) rl;refine⟨dW _ (aO t),bf,?_⟩;rw[hb] at hrun;refine sH ⟨by have:=hr.un;show(A.deeper _).units+100<_;omega,hs.symm,S.nd,X.blt,X.exs⟩ (aO t) s1 s2 hsm (λi x d' e=>?_) hrun λv H' Hs' E1 r1=>hq v H' Hs' E1 r1;obtain q|⟨d'',v,q,q1,q2⟩:=s3 i x _ e
 .cases q
 .cases q
  exact⟨v,q1,q2⟩
theorem BK{i k:Nat}(F:FnOk X.prog X.w X.K X.mg X.base (CX1 X.prog X.w) k f fd [] sp)(hr:Room k X.A)(hN:X.N[i]?=some x)(hv:Vis X.env.scope x)(ho:X.base.get? f=some o)(hd:o.data=.func fd)(hb:Binds X.K fd [] [])(hx:XOk X Y E)
  (hY:Y[i]?=some (some (.ref f))) (hsp:sp [] H Q E) (hdb:(x==("__debug__":Str))=false) (hcd:(x==("__classdict__":Str))=false):gZ X (.Call (.Name x p) [] [] pos) Y H Q:=by
 intro y0 s I;refine R1z ?_;refine thn (m7 hN hv hdb hcd y0 s Y H (λv H'=>v=.ref f/\H'=H) I ⟨.ref f,hY,rfl,rfl⟩) λu s1 ⟨v,H1,I1,r1,e1,e2⟩=>?_;subst e1 e2;cases r1;refine W.callWith_F0 ?_ (yQ F hr hb hx I1 .nil hsp);obtain⟨oc,od,dt,sl⟩:=o;cases hd;exact⟨oc,od,fd,sl,I1.bk _ _ ho⟩
end
end L2
namespace L2
open PySem PySem.Spec PyProof.Rows
open DE hiding st
section
variable{P:Program}{w:World}{K:Zf}{mg:Str->Option Value}{base:Heap}{T:DE.Pg}{F k:Nat}
def spT(K:Zf)(Hs0:Hp)(f:Addr)(d:D):Sp:=λvs H Q _=>vs=[.ref f]/\Same Hs0 H/\∀v H' Hs',Ext Hs0 H Hs' H'->Rep K Hs' d v->Q v H'
theorem Jl(F:FnS X.prog X.w X.K X.mg X.base CX k f fd ps sp)(hr:RoomS k X.A)(hb:Binds X.K fd ps [])(hx:Passes CX X E)
  (I:Inv X y0 Y H s) (r:Vals vs us) (h:sp vs H Q E):wpAny (model X.prog X.w) X.A (call (.ref f) us) (EP X y0 Y Q) X.xe s:=by
 have hl:(us++([]:List Value)).length=ps.length:=by rw[L3z,<- r.length];exact F.len _ _ _ _ h
 have hb':=hb s us I.kIn hl;rw[L3z] at hb';refine wpAny_call (W4z (F.run X.A X.stack s H ⟨us,[]⟩ us vs Q E hr I.env0 hb' r h) λr s' hq=>?_)
 cases r with
 |error e=>exact hx y0 Y H s e s' I hq
 |ok fl =>
  cases fl with
  |ret u=>exact I.after hq
  |next=>exact False.elim hq
  |brk=>exact False.elim hq
  |cont=>exact False.elim hq
theorem Ir
  (Fn:Fun K nm nm t a g) (hbody:aO t=[.Try [.Return (some (.Call (.Name dn p1) [] [] p2)) p3] [.ExceptHandler (some (.Name c np)) (some n) [.Return (some (.Call (.Name cls p4) [.Name n p5] [] p6)) p7] hp] [] [] pos])
  (S:FnScope [dn,n] [dn] (ao t)) (ld:(ao t).names.lookup dn=some .local) (ln:(ao t).names.lookup n=some .local) (lc:(ao t).names.lookup c=some .globalImplicit) (lcls:(ao t).names.lookup cls=some .globalImplicit)
  (hxs:XText K mg exs c) (hin:exs.contains c'=true) (pn:aK n=true) (pd:aK dn=true) (pc:aK c=true) (pcl:(cls==("__debug__":Str))=false)
  (mc:mg cls=some (.ref ac)) (kc:W.keepIn K (.ref ac)=true) (bc:Binds K gc pcs []) (FC:∀(base:Heap),FnS P w K mg base (CX1 P w) 1 ac gc pcs (spC K c' d)) (hpc:pcs.length=1)
  (GD:FnOk P w K mg base (CX1 P w) kd f fd [] (spL K Hs0 c')) (hkd:1<=kd) (ho:base.get? f=some o) (hd:o.data=.func fd) (hb:Binds K fd [] []) :
  FnOk P w K mg base (CX1 P w) (kd+1) a g [dn] (spT K Hs0 f d):=by
 unfold aK at pn pd pc;rw[A3z,M5z,M5z] at pn pd pc;refine Fun.okX Fn S (λvs H Q E h=>by rw[h.1];rfl) λcdv A outer s H vs Q E hr h=>?_;obtain⟨rfl,hsm,hq⟩:=h;refine⟨dW _ (aO t),bf,?_⟩;rw[hbody];generalize hX:gW (CX1 P w) P w K mg base [dn,n] nm (ao t) a cdv A outer s H E=X;refine PSs.sem (aW jK) ?_;intro y0 s0 I;obtain⟨C,M,e1,e2,_,_,e3,_⟩:=hxs.cls c' hin;refine I5z (H4z (wpAny_tryStmt_except ?_));subst hX
 let X:=gW (CX1 P w) P w K mg base [dn,n] nm (ao t) a cdv A outer s H E
 let D:Ends:={nx:=λ_ H'=>Q .non H',rt:=Q}
 let hs:List ExceptHandler:=[.ExceptHandler (some (.Name c np)) (some n) [.Return (some (.Call (.Name cls p4) [.Name n p5] [] p6)) p7] hp]
 let xe:Value->Shared->Prop:=λe s₁=>wpAny (model X.prog X.w) X.A (noteFrame e X.env) (λ_ s₂=>wpAny (model X.prog X.w) X.A (setFlight e none) (λ_ s₃=>wpAny (model X.prog X.w) X.A (handleBy e X.env hs) (SP X y0 D) X.xe s₃) X.xe s₂) X.xe s₁
 have I0:Inv (X.pinned (X.pn++y0) xe) [] (start [dn,n] [.ref f]) H s0:=Inv.repin (pn:=X.pn) I λp hp=>by simpa using hp
 have run:dW (X.pinned (X.pn++y0) xe) [.Return (some (.Call (.Name dn p1) [] [] p2)) p3] {nx:=λ_ _=>False,rt:=λ_ _=>False} (start [dn,n] [.ref f]) H:=by
  refine PSs.sem (aW (cI aq)) ?_;refine BK (i:=0) (E:=λcls _ H2=>cls=.ref C/\∃Hs2,Ext Hs0 H Hs2 H2) GD hr rfl (.inl ld) ho hd hb ?_ rfl ⟨rfl,hsm,λC2 H2 Hs2 q E2=>⟨?_,Hs2,E2⟩⟩ (by simpa using pd.1) (by simpa using pd.2)
  .intro pins2 H2 s2 e s3 I2 hcx
   obtain⟨ea,cl,H3,rfl,Fl,hn3,rfl,Hs3,E3⟩:=hcx;have E4:Ext Hs3 H3 (upd Hs3 ea (.ext (isX ea (.ref C)))) (upd H3 ea (.ext (isX ea (.ref C)))):=Ext.new E3.sub _ hn3;have hm:mg c=some (.ref M):=hxs.glob _ _ e2;refine Lq (X:=X.pinned (X.pn++y0) X.xe) (Mc:=M) (R:=Q) (Inv.repin (X:=X) I2 λp hp=>hp) Fl hn3 ⟨rfl,rfl⟩ lc hm (by simpa using pc.1) e3 S.nd (i:=1) rfl ln (by simpa using pn.1) (by simpa using pn.2) (aW (cI aq)) ?_ λs4 Y2 H4 v u I4 rv q4=>?_
   ·
    intro pins5 s5 I5;refine R1z (gq I5 lcls mc ?_ pcl);refine S1z I5.ok.mod.kin kc ?_ rfl rfl;refine thn ((aB (m7 (i:=1) rfl (.inl ln) (by simpa using pn.1) (by simpa using pn.2)) aM) p6 pins5 s5 _ _ (λvs H1=>vs=[.ref ea]/\H1=upd H3 ea (.ext (isX ea (.ref C)))) I5 ⟨.ref ea,rfl,rfl,rfl⟩) λus s6 ⟨vs,H6,I6,r6,q6,q7⟩=>⟨I6.kIn,?_⟩;subst q6 q7;refine Jl (FC base) ⟨by have:=hr.dp;show(A.deeper (envOfC nm (ao t) s.heap.objs.size a cdv)).depth+3*1+5<_;omega,by have:=hr.un;show(A.deeper (envOfC nm (ao t) s.heap.objs.size a cdv)).units+16*1+200<_;omega⟩ bc lN I6 r6 ⟨rfl,upd Hs3 ea (.ext (isX ea (.ref C))),E4.sub,.cons (by simp only[Rep];exact⟨ea,C,rfl,e1,au⟩) .nil,λv H7 Hs7 E7 r7=>hq v H7 Hs7 ((E3.trans E4).trans E7) r7⟩
   .exact⟨v,Y2,H4,Inv.repin I4 λp hp=>Y0z _ hp,rv,q4⟩
  .have q':=q
   rw[e1] at q';cases q';rfl
 refine H5z (run [] s0 I0) (λfl s1 q=>?_) λe s1 q=>q
 cases fl with
 |next=>obtain⟨_,_,_,z⟩:=q;exact z.elim
 |brk=>obtain⟨_,_,_,z⟩:=q;exact z.elim
 |cont=>obtain⟨_,_,_,z⟩:=q;exact z.elim
 |ret u=>obtain⟨_,_,_,_,_,z⟩:=q;exact z.elim
end
def del(H:Hp)(c:Addr):Hp:=λb=>if b=c then none else H b
theorem fQ(h:b≠c):del H c b=H b:=U5z h
theorem jk:del H c c=none:=T5z rfl
theorem o7(h:del H c b=some o):H b=some o/\b≠c:=by
 unfold del at h;split at h
 .cases h
 .rename_i n;exact⟨h,n⟩
theorem eF(h:H b=none):del H c b=none:=by
 unfold del;split
 .rfl
 .exact h
section
variable{X:Cx}{y0:List (Addr×Obj)}{Y:St}{H:Hp}{s:Shared}{c:Addr}{p:Heap->Prop}
theorem Inv.untrack(I:Inv X y0 Y H s)(h:H c=some (.ext p)):Inv X y0 Y (del H c) s:=by
 have ne:∀b o,H b=some o->o≠.ext p->del H c b=some o:=λb o e n=>by
  rw[fQ λz=>by rw[z,h] at e;cases e;exact n rfl];exact e
 refine⟨I.ok,I.os,I.bare,⟨I.base.keep,I.base.slot,λb o q n hx=>eF (I.base.free b o q n hx),I.base.there,λb xs q=>ne b _ (I.base.tups b xs q) (λz=>nomatch z),λb o u q=>ne b _ (I.base.frzs b o u q) (λz=>nomatch z),λb ps q=>?_⟩,I.loc,I.cell,eF I.free,λx c e=>eF (I.freeC x c e),λp hp=>?_,λb u e=>?_,I.len⟩
 .obtain⟨more,e⟩:=I.base.tbls b ps q
  exact⟨more,ne b _ e (λz=>nomatch z)⟩
 .obtain⟨a1,a2,a3⟩:=I.pin p hp
  exact⟨a1,eF a2,a3⟩
 .obtain⟨e1,e2⟩:=o7 e
  exact(I.hok b u e1).stay (λ_ v _ q=>q) (λd q=>ne d _ q (λz=>nomatch z)) λd xs q=>ne d _ q (λz=>nomatch z)
theorem Dl(h:H c=some (.ext p))(F:FnOk X.prog X.w X.K X.mg (Cy s.heap (del H c) (frs X.stack)) CX k f fd ps sp)(hr:Room k X.A)(hb:Binds X.K fd ps [])(hx:Passes CX X E)
  (I:Inv X y0 Y H s) (hfr:c∉frs X.stack) (r:Vals vs us) (hsp:sp vs (del H c) (λv H2=>H2 c=none->Q v (upd H2 c (.ext p))) E):wpAny (model X.prog X.w) X.A (call (.ref f) us) (EP X y0 Y Q) X.xe s:=by
 have J:=I.untrack h
 have hl:us.length=ps.length:=by rw[<- r.length];exact F.len _ _ _ _ hsp
 have hb':=hb s us I.kIn (by rw[L3z];exact hl)
 rw[L3z] at hb';refine wpAny_call (W4z (F.run X.A X.stack s (del H c) ⟨us,[]⟩ us vs _ E hr J.env0Big hb' r hsp) λr s' hq=>?_)
 cases r with
 |error e=>exact hx y0 Y (del H c) s e s' J hq
 |ok fl =>
  cases fl with
  |ret u =>
   obtain⟨v,H2,os,bare,un,hok,rv,q⟩:=hq;obtain⟨pc,⟨oc,eo⟩,st⟩:=I.hok c _ h;have hn2:=un.free c oc eo jk (by simp);have e2:=un.keep c oc eo jk hfr (by simp)
   have kp:∀b o,H2 b=some o->upd H2 c (.ext p) b=some o:=λb o e=>by rw[ak (aj e hn2)];exact e
   refine⟨v,upd H2 c (.ext p),I.call' os ⟨λb o q n=>un.keep b o q (eF n),λb o q n=>un.slot b o q (eF n),λb o q n hx=>?_,un.there,λb xs q=>?_,λb o u q=>?_,λb ps q=>?_⟩ (λb u e=>?_) bare (λb z=>absurd z (by simp)),rv,q hn2⟩
   .rw[ak λz=>by rw[z,h] at n;cases n]
    exact un.free b o q (eF n) hx
   .exact kp _ _ (un.tups b xs (by rw[fQ λz=>by rw[z,h] at q;cases q];exact q))
   .exact kp _ _ (un.frzs b o u (by rw[fQ λz=>by rw[z,h] at q;cases q];exact q))
   .obtain⟨more,e⟩:=un.tbls b ps (by rw[fQ λz=>by rw[z,h] at q;cases q];exact q)
    exact⟨more,kp _ _ e⟩
   .by_cases hb:b=c
    .subst hb;rw[au] at e;cases e
     exact⟨st s.heap s'.heap pc λo q=>by rw[eo] at q;cases q;exact e2,⟨oc,e2⟩,st⟩
    .rw[ak hb] at e
     exact(hok b u e).stay (λ_ v _ q=>q) (λd q=>kp _ _ q) λd xs q=>kp _ _ q
  |next=>exact False.elim hq
  |brk=>exact False.elim hq
  |cont=>exact False.elim hq
end
abbrev noArgs:Arguments:=⟨[],[],none,[],[],none,[]⟩
theorem u6{K:Zf}:Binds K (W.kla_fn "<lambda>" qual noArgs body scope cl pm cdv ct) [] []:=.all λus hl=>by
 have:=List.length_eq_zero_iff.mp hl;subst this;rfl
def tK(lsc:Scope):List Str:=(lsc.names.filter λp=>p.2==.free).map (·.1)
def fj(lsc:Scope)(U:Rho):Rho:=(tK lsc).map λx=>(x,Mu (U.lookup x))
def Vu:Option Sl->Bool
 |some (.sh _)=>true
 |_=>false
def sY(sc lsc:Scope)(U:Rho):Bool :=
 lsc.kind==.function && !lsc.isCoroutine && !lsc.isGenerator&&lU (lsc.names.map (·.1))&&lU (tK lsc)&&lsc.names.all λp=>p.2 !=.cell&&(p.2 !=.free||(sc.names.lookup p.1==some .cell&&Vu (U.lookup p.1)))
structure LamOk(sc lsc:Scope)(U:Rho):Prop where
 kind:lsc.kind=.function
 co:lsc.isCoroutine=false
 gen:lsc.isGenerator=false
 nd:(lsc.names.map (·.1)).Nodup
 ndf:(tK lsc).Nodup
 own:∀x∈lsc.names,x.2≠.cell
 fr:∀x,(x,NameKind.free)∈lsc.names->sc.names.lookup x=some .cell/\∃d,U.lookup x=some (.sh d)
theorem Ez(h:sY sc lsc U=true):LamOk sc lsc U:=by
 unfold sY at h;simp only[A3z] at h;obtain⟨⟨⟨⟨⟨h1,h2⟩,h3⟩,h4⟩,h5⟩,h6⟩:=h;refine⟨by simpa using h1,by simpa using h2,by simpa using h3,gk h4,gk h5,λx hx=>?_,λx hx=>?_⟩
 .have:=G3z.mp h6 x hx
  rw[A3z] at this;simpa using this.1
 .have:=G3z.mp h6 _ hx
  rw[A3z,V3z,A3z] at this;obtain z|⟨z1,z2⟩:=this.2
  .simp at z
  .refine⟨by simpa using z1,?_⟩
   unfold Vu at z2;split at z2
   .rename_i d e;exact⟨d,e⟩
   .cases z2
theorem uZ:x∈tK lsc↔(x,NameKind.free)∈lsc.names:=by
 constructor
 .intro h
  obtain⟨⟨y,k⟩,h1,rfl⟩:=List.mem_map.mp h;obtain⟨h2,h3⟩:=List.mem_filter.mp h1
  have:k=.free:=by simpa using h3
  subst this;exact h2
 .exact λh=>List.mem_map.mpr ⟨_,List.mem_filter.mpr ⟨h,by simp⟩,rfl⟩
theorem qY{K:Zf}(hN:N=U.map (·.1))(hst:bL K Hs U Y):∀l:List Str,(∀x∈l,∃d,U.lookup x=some (.sh d)) ->
  ∃ws:List V,ws.length=l.length/\(∀(i:Nat) x v,l[i]?=some x->ws[i]?=some v->∃j:Nat,N[j]?=some x/\Y[j]?=some (some v))/\bL K Hs (l.map λx=>(x,Mu (U.lookup x))) (ws.map some)
 |[],_=>⟨[],rfl,λi x v h=>by simp at h,λi x d h=>by simp at h⟩
 |y::l,h=>by
  obtain⟨ws,h1,h2,h3⟩:=qY hN hst l λx hx=>h x (X0z _ hx);obtain⟨d,hd⟩:=h y N1z;obtain⟨j,e1,e2⟩:=eZ hd;obtain⟨v,e3,e4⟩:=hst j y d e1;refine⟨v::ws,by simp[h1],λi x v' a1 a2=>?_,λi x d' a1=>?_⟩
  .cases i with
   |zero =>
    simp at a1 a2;subst a1 a2;exact⟨j,by rw[hN,List.getElem?_map,e1];rfl,e3⟩
   |succ i=>exact h2 i x v' (by simpa using a1) (by simpa using a2)
  .cases i with
   |zero =>
    simp at a1;obtain⟨rfl,a2⟩:=a1;rw[hd] at a2;simp[Mu] at a2;subst a2;exact⟨v,rfl,e4⟩
   |succ i =>
    obtain⟨u,q1,q2⟩:=h3 i x d' (by simpa using a1);exact⟨u,by simpa using q1,q2⟩
structure LCx(X:Cx)(p:Addr×Str):Prop where
 lm:X.lm=some p
 qual:p.2=X.env.qual++"<lambda>"
 code:∃c,X.env.code=.ref c/\W.CodeHd X.base c p.1
 bi:X.base.BuiltinsAt X.mg p.1
 glob:X.env.globals=mainGlobals
 fn:∀x,X.fn x=true
def jU(P:Program)(w:World)(K:Zf)(mg:Str->Option Value)(kd:Nat)(exs:List Str)(cv:Str->Option D)(tn:Str):Prop :=
 (tn==("__debug__":Str))=false/\∃a g dn,mg tn=some (.ref a)/\W.keepIn K (.ref a)=true/\Binds K g [dn] []/\∀(base:Heap)(f:Addr)(fd:FuncData)(o:Obj)(Hs0:Hp)(c':Str)(d:D),exs.contains c'=true->cv c'=some d->FnOk P w K mg base (CX1 P w) kd f fd [] (spL K Hs0 c')->base.get? f=some o->o.data=.func fd->Binds K fd [] []->FnOk P w K mg base (CX1 P w) (kd+1) a g [dn] (spT K Hs0 f d)
section
variable{X:Cx}{U:Rho}{T:Pg}{F k:Nat}{sc:Scope}
theorem vL(I:Inv X y0 Y H s)(hfn:∀x,X.fn x=true)(hc:X.env.cells.lookup x=some c)(h:s.heap.IsCell c v):(Cy s.heap H (frs X.stack)).IsCell c v:=by
 obtain⟨o,h1,h2⟩:=h;refine⟨o,pG h1 (I.freeC x c hc) λz=>?_,h2⟩;obtain e|e:=P4z.mp (I.stkSub c z)
 .exact I.cne x c hc e
 .obtain⟨_,o',ho,_⟩:=I.ok.funs.mem e
  exact absurd (L1z (R4z ho) (I.ok.cab x c (hfn x) hc)) (G4z _)
end
end L2
namespace DE
open PySem
def lamE:Expr->Option (Expr×Scope)
 |.Lambda ps body lsc _=>if ps.posonlyargs.isEmpty&&ps.args.isEmpty&&ps.vararg.isNone&&ps.kwonlyargs.isEmpty&&ps.kw_defaults.isEmpty&&ps.kwarg.isNone&&ps.defaults.isEmpty then some (body,lsc) else none
 |_=>none
def toldOf:Expr->Option (Str×Expr×Scope)
 | .Call f as ks _=>if ks.isEmpty then(match as with
  |[a]=>(lamE a).bind λq=>(nameOf f).map λtn=>(tn,q.1,q.2)
  | _=>none) else none
 |_=>none
end DE
namespace L2
open PySem PySem.Spec PyProof.Rows
open DE hiding st
theorem yp(h:toldOf e=some (tn,body,lsc)):∃pp lp cp,e=.Call (.Name tn pp) [.Lambda noArgs body lsc lp] [] cp:=by
 unfold toldOf at h;split at h
 .split at h
  .rename_i hk
   split at h
   .obtain⟨q,h1,h2⟩:=Option.bind_eq_some_iff.mp h
    obtain⟨x,h3,h4⟩:=O0z.mp h2;cases h4;unfold lamE at h1;split at h1
    .split at h1
     .rename_i ps _ _ _ hp
      cases h1;unfold nameOf at h3;split at h3
      .cases h3
       obtain⟨p1,p2,p3,p4,p5,p6,p7⟩:=ps;simp only[A3z,E3z,Option.isNone_iff_eq_none] at hp;obtain⟨⟨⟨⟨⟨⟨rfl,rfl⟩,rfl⟩,rfl⟩,rfl⟩,rfl⟩,rfl⟩:=hp;cases E3z.mp hk;exact⟨_,_,_,rfl⟩
      .cases h3
     .cases h1
    .cases h1
   .cases h
  .cases h
 .cases h
structure LamP where
 tn:Str
 cv:Str->Option D
section
variable{X:Cx}{U:Rho}{T:Pg}{F k:Nat}{sc:Scope}{Hs0 H0:Hp}{L:LamP}{p:Addr×Str}
end
abbrev Cx.relm(X:Cx)(q:Option (Addr×Str)):Cx:={X with lm:=q}
section
variable{X:Cx}{y0:List (Addr×Obj)}{Y:St}{H:Hp}{s:Shared}{q:Option (Addr×Str)}
theorem Inv.relm(I:Inv X y0 Y H s)(q:Option (Addr×Str)):Inv (X.relm q) y0 Y H s :=
 ⟨⟨I.ok.mod,I.ok.kind,I.ok.glob,I.ok.blt,I.ok.above,I.ok.inj,I.ok.has,I.ok.cab,I.ok.hd,I.ok.frames,I.ok.stk,I.ok.exf,I.ok.bs,I.ok.bsz,I.ok.noex,I.ok.exfs,I.ok.funs,I.ok.frf⟩,I.os,I.bare,I.base,I.loc,I.cell,I.free,I.freeC,I.pin,I.hok,I.len⟩
theorem Inv.unrelm(I:Inv (X.relm q) y0 Y H s):Inv X y0 Y H s :=
 ⟨⟨I.ok.mod,I.ok.kind,I.ok.glob,I.ok.blt,I.ok.above,I.ok.inj,I.ok.has,I.ok.cab,I.ok.hd,I.ok.frames,I.ok.stk,I.ok.exf,I.ok.bs,I.ok.bsz,I.ok.noex,I.ok.exfs,I.ok.funs,I.ok.frf⟩,I.os,I.bare,I.base,I.loc,I.cell,I.free,I.freeC,I.pin,I.hok,I.len⟩
theorem SP.unrelm{D:Ends}(h:SP (X.relm q) y0 D f s):SP X y0 D f s:=by
 cases f with
 |next=>obtain⟨Y',H',I,z⟩:=h;exact⟨Y',H',I.unrelm,z⟩
 |brk=>obtain⟨Y',H',I,z⟩:=h;exact⟨Y',H',I.unrelm,z⟩
 |cont=>obtain⟨Y',H',I,z⟩:=h;exact⟨Y',H',I.unrelm,z⟩
 |ret u=>obtain⟨v,Y',H',I,r,z⟩:=h;exact⟨v,Y',H',I.unrelm,r,z⟩
end
section
variable{P:Program}{w:World}{K:Zf}{mg:Str->Option Value}{base:Heap}{T:DE.Pg}{F k:Nat}
end
section
variable{P:Program}{w:World}{K:Zf}{mg:Str->Option Value}{T:DE.Pg}{F kd:Nat}
def VG(T:DE.Pg)(F:Nat)(fd:Fd)(c:Str):Option D:=runC (T.cx (aR T F 0)) F fd.sc fd.body (bx fd [.exc c])
theorem yq(Tx:Text w K mg T)(hT:T.defs.lookup tn=some fdT)(hC:T.defs.lookup cls=some fdC)
  (hbody:fdT.body=[.Try [.Return (some (.Call (.Name dn p1) [] [] p2)) p3] [.ExceptHandler (some (.Name T.top np)) (some n) [.Return (some (.Call (.Name cls p4) [.Name n p5] [] p6)) p7] hp] [] [] pos])
  (hN:fdT.N=[dn,n]) (hps:fdT.ps=[dn]) (ld:fdT.sc.names.lookup dn=some .local) (ln:fdT.sc.names.lookup n=some .local) (lc:fdT.sc.names.lookup T.top=some .globalImplicit) (lcls:fdT.sc.names.lookup cls=some .globalImplicit)
  (pn:aK n=true) (pd:aK dn=true) (pc:aK T.top=true) (h1:fdC.ps.length=1) (hkd:1<=kd):jU P w K mg kd T.exs (VG T F fdC) tn:=by
 have FA:=Tx.fns tn fdT hT;obtain⟨nm,t,a,g,m1,m2,m3,m4,m5⟩:=FA.ex;have FB:=Tx.fns cls fdC hC;obtain⟨nm',t',ac,gc,q1,q2,q3,q4,q5⟩:=FB.ex;have S:=FA.fs;rw[hN,hps,m5] at S;rw[hps] at m3;exact⟨FA.nd,a,g,dn,m1,m2.kp,m3,λbase f fd o Hs0 c' d hin hcv GD ho hd hb=>(Ir m2 (m4.symm.trans hbody) S (m5▸ld) (m5▸ln) (m5▸lc) (m5▸lcls) Tx.exs hin pn pd pc FB.nd q1 q2.kp q3 (λbase=>QC (k:=0) Tx q2 q4 q5 FB.fs h1 hcv) h1 GD hkd ho hd hb)⟩
end
end L2
namespace L2
open PySem PySem.Spec PyProof.Rows
end L2
namespace DE
open PySem
def Ls{α:Type}(m:Nat)(h:Nat->α):List α:=(List.range m).map h
theorem bQ:(Ls m h).length=m:=by simp[Ls]
theorem eV(hi:i<m):(Ls m h)[i]?=some (h i):=by simp[Ls,hi]
theorem vZ(e:∀i,i<m->h i=g i):Ls m h=Ls m g:=by
 exact I1z λi hi=>e i (List.mem_range.mp hi)
theorem QT:(Ls m h).map f=Ls m λi=>f (h i):=by
 unfold Ls;rw[Z4z];rfl
theorem rW:(Ls m h).reverse=Ls m λi=>h (m-1-i):=by
 apply List.ext_getElem?;intro i
 by_cases hi:i<m
 .rw[List.getElem?_reverse (by rw[bQ];exact hi),bQ,eV hi,eV (by omega)]
 .rw[List.getElem?_eq_none (by rw[J1z,bQ];omega),List.getElem?_eq_none (by rw[bQ];omega)]
theorem QS:(Ls m h).zip (Ls m g)=Ls m λi=>(h i,g i):=by
 apply List.ext_getElem?;intro i
 by_cases hi:i<m
 .rw[eV hi,List.getElem?_zip_eq_some]
  exact⟨eV hi,eV hi⟩
 .rw[List.getElem?_eq_none (by rw[Z3z,bQ,bQ];omega),List.getElem?_eq_none (by rw[bQ];omega)]
theorem pJ:Ls (m+1) h=Ls m h++[h m]:=by
 unfold Ls;rw[List.range_succ,X3z];rfl
theorem Ih(hj:j<m):atD (Ls m h) (j:Int)=some (h j):=by
 unfold atD ixD;rw[bQ,T5z (by omega),T5z (by omega)];simp[eV hj]
theorem jG{j:Nat}(h:l[j]?=some d):atD l (j:Int)=some d:=by
 have hj:=(List.getElem?_eq_some_iff.mp h).1;unfold atD ixD;rw[T5z (by omega),T5z (by omega)];simpa using h
theorem lE{n:Nat}:f9 0 (n:Int)=Ls n λk=>.int k:=by
 unfold f9 Ls;simp
def WY(cx:Cxt)(sc:Scope)(U:Rho)(x:Str):Option D:=if aK x then(match sc.names.lookup x with
    |some .local=>(match U.lookup x with|some (.sh d)=>some d|_=>none)
    |some .cell=>(match U.lookup x with|some (.sh d)=>some d|_=>none)
    |some .free=>(match U.lookup x with|some (.sh d)=>some d|_=>none)
    |some .globalImplicit=>cx.cst.lookup x
    | _=>none) else none
def Xg(c:Const):Option D:=(match c with
    |.none=>some .non
    |.bool b=>some (.bl b)
    |.int i=>some (.int i)
    |.str x=>some (.str x)
    | _=>none)
section
variable{cx:Cxt}{n:Nat}{sc scope:Scope}{U:Rho}{a b c e:Expr}{es:List Expr}{p q:Pos}{x y z d:D}{ds:List D}{nm:Str}{op op':CmpOp}
theorem xName(h:WY cx sc U nm=some d):ev cx (n+1) sc U (.Name nm p)=some d:=h
theorem bZ(h:Xg k=some d):ev cx (n+1) sc U (.Constant k j p)=some d:=h
theorem dR(h1:ev cx n sc U a=some x)(h2:ev cx n sc U b=some y)(h:binop o x y=some d):ev cx (n+1) sc U (.BinOp a o b p)=some d:=by
 simp[ev,h1,h2];exact h
theorem Ry(h1:ev cx n sc U a=some (.bl t)):ev cx (n+1) sc U (.UnaryOp .Not a p)=some (.bl (!t)):=by
 simp[ev,h1];rfl
theorem M8(h1:ev cx n sc U a=some (.bl true)):ev cx (n+1) sc U (.UnaryOp .Not a p)=some (.bl false):=Ry h1
theorem Rx(h1:ev cx n sc U a=some (.bl false)):ev cx (n+1) sc U (.UnaryOp .Not a p)=some (.bl true):=Ry h1
theorem Mq(h1:ev cx n sc U a=some (.int i)):ev cx (n+1) sc U (.UnaryOp .USub a p)=some (.int (-i)):=by
 simp[ev,h1];rfl
theorem wg(h1:ev cx n sc U a=some (.bl true))(h2:cR .And (ev cx n sc U) (b::es)=some d):cR .And (ev cx n sc U) (a::b::es)=some d:=by
 simp[cR,h1];exact h2
theorem Ng(h1:ev cx n sc U a=some (.bl false)):cR .And (ev cx n sc U) (a::b::es)=some (.bl false):=by
 simp[cR,h1];rfl
theorem QX(h1:ev cx n sc U a=some (.bl false))(h2:cR .Or (ev cx n sc U) (b::es)=some d):cR .Or (ev cx n sc U) (a::b::es)=some d:=by
 simp[cR,h1];exact h2
theorem Ve(h1:ev cx n sc U a=some (.bl true)):cR .Or (ev cx n sc U) (a::b::es)=some (.bl true):=by
 simp[cR,h1];rfl
theorem Cr(h1:ev cx n sc U a=some d):cR o (ev cx n sc U) [a]=some d:=h1
theorem jx(h:cR o (ev cx n sc U) es=some d):ev cx (n+1) sc U (.BoolOp o es p)=some d:=h
theorem bC(h1:ev cx n sc U a=some x)(h2:ev cx n sc U b=some y)(h:cmpop op x y=some d):ev cx (n+1) sc U (.Compare a [op] [b] p)=some d:=by
 simp[ev,h1,h2];exact h
theorem Rz(h1:ev cx n sc U a=some x)(h2:ev cx n sc U b=some y)(h:cmpop op x y=some (.bl true))(h3:ev cx n sc U c=some z)(h4:cmpop op' y z=some d)(hp:aJ c=true:=by rfl):ev cx (n+1) sc U (.Compare a [op,op'] [b,c] p)=some d:=by
 simp[ev,h1,h2,h3,hp];show((cmpop op x y).bind asB).bind _=_;rw[h];exact h4
theorem Nb(h1:ev cx n sc U c=some (.bl true))(h2:ev cx n sc U a=some d):ev cx (n+1) sc U (.IfExp c a b p)=some d:=by
 simp[ev,h1];exact h2
theorem Nf(h1:ev cx n sc U c=some (.bl false))(h2:ev cx n sc U b=some d):ev cx (n+1) sc U (.IfExp c a b p)=some d:=by
 simp[ev,h1];exact h2
theorem cT:jZ f []=some []:=rfl
theorem aG(h1:f a=some x)(h2:jZ f es=some ds):jZ f (a::es)=some (x::ds):=by
 simp only[jZ,h1,h2];rfl
theorem jW(h1:jZ (ev cx n sc U) es=some ds)(hz:szl ds.length=true):ev cx (n+1) sc U (.Tuple es j p)=some (.tup ds):=by
 simp only[ev,h1];show(if szl ds.length=true then _ else _)=_;rw[T5z hz]
theorem QZ(h1:jZ (ev cx n sc U) es=some ds)(hz:szl ds.length=true):ev cx (n+1) sc U (.List es p)=some (.lst ds):=by
 simp only[ev,h1];show(if szl ds.length=true then _ else _)=_;rw[T5z hz]
theorem IV(h:items x=some xs):Mt x (.int i)=atD xs i:=by cases x<;>simp[items] at h<;>subst h<;>rfl
theorem xIx(h1:ev cx n sc U a=some x)(h2:ev cx n sc U b=some (.int i))(h3:items x=some xs)(h4:atD xs i=some d)(hs:aJ b=true:=by rfl):ev cx (n+1) sc U (.Subscript a b p)=some d:=by
 simp only[ev,h1]
 cases b<;>first|(simp[aJ] at hs;done)|(simp[h2];show Mt x (.int i)=some d;rw[IV h3];exact h4)
theorem v9(h1:ev cx n sc U a=some x)(h2:ev cx n sc U b=some y)(h:Mt x y=some d)(hs:aJ b=true:=by rfl):ev cx (n+1) sc U (.Subscript a b p)=some d:=by
 simp only[ev,h1]
 cases b<;>first|(simp[aJ] at hs;done)|(simp[h2];exact h)
theorem iH(hg:cg cx sc nm=some B)(hw:CJ cx sc B es=.al)(hn:(B=="isinstance"||es.isEmpty)=false)(h1:jZ (ev cx n sc U) es=some ds)(h:blt B ds=some d):ev cx (n+1) sc U (.Call (.Name nm q) es [] p)=some d:=by
 rw[Bool.or_eq_false_iff] at hn;unfold cg at hg;split at hg
 .rename_i hgl
  simp only[ev,hgl,hg,S5z];split
  .rename_i he;cases he;simp at hn
  .rename_i he;cases he
   simp[hw,hn.2,h1];exact h
  .rename_i he;cases he
 .cases hg
theorem xTv(hg:cg cx sc nm=some "tuple")(hw:CJ cx sc "tuple" es=.tv a)(h1:ev cx n sc U a=some (.tup xs)):ev cx (n+1) sc U (.Call (.Name nm q) es [] p)=some (.tup xs.reverse):=by
 unfold cg at hg;split at hg
 .rename_i hgl
  simp only[ev,hgl,hg,S5z];split
  .rename_i he;exact absurd he (by decide)
  .rename_i he;cases he
   simp[hw,h1];rfl
  .rename_i he;cases he
 .cases hg
def isFn(cx:Cxt)(sc:Scope)(nm:Str)(es:List Expr):Bool:=rY cx sc nm&&(cx.blt.lookup nm).isNone&&cx.fns.contains nm && !es.isEmpty
theorem aX(hf:isFn cx sc nm es=true)(h1:jZ (ev cx n sc U) es=some ds)(h:cx.call nm ds=some d):ev cx (n+1) sc U (.Call (.Name nm q) es [] p)=some d:=by
 unfold isFn at hf;rw[A3z,A3z,A3z] at hf;obtain⟨⟨⟨h2,h3⟩,h4⟩,h5⟩:=hf
 have h3':cx.blt.lookup nm=none:=by simpa using h3
 simp only[ev,h2,h3',h4,h5,h1];exact h
theorem wR1(hw:wj cx sc e=.r1 a)(h1:ev cx n sc U a=some (.int j))(hz:qg j=true):evI cx tup (ev cx n sc U) sc e=some (f9 0 j):=by
 unfold evI;rw[hw];simp only[h1];show(if qg j=true then _ else _)=_;rw[T5z hz]
theorem wZp(hw:wj cx sc e=.zp a b)(h1:ev cx n sc U a=some (.tup xs))(h2:ev cx n sc U b=some (.tup ys)):evI cx true (ev cx n sc U) sc e=some ((xs.zip ys).map λq=>.tup [q.1,q.2]):=by
 unfold evI;rw[hw];simp[h1,h2];rfl
theorem wRv(hw:wj cx sc e=.rv a)(h1:ev cx n sc U a=some (.tup xs)):evI cx tup (ev cx n sc U) sc e=some xs.reverse:=by
 unfold evI;rw[hw];simp only[h1];rfl
theorem wSq(hw:wj cx sc e=.sq)(h1:ev cx n sc U e=some x)(h2:items x=some xs):evI cx tup (ev cx n sc U) sc e=some xs:=by
 unfold evI;rw[hw];simp[h1];exact Ag h2
theorem bM:∀{m:Nat},(∀i,i<m->f (h i)=some (some (g i)))->bU f (Ls m h)=some (Ls m g):=by
 have key:∀(l:List Nat),(∀i∈l,f (h i)=some (some (g i)))->bU f (l.map h)=some (l.map g):=by
  intro l
  induction l with
  |nil=>intro _;rfl
  |cons i r ih =>
   intro hi;simp only[I4z,bU,hi i N1z,ih λj hj=>hi j (X0z _ hj)];rfl
 exact λm hm=>key _ λi hi=>hm i (List.mem_range.mp hi)
def cF(cx:Cxt)(n:Nat)(sc scope:Scope)(U:Rho)(tg elt:Expr)(ifs:List Expr):D->Option (Option D):=λd=>do
 let U1 <- d9 scope tg d (cN scope U)
 let b <- oJ (ev cx n (qp scope sc) U1) ifs
 if b then(ev cx n (qp scope sc) U1 elt).map some else some none
theorem jt(h1:d9 scope tg x (cN scope U)=some U1)(h2:ev cx n (qp scope sc) U1 elt=some d):cF cx n sc scope U tg elt [] x=some (some d):=by
 simp only[cF,h1];show Option.map some (ev cx n (qp scope sc) U1 elt)=_;rw[h2];rfl
theorem Lw(h1:d9 scope tg x (cN scope U)=some U1)(h3:ev cx n (qp scope sc) U1 c=some (.bl t))(h2:ev cx n (qp scope sc) U1 elt=some d):cF cx n sc scope U tg elt [c] x=some (if t then some d else none):=by
 simp[cF,h1,oJ,h3,h2,bind,F3z]
 cases t<;>rfl
theorem iw(hok:jm sc scope=true)(hI:evI cx (fM tg) (ev cx n sc U) sc iter=some l)(hz:szl l.length=true)(hgo:bU (cF cx n sc scope U tg elt ifs) l=some out) :
  ev cx (n+1) sc U (.ListComp elt [⟨tg,iter,ifs,0⟩] scope p)=some (.lst out):=by
 simp only[ev,hok,hI];show(if szl l.length=true then(bU (cF cx n sc scope U tg elt ifs) l).bind (λout=>some (D.lst out)) else none)=some (D.lst out);rw[T5z hz,hgo];rfl
variable{F:Nat}{f:Rho->Stmt->Option Fl}{r:List Stmt}{fl:Fl}{m:Nat}
abbrev blk(cx:Cxt)(F m:Nat)(sc:Scope):List Stmt->Rho->Option Fl:=lq (λU s=>st cx F m sc U s)
theorem jf:blk cx F m sc [] U=some (.nxt U):=rfl
def yr(cx:Cxt)(F m:Nat)(sc:Scope)(r:List Stmt):Fl->Option Fl
 |.ret d=>some (.ret d)
 |.nxt U'=>blk cx F m sc r U'
theorem gSt(h:st cx F m sc U s=some fl1)(k:yr cx F m sc r fl1=some fl):blk cx F m sc (s::r) U=some fl:=by
 show(st cx F m sc U s).bind _=_;rw[h]
 cases fl1<;>exact k
theorem fO(h:ev cx F sc (frz F e U) e=some d):blk cx F (m+1) sc (.Return (some e) p::r) U=some (.ret d):=by
 refine gSt (fl1:=.ret d) ?_ rfl;simp only[st,h];rfl
theorem j5(ho:(ownIn sc nm&&(U.map (·.1)).contains nm)=true)(h:ev cx F sc (frz F e U) e=some d)(k:blk cx F (m+1) sc r (fL (frz F e U) nm (nW e d))=some fl)(hoo:(ooE cx sc e&&DY (frz F e U) nm)=false:=by rfl)(hno:(cu e && !pN (frz F e U) nm)=false:=by rfl)(hle:Mx cx sc e=false:=by rfl)(hrd:rdA e=false:=by rfl):blk cx F (m+1) sc (.Assign [.Name nm px] e p::r) U=some fl:=by
 refine gSt (fl1:=.nxt _) ?_ k;simp only[st,h,T5z ho,hoo,hno,hle,hrd];rfl
theorem gTup(hs:(swp sc es e).isSome=true)(h:ev cx F sc (frz F e U) e=some d)(hl:tupI d=some l)(hb:bindNames sc es l (frz F e U)=some U')(k:blk cx F (m+1) sc r U'=some fl):blk cx F (m+1) sc (.Assign [.Tuple es j q] e p::r) U=some fl:=by
 refine gSt (fl1:=.nxt _) ?_ k;simp[st,h,hs,Bool.true_or,S5z,hl,bind,F3z,hb,O3z]
def pO:Expr->Bool
 |.Call (.Name ..) _ _ _=>true
 |_=>false
theorem Cv(hx:pO e=true)(h:ev cx F sc (frz F e U) e=some d)(k:blk cx F (m+1) sc r (frz F e U)=some fl):blk cx F (m+1) sc (.Expr e p::r) U=some fl:=by
 unfold pO at hx;split at hx
 .refine gSt (fl1:=.nxt _) ?_ k
  simp[st,h,O3z]
 .cases hx
theorem Vz{M:Str}(hx:(frz F e U).lookup nm=some (.ow ds))(ho:(ownIn sc nm&&aK nm&&ap.endLine==cp.line)=true)(hM:(M=="append")=true)(hz:szl (ds.length+1)=true)(h:ev cx F sc (frz F e U) e=some d)(k:blk cx F (m+1) sc r (fL (frz F e U) nm (.ow (ds++[d])))=some fl) :
  blk cx F (m+1) sc (.Expr (.Call (.Attribute (.Name nm px) M ap) [e] [] cp) p::r) U=some fl:=by
 refine gSt (fl1:=.nxt _) ?_ k;simp[st,hx,ho,hM,hz,N4z,S5z,h,O3z]
theorem mq(h:ev cx F sc (frz F c U) c=some (.bl true))(k:blk cx F m sc A U=some fl1)(k2:yr cx F (m+1) sc r fl1=some fl):blk cx F (m+1) sc (.If c A B p::r) U=some fl:=by
 refine gSt ?_ k2;simp only[st,h,bind,F3z,asB,S5z,k]
theorem vm(h:ev cx F sc (frz F c U) c=some (.bl false))(k:blk cx F m sc B U=some fl1)(k2:yr cx F (m+1) sc r fl1=some fl):blk cx F (m+1) sc (.If c A B p::r) U=some fl:=by
 refine gSt ?_ k2;simp only[st,h,bind,F3z,asB,V1z,Q5z,k]
theorem fU(h:ev cx F sc (frz F c U) c=some (.bl false))(k:blk cx F (m+1) sc r U=some fl):blk cx F (m+1) sc (.If c A [] p::r) U=some fl :=
 vm h jf k
theorem Fj{f:D->Rho->Option Fl}{R:Nat->Rho}(hs:∀i,i<N->f (h i) (R i)=some (.nxt (R (i+1)))):fV f (Ls N h) (R 0)=some (.nxt (R N)):=by
  have key:∀(j i:Nat),i+j=N->fV f ((List.range' i j).map h) (R i)=some (.nxt (R N)):=by
    intro j
    induction j with
    | zero => intro i hi; have : i = N := by omega
              subst this;rfl
    |succ j ih =>
      intro i hi
      rw[List.range'_succ,I4z]
      simp[fV,hs i (by omega)]
      exact ih (i+1) (by omega)
  have:=key N 0 (by omega)
  rw[<- List.range_eq_range'] at this
  exact this
def fF(cx:Cxt)(F m:Nat)(sc:Scope)(tg:Expr)(body:List Stmt):D->Rho->Option Fl:=λd U=>do let U1 <- d9 sc tg d U;lq (λU s=>st cx F m sc U s) body U1
theorem Fp(h1:d9 sc tg d U=some U1)(h2:blk cx F m sc body U1=some fl):fF cx F m sc tg body d U=some fl:=by
 simp only[fF,h1];exact h2
theorem Vx(hI:evI cx (fM tg) (ev cx F sc (frz F iter U)) sc iter=some l)(hgo:fV (fF cx F m sc tg body) l (frz F iter U)=some fl1)(k2:yr cx F (m+1) sc r fl1=some fl):blk cx F (m+1) sc (.For tg iter body [] p::r) U=some fl:=by
 refine gSt ?_ k2;have hgo':fV (λd U=>(d9 sc tg d U).bind λU1=>lq (λU s=>st cx F m sc U s) body U1) l (frz F iter U)=some fl1:=hgo;simp[st,hI,bind,F3z,hgo']
abbrev cxN(P:Pg)(F k:Nat):Cxt:=⟨P.cst,P.blt,P.defs.map (·.1),P.exs,P.top,true,aU P F k,jr P F k⟩
theorem Gd:P.cx (aR P F k)=cxN P F k:=by
 have e1:aU P F k=λf ds=>Rs.val? (aR P F k f ds):=by funext f ds;exact gQ
 have e2:jr P F k=λf ds=>Rs.exc? (aR P F k f ds):=by funext f ds;exact kj
 unfold cxN;rw[e1,e2];rfl
theorem fY{f:Str}(hf:P.defs.lookup f=some fd)(hl:(ds.length==fd.ps.length)=true)(h:blk (cxN P F k) F F fd.sc fd.body (bx fd ds)=some (.ret d)):aU P F (k+1) f ds=some d:=by
 rw[gQ];simp only[mL,hf,hl,S5z,rE,Gd,h,Rs.val?]
theorem Im{f:Str}(hf:P.defs.lookup f=some fd)(hl:(ds.length==fd.ps.length)=true)(h:blk (cxN P F k) F F fd.sc fd.body (bx fd ds)=some (.nxt U')):aU P F (k+1) f ds=some .non:=by
 rw[gQ];simp only[mL,hf,hl,S5z,rE,Gd,h,Rs.val?]
def ug(cx:Cxt)(F m:Nat)(sc:Scope)(l:List Stmt)(U:Rho)(c:Str):Prop:=lq (λU s=>st cx F m sc U s) l U=none/\∃U',lg (λU s=>st cx F m sc U s) (λU s=>stx cx F m sc U s) l U=some (c,U')
theorem jV{f:Str}{c:Str}(hf:P.defs.lookup f=some fd)(hl:(ds.length==fd.ps.length)=true)(h:ug (cxN P F k) F F fd.sc fd.body (bx fd ds) c):jr P F (k+1) f ds=some c/\aU P F (k+1) f ds=none:=by
 obtain⟨h1,U',h2⟩:=h;rw[kj,gQ];simp only[mL,hf,hl,rE,Gd,h1,h2];trivial
theorem vM{c:Str}(h1:st cx F m sc U s=some (.nxt U1))(h2:ug cx F m sc r U1 c):ug cx F m sc (s::r) U c:=by
 obtain⟨h3,U',h4⟩:=h2;refine⟨?_,U',?_⟩
 .show(st cx F m sc U s).bind _=_
  rw[h1];exact h3
 .simp[lg,h1];exact h4
theorem kE{c:Str}(h1:st cx F m sc U s=none)(h2:stx cx F m sc U s=some (c,U1)):ug cx F m sc (s::r) U c:=by
 refine⟨?_,U1,?_⟩
 .show(st cx F m sc U s).bind _=_
  rw[h1];rfl
 .simp[lg,h1];exact h2
theorem iI(h:ev cx F sc (frz F c U) c=some (.bl true))(hr:(cx.rs&&rY cx sc cn&&cx.exs.contains cn&&aK cn)=true) :
  ug cx F (m+2) sc (.If c (.Raise (some (.Call (.Name cn np) [.Constant (.str txt) j p1] [] cpos)) none rp::A) B p::r) U cn:=by
 refine kE (U1:=frz F c U) ?_ ?_
 .simp[st,h,asB]
  rfl
 .simp only[stx,h,F3z,asB,S5z,lg]
  simp only[st,T5z hr]
theorem Rt(hx:pO e=true)(h:ev cx F sc (frz F e U) e=none)(h2:evx cx F sc (frz F e U) e=some cn):ug cx F (m+1) sc (.Expr e p::r) U cn:=by
 refine kE (U1:=frz F e U) ?_ ?_
 .unfold pO at hx
  split at hx
  .simp[st,h,Option.map_none]
  .cases hx
 .unfold pO at hx
  split at hx
  .simp[stx,cu,V1z,Q5z,h2,O3z]
  .cases hx
theorem Rv(h:ev cx F sc (frz F e U) e=none)(h2:evx cx F sc (frz F e U) e=some cn):ug cx F (m+1) sc (.Return (some e) p::r) U cn:=by
 refine kE (U1:=frz F e U) ?_ ?_
 .simp[st,h,Option.map_none]
 .simp[stx,h2,O3z]
theorem kJ{c:Str}(hf:(isFn cx sc nm es&&es.all aJ)=true)(h1:jZ (ev cx n sc U) es=some ds)(h:cx.callx nm ds=some c)(h0:cx.call nm ds=none):evx cx (n+1) sc U (.Call (.Name nm q) es [] p)=some c/\ev cx (n+1) sc U (.Call (.Name nm q) es [] p)=none:=by
 unfold isFn at hf;simp only[A3z] at hf;obtain⟨⟨⟨⟨h2,h3⟩,h4⟩,h5⟩,h6⟩:=hf
 have h3':cx.blt.lookup nm=none:=by simpa using h3
 constructor
 .simp only[evx,h2,h5,h6,h4,N4z,S5z,h1,h]
 .simp[ev,h2,h3',S5z,h4,h5,N4z,h1,bind,F3z,h0]
end
abbrev row(n:Nat)(f:Nat->Int):D:=.tup (Ls n λj=>.int (f j))
abbrev tbl(m n:Nat)(f:Nat->Nat->Int):D:=.tup (Ls m λi=>.tup (Ls n λj=>.int (f i j)))
def Df:Nat->(Nat->Int)->Int
 |0,_=>0
 |n+1,f=>Df n f+f n
theorem Mg:∀{n:Nat},rO (Ls n λi=>D.int (f i))=some (Ls n f):=by
 have key:∀l:List Nat,rO (l.map λi=>D.int (f i))=some (l.map f):=by
  intro l
  induction l with
  |nil=>rfl
  |cons a r ih=>simp only[I4z,rO,ih];rfl
 exact λn=>key _
theorem Gz:∀{n:Nat},(Ls n f).sum=Df n f
 |0=>rfl
 |n+1=>by rw[pJ,List.sum_append,Gz];simp[Df]
theorem Xh:blt "len" [.tup (Ls n h)]=some (.int n):=by
 show some (D.int ((Ls n h).length:Int))=_;rw[bQ]
theorem VN:blt "sum" [.lst (Ls n λi=>.int (f i))]=some (.int (Df n f)):=by
 show(rO (Ls n λi=>D.int (f i))).bind (λis=>some (D.int is.sum))=_;rw[Mg,F3z,Gz]
theorem rN:blt "tuple" [.lst l]=some (.tup l):=rfl
theorem Dd(h:n<=100000):szl n=true:=by unfold szl;exact C4z h
theorem iR(hn:n<=100000):szl (Ls n h).length=true:=by rw[bQ];exact Dd hn
theorem Ww{n:Nat}(h:n<=100000):qg (n:Int)=true:=by
 unfold qg;rw[C4z (by omega),C4z (by omega)];rfl
theorem oLe(h:i<=j):cmpop .LtE (.int i) (.int j)=some (.bl true):=by
 show some (D.bl (decide (i<=j)))=_;rw[C4z h]
theorem oLt(h:i<j):cmpop .Lt (.int i) (.int j)=some (.bl true):=by
 show some (D.bl (decide (i<j)))=_;rw[C4z h]
theorem Ph(h:¬ i<j):cmpop .Lt (.int i) (.int j)=some (.bl false):=by
 show some (D.bl (decide (i<j)))=_;rw[H3z h]
theorem J9(h:i=j):cmpop .Eq (.int i) (.int j)=some (.bl true):=by
 subst h;show some (D.bl (i==i))=_;rw[V2z]
theorem Mv(h:i≠j):cmpop .Eq (.int i) (.int j)=some (.bl false):=by
 show some (D.bl (i==j))=_;rw[H1z.mpr h]
theorem Pb(h:i=j):cmpop .NotEq (.int i) (.int j)=some (.bl false):=by
 subst h;show some (D.bl (!(i==i)))=_;rw[V2z];rfl
theorem Gj(h:small i=true\/small j=true):binop .Mult (.int i) (.int j)=some (.int (i*j)):=by
 show(if(small i||small j||(mid i&&mid j))=true then _ else _)=_;rw[T5z (by rw[V3z,V3z];exact .inl h)]
theorem Rk(h:0<j):binop .Mod (.int i) (.int j)=some (.int (i%j)):=by
 show(if decide (0<j)=true then _ else _)=_;rw[T5z (C4z h)]
theorem Xi(h:0<j)(h':j<1073741824):binop .FloorDiv (.int i) (.int j)=some (.int (i / j)):=by
 show(if(decide (0<j)&&decide (j<1073741824))=true then _ else _)=_;rw[T5z (by rw[C4z h,C4z h'];rfl)]
mutual
theorem Bg:∀d:D,dep d<1000->deq d d=true
 |.non,_=>rfl
 |.bl b,_=>by simp[deq]
 |.int i,_=>by simp[deq]
 |.str x,_=>by simp[deq]
 |.tup xs,h=>by simp only[deq];exact oU xs (by simp only[dep] at h;omega)
 |.lst xs,h=>by simp only[deq];exact oU xs (by simp only[dep] at h;omega)
 |.exc c,h=>absurd h (by simp[dep])
 |.dic _ _,h=>absurd h (by simp[dep])
 |.obj _,h=>absurd h (by simp[dep])
theorem oU:∀ds:List D,deps ds<1000->qP ds ds=true
 |[],_=>rfl
 |d::ds,h=>by
  simp only[deps] at h;simp only[qP,Bg d (by omega),oU ds (by omega),N4z]
end
theorem oEq(h1:dep x<=50)(h2:dep y<=50)(hk:fW x y=true:=by rfl):cmpop .Eq x y=some (.bl (deq x y)):=by
 show(if(decide (dep x<=50)&&decide (dep y<=50)&&fW x y)=true then some (D.bl (deq x y)) else none)=_;rw[C4z h1,C4z h2,hk];rfl
theorem jq:∀{xs ys:List D},(∀x∈xs,∀y∈ys,fW x y=true)->o9 xs ys=true
 |[],_,_=>by simp[o9]
 |_::_,[],_=>by simp[o9]
 |x::xs,y::ys,h=>by
  rw[o9,h x (N1z ..) y (N1z ..),jq λa ha b hb=>h a (X0z _ ha) b (X0z _ hb)];rfl
theorem oNe(h1:dep x<=50)(h2:dep y<=50)(hk:fW x y=true:=by rfl):cmpop .NotEq x y=some (.bl (!deq x y)):=by
 show(if(decide (dep x<=50)&&decide (dep y<=50)&&fW x y)=true then some (D.bl (!deq x y)) else none)=_;rw[C4z h1,C4z h2,hk];rfl
theorem oZ:∀{l:List D},(∀d∈l,dep d<=b)->deps l<=b
 |[],_=>D5z _
 |d::r,h=>by
  exact Nat.max_le.mpr ⟨h d N1z,oZ λe he=>h e (X0z _ he)⟩
theorem Lk:dep (row n f)<=1:=by
 simp[dep]
 have:=oZ (b:=0) (l:=Ls n λj=>D.int (f j)) λd hd=>by
  obtain⟨i,_,rfl⟩:=List.mem_map.mp hd;simp[dep]
 omega
theorem tY:dep (tbl m n f)<=2:=by
 simp[dep]
 have:=oZ (l:=Ls m λi=>D.tup (Ls n λj=>D.int (f i j))) λd hd=>by
  obtain⟨i,_,rfl⟩:=List.mem_map.mp hd;exact Lk
 omega
section
variable{cx:Cxt}{n:Nat}{sc scope:Scope}{U:Rho}{a b c e:Expr}{es:List Expr}{p q:Pos}{x y z d:D}{ds:List D}{nm:Str}
theorem RJ{j:Nat}(hw:wj cx sc e=.r1 a)(h1:ev cx n sc U a=some (.int j))(hz:j<=100000):evI cx tup (ev cx n sc U) sc e=some (Ls j λk=>.int k):=by
 rw[wR1 hw h1 (Ww hz),lE]
theorem Q5(hw:wj cx sc e=.zp a b)(h1:ev cx n sc U a=some (.tup (Ls m h)))(h2:ev cx n sc U b=some (.tup (Ls m g))):evI cx true (ev cx n sc U) sc e=some (Ls m λi=>.tup [h i,g i]):=by
 rw[wZp hw h1 h2,QS,QT]
theorem V2(hw:wj cx sc e=.rv a)(h1:ev cx n sc U a=some (.tup (Ls m h))):evI cx tup (ev cx n sc U) sc e=some (Ls m λi=>h (m-1-i)):=by
 rw[wRv hw h1,rW]
theorem Vf(hw:wj cx sc e=.sq)(h1:ev cx n sc U e=some (.tup xs)):evI cx tup (ev cx n sc U) sc e=some xs:=wSq hw h1 rfl
theorem VR(hg:cg cx sc nm=some "tuple")(hw:CJ cx sc "tuple" es=.tv a)(h1:ev cx n sc U a=some (.tup (Ls m h))):ev cx (n+1) sc U (.Call (.Name nm q) es [] p)=some (.tup (Ls m λi=>h (m-1-i))):=by
 rw[xTv hg hw h1,rW]
theorem Q0{m j:Nat}(h1:ev cx n sc U a=some (.tup (Ls m h)))(h2:ev cx n sc U b=some (.int j))(hj:j<m)(hs:aJ b=true)(hd:h j=d):ev cx (n+1) sc U (.Subscript a b p)=some d:=hd▸xIx h1 h2 rfl (Ih hj) hs
theorem V0(h1:ev cx n sc U a=some (.tup (Ls m h)))(h2:ev cx n sc U b=some (.int 0))(hj:0<m)(hs:aJ b=true)(hd:h 0=d):ev cx (n+1) sc U (.Subscript a b p)=some d:=hd▸xIx h1 h2 rfl (Ih hj) hs
end
section
variable{cx:Cxt}{n:Nat}{sc scope:Scope}{U:Rho}{a b c e:Expr}{es:List Expr}{p q:Pos}{x y z d:D}{ds:List D}{nm:Str}
end
theorem WR(h:¬ i<=j):cmpop .LtE (.int i) (.int j)=some (.bl false):=by
 show some (D.bl (decide (i<=j)))=_;rw[H3z h]
theorem WT:cmpop .LtE (.int i) (.int j)=some (.bl (decide (i<=j))):=rfl
section
variable{cx:Cxt}{n:Nat}{sc scope:Scope}{U:Rho}{a b c e:Expr}{es:List Expr}{p q:Pos}{x y z d:D}{ds:List D}{nm:Str}{F m:Nat}{r:List Stmt}{fl:Fl}{op op':CmpOp}
theorem RB(h1:ev cx n sc U a=some x)(h2:ev cx n sc U b=some y)(h:cmpop op x y=some (.bl false))(hp:aJ c=true:=by rfl):ev cx (n+1) sc U (.Compare a [op,op'] [b,c] p)=some (.bl false):=by
 simp[ev,hp,Bool.not_true,V1z,Q5z,h1,h2,bind,F3z,h,asB]
end
section
variable{cx:Cxt}{n:Nat}{sc scope:Scope}{U:Rho}{a b c e:Expr}{es:List Expr}{p q:Pos}{x y z d:D}{ds:List D}{nm:Str}{F m:Nat}{r:List Stmt}{fl:Fl}
end
section
variable{cx:Cxt}{n:Nat}{sc scope:Scope}{U:Rho}{a b c e:Expr}{p q:Pos}
end
theorem LR(h:us.length+vs.length<=100000):binop .Add (.tup us) (.tup vs)=some (.tup (us++vs)):=by
 show(if szl (us.length+vs.length)=true then _ else _)=_;rw[T5z (Dd h)]
theorem U0{l:List D}:blt "all" [.lst (l.map λx=>.bl (t x))]=some (.bl (l.all t)):=by
 have key:∀l:List D,rP (l.map λx=>.bl (t x))=some (l.map t):=by
  intro l
  induction l with
  |nil=>rfl
  |cons a r ih=>simp only[I4z,rP,ih];rfl
 show(rP (l.map λx=>.bl (t x))).bind (λbs=>some (D.bl (bs.all id)))=_;rw[key,F3z,List.all_map];rfl
def nOw:Sl->Bool
 |.ow _=>false
 |.oo _=>false
 |_=>true
def mJ(U:Rho):Bool:=U.all λp=>nOw p.2
theorem jg(h:mJ U=true):frz F e U=U:=by
 conv=>rhs;rw[<- G5z U]
 apply I1z;intro p hp;have:=G3z.mp h p hp;obtain⟨x,s⟩:=p
 cases s<;>first|rfl|simp[nOw] at this
theorem Bt(h:mJ U=true):pN U x=true:=by
 unfold pN;rw[G3z];intro p hp;have:=G3z.mp h p hp;obtain⟨y,s⟩:=p
 cases s<;>first|(simp[nOw] at this;done)|simp[Ri]
section
variable{cx:Cxt}{sc:Scope}{U:Rho}{c e:Expr}{p:Pos}{d:D}{nm:Str}{F m:Nat}{r:List Stmt}{fl:Fl}
theorem VH(hc:mJ U=true)(ho:(ownIn sc nm&&(U.map (·.1)).contains nm)=true)(h:ev cx F sc U e=some d)(k:blk cx F (m+1) sc r (fL U nm (nW e d))=some fl)(hoo:(ooE cx sc e&&DY U nm)=false:=by rfl)(hle:Mx cx sc e=false:=by rfl)(hrd:rdA e=false:=by rfl):blk cx F (m+1) sc (.Assign [.Name nm px] e p::r) U=some fl:=by
 refine j5 ho (by rw[jg hc];exact h) ?_ (by rw[jg hc];exact hoo) (by rw[jg hc,Bt hc];simp) hle hrd
 rw[jg hc];exact k
theorem qy(h:cu e=false):ooE cx sc e=false:=by
 cases e<;>first|rfl|exact absurd h (by simp[cu])
theorem qe(h:cu e=false):nW e d=.sh d:=by
 unfold nW;split
 .rw[h];rfl
 .rfl
theorem Uj(hf:frz F e U=U')(ho:(ownIn sc nm&&(U.map (·.1)).contains nm)=true)(hfr:cu e=false)(h:ev cx F sc U' e=some d)(k:blk cx F (m+1) sc r (fL U' nm (.sh d))=some fl)(hle:Mx cx sc e=false:=by rfl)(hrd:rdA e=false:=by rfl):blk cx F (m+1) sc (.Assign [.Name nm px] e p::r) U=some fl:=by
 refine j5 ho (by rw[hf];exact h) ?_ (by rw[qy hfr];rfl) (by rw[hfr];rfl) hle hrd
 rw[hf,qe hfr];exact k
theorem Fg:frz F e ((y,s)::U)=(match s with|.ow ds=>if gn F y e then(y,.sh (.lst ds)) else(y,.ow ds)|.oo dss=>if gn F y e then(y,.sh (.lst (dss.map .lst))) else(y,.oo dss)|s=>(y,s))::frz F e U:=by
 cases s<;>rfl
theorem Fi(h:nOw s=true):frz F e ((y,s)::U)=(y,s)::frz F e U:=by
 cases s<;>first|rfl|simp[nOw] at h
theorem KN(h:gn F y e=true):frz F e ((y,.ow ds)::U)=(y,.sh (.lst ds))::frz F e U:=by
 show(if gn F y e=true then _ else _)::_=_;rw[T5z h];rfl
theorem pD(hc:mJ U=true)(ho:(ownIn sc nm&&(U.map (·.1)).contains nm)=true)(hfr:cu e=false)(h:ev cx F sc U e=some d)(k:blk cx F (m+1) sc r (fL U nm (.sh d))=some fl)(hle:Mx cx sc e=false:=by rfl)(hrd:rdA e=false:=by rfl):blk cx F (m+1) sc (.Assign [.Name nm px] e p::r) U=some fl:=VH hc ho h (by rw[qe hfr];exact k) (by rw[qy hfr];rfl) hle hrd
end
theorem pR(hx:pO e=true)(h:ev cx F sc (frz F e U) e=some d)(h2:ug cx F (m+1) sc r (frz F e U) cn):ug cx F (m+1) sc (.Expr e p::r) U cn:=by
 refine vM ?_ h2;unfold pO at hx;split at hx
 .simp[st,h,O3z]
 .cases hx
theorem M7(hx:pO e=true)(h:evx cx F sc (frz F e U) e=some cn/\ev cx F sc (frz F e U) e=none):ug cx F (m+1) sc (.Expr e p::r) U cn:=Rt hx h.2 h.1
theorem O9{a b:Nat}:cmpop .NotEq (.int a) (.int b)=some (.bl (decide (a≠b))):=by
 rw[oNe (by simp[dep]) (by simp[dep])]
 by_cases h:a=b
 .subst h;simp[deq]
 .simp[deq,h];omega
theorem Tf(h:dep d<=50)(hk:fW d d=true):cmpop .NotEq d d=some (.bl false):=by
 rw[oNe h h hk,Bg d (by omega)];rfl
theorem qU:∀{l:List α},(∀x∈l,f (h x)=some (some (g x)))->bU f (l.map h)=some (l.map g)
 |[],_=>rfl
 |x::l,q=>by
  simp[I4z,bU,q x N1z,bind,F3z,qU λy hy=>q y (X0z _ hy),O3z]
def upd(f:Nat->Nat->Int)(a b:Nat)(v:Int):Nat->Nat->Int:=λi j=>if i=a then(if j=b then v else f i j) else f i j
theorem RD(hf:(isFn cx sc nm (a::es)&&(a::es).all aJ)=true)(h:evx cx n sc U a=some c/\ev cx n sc U a=none):evx cx (n+1) sc U (.Call (.Name nm q) (a::es) [] p)=some c/\ev cx (n+1) sc U (.Call (.Name nm q) (a::es) [] p)=none:=by
 unfold isFn at hf;simp only[A3z] at hf;obtain⟨⟨⟨⟨h2,h3⟩,h4⟩,h5⟩,h6⟩:=hf
 have h3':cx.blt.lookup nm=none:=by simpa using h3
 have hm:jZ (ev cx n sc U) (a::es)=none:=by simp[jZ,h.2,bind,Option.bind_none]
 have h6':(a::es).all aJ=true:=by simpa using h6
 constructor
 .simp only[evx,h2,h5,h6',h4,N4z,S5z,hm,xg,h.2,h.1]
 .simp[ev,h2,h3',S5z,h4,h5,N4z,hm,bind,Option.bind_none]
theorem xP(h:evx cx F sc (frz F e U) e=some cn/\ev cx F sc (frz F e U) e=none):ug cx F (m+1) sc (.Return (some e) p::r) U cn:=Rv h.2 h.1
theorem Ux(hc:mJ U=true)(hs:(swp sc es e).isSome=true)(h:ev cx F sc U e=some d)(hl:tupI d=some l)(hb:bindNames sc es l U=some U')(k:blk cx F (m+1) sc r U'=some fl):blk cx F (m+1) sc (.Assign [.Tuple es j q] e p::r) U=some fl:=gTup hs (by rw[jg hc];exact h) hl (by rw[jg hc];exact hb) k
end DE
namespace L2
open PySem PySem.Spec PyProof.Rows
open DE (D)
structure Cst where
 tabs:List (Str×D)
 don:List D
 und:List D
def pK(l:List (Str×D))(n:Str)(d:D):List (Str×D):=if(l.any λp=>decide (p.1=n))=true then l.map (λp=>if p.1=n then(p.1,d) else p) else l++[(n,d)]
def c7(l:List (Str×D))(n:Str):List (Str×D):=l.filter λp=>decide (p.1≠n)
def bD(l:List (Str×D))(n:Str):Option D:=(l.find? λp=>decide (p.1=n)).map (·.2)
def KvR(K:Zf)(Hs:Hp):List (Str×D)->List (Key×V)->Prop
 |[],kvs=>kvs=[]
 |(n,d)::r,kvs=>∃v q,kvs=(Sum.inr n,v)::q/\Rep K Hs d v/\KvR K Hs r q
section
variable{K:Zf}{Hs Hs' H H':Hp}
theorem KvR.same(e:Same Hs Hs'):∀{l:List (Str×D)}{kvs:List (Key×V)},KvR K Hs l kvs->KvR K Hs' l kvs
 |[],_,h=>h
 |(n,d)::r,_,h=>by
  obtain⟨v,q,rfl,h1,h2⟩:=h;exact⟨v,q,rfl,h1.same e,KvR.same e h2⟩
theorem KvR.length:∀{l:List (Str×D)}{kvs:List (Key×V)},KvR K Hs l kvs->kvs.length=l.length
 |[],_,h=>by cases h;rfl
 |(n,d)::r,_,h=>by
  obtain⟨v,q,rfl,h1,h2⟩:=h;simp[h2.length]
theorem KvR.keys:∀{l:List (Str×D)}{kvs:List (Key×V)},KvR K Hs l kvs->kvs.map (·.1)=(l.map (·.1)).map Sum.inr
 |[],_,h=>by cases h;rfl
 |(n,d)::r,_,h=>by
  obtain⟨v,q,rfl,h1,h2⟩:=h;simp[h2.keys]
theorem KvR.append:∀{l:List (Str×D)}{kvs:List (Key×V)}{n:Str}{d:D}{v:V},KvR K Hs l kvs->Rep K Hs d v->KvR K Hs (l++[(n,d)]) (kvs++[(Sum.inr n,v)])
 |[],_,n,d,v,h,r=>by cases h;exact⟨v,[],rfl,r,rfl⟩
 |(m,e)::l,_,n,d,v,h,r=>by
  obtain⟨u,q,rfl,h1,h2⟩:=h;exact⟨u,_,rfl,h1,h2.append r⟩
theorem qI:((Sum.inr m:Key)=Sum.inr n)↔m=n:=⟨λh=>by cases h;rfl,λh=>by rw[h]⟩
theorem KvR.any:∀{l:List (Str×D)}{kvs:List (Key×V)},KvR K Hs l kvs->(kvs.any λkv=>decide (kv.1=(Sum.inr n:Key)))=(l.any λp=>decide (p.1=n))
 |[],_,h=>by cases h;rfl
 |(m,e)::l,_,h=>by
  obtain⟨u,q,rfl,h1,h2⟩:=h;rw[M4z,M4z,h2.any];congr 1;exact decide_eq_decide.mpr qI
theorem KvR.repl(r:Rep K Hs d v):∀{l:List (Str×D)}{kvs:List (Key×V)},KvR K Hs l kvs->KvR K Hs (l.map (λp=>if p.1=n then(p.1,d) else p)) (kvs.map (λkv=>if kv.1=(Sum.inr n:Key) then(kv.1,v) else kv))
 |[],_,h=>by cases h;rfl
 |(m,e)::l,_,h=>by
  obtain⟨u,q,rfl,h1,h2⟩:=h;rw[I4z,I4z]
  by_cases hm:m=n
  .rw[T5z hm,T5z (qI.mpr hm)]
   exact⟨v,_,rfl,r,KvR.repl r h2⟩
  .rw[U5z hm,U5z (λz=>hm (qI.mp z))]
   exact⟨u,_,rfl,h1,KvR.repl r h2⟩
theorem KvR.put(h:KvR K Hs l kvs)(r:Rep K Hs d v):KvR K Hs (pK l n d) (putK kvs (Sum.inr n) v):=by
 unfold pK putK;rw[h.any];split
 .exact h.repl r
 .exact h.append r
theorem KvR.drop:∀{l:List (Str×D)}{kvs:List (Key×V)},KvR K Hs l kvs->KvR K Hs (c7 l n) (tR kvs (Sum.inr n))
 |[],_,h=>by cases h;rfl
 |(m,e)::l,_,h=>by
  obtain⟨u,q,rfl,h1,h2⟩:=h;have ih:=KvR.drop (n:=n) h2;unfold c7 tR at ih ⊢
  by_cases hm:m=n
  .rw[I0z (by simpa using hm),I0z (by simpa using hm)]
   exact ih
  .rw[J0z (by simpa using hm),J0z (by simpa using hm)]
   exact⟨u,_,rfl,h1,ih⟩
theorem KvR.get:∀{l:List (Str×D)}{kvs:List (Key×V)},KvR K Hs l kvs->(bD l n=none/\jy kvs (Sum.inr n)=none)\/∃d v,bD l n=some d/\jy kvs (Sum.inr n)=some v/\Rep K Hs d v
 |[],_,h=>by cases h;exact .inl ⟨rfl,rfl⟩
 |(m,e)::l,_,h=>by
  obtain⟨u,q,rfl,h1,h2⟩:=h
  by_cases hm:m=n
  .refine .inr ⟨e,u,?_,iK (qI.mpr hm),h1⟩
   unfold bD;rw[List.find?_cons_of_pos (by simpa using hm)];rfl
  .rw[iM (λz=>hm (qI.mp z))]
   have:bD ((m,e)::l) n=bD l n:=by
    unfold bD;rw[List.find?_cons_of_neg (by simpa using hm)]
   rw[this];exact h2.get
end
abbrev nT:Str:="tables"
abbrev nD:Str:="done"
abbrev nU:Str:="undone"
theorem n1:¬ (nT=nD):=by decide +kernel
theorem n2:¬ (nT=nU):=by decide +kernel
theorem n3:¬ (nD=nU):=by decide +kernel
abbrev fl1(d:Addr):List (Str×V):=[(nT,.ref d)]
abbrev fl2(d dn:Addr):List (Str×V):=[(nT,.ref d),(nD,.ref dn)]
abbrev mD(d dn un:Addr):List (Str×V):=[(nT,.ref d),(nD,.ref dn),(nU,.ref un)]
theorem put1(d dn:Addr):m6 nD (.ref dn) (fl1 d)=fl2 d dn:=by
 show(if nT=nD then _ else _)=_;rw[U5z n1];rfl
theorem put2(d dn un:Addr):m6 nU (.ref un) (fl2 d dn)=mD d dn un:=by
 show(if nT=nU then _ else(nT,V.ref d)::(if nD=nU then _ else _))=_;rw[U5z n2,U5z n3];rfl
theorem put3(d dn un un':Addr):m6 nU (.ref un') (mD d dn un)=mD d dn un':=by
 show(if nT=nU then _ else(nT,V.ref d)::(if nD=nU then _ else(nD,V.ref dn)::(if nU=nU then _ else _)))=_;rw[U5z n2,U5z n3,T5z rfl]
theorem qD(d dn un:Addr):(mD d dn un).lookup nT=some (.ref d):=by rfl
theorem zV(d dn un:Addr):(mD d dn un).lookup nD=some (.ref dn):=by rfl
theorem Es(d dn un:Addr):(mD d dn un).lookup nU=some (.ref un):=by rfl
structure CRep(K:Zf)(C:Addr)(Hs H:Hp)(p d dn un:Addr)(S:Cst):Prop where
 ob:∃dx,H p=some (.ins C dx (mD d dn un))
 dc:∃kvs,H d=some (.dK kvs)/\KvR K Hs S.tabs kvs
 dl:∃vs,H dn=some (.lst vs)/\aL K Hs S.don vs
 ul:∃vs,H un=some (.lst vs)/\aL K Hs S.und vs
 ne:dn≠un
 hp:Hs p=none
 hd:Hs d=none
 hn:Hs dn=none
 hu:Hs un=none
structure ExtM(p d dn un un':Addr)(Hs H Hs' H':Hp):Prop where
 vis:Same Hs Hs'
 all:∀b o,H b=some o->b≠p->b≠d->b≠dn->b≠un->H' b=some o
 sub:Same Hs' H'
 hid:∀b o,H b=some o->b≠p->b≠d->b≠dn->b≠un->Hs b=none->Hs' b=none
 nu:un'=un\/H un'=none
theorem bH(E:Same H H1)(z:H1 b=none):H b=none:=by
 cases q:H b with
 |none=>rfl
 |some o=>rw[E _ _ q] at z;cases z
section
variable{K:Zf}{C:Addr}{Hs H Hs1 H1 Hs2 H2:Hp}{p d dn un un1 un2:Addr}{S:Cst}
theorem CRep.ext(S0:CRep K C Hs H p d dn un S)(E:Ext Hs H Hs1 H1):CRep K C Hs1 H1 p d dn un S:=by
 obtain⟨⟨dx,a1⟩,⟨kvs,b1,b2⟩,⟨vs,c1,c2⟩,⟨us,d1,d2⟩,e,f1,f2,f3,f4⟩:=S0;exact⟨⟨dx,E.all _ _ a1⟩,⟨kvs,E.all _ _ b1,b2.same E.vis⟩,⟨vs,E.all _ _ c1,aL.same E.vis _ _ c2⟩,⟨us,E.all _ _ d1,aL.same E.vis _ _ d2⟩,e,E.hid _ _ a1 f1,E.hid _ _ b1 f2,E.hid _ _ c1 f3,E.hid _ _ d1 f4⟩
theorem ExtM.of(E:Ext Hs H Hs1 H1):ExtM p d dn un un Hs H Hs1 H1:=⟨E.vis,λb o e _ _ _ _=>E.all b o e,E.sub,λb o e _ _ _ _=>E.hid b o e,.inl rfl⟩
theorem ExtM.trans(M:ExtM p d dn un un1 Hs H Hs1 H1)(N:ExtM p d dn un1 un2 Hs1 H1 Hs2 H2)(hu:un2=un1\/H un2=none\/un2=un):ExtM p d dn un un2 Hs H Hs2 H2:=by
 have nu:∀b o,H b=some o->b≠un->b≠un1:=λb o e h z=>by
  obtain q|q:=M.nu
  .exact h (z.trans q)
  .rw[z,q] at e;cases e
 refine⟨M.vis.trans N.vis,λb o e a1 a2 a3 a4=>N.all b o (M.all b o e a1 a2 a3 a4) a1 a2 a3 (nu b o e a4),N.sub,λb o e a1 a2 a3 a4 n=>N.hid b o (M.all b o e a1 a2 a3 a4) a1 a2 a3 (nu b o e a4) (M.hid b o e a1 a2 a3 a4 n),?_⟩;obtain h|h|h:=hu
 .rw[h];exact M.nu
 .exact .inr h
 .exact .inl h
theorem ExtM.pre(E:Ext Hs H Hs1 H1)(M:ExtM p d dn un un2 Hs1 H1 Hs2 H2):ExtM p d dn un un2 Hs H Hs2 H2:=by
 refine(ExtM.of E).trans M ?_;obtain z|z:=M.nu
 .exact .inl z
 .exact .inr (.inl (bH E.all z))
theorem CRep.npd(S0:CRep K C Hs H p d dn un S):p≠d:=by obtain⟨⟨dx,a1⟩,⟨kvs,b1,b2⟩,_⟩:=S0;exact cY a1 b1 (by intro z;cases z)
theorem CRep.npn(S0:CRep K C Hs H p d dn un S):p≠dn:=by obtain⟨⟨dx,a1⟩,_,⟨vs,b1,b2⟩,_⟩:=S0;exact cY a1 b1 (by intro z;cases z)
theorem CRep.npu(S0:CRep K C Hs H p d dn un S):p≠un:=by obtain⟨⟨dx,a1⟩,_,_,⟨vs,b1,b2⟩,_⟩:=S0;exact cY a1 b1 (by intro z;cases z)
theorem CRep.ndn(S0:CRep K C Hs H p d dn un S):d≠dn:=by obtain⟨_,⟨dx,a1,_⟩,⟨vs,b1,b2⟩,_⟩:=S0;exact cY a1 b1 (by intro z;cases z)
theorem CRep.ndu(S0:CRep K C Hs H p d dn un S):d≠un:=by obtain⟨_,⟨dx,a1,_⟩,_,⟨vs,b1,b2⟩,_⟩:=S0;exact cY a1 b1 (by intro z;cases z)
theorem iG(hs:Same Hs H)(ha:a=d\/a=dn\/a=un)(n:Hs a=none):ExtM p d dn un un Hs H Hs (upd H a o):=by
 refine⟨.refl _,λb u e a1 a2 a3 a4=>?_,λb u e=>?_,λ_ _ _ _ _ _ _ z=>z,.inl rfl⟩
 .rw[ak (by rcases ha with h|h|h<;>rw[h]<;>assumption)];exact e
 .rw[ak (λz=>by rw[z,n] at e;cases e)];exact hs b u e
theorem CRep.setD(S0:CRep K C Hs H p d dn un S)(r:KvR K Hs t kvs):CRep K C Hs (upd H d (.dK kvs)) p d dn un {S with tabs:=t}:=by
 have h1:=S0.npd;have h2:=S0.ndn;have h3:=S0.ndu
 obtain⟨⟨dx,a1⟩,⟨ks,b1,b2⟩,⟨vs,c1,c2⟩,⟨us,d1,d2⟩,e,f1,f2,f3,f4⟩:=S0;exact⟨⟨dx,by rw[ak h1];exact a1⟩,⟨kvs,au,r⟩,⟨vs,by rw[ak h2.symm];exact c1,c2⟩,⟨us,by rw[ak h3.symm];exact d1,d2⟩,e,f1,f2,f3,f4⟩
theorem CRep.setN(S0:CRep K C Hs H p d dn un S)(r:aL K Hs l vs):CRep K C Hs (upd H dn (.lst vs)) p d dn un {S with don:=l}:=by
 have h1:=S0.npn;have h2:=S0.ndn
 obtain⟨⟨dx,a1⟩,⟨ks,b1,b2⟩,⟨vs,c1,c2⟩,⟨us,d1,d2⟩,e,f1,f2,f3,f4⟩:=S0;exact⟨⟨dx,by rw[ak h1];exact a1⟩,⟨ks,by rw[ak h2];exact b1,b2⟩,⟨_,au,r⟩,⟨us,by rw[ak e.symm];exact d1,d2⟩,e,f1,f2,f3,f4⟩
theorem CRep.setU(S0:CRep K C Hs H p d dn un S)(r:aL K Hs l vs):CRep K C Hs (upd H un (.lst vs)) p d dn un {S with und:=l}:=by
 have h1:=S0.npu;have h2:=S0.ndu
 obtain⟨⟨dx,a1⟩,⟨ks,b1,b2⟩,⟨vs,c1,c2⟩,⟨us,d1,d2⟩,e,f1,f2,f3,f4⟩:=S0;exact⟨⟨dx,by rw[ak h1];exact a1⟩,⟨ks,by rw[ak h2];exact b1,b2⟩,⟨vs,by rw[ak e];exact c1,c2⟩,⟨_,au,r⟩,e,f1,f2,f3,f4⟩
theorem CRep.newU(hs:Same Hs H)(S0:CRep K C Hs H p d dn un S)(hu:H un1=none):CRep K C Hs (upd (upd H un1 (.lst [])) p (.ins C dx (mD d dn un1))) p d dn un1 {S with und:=[]}/\ExtM p d dn un un1 Hs H Hs (upd (upd H un1 (.lst [])) p (.ins C dx (mD d dn un1))):=by
 have h1:=S0.npd;have h2:=S0.npn;have h3:=S0.npu
 obtain⟨⟨dx',a1⟩,⟨ks,b1,b2⟩,⟨vs,c1,c2⟩,⟨us,d1,d2⟩,e,f1,f2,f3,f4⟩:=S0;have k1:=aj a1 hu;have k2:=aj b1 hu;have k3:=aj c1 hu;refine⟨⟨⟨dx,au⟩,⟨ks,by rw[ak h1.symm,ak k2];exact b1,b2⟩,⟨vs,by rw[ak h2.symm,ak k3];exact c1,c2⟩,⟨[],by rw[ak k1.symm,au],.nil⟩,k3,f1,f2,f3,bH hs hu⟩,.refl _,λb u q a1 a2 a3 a4=>?_,λb u q=>?_,λ_ _ _ _ _ _ _ z=>z,.inr hu⟩
 .rw[ak a1,ak (aj q hu)];exact q
 .rw[ak (λz=>by rw[z,f1] at q;cases q),ak (aj (hs _ _ q) hu)];exact hs b u q
end
end L2
namespace M83
open PySem L2 DE
def top(i:Nat):Stmt:=PySem.Challenge.pw_minortables_k83_whole_case_twins.main.body.getD i (.Pass ⟨0,0,0,0⟩)
def cG(t:Stmt):Fd:=⟨(bR t).args.map (·.arg),(bR t).args.map (·.arg)++(((ao t).names.filter λp=>(p.2==.local||p.2==.cell) && !((bR t).args.map (·.arg)).contains p.1).map (·.1)),ao t,aO t⟩
noncomputable def cs:List (Str×D):=[("MOST_LINES",.int 4),("MOST_NUMBER",.int 99),("LETTERS",.str "abcdefghijklmnopqrstuvwxyz"),("MOST_LETTERS",.int 4)]
noncomputable def bl:List (Str×String):=[("len","len"),("all","all"),("sum","sum"),("tuple","tuple"),("list","list"),("dict","dict"),("int","int"),("bool","bool"),("str","str"),("isinstance","isinstance"),("range","range"),("zip","zip"),("reversed","reversed"),("sorted","sorted"),("ValueError","ValueError")]
structure Rw where
 (x:Str) (i:Nat) (f:Addr) (m:Value)
def m0:Value:=.str "minortables.checks" 335
def m1:Value:=.str "minortables.tables" 406
def m2:Value:=.str "minortables.joining" 477
def m3:Value:=.str "minortables.cases" 495
noncomputable def m4:Value:=.str "law_minortables_k83_whole_case_twins" 676
def r1:List Rw:=[⟨"is_whole",12,130,m0⟩,⟨"is_short_tuple",14,144,m0⟩,⟨"has_lines",15,149,m0⟩,⟨"numbers_of",16,156,m0⟩,⟨"has_table_form",17,161,m0⟩,⟨"need_table",18,168,m0⟩,⟨"is_small_row",23,187,m1⟩,⟨"is_table",24,192,m1⟩,⟨"columns_of",26,202,m1⟩,⟨"turned",27,209,m1⟩,⟨"flipped",28,214,m1⟩,⟨"is_name",40,258,m3⟩,⟨"need_name",41,265,m3⟩,⟨"_law_class",49,424,m4⟩,⟨"_law_told",50,431,m4⟩,⟨"_law_all_of",55,460,m4⟩,⟨"law",56,467,m4⟩]
def r2:List Rw:=[⟨"need_same_size",19,175,m0⟩,⟨"need_size",20,182,m0⟩,⟨"column_of",25,197,m1⟩,⟨"row_by_column",29,219,m1⟩,⟨"row_by_columns",30,224,m1⟩,⟨"times",31,229,m1⟩,⟨"row_plus",32,234,m1⟩,⟨"plus",33,239,m1⟩,⟨"set_below",35,246,m2⟩,⟨"set_beside",36,253,m2⟩,⟨"_law_cell",45,398,m4⟩,⟨"_law_times",48,417,m4⟩,⟨"_law_deed",51,438,m4⟩,⟨"_law_behind",53,448,m4⟩,⟨"_law_did",54,455,m4⟩]
def r3:List Rw:=[⟨"is_whole_within",13,137,m0⟩,⟨"joined",42,272,m3⟩,⟨"_law_pick",46,405,m4⟩,⟨"_law_made",52,443,m4⟩]
def r4:List Rw:=[⟨"_law_table",47,410,m4⟩]
def ro:List Rw:=r1++r2++r3++r4
def df:List (Str×Fd):=ro.map λr=>(r.x,cG (top r.i))
noncomputable def xs:List Str:=["NoTable","NoFit","NoPlace","NoStep","NoSteps","NoText","NoName","NoBack"]
def T:Pg:=⟨cs,bl,df,xs,"MinorError"⟩
def BnO(nm:Str)(t:Stmt):Prop:=∀(kV doc pm:Value)(an:Option Addr)(cdv ct:Value)(us:List Value),us.length=(cG t).ps.length->bindArgs (W.fnOf nm nm (bR t) (aO t) (ao t) .none kV doc pm an cdv ct) ⟨us,[]⟩=pure ((cG t).ps.zip us)
def fsB(fd:Fd):Bool:=decide (fd.sc.kind=.function) && !fd.sc.isCoroutine && !fd.sc.isGenerator&&decide fd.N.Nodup&&decide (fd.N.take fd.ps.length=fd.ps)&&fd.ps.all (λx=>decide (fd.sc.names.lookup x=some .local)||decide (fd.sc.names.lookup x=some .cell))&&fd.sc.names.all λy=>decide (y.2≠.free)
theorem KJ{fd:Fd}(h:fsB fd=true):FnScope fd.N fd.ps fd.sc:=by
 unfold fsB at h;simp only[A3z,N2z,M2z,G3z,V3z] at h;obtain⟨⟨⟨⟨⟨⟨h1,h2⟩,h3⟩,h4⟩,h5⟩,h6⟩,h7⟩:=h;exact⟨h1,h2,h3,h4,h5,h6,h7⟩
theorem Qk{K:Zf}{h:Heap}{mg:Str->Option Value}{x nm:Str}{t:Stmt}(X:K.In h)(G:h.Ns mainGlobals mg)(f:Addr)(dc pm cd:Value)(hb:BnO nm t)(a:W.nsIn K mainGlobals x=some (some (.ref f)))
  (l:K.lookup f=some ⟨.type "function",none,.func (W.fnOf nm nm (bR t) (aO t) (ao t) .none .none dc pm none cd .none),#[]⟩) (c:(W.codeIn K cd nm&&W.keepIn K (.ref f)&&fsB (cG t) && !(x==("__debug__":Str)))=true):FunAt K mg x (cG t):=by
 simp only[A3z,M2z] at c;obtain⟨⟨⟨c,k⟩,hs⟩,hd⟩:=c;exact⟨⟨nm,t,f,_,Q4z X G a,fun_mk l c k,(fun_mk l c k).binds hb,rfl,rfl⟩,KJ hs,hd⟩
theorem len1{us:List Value}(h:us.length=1):∃a,us=[a]:=List.length_eq_one_iff.mp h
theorem len2{us:List Value}(h:us.length=2):∃a b,us=[a,b]:=by cases us with|nil=>cases h|cons a r=>obtain⟨b,z⟩:=len1 (us:=r) (Nat.succ.inj h);exact⟨a,b,congrArg (List.cons a) z⟩
theorem Rg{us:List Value}(h:us.length=3):∃a b c,us=[a,b,c]:=by cases us with|nil=>cases h|cons a r=>obtain⟨b,c,z⟩:=len2 (us:=r) (Nat.succ.inj h);exact⟨a,b,c,congrArg (List.cons a) z⟩
theorem TJ{us:List Value}(h:us.length=4):∃a b c d,us=[a,b,c,d]:=by cases us with|nil=>cases h|cons a r=>obtain⟨b,c,d,z⟩:=Rg (us:=r) (Nat.succ.inj h);exact⟨a,b,c,d,congrArg (List.cons a) z⟩
theorem b54:BnO "_law_did" (top 54):=λ_ _ _ _ _ _ _ h=>by obtain⟨_,_,rfl⟩:=len2 h;rfl
theorem b56:BnO "law" (top 56):=λ_ _ _ _ _ _ _ h=>by obtain⟨_,rfl⟩:=len1 h;rfl
theorem in_of{α:Type}{Q:Str->α->Prop}:∀{l:List (Str×α)},(∀p∈l,Q p.1 p.2)->∀f fd,l.lookup f=some fd->Q f fd
 |(y,e)::r,hp,f,fd,h=>by
  rw[U2z] at h
  cases hb:f==y with
  |true =>
   rw[hb] at h
   have e1:f=y:=by simpa using hb
   cases h;subst e1;exact hp _ N1z
  |false =>
   rw[hb] at h;exact in_of (λp hm=>hp p (X0z _ hm)) f fd h
theorem aC{α:Type}{Q:α->Prop}{a:α}{l:List α}(h:Q a)(t:∀p∈l,Q p):∀p∈a::l,Q p:=List.forall_mem_cons.mpr ⟨h,t⟩
theorem aN{α:Type}{Q:α->Prop}:∀p∈([]:List α),Q p:=List.forall_mem_nil _
theorem cA{K:Zf}{h:Heap}{mg:Str->Option Value}{x:Str}{i:Int}(X:K.In h)(G:h.Ns mainGlobals mg)(tk:Tok)(e:W.nsIn K mainGlobals x=some (some (.int i tk))):∃v u,(∀H,Rep K H (D.int i) v)/\mg x=some u/\RelV v u:=⟨.int i,_,λ_=>by simp[Rep],Q4z X G e,⟨_,rfl⟩⟩
theorem cS{K:Zf}{h:Heap}{mg:Str->Option Value}{x y:Str}(X:K.In h)(G:h.Ns mainGlobals mg)(tk:Tok)(e:W.nsIn K mainGlobals x=some (some (.str y tk))):∃v u,(∀H,Rep K H (D.str y) v)/\mg x=some u/\RelV v u:=⟨.str y,_,λ_=>by simp[Rep],Q4z X G e,⟨_,rfl⟩⟩
theorem bA{K:Zf}{h:Heap}{mg:Str->Option Value}{x:Str}{b:String}(X:K.In h)(G:h.Ns mainGlobals mg)(e:W.nsIn K mainGlobals x=some none)(q:x=Str.ofString b):mg x=none/\x=Str.ofString b:=⟨W.mg_none_of X G e,q⟩
theorem bn1:∀r∈r1,BnO r.x (top r.i):=λr hr kV doc pm an cdv ct us h=>by
 obtain⟨a,rfl⟩:=len1 (h.trans (P2z (G3z.mp (show(r1.all λr=>decide ((cG (top r.i)).ps.length=1))=true by rfl') r hr)));exact List.map_inj_left.mp (show(r1.map λr=>bindArgs (W.fnOf r.x r.x (bR (top r.i)) (aO (top r.i)) (ao (top r.i)) .none kV doc pm an cdv ct) ⟨[a],[]⟩)=r1.map λr=>pure ((cG (top r.i)).ps.zip [a]) by rfl') r hr
theorem bn2:∀r∈r2,BnO r.x (top r.i):=λr hr kV doc pm an cdv ct us h=>by
 obtain⟨a,b,rfl⟩:=len2 (h.trans (P2z (G3z.mp (show(r2.all λr=>decide ((cG (top r.i)).ps.length=2))=true by rfl') r hr)));exact List.map_inj_left.mp (show(r2.map λr=>bindArgs (W.fnOf r.x r.x (bR (top r.i)) (aO (top r.i)) (ao (top r.i)) .none kV doc pm an cdv ct) ⟨[a,b],[]⟩)=r2.map λr=>pure ((cG (top r.i)).ps.zip [a,b]) by rfl') r hr
theorem bn3:∀r∈r3,BnO r.x (top r.i):=λr hr kV doc pm an cdv ct us h=>by
 obtain⟨a,b,c,rfl⟩:=Rg (h.trans (P2z (G3z.mp (show(r3.all λr=>decide ((cG (top r.i)).ps.length=3))=true by rfl') r hr)));exact List.map_inj_left.mp (show(r3.map λr=>bindArgs (W.fnOf r.x r.x (bR (top r.i)) (aO (top r.i)) (ao (top r.i)) .none kV doc pm an cdv ct) ⟨[a,b,c],[]⟩)=r3.map λr=>pure ((cG (top r.i)).ps.zip [a,b,c]) by rfl') r hr
theorem bn4:∀r∈r4,BnO r.x (top r.i):=λr hr kV doc pm an cdv ct us h=>by
 obtain⟨a,b,c,d,rfl⟩:=TJ (h.trans (P2z (G3z.mp (show(r4.all λr=>decide ((cG (top r.i)).ps.length=4))=true by rfl') r hr)));exact List.map_inj_left.mp (show(r4.map λr=>bindArgs (W.fnOf r.x r.x (bR (top r.i)) (aO (top r.i)) (ao (top r.i)) .none kV doc pm an cdv ct) ⟨[a,b,c,d],[]⟩)=r4.map λr=>pure ((cG (top r.i)).ps.zip [a,b,c,d]) by rfl') r hr
theorem bns:∀r∈ro,BnO r.x (top r.i):=λr h=>(List.mem_append.mp h).elim (λh=>(List.mem_append.mp h).elim (λh=>(List.mem_append.mp h).elim (λh=>bn1 r h) (bn2 r)) (bn3 r)) (bn4 r)
theorem KH{K:Zf}{h:Heap}{mg:Str->Option Value}(X:K.In h)(G:h.Ns mainGlobals mg)(e1:(ro.map λr=>W.nsIn K mainGlobals r.x)=ro.map λr=>some (some (.ref r.f)))
  (e2:(ro.map λr=>K.lookup r.f)=ro.map λr=>some ⟨.type "function",none,.func (W.fnOf r.x r.x (bR (top r.i)) (aO (top r.i)) (ao (top r.i)) .none .none .none r.m none (.ref (r.f-1)) .none),#[]⟩)
  (e3:(ro.all λr=>W.codeIn K (.ref (r.f-1)) r.x&&W.keepIn K (.ref r.f)&&fsB (cG (top r.i)) && !(r.x==("__debug__":Str)))=true):∀p∈df,FunAt K mg p.1 p.2:=λp hp=>by
 obtain⟨r,hr,rfl⟩:=List.mem_map.mp hp;exact Qk X G r.f .none r.m (.ref (r.f-1)) (bns r hr) (List.map_inj_left.mp e1 r hr) (List.map_inj_left.mp e2 r hr) (G3z.mp e3 r hr)
theorem Lz{K:Zf}{h:Heap}{mg:Str->Option Value}(X:K.In h)(G:h.Ns mainGlobals mg)(e1:(bl.map λp=>W.nsIn K mainGlobals p.1)=bl.map λ_=>some none):∀p∈bl,mg p.1=none/\p.1=Str.ofString p.2:=λp hp =>
 bA X G (List.map_inj_left.mp e1 p hp) (List.map_inj_left.mp (show(bl.map λp=>p.1)=bl.map λp=>Str.ofString p.2 by rfl') p hp)
end M83
local macro_rules | `(tactic| walk_at "xs") => `(tactic| first | exact DE.Xh | exact DE.bLenL | exact DE.VN | rfl | assumption | omega)
local macro_rules | `(tactic| walk_at "xm") => `(tactic| first | exact DE.cT | (refine' DE.aG ?hA ?hB; (case hA=>walk_at "xv"); (case hB=>walk_at "xm")))
local macro_rules | `(tactic| walk_at "xi") => `(tactic| first
 |(refine' DE.Vf ?hA ?hB; (case hA=>rfl); (case hB=>walk_at "xv"))
 |(refine' DE.wSq ?hA ?hB ?hC; (case hA=>rfl); (case hB=>walk_at "xv"); (case hC=>rfl))
 |(refine' DE.RJ ?hA ?hB ?hC; (case hA=>rfl); (case hB=>walk_at "xv"); (case hC=>omega))
 |(refine' DE.Q5 ?hA ?hB ?hC; (case hA=>rfl); (case hB=>walk_at "xv"); (case hC=>walk_at "xv"))
 |(refine' DE.V2 ?hA ?hB; (case hA=>rfl); (case hB=>walk_at "xv"))
 | (refine' DE.wEnL ?hA ?hB; (case hA=>rfl); (case hB=>walk_at "xv")))
local macro_rules | `(tactic| walk_at "xl") => `(tactic| (refine' DE.iw ?hA ?hB ?hC (DE.bM ?hD); (case hA=>rfl); (case hB=>walk_at "xi"); (case hC=>(exact DE.iR (by omega))); (case hD=>(intro i hi; refine' DE.jt ?hE ?hF; (case hE=>rfl); (case hF=>walk_at "xv")))))
local macro_rules | `(tactic| walk_at "xv") => `(tactic| first
 |exact DE.xName rfl
 |exact DE.bZ rfl
 |(refine' DE.dR ?hA ?hB ?hC; (case hA=>walk_at "xv"); (case hB=>walk_at "xv"); (case hC=>walk_at "xs"))
 |(refine' DE.bC ?hA ?hB ?hC; (case hA=>walk_at "xv"); (case hB=>walk_at "xv"); (case hC=>walk_at "xs"))
 |(refine' DE.V0 ?hA ?hB ?hC ?hD ?hE; (case hA=>walk_at "xv"); (case hB=>walk_at "xv"); (case hC=>omega); (case hD=>rfl); (case hE=>rfl))
 |(refine' DE.Q0 ?hA ?hB ?hC ?hD ?hE; (case hA=>walk_at "xv"); (case hB=>walk_at "xv"); (case hC=>omega); (case hD=>rfl); (case hE=>rfl))
 |(refine' DE.xIxLl ?hA ?hB ?hC ?hD ?hE; (case hA=>walk_at "xv"); (case hB=>walk_at "xv"); (case hC=>omega); (case hD=>rfl); (case hE=>rfl))
 |(refine' DE.xIsi ?hA ?hB ?hC ?hD ?hE ?hF ?hG; (case hA=>rfl); (case hB=>rfl); (case hC=>rfl); (case hD=>walk_at "xv"); (case hE=>rfl); (case hF=>rfl); (case hG=>rfl))
 |(refine' DE.iH ?hA ?hB ?hC ?hD ?hE; (case hA=>rfl); (case hB=>rfl); (case hC=>rfl); (case hD=>walk_at "xm"); (case hE=>walk_at "xs"))
 |(refine' DE.aX ?hA ?hB ?hC; (case hA=>rfl); (case hB=>walk_at "xm"); (case hC=>walk_at "xc"))
 |(refine' DE.VR ?hA ?hB ?hC; (case hA=>rfl); (case hB=>rfl); (case hC=>walk_at "xv"))
 |(refine' DE.jW ?hA ?hB; (case hA=>walk_at "xm"); (case hB=>rfl))
 |(refine' DE.QZ ?hA ?hB; (case hA=>walk_at "xm"); (case hB=>rfl))
 |walk_at "xl"
 |(refine' DE.Mq ?hA; (case hA=>walk_at "xv"))
 | (refine' DE.Ry ?hA; (case hA=>walk_at "xv")))
local macro_rules|`(tactic|nofun)=>`(tactic|walk_at "xv")
namespace L2
open PySem PySem.Spec PyProof.Rows
open DE (D)
set_option genInjectivity true in
inductive MR where
 |val (d:D) (S:Cst)
 |exc (c:Str)
def Gn(K:Zf)(C p d dn un:Addr)(Hs H:Hp)(Q:VK)(E:XK):MR->Prop
 |.val r S=>∀v H' Hs' un',ExtM p d dn un un' Hs H Hs' H'->CRep K C Hs' H' p d dn un' S->Rep K Hs' r v->Q v H'
 |.exc c=>∀Cc H' Hs',W.nsIn K mainGlobals c=some (some (.ref Cc))->Ext Hs H Hs' H'->E (.ref Cc) none H'
def spM(K:Zf)(C:Addr)(n:Nat)(f:Cst->List D->Option MR):Sp:=λvs H Q E=>∃(p d dn un:Addr)(Hs:Hp)(S:Cst)(ds:List D)(us:List V)(o:MR),
 vs=.ref p::us/\ds.length=n/\Same Hs H/\CRep K C Hs H p d dn un S/\aL K Hs ds us/\f S ds=some o/\Gn K C p d dn un Hs H Q E o
theorem iy{K:Zf}(h:spM K C n f vs H Q E):vs.length=n+1:=by
 obtain⟨p,d,dn,un,Hs,S,ds,us,o,rfl,e,_,_,r,_⟩:=h;rw[S2z,<- r.length,e]
def nY(S:Cst)(n:Str):D->Option Cst
 |.non=>if(bD S.tabs n).isSome then some {S with tabs:=c7 S.tabs n} else none
 |.obj _=>none
 |t=>if decide (S.tabs.length<1000) then some {S with tabs:=pK S.tabs n t} else none
def dj(w n:Str)(old t:D):D:=.tup [.str w,.str n,old,t]
def doS(S:Cst)(w n:Str)(t:D):Option Cst:=if decide (S.don.length<1000) then nY {S with don:=S.don++[dj w n ((bD S.tabs n).getD .non) t],und:=[]} n t else none
structure CTxt(K:Zf)(mg:Str->Option Value)(C:Addr):Prop where
 cl:Cls K C
 nT:ju K C nT
 nD:ju K C nD
 nU:ju K C nU
 mgC:mg "Case"=some (.ref C)
def bV(P:Program)(w:World)(K:Zf)(mg:Str->Option Value)(C:Addr)(nm:Str)(ps:List Str)(k:Nat)(sp:Sp):Prop :=
 ∃f fd,Meth K C nm f/\Binds K fd ps []/\∀base:Heap,FnOk P w K mg base (CX1 P w) k f fd ps sp
def jH(P:Program)(w:World)(K:Zf)(mg:Str->Option Value)(nm:Str)(ps:List Str)(k:Nat)(sp:Sp):Prop :=
 ∃f fd,mg nm=some (.ref f)/\W.keepIn K (.ref f)=true/\Binds K fd ps []/\∀base:Heap,FnOk P w K mg base (CX1 P w) k f fd ps sp
theorem gM{K:Zf}(X:Text w K mg T)(h:T.defs.lookup f=some fd):jH P w K mg f fd.ps k (spX K (vR (DE.aR T F k)) (xR (DE.aR T F k)) f fd.ps):=by
 have FA:=X.fns f fd h;obtain⟨nm',t',a',g',m1,m2,m3,m4,m5⟩:=FA.ex;exact⟨a',g',m1,m2.kp,m3,λbase=>Ck X k nm' f fd t' a' g' h m2 m4 m5 FA.fs⟩
section
variable{P:Program}{w:World}{K:Zf}{mg:Str->Option Value}{base:Heap}{N:List Str}{qual:Str}{scope:Scope}{f:Addr}{cd:Value}{A:Around}{outer:List Env}{s:Shared}{H:Hp}{E:XK}
theorem j7(XT:XText K mg exs top)(hin:exs.contains x=true)(hh:(A.deeper (envOfC qual scope s.heap.objs.size f cd)).handled=none)(hg:Gl (gW (CX1 P w) P w K mg base N qual scope f cd A outer s H E) x)(hd:(x==("__debug__":Str))=false) :
  PS (gW (CX1 P w) P w K mg base N qual scope f cd A outer s H E) (.Raise (some (.Call (.Name x np) [.Constant (.str txt) j p1] [] cpos)) none pos) (λ_ _ H1=>∀C,W.nsIn K mainGlobals x=some (some (.ref C))->E (.ref C) none H1):=by
 intro y0 s1 Y H1 D I h;obtain⟨C,M,e1,_,e2,_⟩:=XT.cls x hin;exact uM I hh hg (XT.glob _ _ e1) hd e2 λs2 h' e args I2 hm=>mZ I2 hm (h C e1)
end
end L2
namespace M83
open PySem PySem.Spec PyProof.Rows L2
open DE (D)
abbrev iz:Stmt:=top 43
abbrev yO:Stmt:=inClass iz 1
abbrev sDo:Stmt:=inClass iz 2
section
variable{P:Program}{w:World}{K:Zf}{mg:Str->Option Value}{base:Heap}{C:Addr}
def Dh(K:Zf)(C:Addr):Sp:=λvs H Q _=>∃(p d dn un:Addr)(n:Str)(t:D)(v:V)(Hs:Hp)(S S':Cst),vs=[.ref p,.str n,v]/\Same Hs H/\CRep K C Hs H p d dn un S/\Rep K Hs t v/\nY S n t=some S' /\
 ∀H',ExtM p d dn un un Hs H Hs H'->CRep K C Hs H' p d dn un S'->Q .non H'
theorem scS:FnScope ["self","name","table"] ["self","name","table"] (ao yO):=⟨rfl,rfl,rfl,by decide +kernel,rfl,by decide +kernel,by decide +kernel⟩
theorem O6(F:Fun K "set_to" "Case.set_to" yO f fd)(T:CTxt K mg C):FnOk P w K mg base (CX1 P w) 1 f fd ["self","name","table"] (Dh K C):=by
  refine F.okX scS (λvs H Q E h=>?_) (λcdv A outer s H vs Q E hr h=>?_)
  . obtain⟨p,d,dn,un,n,t,v,Hs,S,S',rfl,_⟩:=h
    rfl
  . obtain⟨p,d,dn,un,n,t,v,Hs,S,S',rfl,hs,S0,rt,h,k⟩:=h
    obtain⟨dx,h1⟩:=S0.ob
    obtain⟨kvs,h2,h3⟩:=S0.dc
    refine⟨_,aW (mU (yX (Ou (pv 2))) (aW (bW (DG (dH (pv 0) rfl) (pv 1) ?m1))) (aW (JB (Fb hr) (dH (pv 0) rfl) (pv 1) (pv 2) rfl))),?_⟩
    case m1=>exact⟨rfl,rfl,rfl,rfl⟩
    by_cases hn:t=.non
    . subst hn
      have ev:=oh rt
      subst ev
      refine⟨_,rfl,true,rfl,oH ?_⟩
      simp only[nY] at h
      split at h
      . rename_i hg
        cases h
        rcases h3.get with⟨z,_⟩|⟨d',v,_,e2,_⟩
        . rw[z] at hg;cases hg
        . exact⟨_,rfl,p,C,dx,_,_,rfl,h1,T.cl,T.nT,qD _ _ _,d,rfl,.inl ⟨_,.inl h2⟩,_,rfl,kvs,Sum.inr n,v,h2,rfl,e2,k _ (iG hs (.inl rfl) S0.hd) (S0.setD h3.drop)⟩
      . cases h
    . have hv:v≠.non:=λz=>hn (by
        have e:=vf rt
        rw[z,C4z rfl] at e
        cases t<;>first|rfl|simp[DE.Ku] at e)
      have h':S.tabs.length<1000/\S'={S with tabs:=pK S.tabs n t}:=by
        cases t<;>simp[nY] at h hn ⊢ <;> exact⟨h.1,h.2.symm⟩
      obtain⟨h4,rfl⟩:=h'
      refine⟨_,rfl,false,by rw[H3z hv],mW ?_⟩
      have hl : kvs.length < sizeLine := by have := h3.length; have : (1000 : Nat) <= sizeLine := by decide
                                            omega
      exact⟨_,rfl,_,rfl,p,C,dx,_,_,rfl,h1,T.cl,T.nT,qD _ _ _,_,rfl,d,_,rfl,QW.k (k:=Sum.inr n) h2 hl,k _ (iG hs (.inl rfl) S0.hd) (S0.setD (h3.put rt))⟩
def Jb(K:Zf)(C:Addr):Sp:=λvs H Q _=>∃(p d dn un:Addr)(wd n:Str)(t:D)(v:V)(Hs:Hp)(S S':Cst),vs=[.ref p,.str wd,.str n,v]/\Same Hs H/\CRep K C Hs H p d dn un S/\Rep K Hs t v/\doS S wd n t=some S' /\
 ∀H' Hs' un',ExtM p d dn un un' Hs H Hs' H'->CRep K C Hs' H' p d dn un' S'->Q .non H'
theorem scD:FnScope ["self","word","name","table"] ["self","word","name","table"] (ao sDo):=⟨rfl,rfl,rfl,by decide +kernel,rfl,by decide +kernel,by decide +kernel⟩
theorem Te(F:Fun K "do" "Case.do" sDo f fd)(T:CTxt K mg C)(G:bV P w K mg C "set_to" ["self","name","table"] 1 (Dh K C)):FnOk P w K mg base (CX1 P w) 2 f fd ["self","word","name","table"] (Jb K C):=by
 obtain⟨g,gd,mG,bG,GS⟩:=G;refine F.okX scD (λvs H Q E h=>?_) (λcdv A outer s H vs Q E hr h=>?_)
 .obtain⟨p,d,dn,un,wd,n,t,v,Hs,S,S',rfl,_⟩:=h
  rfl
 .obtain⟨p,d,dn,un,wd,n,t,v,Hs,S,S',rfl,hs,S0,rt,h,k⟩:=h
  obtain⟨dx,h1⟩:=S0.ob;obtain⟨kvs,h2,h3⟩:=S0.dc;obtain⟨ls,h4,h5⟩:=S0.dl
  refine⟨_,aH (bW (wI H0z D0z E0z iW (dH (pv 0) rfl) (aB (uQ (aB (pv 1) (aB (pv 2) (aB (DQ (Fb hr) (dH (pv 0) rfl) (pv 2) ?m1) (aB (pv 3) aM))))) aM)))
   (aH (lH (pv 0) (qx aM) rfl)
   (aW (bW (cV (pv 0) T.cl mG (GS _) hr bG .nil aP (aB (pv 2) (aB (pv 3) aM)))))),?_⟩
  case m1=>exact⟨rfl,rfl,rfl,rfl⟩
  unfold doS at h;split at h
  .rename_i hl
   have hl':=P2z hl
   have lin:(1000:Nat)<=sizeLine:=by decide
   have hll:=h5.length;refine⟨_,rfl,p,C,dx,_,_,rfl,h1,T.cl,T.nD,zV _ _ _,.inl ⟨rfl,_,SqL.of h4⟩,_,rfl,_,rfl,_,rfl,p,C,dx,_,_,rfl,h1,T.cl,T.nT,qD _ _ _,d,rfl,.inl ⟨_,.inl h2⟩,_,rfl,_,ur.k (k:=Sum.inr n) h2,_,rfl,(by show 4<=sizeLine;decide),λx hx=>?_⟩;have E1:=Ext.new hs (.tup [.str wd,.str n,(jy kvs (Sum.inr n)).getD .non,v]) hx;have S1:=S0.ext E1
   have rold:Rep K Hs ((bD S.tabs n).getD .non) ((jy kvs (Sum.inr n)).getD .non):=by
    rcases h3.get with⟨z1,z2⟩|⟨d',v',z1,z2,z3⟩
    .rw[z1,z2];simp[Rep]
    .rw[z1,z2];exact z3
   have rst:Rep K (upd Hs x (.tup [.str wd,.str n,(jy kvs (Sum.inr n)).getD .non,v])) (dj wd n ((bD S.tabs n).getD .non) t) (.ref x):=by
    exact⟨x,_,rfl,.inl (.inl au),aL.same E1.vis _ _ (.cons (by simp[Rep]) (.cons (by simp[Rep]) (.cons rold (.cons rt .nil))))⟩
   have S2:=S1.setN (aL.append (aL.same E1.vis _ _ h5) (.cons rst .nil));have M2:=(iG (p:=p) (d:=d) (dn:=dn) (un:=un) (o:=.lst (ls++[.ref x])) E1.sub (.inr (.inl rfl)) S1.hn).pre E1;refine⟨dn,_,_,rfl,rfl,(E1.all _ _ h4),(by omega),?_⟩;refine⟨by decide,λun' hun=>?_⟩;obtain⟨dx2,p2⟩:=S2.ob;refine⟨_,rfl,p,C,dx2,_,rfl,(by rw[ak (aj p2 hun)];exact p2),T.cl,T.nU,(by show 3<1000;decide),?_⟩;obtain⟨S3,M3⟩:=S2.newU (dx:=dx2) M2.sub hun
   have hun0:H un'=none:=by
    rw[ak (λz=>by rw[z,au] at hun;cases hun)] at hun
    exact bH E1.all hun
   have M4:=M2.trans M3 (.inr (.inl hun0));exact⟨_,rfl,p,dx2,_,rfl,au,rfl,_,rfl,_,rfl,p,d,dn,un',n,t,v,_,_,S',rfl,M4.sub,S3,rt.same E1.vis,h,λH' M5 S5=>k H' _ un' (M4.trans M5 (.inl rfl)) S5⟩
  .cases h
end
end M83
namespace L2
open PySem PySem.Spec PyProof.Rows
open DE (D)
theorem FnOk.weak{K:Zf}(F:FnOk P w K mg base CX k f fd ps sp)(h:∀vs H Q E,sp' vs H Q E->sp vs H Q E):FnOk P w K mg base CX k f fd ps sp' :=
 ⟨λvs H Q E q=>F.len vs H Q E (h _ _ _ _ q),λA outer s H args us vs Q E a b c d e=>F.run A outer s H args us vs Q E a b c d (h _ _ _ _ e)⟩
def Xl(K:Zf)(Hs H:Hp)(Q:VK)(E:XK):Sum D Str->Prop
 |.inl r=>∀v H' Hs',Ext Hs H Hs' H'->Rep K Hs' r v->Q v H'
 |.inr c=>∀Cc H' Hs',W.nsIn K mainGlobals c=some (some (.ref Cc))->Ext Hs H Hs' H'->E (.ref Cc) none H'
def spR(K:Zf)(C:Addr)(n:Nat)(f:Cst->List D->Option (Sum D Str)):Sp:=λvs H Q E=>∃(p d dn un:Addr)(Hs:Hp)(S:Cst)(ds:List D)(us:List V)(o:Sum D Str),
 vs=.ref p::us/\ds.length=n/\Same Hs H/\CRep K C Hs H p d dn un S/\aL K Hs ds us/\f S ds=some o/\Xl K Hs H Q E o
theorem nR{K:Zf}(h:spR K C n f vs H Q E):vs.length=n+1:=by
 obtain⟨p,d,dn,un,Hs,S,ds,us,o,rfl,e,_,_,r,_⟩:=h;rw[S2z,<- r.length,e]
def toM(S:Cst):Sum D Str->MR
 |.inl d=>.val d S
 |.inr c=>.exc c
theorem N8{K:Zf}(h:spM K C n (λS ds=>(f S ds).map (toM S)) vs H Q E):spR K C n f vs H Q E:=by
 obtain⟨p,d,dn,un,Hs,S,ds,us,o,rfl,e,hs,S0,r,ho,k⟩:=h;obtain⟨o',h1,rfl⟩:=O0z.mp ho;refine⟨p,d,dn,un,Hs,S,ds,us,o',rfl,e,hs,S0,r,h1,?_⟩
 cases o' with
 |inl r=>exact λv H' Hs' E1 r1=>k v H' Hs' un (.of E1) (S0.ext E1) r1
 |inr c=>exact k
section
variable(call:Str->List D->Option D)(callx:Str->List D->Option Str)
def ndN(x:D):Option (Sum Str Str):=match callx "need_name" [x] with
 |some c=>some (.inr c)
 |none=>match call "need_name" [x],x with
  |some _,.str s=>some (.inl s)
  |_,_=>none
def jw(S:Cst):List D->Option (Sum D Str)
 |[n]=>match ndN call callx n with
  |some (.inr c)=>some (.inr c)
  |some (.inl s)=>match bD S.tabs s with
   |some d=>some (.inl d)
   |none=>some (.inr "NoName")
  |none=>none
 |_=>none
def Km(S:Cst):List D->Option MR
 |[n,t]=>match call "is_table" [t] with
  |some (.bl false)=>some (.exc "NoTable")
  |some (.bl true)=>match ndN call callx n with
   |some (.inr c)=>some (.exc c)
   |some (.inl s)=>(doS S "put" s t).map (.val (.bl (bD S.tabs s).isSome))
   |none=>none
  |_=>none
 |_=>none
def lV(S:Cst):List D->Option MR
 |[.str s]=>match jw call callx S [.str s] with
  |some (.inl d)=>(doS S "take" s .non).map (.val d)
  |some (.inr c)=>some (.exc c)
  |none=>none
 |[n]=>match jw call callx S [n] with
  |some (.inr c)=>some (.exc c)
  |_=>none
 |_=>none
def doF(fn wd:Str)(S:Cst)(s:Str)(d:D):Option MR:=match callx fn [d] with
 |some c=>some (.exc c)
 |none=>match call fn [d] with
  |some t=>(doS S wd s t).map (.val t)
  |none=>none
def fC(fn wd:Str)(S:Cst):List D->Option MR
 |[.str s]=>match jw call callx S [.str s] with
  |some (.inl d)=>doF call callx fn wd S s d
  |some (.inr c)=>some (.exc c)
  |none=>none
 |[n]=>match jw call callx S [n] with
  |some (.inr c)=>some (.exc c)
  |_=>none
 |_=>none
theorem Ke{x:D}{c:Str}(h:ndN call callx x=some (.inr c)):callx "need_name" [x]=some c:=by
 unfold ndN at h;split at h
 .rename_i c' e;cases h;exact e
 .split at h
  .cases h
  .cases h
theorem Ed{x:D}{s:Str}(h:ndN call callx x=some (.inl s)):x=.str s/\∃d,call "need_name" [x]=some d:=by
 unfold ndN at h;split at h
 .cases h
 .split at h
  .cases h;exact⟨rfl,_,by assumption⟩
  .cases h
end
end L2
namespace M83
open PySem PySem.Spec PyProof.Rows L2
open DE (D)
abbrev R8:Stmt:=inClass iz 3
abbrev R7:Stmt:=inClass iz 4
abbrev Jh:Stmt:=inClass iz 5
section
variable{P:Program}{w:World}{K:Zf}{mg:Str->Option Value}{base:Heap}{C:Addr}{call:Str->List D->Option D}{callx:Str->List D->Option Str}{kk:Nat}{exs:List Str}{tp:Str}
theorem scT:FnScope ["self","name"] ["self","name"] (ao R7):=⟨rfl,rfl,rfl,by decide +kernel,rfl,by decide +kernel,by decide +kernel⟩
theorem O5(F:Fun K "table_of" "Case.table_of" R7 f fd)(T:CTxt K mg C)(XT:XText K mg exs tp)(hin:exs.contains "NoName"=true)(GN:jH P w K mg "need_name" ["thing"] kk (spX K call callx "need_name" ["thing"])) :
  FnOk P w K mg base (CX1 P w) (kk+1) f fd ["self","name"] (spR K C 1 (jw call callx)):=by
 obtain⟨fn,fdn,mgN,kN,bN,gN⟩:=GN;refine F.okX scT (λvs H Q E h=>nR h) (λcdv A outer s H vs Q E hr h=>?_);obtain⟨p,d,dn,un,Hs,S,ds,us,o,rfl,e,hs,S0,r,ho,k⟩:=h;obtain⟨x,rfl⟩:∃x,ds=[x]:=List.length_eq_one_iff.mp e
 obtain⟨v,rfl,rv⟩:∃v,us=[v]/\Rep K Hs x v:=by
  obtain⟨v,q,rfl,r1,rfl⟩:=r;exact⟨v,rfl,r1⟩
 have hu:=Fb hr
 refine⟨_,aH (bW (dX (gN _) hr rfl mgN kN bN .nil aP (aB (pv 1) aM)))
  (aH (mU (yX (zB hu (pv 1) (dH (pv 0) rfl))) (aW (j7 XT hin hr.hd rfl rfl)) fB)
  (aW (cI (JN hu (dH (pv 0) rfl) (pv 1) (λ_ _=>rfl))))),?_⟩
 simp[jw] at ho;refine⟨_,rfl,rfl,Hs,[x],hs,.cons rv .nil,?_⟩;split at ho
 .rename_i c hn
  cases ho;exact .inr ⟨c,Ke _ _ hn,k⟩
 .rename_i sn hn
  obtain⟨rfl,dd,hc⟩:=Ed _ _ hn;refine .inl ⟨dd,hc,λv1 H1 Hs1 E1 _=>?_⟩;cases (show v=.str sn by simpa[Rep] using rv);have S1:=S0.ext E1;obtain⟨dx,h1⟩:=S1.ob;obtain⟨kvs,h2,h3⟩:=S1.dc;refine⟨_,rfl,_,rfl,p,C,dx,_,_,rfl,h1,T.cl,T.nT,qD _ _ _,d,_,rfl,ur.k (k:=Sum.inr sn) h2,?_⟩;rcases h3.get with⟨z1,z2⟩|⟨d',v',z1,z2,z3⟩
  .rw[z1] at ho
   cases ho;rw[z2];exact⟨true,rfl,oH λCc hC=>k Cc H1 Hs1 hC E1⟩
  .rw[z1] at ho
   cases ho;rw[z2];exact⟨false,rfl,mW ⟨_,rfl,p,C,dx,_,_,rfl,h1,T.cl,T.nT,qD _ _ _,_,rfl,d,v',rfl,z2▸ur.k (k:=Sum.inr sn) h2,k v' H1 Hs1 E1 z3⟩⟩
 .cases ho
end
abbrev Jg:Stmt:=inClass iz 7
abbrev Jj:Stmt:=inClass iz 8
theorem repL1{K:Zf}(r:aL K Hs [x] us):∃v,us=[v]/\Rep K Hs x v:=by
 obtain⟨v,q,rfl,r1,rfl⟩:=r;exact⟨v,rfl,r1⟩
theorem repL2{K:Zf}(r:aL K Hs [x,y] us):∃v u,us=[v,u]/\Rep K Hs x v/\Rep K Hs y u:=by
 obtain⟨v,q,rfl,r1,u,q',rfl,r2,rfl⟩:=r;exact⟨v,u,rfl,r1,r2⟩
section
variable{P:Program}{w:World}{K:Zf}{mg:Str->Option Value}{base:Heap}{C:Addr}{call:Str->List D->Option D}{callx:Str->List D->Option Str}{kk:Nat}{exs:List Str}{tp:Str}
theorem scP:FnScope ["self","name","table","had"] ["self","name","table"] (ao R8):=⟨rfl,rfl,rfl,by decide +kernel,rfl,by decide +kernel,by decide +kernel⟩
theorem O7(F:Fun K "put" "Case.put" R8 f fd)(T:CTxt K mg C)(XT:XText K mg exs tp)(hin:exs.contains "NoTable"=true)(hkk:2<=kk)(GN:jH P w K mg "need_name" ["thing"] kk (spX K call callx "need_name" ["thing"]))
  (GT:jH P w K mg "is_table" ["thing"] kk (spX K call callx "is_table" ["thing"])) (GO:bV P w K mg C "do" ["self","word","name","table"] 2 (Jb K C)):FnOk P w K mg base (CX1 P w) (kk+1) f fd ["self","name","table"] (spM K C 2 (Km call callx)):=by
 obtain⟨fn,fdn,mgN,kN,bN,gN⟩:=GN;obtain⟨ft,fdt,mgT,kT,bT,gT⟩:=GT;obtain⟨fo,fdo,mO,bO,gO⟩:=GO;refine F.okX scP (λvs H Q E h=>iy h) (λcdv A outer s H vs Q E hr h=>?_);obtain⟨p,d,dn,un,Hs,S,ds,us,o,rfl,e,hs,S0,r,ho,k⟩:=h
 obtain⟨x,t,rfl⟩:∃x t,ds=[x,t]:=by
  obtain⟨x,q,rfl⟩:=List.exists_cons_of_length_eq_add_one e;obtain⟨t,rfl⟩:=List.length_eq_one_iff.mp (by simpa using e);exact⟨x,t,rfl⟩
 obtain⟨v,u,rfl,rv,ru⟩:=repL2 r;have hu:=Fb hr
 refine⟨_,aH (mU (yW (yV (dX (gT _) hr rfl mgT kT bT .nil aP (aB (pv 2) aM)))) (aW (j7 XT hin hr.hd rfl (by decide +kernel))) fB)
  (aH (bW (dX (gN _) hr rfl mgN kN bN .nil aP (aB (pv 1) aM)))
  (aH (g8 (i:=3) scP.nd rfl (Or.inl rfl) (Oq (Ox hu (pv 1) (dH (pv 0) rfl))))
  (aH (bW (cV (pv 0) T.cl mO (gO _) (hr.mono hkk) bO .nil aP (aB lK (aB (pv 1) (aB (pv 2) aM)))))
  (aW (cI (pv 3)))))),?_⟩
 simp[Km] at ho;refine⟨_,rfl,rfl,Hs,[t],hs,.cons ru .nil,?_⟩;split at ho
 .rename_i ht
  cases ho;refine .inl ⟨_,ht,λv1 H1 Hs1 E1 r1=>?_⟩;cases dD r1;exact⟨false,rfl,oH λCc hC=>k Cc H1 Hs1 hC E1⟩
 .rename_i ht
  refine .inl ⟨_,ht,λv1 H1 Hs1 E1 r1=>?_⟩;cases dD r1;refine⟨true,rfl,mW ?_⟩;refine⟨_,rfl,rfl,Hs1,[x],E1.sub,.cons (rv.same E1.vis) .nil,?_⟩;split at ho
  .rename_i c hn
   cases ho;exact .inr ⟨c,Ke _ _ hn,λCc H2 Hs2 hC E2=>k Cc H2 Hs2 hC (E1.trans E2)⟩
  .rename_i sn hn
   obtain⟨rfl,dd,hc⟩:=Ed _ _ hn;obtain⟨S',hd,rfl⟩:=O0z.mp ho;refine .inl ⟨dd,hc,λv2 H2 Hs2 E2 _=>?_⟩;cases (show v=.str sn by simpa[Rep] using rv);have E12:=E1.trans E2;have S1:=S0.ext E12;obtain⟨dx,h1⟩:=S1.ob;obtain⟨kvs,h2,h3⟩:=S1.dc;refine⟨_,rfl,_,rfl,p,C,dx,_,_,rfl,h1,T.cl,T.nT,qD _ _ _,d,_,rfl,ur.k (k:=Sum.inr sn) h2,?_⟩;refine⟨_,rfl,p,dx,_,rfl,h1,rfl,_,rfl,_,rfl,p,d,dn,un,"put",sn,t,u,Hs2,S,S',rfl,E12.sub,S1,ru.same E12.vis,hd,λH3 Hs3 un3 M3 S3=>?_⟩;refine⟨_,rfl,k _ H3 Hs3 un3 (M3.pre E12) S3 ?_⟩;rcases h3.get with⟨z1,z2⟩|⟨d',v',z1,z2,z3⟩
   .rw[z1,z2];simp[Rep]
   .rw[z1,z2];simp[Rep]
  .cases ho
 .cases ho
theorem scK:FnScope ["self","name","table"] ["self","name"] (ao Jh):=⟨rfl,rfl,rfl,by decide +kernel,rfl,by decide +kernel,by decide +kernel⟩
theorem sG(h:jw call callx S [x]=some (.inl d)):∃s,x=.str s:=by
 simp[jw] at h;split at h
 .cases h
 .rename_i s e;exact⟨s,(Ed _ _ e).1⟩
 .cases h
theorem J5(F:Fun K "take" "Case.take" Jh f fd)(T:CTxt K mg C)(hkk:1<=kk)(GT:bV P w K mg C "table_of" ["self","name"] (kk+1) (spR K C 1 (jw call callx)))(GO:bV P w K mg C "do" ["self","word","name","table"] 2 (Jb K C)) :
  FnOk P w K mg base (CX1 P w) (kk+2) f fd ["self","name"] (spM K C 1 (lV call callx)):=by
 obtain⟨ft,fdt,mT,bT,gT⟩:=GT;obtain⟨fo,fdo,mO,bO,gO⟩:=GO;refine F.okX scK (λvs H Q E h=>iy h) (λcdv A outer s H vs Q E hr h=>?_);obtain⟨p,d,dn,un,Hs,S,ds,us,o,rfl,e,hs,S0,r,ho,k⟩:=h;obtain⟨x,rfl⟩:∃x,ds=[x]:=List.length_eq_one_iff.mp e;obtain⟨v,rfl,rv⟩:=repL1 r;obtain⟨dx,h1⟩:=S0.ob
 refine⟨_,aH (g8 (i:=2) scK.nd rfl (Or.inl rfl) (cV (pv 0) T.cl mT (gT _) hr bT .nil aP (aB (pv 1) aM)))
  (aH (bW (cV (pv 0) T.cl mO (gO _) (hr.mono (by omega)) bO .nil aP (aB lK (aB (pv 1) (aB Hj aM)))))
  (aW (cI (pv 2)))),?_⟩
 refine⟨_,rfl,p,dx,_,rfl,h1,rfl,_,rfl,p,d,dn,un,Hs,S,[x],[v],?_⟩
 cases hm:jw call callx S [x] with
 |none=>cases x<;>simp[lV,hm] at ho
 |some o' =>
  refine⟨o',rfl,rfl,hs,S0,.cons rv .nil,rfl,?_⟩
  cases o' with
  |inr c =>
   have:o=.exc c:=by cases x<;>simp[lV,hm] at ho<;>exact ho.symm
   subst this;exact k
  |inl t =>
   obtain⟨sn,rfl⟩:=sG hm;simp only[lV,hm] at ho;obtain⟨S',hd,rfl⟩:=O0z.mp ho;cases (show v=.str sn by simpa[Rep] using rv);intro v1 H1 Hs1 E1 r1;have S1:=S0.ext E1;obtain⟨dx1,h2⟩:=S1.ob;exact⟨_,rfl,p,dx1,_,rfl,h2,rfl,_,rfl,p,d,dn,un,"take",sn,.non,.non,Hs1,S,S',rfl,E1.sub,S1,by simp[Rep],hd,λH3 Hs3 un3 M3 S3=>⟨_,rfl,k _ H3 Hs3 un3 (M3.pre E1) S3 (r1.same M3.vis)⟩⟩
theorem scU:FnScope ["self","name","table"] ["self","name"] (ao Jg):=⟨rfl,rfl,rfl,by decide +kernel,rfl,by decide +kernel,by decide +kernel⟩
theorem J4(F:Fun K "turn" "Case.turn" Jg f fd)(T:CTxt K mg C)(hkk:1<=kk)(GF:jH P w K mg "turned" ["table"] kk (spX K call callx "turned" ["table"]))(GT:bV P w K mg C "table_of" ["self","name"] (kk+1) (spR K C 1 (jw call callx)))(GO:bV P w K mg C "do" ["self","word","name","table"] 2 (Jb K C)) :
  FnOk P w K mg base (CX1 P w) (kk+2) f fd ["self","name"] (spM K C 1 (fC call callx "turned" "turn")):=by
 obtain⟨ff,fdf,mgF,kF,bF,gF⟩:=GF;obtain⟨ft,fdt,mT,bT,gT⟩:=GT;obtain⟨fo,fdo,mO,bO,gO⟩:=GO;refine F.okX scU (λvs H Q E h=>iy h) (λcdv A outer s H vs Q E hr h=>?_);obtain⟨p,d,dn,un,Hs,S,ds,us,o,rfl,e,hs,S0,r,ho,k⟩:=h;obtain⟨x,rfl⟩:∃x,ds=[x]:=List.length_eq_one_iff.mp e;obtain⟨v,rfl,rv⟩:=repL1 r;have hr2:Room 2 _:=hr.mono (by omega);obtain⟨dx,h1⟩:=S0.ob
 refine⟨_,aH (g8 (i:=2) scU.nd rfl (Or.inl rfl) (dX (gF _) (hr.mono (by omega)) rfl mgF kF bF .nil aP (aB (cV (pv 0) T.cl mT (gT _) hr bT .nil aP (aB (pv 1) aM)) aM)))
  (aH (bW (cV (pv 0) T.cl mO (gO _) hr2 bO .nil aP (aB lK (aB (pv 1) (aB (pv 2) aM)))))
  (aW (cI (pv 2)))),?_⟩
 refine⟨_,rfl,p,dx,_,rfl,h1,rfl,_,rfl,p,d,dn,un,Hs,S,[x],[v],?_⟩
 cases hm:jw call callx S [x] with
 |none=>cases x<;>simp[fC,hm] at ho
 |some o' =>
  refine⟨o',rfl,rfl,hs,S0,.cons rv .nil,rfl,?_⟩
  cases o' with
  |inr c =>
   have:o=.exc c:=by cases x<;>simp[fC,hm] at ho<;>exact ho.symm
   subst this;exact k
  |inl t =>
   obtain⟨sn,rfl⟩:=sG hm;simp[fC,hm,doF] at ho;cases (show v=.str sn by simpa[Rep] using rv);intro v1 H1 Hs1 E1 r1;refine⟨rfl,Hs1,[t],E1.sub,.cons r1 .nil,?_⟩;split at ho
   .rename_i c hc
    cases ho;exact .inr ⟨c,hc,λCc H2 Hs2 hC E2=>k Cc H2 Hs2 hC (E1.trans E2)⟩
   .split at ho
    .rename_i t' ht
     obtain⟨S',hd,rfl⟩:=O0z.mp ho;refine .inl ⟨t',ht,λv2 H2 Hs2 E2 r2=>?_⟩;have E12:=E1.trans E2;have S1:=S0.ext E12;obtain⟨dx1,h2⟩:=S1.ob;exact⟨_,rfl,p,dx1,_,rfl,h2,rfl,_,rfl,_,rfl,p,d,dn,un,"turn",sn,t',v2,Hs2,S,S',rfl,E12.sub,S1,r2,hd,λH3 Hs3 un3 M3 S3=>⟨_,rfl,k _ H3 Hs3 un3 (M3.pre E12) S3 (r2.same M3.vis)⟩⟩
    .cases ho
theorem scF:FnScope ["self","name","table"] ["self","name"] (ao Jj):=⟨rfl,rfl,rfl,by decide +kernel,rfl,by decide +kernel,by decide +kernel⟩
theorem J7(F:Fun K "flip" "Case.flip" Jj f fd)(T:CTxt K mg C)(hkk:1<=kk)(GF:jH P w K mg "flipped" ["table"] kk (spX K call callx "flipped" ["table"]))(GT:bV P w K mg C "table_of" ["self","name"] (kk+1) (spR K C 1 (jw call callx)))(GO:bV P w K mg C "do" ["self","word","name","table"] 2 (Jb K C)) :
  FnOk P w K mg base (CX1 P w) (kk+2) f fd ["self","name"] (spM K C 1 (fC call callx "flipped" "flip")):=by
 obtain⟨ff,fdf,mgF,kF,bF,gF⟩:=GF;obtain⟨ft,fdt,mT,bT,gT⟩:=GT;obtain⟨fo,fdo,mO,bO,gO⟩:=GO;refine F.okX scF (λvs H Q E h=>iy h) (λcdv A outer s H vs Q E hr h=>?_);obtain⟨p,d,dn,un,Hs,S,ds,us,o,rfl,e,hs,S0,r,ho,k⟩:=h;obtain⟨x,rfl⟩:∃x,ds=[x]:=List.length_eq_one_iff.mp e;obtain⟨v,rfl,rv⟩:=repL1 r;have hr2:Room 2 _:=hr.mono (by omega);obtain⟨dx,h1⟩:=S0.ob
 refine⟨_,aH (g8 (i:=2) scF.nd rfl (Or.inl rfl) (dX (gF _) (hr.mono (by omega)) rfl mgF kF bF .nil aP (aB (cV (pv 0) T.cl mT (gT _) hr bT .nil aP (aB (pv 1) aM)) aM)))
  (aH (bW (cV (pv 0) T.cl mO (gO _) hr2 bO .nil aP (aB lK (aB (pv 1) (aB (pv 2) aM)))))
  (aW (cI (pv 2)))),?_⟩
 refine⟨_,rfl,p,dx,_,rfl,h1,rfl,_,rfl,p,d,dn,un,Hs,S,[x],[v],?_⟩
 cases hm:jw call callx S [x] with
 |none=>cases x<;>simp[fC,hm] at ho
 |some o' =>
  refine⟨o',rfl,rfl,hs,S0,.cons rv .nil,rfl,?_⟩
  cases o' with
  |inr c =>
   have:o=.exc c:=by cases x<;>simp[fC,hm] at ho<;>exact ho.symm
   subst this;exact k
  |inl t =>
   obtain⟨sn,rfl⟩:=sG hm;simp[fC,hm,doF] at ho;cases (show v=.str sn by simpa[Rep] using rv);intro v1 H1 Hs1 E1 r1;refine⟨rfl,Hs1,[t],E1.sub,.cons r1 .nil,?_⟩;split at ho
   .rename_i c hc
    cases ho;exact .inr ⟨c,hc,λCc H2 Hs2 hC E2=>k Cc H2 Hs2 hC (E1.trans E2)⟩
   .split at ho
    .rename_i t' ht
     obtain⟨S',hd,rfl⟩:=O0z.mp ho;refine .inl ⟨t',ht,λv2 H2 Hs2 E2 r2=>?_⟩;have E12:=E1.trans E2;have S1:=S0.ext E12;obtain⟨dx1,h2⟩:=S1.ob;exact⟨_,rfl,p,dx1,_,rfl,h2,rfl,_,rfl,_,rfl,p,d,dn,un,"flip",sn,t',v2,Hs2,S,S',rfl,E12.sub,S1,r2,hd,λH3 Hs3 un3 M3 S3=>⟨_,rfl,k _ H3 Hs3 un3 (M3.pre E12) S3 (r2.same M3.vis)⟩⟩
    .cases ho
end
end M83
namespace L2
open PySem PySem.Spec PyProof.Rows
open DE (D)
section
variable(call:Str->List D->Option D)(callx:Str->List D->Option Str)
def jO(S:Cst)(n:D)(x y w:D):Option MR:=match callx "joined" [w,x,y] with
 |some c=>some (.exc c)
 |none=>match call "joined" [w,x,y] with
  |some t=>match call "is_table" [t] with
   |some (.bl false)=>some (.exc "NoFit")
   |some (.bl true)=>match n with
    |.str s=>(doS S "join" s t).map (.val t)
    |_=>none
   |_=>none
  |none=>none
def mV(S:Cst):List D->Option MR
 |[n,w,a,b]=>match ndN call callx n with
  |some (.inr c)=>some (.exc c)
  |some (.inl _)=>match jw call callx S [a] with
   |some (.inr c)=>some (.exc c)
   |some (.inl x)=>match jw call callx S [b] with
    |some (.inr c)=>some (.exc c)
    |some (.inl y)=>jO call callx S n x y w
    |none=>none
   |none=>none
  |none=>none
 |_=>none
end
def undo(l:List D):Option (List D×Str×Str×D×D):=match l.getLast? with
 |some (.tup [.str w,.str n,o,t])=>some (l.dropLast,w,n,o,t)
 |_=>none
def jd(S:Cst):List D->Option MR
 |[]=>match S.don with
  |[]=>some (.exc "NoBack")
  |_=>if decide (S.und.length<1000) then match undo S.don with
   |some (l,w,n,o,t)=>(nY {S with don:=l,und:=S.und++[dj w n o t]} n o).map (.val (.str w))
   |none=>none else none
 |_=>none
def jc(S:Cst):List D->Option MR
 |[]=>match S.und with
  |[]=>some (.exc "NoBack")
  |_=>if decide (S.don.length<1000) then match undo S.und with
   |some (l,w,n,o,t)=>(nY {S with und:=l,don:=S.don++[dj w n o t]} n t).map (.val (.str w))
   |none=>none else none
 |_=>none
def jB(S:Cst):List D->Option (Sum D Str)
 |[]=>some (.inl (.tup [.int S.don.length,.int S.und.length]))
 |_=>none
def jL(S:Cst):List D->Option (Sum D Str)
 |[]=>if decide (S.tabs.length<64) then(DE.GR (S.tabs.map (·.1))).map λl=>.inl (.lst (l.map .str)) else none
 |_=>none
theorem xV{K:Zf}(r:aL K Hs l vs)(h:undo l=some (l',w,n,o,t)):∃v,vs[vs.length-1]?=some v/\Rep K Hs (dj w n o t) v/\aL K Hs l' vs.dropLast:=by
 unfold undo at h;split at h
 .rename_i e
  cases h;rw[List.getLast?_eq_getElem?] at e;obtain⟨v,h1,h2⟩:=r.get e;refine⟨v,by rw[<- r.length];exact h1,h2,?_⟩;rw[List.dropLast_eq_take,List.dropLast_eq_take,<- r.length];exact r.take _
 .cases h
end L2
namespace M83
open PySem PySem.Spec PyProof.Rows L2
open DE (D)
abbrev Dj:Stmt:=inClass iz 0
abbrev Ji:Stmt:=inClass iz 6
abbrev uI:Stmt:=inClass iz 9
abbrev sGo:Stmt:=inClass iz 10
abbrev Jk:Stmt:=inClass iz 11
abbrev yP:Stmt:=inClass iz 12
abbrev n8:Stmt:=inClass iz 13
theorem Jt{K:Zf}(r:aL K Hs [x,y,z,t] us):∃v u q s,us=[v,u,q,s]/\Rep K Hs x v/\Rep K Hs y u/\Rep K Hs z q/\Rep K Hs t s:=by
 obtain⟨v,_,rfl,r1,u,_,rfl,r2,q,_,rfl,r3,s,_,rfl,r4,rfl⟩:=r;exact⟨v,u,q,s,rfl,r1,r2,r3,r4⟩
section
variable{P:Program}{w:World}{K:Zf}{mg:Str->Option Value}{base:Heap}{C:Addr}{call:Str->List D->Option D}{callx:Str->List D->Option Str}{kk:Nat}{exs:List Str}{tp:Str}
theorem scJ:FnScope ["self","name","word","one","other","table"] ["self","name","word","one","other"] (ao Ji):=⟨rfl,rfl,rfl,by decide +kernel,rfl,by decide +kernel,by decide +kernel⟩
theorem J6(F:Fun K "join" "Case.join" Ji f fd)(T:CTxt K mg C)(XT:XText K mg exs tp)(hin:exs.contains "NoFit"=true)(hkk:1<=kk)(GN:jH P w K mg "need_name" ["thing"] kk (spX K call callx "need_name" ["thing"]))(GB:jH P w K mg "is_table" ["thing"] kk (spX K call callx "is_table" ["thing"]))
  (GF:jH P w K mg "joined" ["word","one","other"] kk (spX K call callx "joined" ["word","one","other"])) (GT:bV P w K mg C "table_of" ["self","name"] (kk+1) (spR K C 1 (jw call callx))) (GO:bV P w K mg C "do" ["self","word","name","table"] 2 (Jb K C)) :
  FnOk P w K mg base (CX1 P w) (kk+2) f fd ["self","name","word","one","other"] (spM K C 4 (mV call callx)):=by
 obtain⟨fn,fdn,mgN,kN,bN,gN⟩:=GN;obtain⟨fb,fdb,mgB,kB,bB,gB⟩:=GB;obtain⟨ff,fdf,mgF,kF,bF,gF⟩:=GF;obtain⟨ft,fdt,mT,bT,gT⟩:=GT;obtain⟨fo,fdo,mO,bO,gO⟩:=GO;refine F.okX scJ (λvs H Q E h=>iy h) (λcdv A outer s H vs Q E hr h=>?_);obtain⟨p,d,dn,un,Hs,S,ds,us,o,rfl,e,hs,S0,r,ho,k⟩:=h
 match ds,e with
 |[n,wd,a,b],_ =>
 obtain⟨vn,vw,va,vb,rfl,rn,rw',ra,rb⟩:=Jt r;have hr1:Room kk _:=hr.mono (by omega)
 refine⟨_,aH (bW (dX (gN _) hr1 rfl mgN kN bN .nil aP (aB (pv 1) aM)))
  (aH (g8 (i:=5) scJ.nd rfl (Or.inl rfl) (dX (gF _) hr1 rfl mgF kF bF .nil aP (aB (pv 2) (aB (cV (pv 0) T.cl mT (gT _) hr bT .nil aP (aB (pv 3) aM)) (aB (cV (pv 0) T.cl mT (gT _) hr bT .nil aP (aB (pv 4) aM)) aM)))))
  (aH (mU (yW (yV (dX (gB _) hr1 rfl mgB kB bB .nil aP (aB (pv 5) aM)))) (aW (j7 XT hin hr.hd rfl (by decide +kernel))) fB)
  (aH (bW (cV (pv 0) T.cl mO (gO _) (hr.mono (by omega)) bO .nil aP (aB lK (aB (pv 1) (aB (pv 5) aM)))))
  (aW (cI (pv 5)))))),?_⟩
 simp[mV] at ho;refine⟨_,rfl,rfl,Hs,[n],hs,.cons rn .nil,?_⟩;split at ho
 .rename_i c hn
  cases ho;exact .inr ⟨c,Ke _ _ hn,k⟩
 .rename_i sn hn
  obtain⟨rfl,dd,hc⟩:=Ed _ _ hn;cases (show vn=.str sn by simpa[Rep] using rn);refine .inl ⟨dd,hc,λv1 H1 Hs1 E1 _=>?_⟩;have S1:=S0.ext E1;obtain⟨dx1,q1⟩:=S1.ob;refine⟨_,rfl,_,rfl,p,dx1,_,rfl,q1,rfl,_,rfl,p,d,dn,un,Hs1,S,[a],[va],?_⟩
  cases hm:jw call callx S [a] with
  |none=>rw[hm] at ho;cases ho
  |some o1 =>
   rw[hm] at ho;refine⟨o1,rfl,rfl,E1.sub,S1,.cons (ra.same E1.vis) .nil,rfl,?_⟩
   cases o1 with
   |inr c=>cases ho;exact λCc H2 Hs2 hC E2=>k Cc H2 Hs2 hC (E1.trans E2)
   |inl x =>
    intro v2 H2 Hs2 E2 r2;have E12:=E1.trans E2;have S2:=S0.ext E12;obtain⟨dx2,q2⟩:=S2.ob;refine⟨_,rfl,p,dx2,_,rfl,q2,rfl,_,rfl,p,d,dn,un,Hs2,S,[b],[vb],?_⟩
    cases hm2:jw call callx S [b] with
    |none=>simp only[hm2] at ho;cases ho
    |some o2 =>
     simp[hm2] at ho;refine⟨o2,rfl,rfl,E2.sub,S2,.cons (rb.same E12.vis) .nil,rfl,?_⟩
     cases o2 with
     |inr c=>cases ho;exact λCc H2 Hs2 hC E2=>k Cc H2 Hs2 hC (E12.trans E2)
     |inl y =>
      intro v3 H3 Hs3 E3 r3;have E13:=E12.trans E3;simp[jO] at ho;refine⟨rfl,Hs3,[wd,x,y],E3.sub,.cons (rw'.same E13.vis) (.cons (r2.same E3.vis) (.cons r3 .nil)),?_⟩;split at ho
      .rename_i c hc
       cases ho;exact .inr ⟨c,hc,λCc H2 Hs2 hC E2=>k Cc H2 Hs2 hC (E13.trans E2)⟩
      .split at ho
       .rename_i t ht
        refine .inl ⟨t,ht,λv4 H4 Hs4 E4 r4=>?_⟩;have E14:=E13.trans E4;refine⟨_,rfl,rfl,Hs4,[t],E4.sub,.cons r4 .nil,?_⟩;split at ho
        .rename_i hb
         cases ho;refine .inl ⟨_,hb,λv5 H5 Hs5 E5 r5=>?_⟩;cases dD r5;exact⟨false,rfl,oH λCc hC=>k Cc H5 Hs5 hC (E14.trans E5)⟩
        .rename_i hb
         refine .inl ⟨_,hb,λv5 H5 Hs5 E5 r5=>?_⟩;cases dD r5;refine⟨true,rfl,mW ?_⟩;obtain⟨S',hd,rfl⟩:=O0z.mp ho;have E15:=E14.trans E5;have S5:=S0.ext E15;obtain⟨dx5,q5⟩:=S5.ob;exact⟨_,rfl,p,dx5,_,rfl,q5,rfl,_,rfl,_,rfl,p,d,dn,un,"join",sn,t,v4,Hs5,S,S',rfl,E15.sub,S5,r4.same E5.vis,hd,λH6 Hs6 un6 M6 S6=>⟨_,rfl,k _ H6 Hs6 un6 (M6.pre E15) S6 (r4.same (E5.vis.trans M6.vis))⟩⟩
        .cases ho
       .cases ho
 .cases ho
end
def mGo(bk:Bool)(S:Cst):Option MR:=if bk then jd S [] else jc S []
def Q9(K:Zf)(C:Addr):Sp:=λvs H Q E=>∃(p d dn un:Addr)(Hs:Hp)(S:Cst)(bk:Bool)(o:MR),vs=[.ref p,.ref (if bk=true then dn else un),.ref (if bk=true then un else dn),.int (if bk=true then 2 else 3)]/\Same Hs H/\CRep K C Hs H p d dn un S/\mGo bk S=some o/\Gn K C p d dn un Hs H Q E o
section
variable{P:Program}{w:World}{K:Zf}{mg:Str->Option Value}{base:Heap}{C:Addr}{kk:Nat}{exs:List Str}{tp:Str}
theorem scG:FnScope ["self","some","others","place","step"] ["self","some","others","place"] (ao sGo):=⟨rfl,rfl,rfl,by decide +kernel,rfl,by decide +kernel,by decide +kernel⟩
theorem Td(F:Fun K "go" "Case.go" sGo f fd)(T:CTxt K mg C)(XT:XText K mg exs tp)(hin:exs.contains "NoBack"=true)(hlen:mg "len"=none)(G:bV P w K mg C "set_to" ["self","name","table"] 1 (Dh K C)):FnOk P w K mg base (CX1 P w) 2 f fd ["self","some","others","place"] (Q9 K C):=by
 obtain⟨g,gd,mG,bG,GS⟩:=G;refine F.okX scG (λvs H Q E h=>by obtain⟨p,d,dn,un,Hs,S,bk,o,rfl,_⟩:=h;rfl) (λcdv A outer s H vs Q E hr h=>?_);obtain⟨p,d,dn,un,Hs,S,bk,o,rfl,hs,S0,ho,k⟩:=h
 refine⟨_,aH (mU (yX (Ow (bY eU rfl hlen PySem.boot_len (aB (pv 1) aM)) m8)) (aW (j7 XT hin hr.hd rfl rfl)) fB)
  (aH (g8 (i:=4) scG.nd rfl (Or.inl rfl) (Ot H0z PySem.F.slot_list_pop PySem.F.type_list_pop Pu (pv 1)))
  (aH (bW (wI H0z D0z E0z iW (pv 2) (aB (pv 4) aM)))
  (aH (bW (cV (pv 0) T.cl mG (GS _) hr bG .nil aP (aB (zx u9 (pv 4) m8 (λ_ _=>rfl)) (aB (zx u9 (pv 4) (pv 3) (λ_ _=>rfl)) aM))))
  (aW (cI (zx u9 (pv 4) m8 (λ_ _=>rfl))))))),?_⟩
 cases bk with
 |true =>
  obtain⟨la,a1,a2⟩:=S0.dl;obtain⟨lb,b1,b2⟩:=S0.ul;have la':=a2.length;have lb':=b2.length
  replace ho:jd S []=some o:=ho
  simp only[jd] at ho;refine⟨_,rfl,dn,la,rfl,.inl (SqL.of a1),?_⟩;refine⟨_,_,rfl,rfl,?_⟩;split at ho
  .rename_i hnil
   cases ho
   have e0:((la.length:Nat):Int)=0:=by rw[<- la',hnil];rfl
   exact⟨true,congrArg V.bl (C4z e0),oH λCc hC=>k Cc H Hs hC (.refl hs)⟩
  .rename_i hne
   split at ho
   .rename_i hl
    split at ho
    .rename_i l wd n old t hun
     obtain⟨S',hd,rfl⟩:=O0z.mp ho;obtain⟨v,e1,rst,rl⟩:=xV a2 hun
     have lpos:0<la.length:=Nat.pos_of_ne_zero λz=>by rw[<- la'] at z;exact hne (List.length_eq_zero_iff.mp z)
     have e0:¬ ((la.length:Nat):Int)=0:=by omega
     refine⟨false,congrArg V.bl (H3z e0),mW ?_⟩;refine⟨_,rfl,.inl ⟨rfl,_,SqL.of a1⟩,dn,la,v,rfl,rfl,a1,e1,?_⟩;have S1:=S0.setN rl;have M1:=iG (p:=p) (d:=d) (un:=un) (o:=.lst la.dropLast) hs (.inr (.inl rfl)) S0.hn;obtain⟨lb2,c1,c2⟩:=S1.ul
     have ee:lb2=lb:=by
      rw[ak (S0.ne.symm)] at c1;rw[b1] at c1;cases c1;rfl
     subst ee;refine⟨_,rfl,.inl ⟨rfl,_,SqL.of c1⟩,_,rfl,un,lb2,v,rfl,rfl,c1,(L1z (by rw[<- lb'];exact P2z hl) (show(1000:Nat)<=sizeLine by decide)),?_⟩;have S2:=S1.setU (aL.append c2 (.cons rst .nil));have M2:=M1.trans (iG (o:=.lst (lb2++[v])) M1.sub (.inr (.inr rfl)) S1.hu) (.inl rfl);obtain⟨dx2,q2⟩:=S2.ob;obtain⟨x,ws,rfl,sq,rws⟩:=rst;obtain⟨w1,w2,w3,w4,rfl,g1,g2,g3,g4⟩:=Jt rws;have sq2:=M2.sub.tup sq;cases (show w2=.str n by simpa[Rep] using g2);refine⟨_,rfl,p,dx2,_,rfl,q2,rfl,_,rfl,x,_,1,_,rfl,rfl,sq2,rfl,_,rfl,_,rfl,x,_,2,_,rfl,rfl,sq2,rfl,?_⟩;refine⟨p,d,dn,un,n,old,_,Hs,_,S',rfl,M2.sub,S2,g3,hd,λH3 M3 S3=>⟨_,rfl,x,_,0,_,rfl,rfl,M3.sub.tup sq,rfl,k _ H3 Hs un (M2.trans M3 (.inl rfl)) S3 g1⟩⟩
    .cases ho
   .cases ho
 |false =>
  obtain⟨la,a1,a2⟩:=S0.ul;obtain⟨lb,b1,b2⟩:=S0.dl;have la':=a2.length;have lb':=b2.length
  replace ho:jc S []=some o:=ho
  simp only[jc] at ho;refine⟨_,rfl,un,la,rfl,.inl (SqL.of a1),?_⟩;refine⟨_,_,rfl,rfl,?_⟩;split at ho
  .rename_i hnil
   cases ho
   have e0:((la.length:Nat):Int)=0:=by rw[<- la',hnil];rfl
   exact⟨true,congrArg V.bl (C4z e0),oH λCc hC=>k Cc H Hs hC (.refl hs)⟩
  .rename_i hne
   split at ho
   .rename_i hl
    split at ho
    .rename_i l wd n old t hun
     obtain⟨S',hd,rfl⟩:=O0z.mp ho;obtain⟨v,e1,rst,rl⟩:=xV a2 hun
     have lpos:0<la.length:=Nat.pos_of_ne_zero λz=>by rw[<- la'] at z;exact hne (List.length_eq_zero_iff.mp z)
     have e0:¬ ((la.length:Nat):Int)=0:=by omega
     refine⟨false,congrArg V.bl (H3z e0),mW ?_⟩;refine⟨_,rfl,.inl ⟨rfl,_,SqL.of a1⟩,un,la,v,rfl,rfl,a1,e1,?_⟩;have S1:=S0.setU rl;have M1:=iG (p:=p) (d:=d) (dn:=dn) (o:=.lst la.dropLast) hs (.inr (.inr rfl)) S0.hu;obtain⟨lb2,c1,c2⟩:=S1.dl
     have ee:lb2=lb:=by
      rw[ak (S0.ne)] at c1;rw[b1] at c1;cases c1;rfl
     subst ee;refine⟨_,rfl,.inl ⟨rfl,_,SqL.of c1⟩,_,rfl,dn,lb2,v,rfl,rfl,c1,(L1z (by rw[<- lb'];exact P2z hl) (show(1000:Nat)<=sizeLine by decide)),?_⟩;have S2:=S1.setN (aL.append c2 (.cons rst .nil));have M2:=M1.trans (iG (o:=.lst (lb2++[v])) M1.sub (.inr (.inl rfl)) S1.hn) (.inl rfl);obtain⟨dx2,q2⟩:=S2.ob;obtain⟨x,ws,rfl,sq,rws⟩:=rst;obtain⟨w1,w2,w3,w4,rfl,g1,g2,g3,g4⟩:=Jt rws;have sq2:=M2.sub.tup sq;cases (show w2=.str n by simpa[Rep] using g2);refine⟨_,rfl,p,dx2,_,rfl,q2,rfl,_,rfl,x,_,1,_,rfl,rfl,sq2,rfl,_,rfl,_,rfl,x,_,3,_,rfl,rfl,sq2,rfl,?_⟩;refine⟨p,d,dn,un,n,t,_,Hs,_,S',rfl,M2.sub,S2,g4,hd,λH3 M3 S3=>⟨_,rfl,x,_,0,_,rfl,rfl,M3.sub.tup sq,rfl,k _ H3 Hs un (M2.trans M3 (.inl rfl)) S3 g1⟩⟩
    .cases ho
   .cases ho
end
section
variable{P:Program}{w:World}{K:Zf}{mg:Str->Option Value}{base:Heap}{C:Addr}{kk:Nat}{exs:List Str}{tp:Str}
theorem scB:FnScope ["self"] ["self"] (ao Jk):=⟨rfl,rfl,rfl,by decide +kernel,rfl,by decide +kernel,by decide +kernel⟩
theorem scO:FnScope ["self"] ["self"] (ao yP):=⟨rfl,rfl,rfl,by decide +kernel,rfl,by decide +kernel,by decide +kernel⟩
theorem J8(F:Fun K "back" "Case.back" Jk f fd)(T:CTxt K mg C)(G:bV P w K mg C "go" ["self","some","others","place"] 2 (Q9 K C)):FnOk P w K mg base (CX1 P w) 3 f fd ["self"] (spM K C 0 jd):=by
 obtain⟨g,gd,mG,bG,GS⟩:=G;refine F.okX scB (λvs H Q E h=>iy h) (λcdv A outer s H vs Q E hr h=>?_);obtain⟨p,d,dn,un,Hs,S,ds,us,o,rfl,e,hs,S0,r,ho,k⟩:=h;cases List.length_eq_zero_iff.mp e;cases (show us=[] by simpa[aL] using r);obtain⟨dx,h1⟩:=S0.ob;exact⟨_,aW (cI (cV (pv 0) T.cl mG (GS _) hr bG .nil aP (aB (dH (pv 0) rfl) (aB (dH (pv 0) rfl) (aB m8 aM))))),⟨_,rfl,p,dx,_,rfl,h1,rfl,_,rfl,p,C,dx,_,_,rfl,h1,T.cl,T.nD,zV _ _ _,_,rfl,p,C,dx,_,_,rfl,h1,T.cl,T.nU,Es _ _ _,p,d,dn,un,Hs,S,true,o,rfl,hs,S0,ho,k⟩⟩
theorem Eb(F:Fun K "forth" "Case.forth" yP f fd)(T:CTxt K mg C)(G:bV P w K mg C "go" ["self","some","others","place"] 2 (Q9 K C)):FnOk P w K mg base (CX1 P w) 3 f fd ["self"] (spM K C 0 jc):=by
 obtain⟨g,gd,mG,bG,GS⟩:=G;refine F.okX scO (λvs H Q E h=>iy h) (λcdv A outer s H vs Q E hr h=>?_);obtain⟨p,d,dn,un,Hs,S,ds,us,o,rfl,e,hs,S0,r,ho,k⟩:=h;cases List.length_eq_zero_iff.mp e;cases (show us=[] by simpa[aL] using r);obtain⟨dx,h1⟩:=S0.ob;exact⟨_,aW (cI (cV (pv 0) T.cl mG (GS _) hr bG .nil aP (aB (dH (pv 0) rfl) (aB (dH (pv 0) rfl) (aB m8 aM))))),⟨_,rfl,p,dx,_,rfl,h1,rfl,_,rfl,p,C,dx,_,_,rfl,h1,T.cl,T.nU,Es _ _ _,_,rfl,p,C,dx,_,_,rfl,h1,T.cl,T.nD,zV _ _ _,p,d,dn,un,Hs,S,false,o,rfl,hs,S0,ho,k⟩⟩
theorem scN:FnScope ["self"] ["self"] (ao uI):=⟨rfl,rfl,rfl,by decide +kernel,rfl,by decide +kernel,by decide +kernel⟩
theorem Ea(F:Fun K "names" "Case.names" uI f fd)(T:CTxt K mg C)(hsrt:mg "sorted"=none):FnOk P w K mg base (CX1 P w) 1 f fd ["self"] (spR K C 0 jL):=by
 refine F.okX scN (λvs H Q E h=>nR h) (λcdv A outer s H vs Q E hr h=>?_);obtain⟨p,d,dn,un,Hs,S,ds,us,o,rfl,e,hs,S0,r,ho,k⟩:=h;cases List.length_eq_zero_iff.mp e;cases (show us=[] by simpa[aL] using r);obtain⟨dx,h1⟩:=S0.ob;obtain⟨kvs,h2,h3⟩:=S0.dc;simp only[jL] at ho;split at ho
 .rename_i h4
  obtain⟨l,h5,h6⟩:=O0z.mp ho;cases h6;refine⟨_,aW (cI (bY (qZ rfl) rfl hsrt rfl (aB (dH (pv 0) rfl) aM))),?_⟩;refine⟨_,rfl,p,C,dx,_,_,rfl,h1,T.cl,T.nT,qD _ _ _,d,kvs,_,rfl,h2,h3.keys,?_,λa ss ha hp hss=>?_⟩
  .rw[K3z]
   exact P2z h4
  .cases DE.yH h5 hp hss
   have rl:aL K Hs (l.map D.str) (l.map V.str):=by
    clear h5 hp hss k ho
    induction l with
    |nil=>exact .nil
    |cons a l ih=>exact .cons (by simp[Rep]) ih
   exact jA (X:=gW (CX1 P w) P w K mg base ["self"] "Case.names" (ao uI) f cdv A outer s H E) hs rl ha λv H' Hs' E1 r1=>k v H' Hs' E1 r1
 .cases ho
theorem scC:FnScope ["self"] ["self"] (ao n8):=⟨rfl,rfl,rfl,by decide +kernel,rfl,by decide +kernel,by decide +kernel⟩
theorem zJ(F:Fun K "counts" "Case.counts" n8 f fd)(T:CTxt K mg C)(hlen:mg "len"=none):FnOk P w K mg base (CX1 P w) 1 f fd ["self"] (spR K C 0 jB):=by
 refine F.okX scC (λvs H Q E h=>nR h) (λcdv A outer s H vs Q E hr h=>?_);obtain⟨p,d,dn,un,Hs,S,ds,us,o,rfl,e,hs,S0,r,ho,k⟩:=h;cases List.length_eq_zero_iff.mp e;cases (show us=[] by simpa[aL] using r);obtain⟨dx,h1⟩:=S0.ob;obtain⟨ls,h2,h3⟩:=S0.dl;obtain⟨lu,h4,h5⟩:=S0.ul;cases ho;refine⟨_,aW (cI (uQ (aB (bY eU rfl hlen PySem.boot_len (aB (dH (pv 0) rfl) aM)) (aB (bY eU rfl hlen PySem.boot_len (aB (dH (pv 0) rfl) aM)) aM)))),?_⟩;exact⟨_,rfl,p,C,dx,_,_,rfl,h1,T.cl,T.nD,zV _ _ _,dn,_,rfl,.inl (SqL.of h2),_,rfl,p,C,dx,_,_,rfl,h1,T.cl,T.nU,Es _ _ _,un,_,rfl,.inl (SqL.of h4),(by show 2<=sizeLine;decide),λa ha=>(iC (X:=gW (CX1 P w) P w K mg base ["self"] "Case.counts" (ao n8) f cdv A outer s H E) hs (.cons (by simp[Rep,h3.length]) (.cons (by simp[Rep,h5.length]) .nil)) ha λv H' Hs' E1 r1=>k v H' Hs' E1 r1)⟩
def yI(K:Zf)(C:Addr):Sp:=λvs H Q _=>∃(p dx:Addr)(Hs:Hp),vs=[.ref p]/\H p=some (.ins C dx [])/\Same Hs H/\Hs p=none/\∀(d dn un:Addr)(H':Hp),CRep K C Hs H' p d dn un ⟨[],[],[]⟩->H d=none->H dn=none->H un=none->(∀b o,H b=some o->b≠p->H' b=some o)->Q .non H'
theorem scI:FnScope ["self"] ["self"] (ao Dj):=⟨rfl,rfl,rfl,by decide +kernel,rfl,by decide +kernel,by decide +kernel⟩
theorem zH(F:Fun K "__init__" "Case.__init__" Dj f fd)(T:CTxt K mg C):FnOk P w K mg base (CX1 P w) 1 f fd ["self"] (yI K C):=by
 refine F.okX scI (λvs H Q E h=>?_) (λcdv A outer s H vs Q E hr h=>?_)
 .obtain⟨p,dx,Hs,rfl,_⟩:=h
  rfl
 .obtain⟨p,dx,Hs,rfl,hp,hs,hsp,k⟩:=h
  refine⟨_,aH (lH (pv 0) DK rfl) (aH (lH (pv 0) (qx aM) rfl) (aW (lH (pv 0) (qx aM) rfl))),?_⟩;intro d hd;have npd:=aj hp hd;refine⟨_,rfl,p,C,dx,[],rfl,(by rw[ak npd];exact hp),T.cl,T.nT,(by show 0<1000;decide),⟨by decide,λdn hdn=>?_⟩⟩
  have npn:p≠dn:=λz=>by subst z;rw[au] at hdn;cases hdn
  have nnd:dn≠d:=λz=>by subst z;rw[ak npn.symm,au] at hdn;cases hdn
  refine⟨_,rfl,p,C,dx,fl1 d,rfl,(by rw[ak npn,au];rfl),T.cl,T.nD,(by show 1<1000;decide),⟨by decide,λun hun=>?_⟩⟩
  rw[put1] at hun ⊢
  have npu:p≠un:=λz=>by subst z;rw[au] at hun;cases hun
  have nun:un≠dn:=λz=>by subst z;rw[ak npu.symm,au] at hun;cases hun
  have nud:un≠d:=λz=>by subst z;rw[ak npu.symm,ak nun,ak npu.symm,au] at hun;cases hun
  refine⟨_,rfl,p,C,dx,fl2 d dn,rfl,(by rw[ak npu,au]),T.cl,T.nU,(by show 2<1000;decide),?_⟩
  have hdn0:H dn=none:=by rw[ak npn.symm,ak nnd] at hdn;exact hdn
  have hun0:H un=none:=by rw[ak npu.symm,ak nun,ak npu.symm,ak nud] at hun;exact hun
  refine k d dn un _ ⟨⟨dx,au⟩,⟨[],?_,rfl⟩,⟨[],?_,.nil⟩,⟨[],?_,.nil⟩,nun.symm,hsp,bH hs hd,bH hs hdn0,bH hs hun0⟩ hd hdn0 hun0 λb o e hb=>?_
  .rw[ak npd.symm,ak nud.symm,ak npd.symm,ak nnd.symm,ak npd.symm,au]
  .rw[ak npn.symm,ak nun.symm,ak npn.symm,au]
  .rw[ak npu.symm,au]
  .rw[ak hb,ak (aj e hun0),ak hb,ak (aj e hdn0),ak hb,ak (aj e hd)];exact e
end
end M83
namespace L2
open PySem PySem.Spec PyProof.Rows
open DE hiding st
abbrev uq:=List (Str×Nat×(Cst->List D->Option MR))
theorem oK(Tx:Text X.w X.K X.mg T)(hk:k<=k')(h1:X.calm=true)(h2:Room k' X.A)(h3:X.env.scope=sc)(h4:sc.kind=.function)(h5:X.N.Nodup):Good (T.cx (aR T F k)) k' X sc :=
  { calm:=h1, room:=h2, sce:=h3, kind:=h4, nd:=h5, cst:=Tx.cst, blt:=Tx.blt, exs:=Tx.exs, kw:=Tx.kw
    fns:=λf' hf'=>by
      obtain⟨fd',hl'⟩:=gK hf'
      have FA:=Tx.fns f' fd' hl'
      obtain⟨nm',t',a',g',m1,m2,m3,m4,m5⟩:=FA.ex
      exact⟨FA.nd,a',g',fd'.ps,λds d h=>gP hl' ds _ (iJ h),λds c h=>gP hl' ds _ (jh h),m1,m2.kp,m3,(Ck Tx k nm' f' fd' t' a' g' hl' m2 m4 m5 FA.fs).mono hk⟩ }
def isNm:Expr->Bool
 |.Name _ _=>true
 |_=>false
structure CaseOk(P:Program)(w:World)(K:Zf)(mg:Str->Option Value)(k:Nat)(C:Addr)(ms:uq):Prop where
 cl:Cls K C
 met:∀m n f,ms.lookup m=some (n,f)->(mD 0 0 0).lookup m=none/\∃ps,bV P w K mg C m ps k (spM K C n f)
def xH(cx:Cxt)(F:Nat)(sc:Scope)(U:Rho):Expr->Option (Addr×Str×List D)
 |.Call (.Attribute o m ap) args [] cp=>match ev cx F sc U o with
  |some (.obj a)=>if isNm o&&ap.endLine==cp.line&&decide (args.length<30) then(jZ (ev cx F sc U) args).map λds=>(a,m,ds) else none
  |_=>none
 |_=>none
def Tn(ms:uq)(S:Cst):Addr×Str×List D->Option (Addr×MR):=λq=>match ms.lookup q.2.1 with
 |some (n,f)=>if q.2.2.length==n then(f S q.2.2).map λo=>(q.1,o) else none
 |none=>none
def xG(cx:Cxt)(ms:uq)(F:Nat)(sc:Scope)(U:Rho)(S:Cst)(e:Expr):Option (Addr×MR):=(xH cx F sc U e).bind (Tn ms S)
theorem Gn.pre{K:Zf}(h:Gn K C p d dn un Hs H Q E o)(E1:Ext Hs H Hs1 H1):Gn K C p d dn un Hs1 H1 Q E o:=by
 cases o with
 |val r S=>exact λv H' Hs' un' M S' r'=>h v H' Hs' un' (M.pre E1) S' r'
 |exc c=>exact λCc H' Hs' hC E2=>h Cc H' Hs' hC (E1.trans E2)
theorem PJ(a b c:Addr)(h:(mD 0 0 0).lookup m=none):(mD a b c).lookup m=none:=by
 simp[List.lookup] at h ⊢
 cases e1:m==nT<;>cases e2:m==nD<;>cases e3:m==nU<;>simp[e1,e2,e3] at h ⊢
theorem xq{l:List (Bool×Sem Value)}(h:l.any (·.1)=false):l.all (λq => !q.1)=true:=by
 rw[G3z];intro q hq;rw[List.any_eq_false] at h;simpa using h q hq
theorem Bx(hp:(backTo cp (starEach args env)).any (·.1)=false)(hl:args.length<30)(hline:(ap.endLine==cp.line)=true) :
  eval (.Call (.Attribute (.Name x px) m ap) args [] cp) env=(do
   let ov <- eval (.Name x px) env
   standAt ap.atName
   let (f,first) <- holding [ov] (getMethod ov m (do return (<- importBound (.Name x px) env).getD true))
   callWith cp f first (backTo cp (starEach args env)) (backToKw cp (keywordEach [] env))):=by
 have hf:methodCallForm (args.length+([]:List Keyword).length) (backTo cp (starEach args env)) (backToKw cp (keywordEach [] env))=true:=by
  unfold methodCallForm;rw[xq hp];show(true&&true&&decide (args.length<30))=true;rw[C4z hl];rfl
 show(do
  let ov <- attributeBase (.Name x px) m env (eval (.Name x px) env)
  standAt ap.atName
  methodCall (.Name x px) m ap cp env ov (args.length+([]:List Keyword).length) (backTo cp (starEach args env)) (backToKw cp (keywordEach [] env)))=_
 unfold methodCall;rw[hf];unfold methodCallPos;rw[T5z (by rw[hline];rfl)];rfl
theorem iZ(G:Good cx k X sc)(hN:X.N=U.map (·.1))(cl:Cls X.K C)(nf:(mD 0 0 0).lookup m=none)(MO:bV X.prog X.w X.K X.mg C m ps kM sp)(hr:Room kM X.A)(hx:Passes (CX1 X.prog X.w) X E)
  (h:xH cx F sc U e=some (p,m,ds)) (hs:Same Hs H) (hst:bL X.K Hs U Y) (S0:CRep X.K C Hs H p d dn un S) (k:∀H1 Hs1 vs,Ext Hs H Hs1 H1->aL X.K Hs1 ds vs->sp (.ref p::vs) H1 Q E):gZ X e Y H Q/\aJ e=true:=by
 unfold xH at h;split at h
 .rename_i o m' ap args cp
  split at h
  .rename_i a ha
   split at h
   .rename_i hp
    rw[A3z,A3z] at hp;obtain⟨⟨hnm,hline⟩,hl30⟩:=hp;have hl30:=P2z hl30;obtain⟨ds',h1,h2⟩:=O0z.mp h;cases h2
    cases o with
    |Name x px =>
     have hn:=(d8 cx F G hN ha).1;obtain⟨hA,hpl⟩:=dY (λe _ d he=>⟨(d8 cx F G hN he).1,aZ he⟩) h1;obtain⟨g,gd,mG,bG,GS⟩:=MO;refine⟨?_,rfl⟩
     cases args with
     |nil =>
      simp[jZ,O2z] at h1;subst h1;refine(Dy aq cl mG (GS _) hr bG .nil hx (Bx rfl hl30 hline)).sem (hn Y H Hs _ hs hst λv H1 Hs1 E1 r1=>?_);cases (show v=.ref p by simpa[Rep] using r1);obtain⟨dx,h3⟩:=(S0.ext E1).ob;exact⟨p,dx,_,rfl,h3,PJ _ _ _ nf,k H1 Hs1 [] E1 .nil⟩
     |cons e1 es =>
      refine(cV aq cl mG (GS _) hr bG .nil hx cQ (aA (hpl e1 (by simp))) (dU λe' he=>hpl e' (X0z _ he)) (Bx (dU hpl) hl30 hline)).sem (hn Y H Hs _ hs hst λv H1 Hs1 E1 r1=>?_);cases (show v=.ref p by simpa[Rep] using r1);obtain⟨dx,h3⟩:=(S0.ext E1).ob;refine⟨p,dx,_,rfl,h3,PJ _ _ _ nf,hA Y H1 Hs1 _ E1.sub (hst.same E1.vis) λvs H2 Hs2 E2 r2=>?_⟩;rw[L3z];exact k H2 Hs2 vs (E1.trans E2) r2
    |_=>cases hnm
   .cases h
  .cases h
 .cases h
theorem wK(h:xH cx F sc U e=some q):aJ e=true:=by
 unfold xH at h;split at h
 .rfl
 .cases h
theorem Kl{K:Zf}(CO:CaseOk P w K mg kM C ms)(h:Tn ms S (p',m,ds)=some (p,o))(hs:Same Hs H)(S0:CRep K C Hs H p d dn un S)(k:Gn K C p d dn un Hs H Q E o) :
  p'=p/\(mD 0 0 0).lookup m=none/\∃ps sp,bV P w K mg C m ps kM sp/\∀H1 Hs1 vs,Ext Hs H Hs1 H1->aL K Hs1 ds vs->sp (.ref p::vs) H1 Q E:=by
 unfold Tn at h;split at h
 .rename_i n f hm
  split at h
  .rename_i hl
   obtain⟨o',h2,h5⟩:=O0z.mp h;cases h5;obtain⟨nf,ps,MO⟩:=CO.met m n f hm;exact⟨rfl,nf,ps,_,MO,λH1 Hs1 vs E1 r=>⟨_,d,dn,un,Hs1,S,ds,vs,_,rfl,by simpa using hl,E1.sub,S0.ext E1,r,h2,k.pre E1⟩⟩
  .cases h
 .cases h
theorem sW(G:Good cx k X sc)(hN:X.N=U.map (·.1))(CO:CaseOk X.prog X.w X.K X.mg kM C ms)(hr:Room kM X.A)(hx:Passes (CX1 X.prog X.w) X E)
  (h:xG cx ms F sc U S e=some (p,o)) (hs:Same Hs H) (hst:bL X.K Hs U Y) (S0:CRep X.K C Hs H p d dn un S) (k:Gn X.K C p d dn un Hs H Q E o):gZ X e Y H Q/\aJ e=true:=by
 obtain⟨⟨p',m,ds⟩,h1,h2⟩:=Option.bind_eq_some_iff.mp h;obtain⟨rfl,nf,ps,sp,MO,q⟩:=Kl CO h2 hs S0 k;exact iZ G hN CO.cl nf MO hr hx h1 hs hst S0 q
def big(Hs H:Hp)(p d dn un:Addr):Hp:=λb=>match Hs b with
 |some o=>some o
 |none=>if b=p\/b=d\/b=dn\/b=un then H b else none
def mix(A B:Hp):Hp:=λb=>match A b with
 |some o=>some o
 |none=>B b
section
variable{Hs H:Hp}{p d dn un:Addr}
theorem uh:Same Hs (big Hs H p d dn un):=λb o e=>by unfold big;rw[e]
theorem BR(hs:Same Hs H):Same (big Hs H p d dn un) H:=λb o e=>by
 unfold big at e;split at e
 .rename_i q;cases e;exact hs _ _ q
 .split at e
  .exact e
  .cases e
theorem vP(h:b=p\/b=d\/b=dn\/b=un)(n:Hs b=none)(e:H b=some o):big Hs H p d dn un b=some o:=by
 unfold big;rw[n];simp only;rw[T5z h];exact e
theorem BW(h:¬ (b=p\/b=d\/b=dn\/b=un))(n:Hs b=none):big Hs H p d dn un b=none:=by
 unfold big;rw[n];simp only;rw[U5z h]
theorem CRep.big{K:Zf}{C:Addr}{S:Cst}{H1:Hp}(S0:CRep K C Hs H p d dn un S)(sm:Same (big Hs H p d dn un) H1):CRep K C Hs H1 p d dn un S:=by
 obtain⟨⟨dx,a1⟩,⟨kvs,b1,b2⟩,⟨vs,c1,c2⟩,⟨us,d1,d2⟩,e,f1,f2,f3,f4⟩:=S0;exact⟨⟨dx,sm _ _ (vP (.inl rfl) f1 a1)⟩,⟨kvs,sm _ _ (vP (.inr (.inl rfl)) f2 b1),b2⟩,⟨vs,sm _ _ (vP (.inr (.inr (.inl rfl))) f3 c1),c2⟩,⟨us,sm _ _ (vP (.inr (.inr (.inr rfl))) f4 d1),d2⟩,e,f1,f2,f3,f4⟩
theorem Kg(v:Same Hs Hb)(s:Same Hb H1)(E:Ext Hs H1 Hs' H'):Ext Hb H1 (mix Hs' Hb) H':=by
 refine⟨λb o e=>?_,E.all,λb o e=>?_,λb o e n=>?_⟩
 .unfold mix
  cases q:Hs b with
  |none=>rw[(λb n o e=>E.hid b o (s _ _ e) n) b q o e];exact e
  |some o' =>
   have:=v _ _ q;rw[e] at this;cases this;rw[E.vis _ _ q]
 .unfold mix at e
  split at e
  .rename_i q;cases e;exact E.sub _ _ q
  .exact E.all _ _ (s _ _ e)
 .unfold mix
  rw[E.hid b o e (bH v n)];exact n
end
theorem CRep.noext{K:Zf}(S0:CRep K C Hs H p d dn un S)(h:H b=some (.ext φ)):¬ (b=p\/b=d\/b=dn\/b=un):=by
 obtain⟨⟨dx,a1⟩,⟨kvs,b1,b2⟩,⟨vs,c1,c2⟩,⟨us,d1,d2⟩,_⟩:=S0;rintro(rfl|rfl|rfl|rfl)
 .rw[a1] at h;cases h
 .rw[b1] at h;cases h
 .rw[c1] at h;cases h
 .rw[d1] at h;cases h
section
variable{K:Zf}{lm:Option (Addr×Str)}{Hs0 H0 Hs H Hs' H':Hp}{U:Rho}{Y:St}{C p d dn un un':Addr}{S S':Cst}
theorem CRep.cY(S0:CRep K C Hs H p d dn un S)(h:H b=none):b≠p/\b≠d/\b≠dn/\b≠un:=by
 obtain⟨⟨dx,a1⟩,⟨kvs,b1,b2⟩,⟨vs,c1,c2⟩,⟨us,d1,d2⟩,_⟩:=S0
 refine⟨?_,?_,?_,?_⟩<;>rintro rfl
 .rw[a1] at h;cases h
 .rw[b1] at h;cases h
 .rw[c1] at h;cases h
 .rw[d1] at h;cases h
theorem Hd.rebase(h:Hd K lm Hs0 H0 Hs H U Y)(vis:Same Hs Hs')(ext:Ext Hs' H0' Hs' H')(key:∀b vs,H b=some (.lst vs)->Hs b=none->H0 b=none->H' b=some (.lst vs)/\Hs' b=none/\H0' b=none)(lam:∀q,lm=some q->H0' q.1=none/\∃l,LamT H' q.1 q.2 l/\Hs' q.1=none/\∀r∈l,Hs' r.2=none):Hd K lm Hs' H0' Hs' H' U Y:=by
 refine⟨ext,h.len,h.sh.same vis,λi x ds e=>?_,h.dis,λi x dss e=>?_,lam⟩
 .obtain⟨a,vs,h1,h2,h3,h4,h5⟩:=h.ow i x ds e
  obtain⟨k1,k2,k3⟩:=key a _ h2 h4 h5;exact⟨a,vs,h1,k1,aL.same vis ds vs h3,k2,k3⟩
 .exact h.oo i x dss e
end
section
variable{X:Cx}{e:Expr}{Y:St}{H:Hp}
theorem mY(h:nQ X e Y H Q)(q:∀v H',Q v H'->R v H'):nQ X e Y H R:=λy0 s I=>thn (h y0 s I) λv s1 ⟨H1,I1,q1⟩=>⟨H1,I1,q _ _ q1⟩
end
end L2
namespace M83
open PySem PySem.Spec PyProof.Rows L2
open DE (D)
def MF(K:Zf)(C:Addr)(m qual:Str)(st:Stmt):Prop:=∃f fd,Meth K C m f/\Fun K m qual st f fd
theorem iY{K:Zf}{st:Stmt}(f:Addr)(pm cdv:Value)(y:W.findIn K (.ref C) x=some (some (.ref f)))(i:W.isFn K (.ref f)=true)(l:K.lookup f=some ⟨.type "function",none,.func (W.fnOf x qual (bR st) (aO st) (ao st) .none .none .none pm none cdv .none),#[]⟩)
  (c:W.codeIn K cdv qual=true) (k:W.keepIn K (.ref f)=true):MF K C x qual st:=⟨f,_,⟨y,i,k⟩,fun_mk l c k⟩
def cl:Str->List D->Option D:=vR (DE.aR T 60 34)
def clx:Str->List D->Option Str:=xR (DE.aR T 60 34)
def ms:uq:=[("put",2,Km cl clx),("take",1,lV cl clx),("table_of",1,λS ds=>(jw cl clx S ds).map (toM S)),("turn",1,fC cl clx "turned" "turn"),("flip",1,fC cl clx "flipped" "flip"),("join",4,mV cl clx),("names",0,λS ds=>(jL S ds).map (toM S)),("counts",0,λS ds=>(jB S ds).map (toM S)),("back",0,jd),("forth",0,jc)]
structure CaseTxt(K:Zf)(mg:Str->Option Value)(C:Addr):Prop where
 t:CTxt K mg C
 set:MF K C "set_to" "Case.set_to" yO
 doo:MF K C "do" "Case.do" sDo
 put:MF K C "put" "Case.put" R8
 tab:MF K C "table_of" "Case.table_of" R7
 take:MF K C "take" "Case.take" Jh
 join:MF K C "join" "Case.join" Ji
 turn:MF K C "turn" "Case.turn" Jg
 flip:MF K C "flip" "Case.flip" Jj
 names:MF K C "names" "Case.names" uI
 go:MF K C "go" "Case.go" sGo
 back:MF K C "back" "Case.back" Jk
 forth:MF K C "forth" "Case.forth" yP
 counts:MF K C "counts" "Case.counts" n8
section
variable{P:Program}{w:World}{K:Zf}{mg:Str->Option Value}{C:Addr}
theorem W4(h:us.length=n)(hn:n=5:=by rfl):∃a b c d e,us=[a,b,c,d,e]:=by
 subst hn
 match us,h with
 |[a,b,c,d,e],_=>exact⟨a,b,c,d,e,rfl⟩
theorem Kh{ms:uq}(h:∀p∈ms,(mD 0 0 0).lookup p.1=none/\∃ps,bV P w K mg C p.1 ps k (spM K C p.2.1 p.2.2)):∀m n f,ms.lookup m=some (n,f)->(mD 0 0 0).lookup m=none/\∃ps,bV P w K mg C m ps k (spM K C n f):=λm n f hl=>by
 induction ms with
 |nil=>cases hl
 |cons q r ih =>
  obtain⟨y,n',f'⟩:=q;rw[U2z] at hl;split at hl
  .rename_i e
   cases hl;have:=eq_of_beq e;subst this;exact h _ (N1z ..)
  .exact ih (λp hp=>h p (X0z _ hp)) hl
theorem ig(h:bV P w K mg C m ps j sp)(hk:j<=k):bV P w K mg C m ps k sp:=by
 obtain⟨f,fd,a,b,c⟩:=h;exact⟨f,fd,a,b,λbase=>(c base).mono hk⟩
theorem zR(h:bV P w K mg C m ps k (spR K C n f)):bV P w K mg C m ps k (spM K C n λS ds=>(f S ds).map (toM S)):=by
 obtain⟨f,fd,a,b,c⟩:=h;exact⟨f,fd,a,b,λbase=>(c base).weak λvs H Q E q=>N8 q⟩
theorem Vv(TX:Text w K mg T)(Y:CaseTxt K mg C):bV P w K mg C "table_of" ["self","name"] 35 (spR K C 1 (jw cl clx)):=by
 obtain⟨fs,ds,ms1,Fs⟩:=Y.tab;exact⟨fs,ds,ms1,Fs.binds λ_ _ _ _ _ _ us hl=>by obtain⟨_,_,rfl⟩:=len2 hl;rfl,λbase=>O5 Fs Y.t TX.exs (by rfl') (gM (F:=60) TX (show T.defs.lookup ("need_name":Str)=some (cG (top 41)) by rfl'))⟩
theorem Vw(TX:Text w K mg T)(Y:CaseTxt K mg C):bV P w K mg C "names" ["self"] 1 (spR K C 0 jL):=by
 obtain⟨fs,ds,ms1,Fs⟩:=Y.names;exact⟨fs,ds,ms1,Fs.binds λ_ _ _ _ _ _ us hl=>by obtain⟨_,rfl⟩:=len1 hl;rfl,λbase=>Ea Fs Y.t (TX.blt "sorted" "sorted" rfl).1⟩
theorem Vy(TX:Text w K mg T)(Y:CaseTxt K mg C):bV P w K mg C "counts" ["self"] 1 (spR K C 0 jB):=by
 obtain⟨fs,ds,ms1,Fs⟩:=Y.counts;exact⟨fs,ds,ms1,Fs.binds λ_ _ _ _ _ _ us hl=>by obtain⟨_,rfl⟩:=len1 hl;rfl,λbase=>zJ Fs Y.t (TX.blt "len" "len" rfl).1⟩
theorem Ig(TX:Text w K mg T)(Y:CaseTxt K mg C):CaseOk P w K mg 36 C ms:=by
 have nn:jH P w K mg "need_name" ["thing"] 34 (spX K cl clx "need_name" ["thing"]):=gM TX (show T.defs.lookup ("need_name":Str)=some (cG (top 41)) by rfl');have it:jH P w K mg "is_table" ["thing"] 34 (spX K cl clx "is_table" ["thing"]):=gM TX (show T.defs.lookup ("is_table":Str)=some (cG (top 24)) by rfl');have tu:jH P w K mg "turned" ["table"] 34 (spX K cl clx "turned" ["table"]):=gM TX (show T.defs.lookup ("turned":Str)=some (cG (top 27)) by rfl');have fl:jH P w K mg "flipped" ["table"] 34 (spX K cl clx "flipped" ["table"]):=gM TX (show T.defs.lookup ("flipped":Str)=some (cG (top 28)) by rfl');obtain⟨fs,ds,ms1,Fs⟩:=Y.set;have GS:bV P w K mg C "set_to" ["self","name","table"] 1 (Dh K C):=⟨fs,ds,ms1,Fs.binds λ_ _ _ _ _ _ us hl=>by obtain⟨_,_,_,rfl⟩:=Rg hl;rfl,λbase=>O6 Fs Y.t⟩;obtain⟨fs,ds,ms1,Fs⟩:=Y.doo;have GO:bV P w K mg C "do" ["self","word","name","table"] 2 (Jb K C):=⟨fs,ds,ms1,Fs.binds λ_ _ _ _ _ _ us hl=>by obtain⟨_,_,_,_,rfl⟩:=TJ hl;rfl,λbase=>Te Fs Y.t GS⟩;have GT:=Vv (P:=P) TX Y;obtain⟨fs,ds,ms1,Fs⟩:=Y.put;have GP:bV P w K mg C "put" ["self","name","table"] 35 (spM K C 2 (Km cl clx)):=⟨fs,ds,ms1,Fs.binds λ_ _ _ _ _ _ us hl=>by obtain⟨_,_,_,rfl⟩:=Rg hl;rfl,λbase=>O7 Fs Y.t TX.exs (by rfl') (by omega) nn it GO⟩;obtain⟨fs,ds,ms1,Fs⟩:=Y.take;have GK:bV P w K mg C "take" ["self","name"] 36 (spM K C 1 (lV cl clx)):=⟨fs,ds,ms1,Fs.binds λ_ _ _ _ _ _ us hl=>by obtain⟨_,_,rfl⟩:=len2 hl;rfl,λbase=>J5 Fs Y.t (by omega) GT GO⟩;obtain⟨fs,ds,ms1,Fs⟩:=Y.turn;have GU:bV P w K mg C "turn" ["self","name"] 36 (spM K C 1 (fC cl clx "turned" "turn")):=⟨fs,ds,ms1,Fs.binds λ_ _ _ _ _ _ us hl=>by obtain⟨_,_,rfl⟩:=len2 hl;rfl,λbase=>J4 Fs Y.t (by omega) tu GT GO⟩;obtain⟨fs,ds,ms1,Fs⟩:=Y.flip;have GF:bV P w K mg C "flip" ["self","name"] 36 (spM K C 1 (fC cl clx "flipped" "flip")):=⟨fs,ds,ms1,Fs.binds λ_ _ _ _ _ _ us hl=>by obtain⟨_,_,rfl⟩:=len2 hl;rfl,λbase=>J7 Fs Y.t (by omega) fl GT GO⟩;obtain⟨fs,ds,ms1,Fs⟩:=Y.join;have GJ:bV P w K mg C "join" ["self","name","word","one","other"] 36 (spM K C 4 (mV cl clx)):=⟨fs,ds,ms1,Fs.binds λ_ _ _ _ _ _ us hl=>by obtain⟨_,_,_,_,_,rfl⟩:=W4 hl;rfl,λbase=>J6 Fs Y.t TX.exs (by rfl') (by omega) nn it (gM (F:=60) TX (show T.defs.lookup ("joined":Str)=some (cG (top 42)) by rfl')) GT GO⟩;obtain⟨fs,ds,ms1,Fs⟩:=Y.go;have GG:bV P w K mg C "go" ["self","some","others","place"] 2 (Q9 K C):=⟨fs,ds,ms1,Fs.binds λ_ _ _ _ _ _ us hl=>by obtain⟨_,_,_,_,rfl⟩:=TJ hl;rfl,λbase=>Td Fs Y.t TX.exs rfl (TX.blt "len" "len" rfl).1 GS⟩;obtain⟨fs,ds,ms1,Fs⟩:=Y.back;have GB:bV P w K mg C "back" ["self"] 3 (spM K C 0 jd):=⟨fs,ds,ms1,Fs.binds λ_ _ _ _ _ _ us hl=>by obtain⟨_,rfl⟩:=len1 hl;rfl,λbase=>J8 Fs Y.t GG⟩;obtain⟨fs,ds,ms1,Fs⟩:=Y.forth;have GN:=Vw (P:=P) TX Y;have GC:=Vy (P:=P) TX Y;refine⟨Y.t.cl,Kh λp hp=>?_⟩;simp only[ms,P4z,B3z,or_false] at hp;rcases hp with rfl|rfl|rfl|rfl|rfl|rfl|rfl|rfl|rfl|rfl
 .exact⟨by rfl',_,ig GP (by omega)⟩
 .exact⟨by rfl',_,GK⟩
 .exact⟨by rfl',_,ig (zR GT) (by omega)⟩
 .exact⟨by rfl',_,GU⟩
 .exact⟨by rfl',_,GF⟩
 .exact⟨by rfl',_,GJ⟩
 .exact⟨by rfl',_,ig (zR GN) (by omega)⟩
 .exact⟨by rfl',_,ig (zR GC) (by omega)⟩
 .exact⟨by rfl',_,ig GB (by omega)⟩
 .exact⟨by rfl',_,ig ⟨fs,ds,ms1,Fs.binds λ_ _ _ _ _ _ us hl=>by obtain⟨_,rfl⟩:=len1 hl;rfl,λbase=>Eb Fs Y.t GG⟩ (by omega)⟩
end
end M83
namespace L2
open PySem PySem.Spec PyProof.Rows
section
variable{X:Cx}
theorem wZ:dz X (.type "dict") (λys H Q=>∃(o:Addr)(kvs:List (Key×V)),ys=[.ref o]/\H o=some (.dK kvs)/\∀a,H a=none->Q (.ref a) (upd H a (.dK kvs))):=by
 intro y0 s Y H ys us Q I r h;obtain⟨o,kvs,rfl,ho,q⟩:=h
 obtain⟨u,rfl,rfl⟩:∃u,us=[u]/\u=Value.ref o:=by
  cases r with
  |cons r1 r2=>cases r2;exact⟨_,rfl,r1⟩
 obtain⟨hz,hS,vs,rel,dd⟩:=FZ I.hok ho;have hn:=I.hok.fresh (B5z s.heap.objs.size);refine kt_call_dict hS dd (by rw[<- rel.length];exact hz) λh' d2 sb=>?_;refine⟨.ref s.heap.objs.size,_,I.laid (λb o' e=>?_) (B5z _) (qO hz (beq_false_of_ne (V4z I.big)) rel d2),rfl,q _ hn⟩;rw[sb.2 b (S4z (R4z e))];exact Heap.get?_push_of_some _ e
end
theorem WM(d dn un d':Addr):m6 nT (.ref d') (mD d dn un)=mD d' dn un:=by
 show(if nT=nT then _ else _)=_;rw[T5z rfl]
theorem WL(d dn un dn':Addr):m6 nD (.ref dn') (mD d dn un)=mD d dn' un:=by
 show(if nT=nD then _ else(nT,V.ref d)::(if nD=nD then _ else _))=_;rw[U5z n1,T5z rfl]
def qb(K:Zf)(C:Addr):Sp:=λvs H Q _=>∃(p d dn un:Addr)(Hs:Hp)(S:Cst),vs=[.ref p]/\Same Hs H/\CRep K C Hs H p d dn un S /\
 ∀(p2 d2 dn2 un2:Addr)(H':Hp),CRep K C Hs H' p2 d2 dn2 un2 S->H p2=none->H d2=none->H dn2=none->H un2=none->Same H H'->Q (.ref p2) H'
end L2
namespace M83
open PySem PySem.Spec PyProof.Rows L2
open DE (D)
abbrev yN:Stmt:=inClass iz 14
section
variable{P:Program}{w:World}{K:Zf}{mg:Str->Option Value}{base:Heap}{C:Addr}
theorem Vl:FnScope ["self","other"] ["self"] (ao yN):=⟨rfl,rfl,rfl,by decide +kernel,rfl,by decide +kernel,by decide +kernel⟩
theorem J3(F:Fun K "twin" "Case.twin" yN f fd)(T:CTxt K mg C)(hdict:mg "dict"=none)(hlist:mg "list"=none)(MK:Mk K C fI)(bI:Binds K fdI ["self"] [])(FI:∀base,FnOk P w K mg base (CX1 P w) 1 fI fdI ["self"] (yI K C)):FnOk P w K mg base (CX1 P w) 3 f fd ["self"] (qb K C):=by
 refine F.okX Vl (λvs H Q E h=>by obtain⟨p,d,dn,un,Hs,S,rfl,_⟩:=h;rfl) (λcdv A outer s H vs Q E hr h=>?_)
 obtain⟨p,d,dn,un,Hs,S,rfl,hs,S0,k⟩:=h
 refine⟨_,aH (g8 (i:=1) Vl.nd rfl (Or.inl rfl) (uR MK (FI _) hr rfl T.mgC bI .nil aP))
  (aH (lH (pv 1) (cZ wZ rfl hdict rfl (aB (dH (pv 0) rfl) aM)) rfl)
  (aH (lH (pv 1) (cZ gG rfl hlist rfl (aB (dH (pv 0) rfl) aM)) rfl)
  (aH (lH (pv 1) (cZ gG rfl hlist rfl (aB (dH (pv 0) rfl) aM)) rfl)
  (aW (cI (pv 1)))))),?_⟩
 intro b dx hb hdx hne
 have up:∀q o,H q=some o->(upd (upd H dx (.own b)) b (.ins C dx [])) q=some o:=λq o e=>by
  rw[ak (aj e hb),ak (aj e hdx)];exact e
 refine⟨b,dx,Hs,rfl,au,λq o e=>up q o (hs q o e),hs.free hb,λd0 n0 u0 H2 CR m1 m2 m3 keep=>⟨rfl,?_⟩⟩;have sm2:=λq o e=>keep q o (up q o e) (aj e hb);obtain⟨⟨ex,a1⟩,⟨kvs,b1,b2⟩,⟨vs,c1,c2⟩,⟨us,d1,d2⟩,_⟩:=S0;obtain⟨⟨e2,g1⟩,_⟩:=CR;refine⟨_,rfl,p,C,ex,_,_,rfl,sm2 _ _ a1,T.cl,T.nT,qD _ _ _,d,kvs,rfl,sm2 _ _ b1,λx hx=>?_⟩;have nbx:=aj g1 hx;refine⟨_,rfl,b,C,e2,_,rfl,(by rw[ak nbx];exact g1),T.cl,T.nT,(by show 3<1000;decide),?_⟩;rw[WM]
 have sm3:∀q o,H q=some o->(upd (upd H2 x (.dK kvs)) b (.ins C e2 (mD x n0 u0))) q=some o:=λq o e=>by
  rw[ak (aj e hb),ak (aj (sm2 _ _ e) hx)];exact sm2 _ _ e
 refine⟨_,rfl,p,C,ex,_,_,rfl,sm3 _ _ a1,T.cl,T.nD,zV _ _ _,dn,vs,rfl,.inl (SqL.of (sm3 _ _ c1)),λy hy=>?_⟩
 have nby:b≠y:=λz=>by rw[<- z,au] at hy;cases hy
 have nxy:x≠y:=λz=>by rw[<- z,ak nbx.symm,au] at hy;cases hy
 refine⟨_,rfl,b,C,e2,_,rfl,(by rw[ak nby,au]),T.cl,T.nD,(by show 3<1000;decide),?_⟩
 rw[WL]
 have hy2:H2 y=none:=by rw[ak nby.symm,ak nxy.symm] at hy;exact hy
 have sm4:∀q o,H q=some o->(upd (upd (upd (upd H2 x (.dK kvs)) b (.ins C e2 (mD x n0 u0))) y (.lst vs)) b (.ins C e2 (mD x y u0))) q=some o:=λq o e=>by
  rw[ak (aj e hb),ak (aj (sm2 _ _ e) hy2)];exact sm3 _ _ e
 refine⟨_,rfl,p,C,ex,_,_,rfl,sm4 _ _ a1,T.cl,T.nU,Es _ _ _,un,us,rfl,.inl (SqL.of (sm4 _ _ d1)),λz hz=>?_⟩
 have nbz:b≠z:=λq=>by rw[<- q,au] at hz;cases hz
 have nyz:y≠z:=λq=>by rw[<- q,ak nby.symm,au] at hz;cases hz
 have nxz:x≠z:=λq=>by rw[<- q,ak nbx.symm,ak nxy,ak nbx.symm,au] at hz;cases hz
 refine⟨_,rfl,b,C,e2,_,rfl,(by rw[ak nbz,au]),T.cl,T.nU,(by show 3<1000;decide),?_⟩
 have hz2:H2 z=none:=by rw[ak nbz.symm,ak nyz.symm,ak nbz.symm,ak nxz.symm] at hz;exact hz
 have old:∀q,H2 q=none->H q=none:=λq e=>bH sm2 e;have hsn:∀q,H q=none->Hs q=none:=λq e=>bH hs e;refine⟨_,rfl,k b x y z _ ⟨⟨e2,au⟩,⟨kvs,?_,b2⟩,⟨vs,?_,c2⟩,⟨us,?_,d2⟩,nyz,hsn _ hb,hsn _ (old _ hx),hsn _ (old _ hy2),hsn _ (old _ hz2)⟩ hb (old _ hx) (old _ hy2) (old _ hz2) λq o e=>?_⟩
 .rw[ak nbx.symm,ak nxz,ak nbx.symm,ak nxy,ak nbx.symm,au]
 .rw[ak nby.symm,ak nyz,ak nby.symm,au]
 .rw[ak nbz.symm,au]
 .rw[ak (aj e hb),ak (aj (sm2 _ _ e) hz2)];exact sm4 _ _ e
end
end M83
namespace L2
open PySem PySem.Spec PyProof.Rows
open DE hiding st
section
variable{P:Program}{w:World}{K:Zf}{mg:Str->Option Value}{base:Heap}
def Vk(f:Addr)(sp:Sp):Sp:=λvs H Q _=>vs=[.ref f]/\sp [] H Q E0
theorem CT
  (Fn:Fun K nm nm t a g) (hbody:aO t=[.Try [.Return (some (.Call (.Name dn p1) [] [] p2)) p3] [h0] [] [] pos])
  (S:FnScope [dn,n] [dn] (ao t)) (ld:(ao t).names.lookup dn=some .local) (pd:aK dn=true)
  (GD:FnOk P w K mg base (CX1 P w) kd f fd [] sp) (ho:base.get? f=some o) (hd:o.data=.func fd) (hb:Binds K fd [] []) :
  FnOk P w K mg base (CX1 P w) (kd+1) a g [dn] (Vk f sp):=by
 unfold aK at pd;rw[A3z,M5z,M5z] at pd;refine Fun.okX Fn S (λvs H Q E h=>by rw[h.1];rfl) λcdv A outer s H vs Q E hr h=>?_;obtain⟨rfl,hsp⟩:=h;refine⟨dW _ (aO t),bf,?_⟩;rw[hbody];generalize hX:gW (CX1 P w) P w K mg base [dn,n] nm (ao t) a cdv A outer s H E=X;refine PSs.sem (aW jK) ?_;intro y0 s0 I;refine I5z (H4z (wpAny_tryStmt_except ?_));subst hX
 let X:=gW (CX1 P w) P w K mg base [dn,n] nm (ao t) a cdv A outer s H E
 let D:Ends:={nx:=λ_ _=>False,rt:=Q}
 let xe:Value->Shared->Prop:=λe s₁=>wpAny (model X.prog X.w) X.A (noteFrame e X.env) (λ_ s₂=>wpAny (model X.prog X.w) X.A (setFlight e none) (λ_ s₃=>wpAny (model X.prog X.w) X.A (handleBy e X.env [h0]) (SP X y0 {nx:=λ_ H'=>Q .non H',rt:=Q}) X.xe s₃) X.xe s₂) X.xe s₁
 have run:dW (X.pinned (X.pn++y0) xe) [.Return (some (.Call (.Name dn p1) [] [] p2)) p3] D (start [dn,n] [.ref f]) H:=by
  refine PSs.sem (aW (cI aq)) ?_;refine BK (X:=X.pinned (X.pn++y0) xe) (i:=0) (E:=E0) GD hr rfl (.inl ld) ho hd hb ?_ rfl hsp (by simpa using pd.1) (by simpa using pd.2);intro pins2 H2 s2 e s3 I2 hcx;obtain⟨_,_,_,_,_,_,z⟩:=hcx;exact z.elim
 refine H5z (run [] s0 (Inv.repin (X:=X) (pn:=X.pn) (y0:=y0) I λp hp=>by simpa using hp)) (λfl s1 q=>?_) λe s1 q=>q
 cases fl with
 |next=>obtain⟨_,_,_,z⟩:=q;exact z.elim
 |brk=>obtain⟨_,_,_,z⟩:=q;exact z.elim
 |cont=>obtain⟨_,_,_,z⟩:=q;exact z.elim
 |ret u =>
  obtain⟨v,Y',H',I',r,z⟩:=q;exact⟨v,Y',H',Inv.repin (pn':=X.pn) I' λp hp=>by simpa using hp,r,z⟩
end
def Mw(cx:Cxt)(ms:uq)(F:Nat)(sc:Scope)(U:Rho)(S:Cst):Expr->Option (Addr×MR)
 |.IfExp c a b _=>match (ev cx F sc U c).bind asB with
  |some t=>xG cx ms F sc U S (if t then a else b)
  |none=>none
 |e=>xG cx ms F sc U S e
theorem Em(G:Good cx k X sc)(hN:X.N=U.map (·.1))(CO:CaseOk X.prog X.w X.K X.mg kM C ms)(hr:Room kM X.A)(hx:Passes (CX1 X.prog X.w) X E)
  (h:Mw cx ms F sc U S e=some (p,o)) (hs:Same Hs H) (hst:bL X.K Hs U Y) (S0:CRep X.K C Hs H p d dn un S) (k:Gn X.K C p d dn un Hs H Q E o):gZ X e Y H Q:=by
 unfold Mw at h;split at h
 .split at h
  .rename_i t hc
   refine(uT dG aq aq).sem ((d8 cx F G hN (fK hc)).2 t rfl Y H Hs _ hs hst λH1 Hs1 E1=>?_);have m:=λe' (h':xG cx ms F sc U S e'=some (p,o))=>(sW G hN CO hr hx h' E1.sub (hst.same E1.vis) (S0.ext E1) (k.pre E1)).1
   cases t with
   |true=>exact oH (m _ h)
   |false=>exact mW (m _ h)
  .cases h
 .exact(sW G hN CO hr hx h hs hst S0 k).1
def Ws(K:Zf)(C p d dn un:Addr)(Hs H0:Hp)(o:MR):Sp:=λvs H Q E=>vs=[]/\Same (big Hs H0 p d dn un) H/\Gn K C p d dn un Hs H Q E o
section
variable{P:Program}{w:World}{K:Zf}{mg:Str->Option Value}{base:Heap}{T:Pg}{F k:Nat}
theorem zY(X:Text w K mg T)
  (lk:base.get? f=some (W.kla_obj name qual params body scope cl pm c' ctv)) (hcd:base.CodeRec (.ref c') qual) (L:LamNames base scope (U.map (·.1)) ws cl) (hnd:(U.map (·.1)).Nodup)
  (hr:bL K Hs U (ws.map some)) (CO:CaseOk P w K mg k C ms) (S0:CRep K C Hs H0 p d dn un S) (he:Mw (T.cx (aR T F k)) ms F scope U S body=some (p,o)) :
  FnOk P w K mg base (CX1 P w) (k+1) f (W.kla_fn name qual params body scope cl pm (.ref c') ctv) [] (Ws K C p d dn un Hs H0 o):=by
 refine PK lk hcd L (λvs H Q E h=>by rw[h.1];rfl) λA outer s H Q E hroom h=>?_
 obtain⟨_,hsm,hE⟩:=h;refine⟨gZ _ body,aq,?_⟩
 have G:Good (T.cx (aR T F k)) k (qR (CX1 P w) P w K mg base (U.map (·.1)) qual scope f (.ref c') cl A outer s H E) scope :=
  oK X (B5z _) rfl hroom rfl L.kind hnd
 exact Em G rfl CO hroom DW he (uh.trans hsm) hr (S0.big hsm) hE
end
structure Made(p:Addr×Str)(H H1:Hp)(l l1:List (Pos×Addr))(c1:Addr):Prop where
 tab:LamT H1 p.1 p.2 l1
 cod:H1 c1=some (xu c1 p.2)
 ne:c1≠p.1
 old:H c1=none\/∃q∈l,q.2=c1
 new:∀q∈l1,q∈l\/q.2=c1
 keep:∀b o,b≠p.1->H b=some o->H1 b=some o
section
variable{X:Cx}{U:Rho}{T:Pg}{F k:Nat}{sc:Scope}
theorem yg{spx:Addr->Sp}(L:LCx X p)(hN:X.N=U.map (·.1))(hsc:X.env.scope=sc)(hr:Room (k+3) X.A)(hdb:(tn==("__debug__":Str))=false)(hm:X.mg tn=some (.ref a))(hk:W.keepIn X.K (.ref a)=true)(hbG:Binds X.K g [dn] [])
  (hgl:sc.names.lookup tn=some .globalImplicit) (ok:sY sc lsc U=true)
  (hFT:∀(base:Heap)(f c1:Addr)(pm ctv:Value)(cl:List (Str×Addr))(ws:List V), base.get? f=some (W.kla_obj "<lambda>" (X.env.qual++"<lambda>") noArgs body lsc cl pm c1 ctv)->base.CodeRec (.ref c1) (X.env.qual++"<lambda>")->LamNames base lsc ((fj lsc U).map (·.1)) ws cl->((fj lsc U).map (·.1)).Nodup->bL X.K Hr (fj lsc U) (ws.map some) ->
   FnOk X.prog X.w X.K X.mg base (CX1 X.prog X.w) (k+2) a g [dn] (spx f))
  (hst:bL X.K Hr U Y)  (hT:LamT H p.1 p.2 l)
  (hq:∀f c1 H1 l1,Made p H H1 l l1 c1->spx f [.ref f] (del H1 c1) (λv H2=>H2 c1=none->Q v (upd H2 c1 (xu c1 p.2))) E0):gZ X (.Call (.Name tn pp) [.Lambda noArgs body lsc lp] [] cp) Y H Q:=by
 intro y0 s I;have O:=Ez ok;obtain⟨c,hcode,C⟩:=L.code
 have hg:Gl X tn:=by show X.env.scope.names.lookup tn=_;rw[hsc];exact hgl
 have free:=λx hx=>I.ok.has x (.inl (by show X.env.scope.names.lookup x=_;rw[hsc];exact(O.fr x hx).1))
 have hcl:=gD free;obtain⟨ws,w1,w2,w3⟩:=qY hN hst (tK lsc) λx hx=>(O.fr x (uZ.mp hx)).2;refine R1z (gq I hg hm ?_ hdb);refine S1z I.ok.mod.kin hk ?_ rfl rfl;show wpAny _ _ (spliced ((false,eval (.Lambda noArgs body lsc lp) X.env)::backTo cp (starEach [] X.env))) _ _ s;rw[L.qual] at hT;refine Q1z (Kq I rfl hcode C hcl L.bi L.glob hT λf c1 ctv pm s' H1 l1 J T1 hc1 hcP hold hnew keep1 e1 e4 hf1 keep=>?_);refine G2z ⟨J.kIn,?_⟩;have J':=J.untrack hc1
 have hfr:c1∉frs X.stack:=λz=>by rw[(λb hb=>J.stkFree b hb) c1 z] at hc1;cases hc1
 have ff:f∉frs X.stack:=λz=>by
  obtain e|e:=P4z.mp (I.stkSub f z)
  .exact absurd (L1z I.lt (by rw[<- e];exact e4)) (G4z _)
  .exact I.nofs e4 e
 have rec':(Cy s'.heap (del H1 c1) (frs X.stack)).CodeRec (.ref c1) (X.env.qual++"<lambda>"):=by
  obtain⟨c2,oc,vs,t,a1,a2,a3,a4⟩:=xu.rec J.hok hc1;cases a1;exact⟨c1,oc,vs,t,rfl,pG a2 jk hfr,a3,a4⟩
 have inC:=(pA I.ok.inj lsc.names [] O.nd free (by simp) (by simp)).2;have lk:∀x cc,(jR X.env.cells lsc.names []).lookup x=some cc->X.env.cells.lookup x=some cc:=λx cc e=>inC _ (F1z e)
 have has:∀x,(x,NameKind.free)∈lsc.names->∃cc,(jR X.env.cells lsc.names []).lookup x=some cc:=λx hx=>by
  obtain⟨cc,h1⟩:=kh lsc.names [] hx;exact gK (List.contains_iff_mem.mpr (List.mem_map.mpr ⟨_,h1,rfl⟩))
 have eN:(fj lsc U).map (·.1)=tK lsc:=by unfold fj;rw[Z4z];exact G5z (tK lsc)
 obtain⟨m,hns,hloc⟩:=J.loc
 have LN:LamNames (Cy s'.heap (del H1 c1) (frs X.stack)) lsc ((fj lsc U).map (·.1)) ws (jR X.env.cells lsc.names []):=by
  rw[eN];refine⟨O.kind,O.co,O.gen,O.own,w1,λi x v a1 a2=>?_,λx y cc a1 a2=>I.ok.inj x y cc (lk x cc a1) (lk y cc a2),λx e=>has x (F1z e),λx cc a1=>?_⟩
  .have hx:=uZ.mp (List.mem_of_getElem? a1)
   obtain⟨j,b4,b5⟩:=w2 i x v a1 a2
   have kx:X.env.kindOf x=some .cell:=by show X.env.scope.names.lookup x=_;rw[hsc];exact(O.fr x hx).1
   obtain⟨u,ru,lku⟩:=hloc j x v b4 b5 (.inr (.inl kx));obtain⟨cc,hcc⟩:=has x hx;refine⟨cJ O.nd hx,cc,u,hcc,ru,?_⟩;obtain⟨z,_⟩|⟨_,c3,z1,z2⟩:=lku
   .rw[kx] at z;cases z
   .rw[lk x cc hcc] at z1;cases z1
    exact vL J' L.fn (lk x cc hcc) z2
  .obtain⟨v,hv⟩:=J.cell x cc (lk x cc a1)
   exact⟨v,vL J' L.fn (lk x cc a1) hv⟩
 have FT:=hFT _ f c1 pm ctv _ ws (pG e1 (eF hf1) ff) rec' LN (by rw[eN];exact O.ndf) (by unfold fj;exact w3)
 refine Dl (vs:=[.ref f]) hc1 FT (hr.mono (by omega)) hbG lN J hfr (.cons rfl .nil) ?_;have:=hq f c1 H1 l1 ⟨by rw[L.qual];exact T1,by rw[L.qual];exact hc1,hcP,hold,hnew,keep1⟩;rw[L.qual] at this;exact this
end
structure ExtB(pl:Addr×Str)(l:List (Pos×Addr))(p d dn un un':Addr)(Hs H Hs' H':Hp):Prop where
 vis:Same Hs Hs'
 all:∀b o,H b=some o->b≠pl.1->b≠p->b≠d->b≠dn->b≠un->H' b=some o
 sub:Same Hs' H'
 hid:∀b o,H b=some o->b≠p->b≠d->b≠dn->b≠un->Hs b=none->Hs' b=none
 nu:un'=un\/H un'=none
 lam:∃l',LamT H' pl.1 pl.2 l'/\Hs' pl.1=none/\∀q∈l',Hs' q.2=none/\((∃r∈l,r.2=q.2)\/H q.2=none)
def rR(P:Program)(w:World)(K:Zf)(mg:Str->Option Value)(kd:Nat)(tn:Str):Prop :=
 (tn==("__debug__":Str))=false/\∃a g dn,mg tn=some (.ref a)/\W.keepIn K (.ref a)=true/\Binds K g [dn] []/\∀(base:Heap)(f:Addr)(fd:FuncData)(o:Obj)(sp:Sp),FnOk P w K mg base (CX1 P w) kd f fd [] sp->base.get? f=some o->o.data=.func fd->Binds K fd [] []->FnOk P w K mg base (CX1 P w) (kd+1) a g [dn] (Vk f sp)
section
variable{X:Cx}{U:Rho}{T:Pg}{F k:Nat}{sc:Scope}{pl:Addr×Str}{ms:uq}{C p d dn un:Addr}{S S':Cst}
theorem pY{spx:Addr->Sp}(Lc:LCx X pl)(hN:X.N=U.map (·.1))(hsc:X.env.scope=sc)(hr:Room (k+3) X.A)(hdb:(tn==("__debug__":Str))=false)(hm:X.mg tn=some (.ref a))(hk:W.keepIn X.K (.ref a)=true)(hbG:Binds X.K g [dnm] [])
  (hgl:sc.names.lookup tn=some .globalImplicit) (ok:sY sc lsc U=true)
  (hFT:∀(base:Heap)(f c1:Addr)(pm ctv:Value)(cl:List (Str×Addr))(ws:List V),base.get? f=some (W.kla_obj "<lambda>" (X.env.qual++"<lambda>") noArgs body lsc cl pm c1 ctv)->base.CodeRec (.ref c1) (X.env.qual++"<lambda>")->LamNames base lsc ((fj lsc U).map (·.1)) ws cl->((fj lsc U).map (·.1)).Nodup->bL X.K Hs (fj lsc U) (ws.map some)->FnOk X.prog X.w X.K X.mg base (CX1 X.prog X.w) (k+2) a g [dnm] (spx f))
  (hsp:∀f H1 (Q:VK),Same (big Hs H p d dn un) H1->(∀v H2 Hs2 un',ExtM p d dn un un' Hs H1 Hs2 H2->CRep X.K C Hs2 H2 p d dn un' S'->Rep X.K Hs2 r v->Q v H2)->spx f [.ref f] H1 Q E0)
  (S0:CRep X.K C Hs H p d dn un S) (hs:Same Hs H) (hst:bL X.K Hs U Y)  (hT:LamT H pl.1 pl.2 l) (n1:Hs pl.1=none) (n2:∀q∈l,Hs q.2=none)
  (hq:∀v H' Hs' un',ExtB pl l p d dn un un' Hs H Hs' H'->CRep X.K C Hs' H' p d dn un' S'->Rep X.K Hs' r v->Q v H'):gZ X (.Call (.Name tn pp) [.Lambda noArgs body lsc lp] [] cp) Y H Q:=by
 have nx:∀b φ,H b=some (.ext φ)->b≠p/\b≠d/\b≠dn/\b≠un:=λb φ e=>by
  have:=S0.noext e;exact⟨λz=>this (.inl z),λz=>this (.inr (.inl z)),λz=>this (.inr (.inr (.inl z))),λz=>this (.inr (.inr (.inr z)))⟩
 refine yg Lc hN hsc hr hdb hm hk hbG hgl ok hFT hst hT λf c1 H1 l1 MD=>?_
 have bc:big Hs H p d dn un c1=none:=by
  obtain z|⟨q,hq',z⟩:=MD.old
  .cases e:big Hs H p d dn un c1 with
   |none=>rfl
   |some o=>rw[BR hs _ _ e] at z;cases z
  .rw[<- z];exact BW (S0.noext (hT.cod q hq')) (n2 q hq')
 have sm:Same (big Hs H p d dn un) (del H1 c1):=λb o e=>by
  rw[fQ (λz=>by rw[z,bc] at e;cases e)]
  exact MD.keep b o (λz=>by rw[z,(BW (S0.noext hT.tab) n1)] at e;cases e) (BR hs b o e)
 refine hsp f _ _ sm λv H2 Hs2 un' M S2 r2 hn2=>?_
 have up:∀b o,H2 b=some o->(upd H2 c1 (xu c1 pl.2)) b=some o:=λb o e=>by rw[ak (aj e hn2)];exact e
 have hn3:Hs2 c1=none:=by
  cases e:Hs2 c1 with
  |none=>rfl
  |some o=>rw[M.sub _ _ e] at hn2;cases hn2
 have tb:=(fQ MD.ne.symm).trans MD.tab.tab;obtain⟨x1,x2,x3,x4⟩:=nx _ _ hT.tab
 have dl:∀b o,b≠pl.1->b≠c1->H b=some o->(del H1 c1) b=some o:=λb o h1 h2 e=>by rw[fQ h2];exact MD.keep b o h1 e
 refine hq v _ Hs2 un' ⟨M.vis,λb o e h0 h1 h2 h3 h4=>?_,λb o e=>up b o (M.sub b o e),λb o e h1 h2 h3 h4 n=>?_,?_,l1,⟨?_,λq hq'=>?_⟩,M.hid _ _ tb x1 x2 x3 x4 n1,λq hq'=>?_⟩ (S2.ext ⟨.refl _,up,λb o e=>up b o (M.sub b o e),λ_ _ _ z=>z⟩) r2
 .by_cases z:b=c1
  .subst z;rw[au,<- MD.cod];exact MD.keep b o h0 e
  .exact up b o (M.all b o (dl b o h0 z e) h1 h2 h3 h4)
 .by_cases z:b=c1
  .rw[z];exact hn3
  .by_cases z2:b=pl.1
   .rw[z2];exact M.hid _ _ tb x1 x2 x3 x4 n1
   .exact M.hid b o (dl b o z2 z e) h1 h2 h3 h4 n
 .obtain z|z:=M.nu
  .exact .inl z
  .right
   cases e:H un' with
   |none=>rfl
   |some o =>
    obtain⟨us,u1,_⟩:=S2.ul
    by_cases y:un'=pl.1
    .rw[y,tb] at z;cases z
    .rw[dl un' o y (λy=>by rw[y,hn2] at u1;cases u1) e] at z;cases z
 .exact up _ _ (M.all _ _ tb x1 x2 x3 x4)
 .by_cases z:q.2=c1
  .rw[z,au]
  .obtain z1|z1:=MD.new q hq'
   .obtain⟨y1,y2,y3,y4⟩:=nx _ _ (hT.cod q z1)
    exact up _ _ (M.all _ _ (by rw[fQ z];exact MD.tab.cod q hq') y1 y2 y3 y4)
   .exact absurd z1 z
 .refine⟨?_,?_⟩
  .by_cases z:q.2=c1
   .rw[z];exact hn3
   .obtain z1|z1:=MD.new q hq'
    .obtain⟨y1,y2,y3,y4⟩:=nx _ _ (hT.cod q z1)
     exact M.hid _ _ (by rw[fQ z];exact MD.tab.cod q hq') y1 y2 y3 y4 (n2 q z1)
    .exact absurd z1 z
  .obtain z1|z1:=MD.new q hq'
   .exact .inl ⟨q,z1,rfl⟩
   .rw[z1]
    obtain z2|⟨r,z2,z3⟩:=MD.old
    .exact .inr z2
    .exact .inl ⟨r,z2,z3⟩
theorem yd(Tx:Text X.w X.K X.mg T)(Lc:LCx X pl)(hN:X.N=U.map (·.1))(hsc:X.env.scope=sc)(hr:Room (k+3) X.A)(TV:rR X.prog X.w X.K X.mg (k+1) tn)
  (hgl:sc.names.lookup tn=some .globalImplicit) (ok:sY sc lsc U=true) (CO:CaseOk X.prog X.w X.K X.mg k C ms) (S0:CRep X.K C Hs H p d dn un S) (he:Mw (T.cx (aR T F k)) ms F lsc (fj lsc U) S body=some (p,.val r S'))
  (hs:Same Hs H) (hst:bL X.K Hs U Y)  (hT:LamT H pl.1 pl.2 l) (n1:Hs pl.1=none) (n2:∀q∈l,Hs q.2=none)
  (hq:∀v H' Hs' un',ExtB pl l p d dn un un' Hs H Hs' H'->CRep X.K C Hs' H' p d dn un' S'->Rep X.K Hs' r v->Q v H'):gZ X (.Call (.Name tn pp) [.Lambda noArgs body lsc lp] [] cp) Y H Q:=by
 obtain⟨hdb,a,g,dnm,hm,hk,hbG,hG⟩:=TV;exact pY Lc hN hsc hr hdb hm hk hbG hgl ok (λbase f c1 pm ctv cl ws a1 a2 a3 a4 a5=>hG base f _ _ _ (zY Tx a1 a2 a3 a4 a5 CO S0 he) a1 rfl u6) (λf H1 Q sm k=>⟨rfl,rfl,sm,k⟩) S0 hs hst hT n1 n2 hq
end
section
variable{X:Cx}{U:Rho}{T:Pg}{F k:Nat}{sc:Scope}{Hs0 H0:Hp}{L:LamP}{pl:Addr×Str}{ms:uq}{C p d dn un:Addr}{S:Cst}
theorem yh(Tx:Text X.w X.K X.mg T)(Lc:LCx X pl)(hN:X.N=U.map (·.1))(hsc:X.env.scope=sc)(hr:Room (k+3) X.A)(TA:jU X.prog X.w X.K X.mg (k+1) T.exs cv tn)
  (hgl:sc.names.lookup tn=some .globalImplicit) (ok:sY sc lsc U=true) (CO:CaseOk X.prog X.w X.K X.mg k C ms) (S0:CRep X.K C Hs H p d dn un S) (he:Mw (T.cx (aR T F k)) ms F lsc (fj lsc U) S body=some (p,.exc c')) (hin:T.exs.contains c'=true) (hcv:cv c'=some (.str x))
  (hs:Same Hs H) (hst:bL X.K Hs U Y)  (hT:LamT H pl.1 pl.2 l) (n1:Hs pl.1=none) (n2:∀q∈l,Hs q.2=none)
  (hq:∀v H' Hs' un',ExtB pl l p d dn un un' Hs H Hs' H'->CRep X.K C Hs' H' p d dn un' S->Rep X.K Hs' (.str x) v->Q v H'):gZ X (.Call (.Name tn pp) [.Lambda noArgs body lsc lp] [] cp) Y H Q:=by
 obtain⟨hdb,a,g,dnm,hm,hk,hbG,hG⟩:=TA;refine pY Lc hN hsc hr hdb hm hk hbG hgl ok (λbase f c1 pm ctv cl ws a1 a2 a3 a4 a5=>hG base f _ _ _ c' _ hin hcv ((zY Tx a1 a2 a3 a4 a5 CO S0 he).weak λvs H1 Q1 E1 h=>⟨h.1,h.2.1,λCc H' Hs' hC e=>h.2.2 Cc H' _ hC (Kg uh h.2.1 e)⟩) a1 rfl u6) (λf H1 Q sm k=>⟨rfl,sm,λv H2 Hs2 E r=>?_⟩) S0 hs hst hT n1 n2 hq;have E':Ext Hs H1 Hs H2:=⟨.refl _,E.all,λb o e=>E.sub b o ((uh.trans E.vis) b o e),λ_ _ _ z=>z⟩;exact k v H2 Hs un (.of E') ((S0.big sm).ext E') (by simpa[Rep] using r)
def Mz(cx:Cxt)(L:LamP)(ms:uq)(S:Cst)(F:Nat)(sc:Scope)(U:Rho)(e:Expr):Option (Addr×D×Cst) :=
 match toldOf e with
 |some (tn,body,lsc)=>if tn==L.tn&&sc.names.lookup tn==some .globalImplicit&&sY sc lsc U then
   match Mw cx ms F lsc (fj lsc U) S body with
   |some (a,.val r S')=>some (a,r,S')
   | some (a,.exc c)=>if cx.exs.contains c then(match L.cv c with
    |some (.str x)=>some (a,.str x,S)
    | _=>none) else none
   |none=>none
  else none
 |none=>none
theorem oG(Tx:Text X.w X.K X.mg T)(Lc:LCx X pl)(hN:X.N=U.map (·.1))(hsc:X.env.scope=sc)(hr:Room (k+3) X.A)(TA:jU X.prog X.w X.K X.mg (k+1) T.exs L.cv L.tn)(TV:rR X.prog X.w X.K X.mg (k+1) L.tn)
  (CO:CaseOk X.prog X.w X.K X.mg k C ms) (S0:CRep X.K C Hs H p d dn un S) (h:Mz (T.cx (aR T F k)) L ms S F sc U e=some (p,r,S'))
  (hs:Same Hs H) (hst:bL X.K Hs U Y)  (hT:LamT H pl.1 pl.2 l) (n1:Hs pl.1=none) (n2:∀q∈l,Hs q.2=none)
  (hq:∀v H' Hs' un',ExtB pl l p d dn un un' Hs H Hs' H'->CRep X.K C Hs' H' p d dn un' S'->Rep X.K Hs' r v->Q v H'):gZ X e Y H Q:=by
 unfold Mz at h;split at h
 .rename_i tn body lsc ht
  obtain⟨pp,lp,cp,rfl⟩:=yp ht;split at h
  .rename_i hc
   rw[A3z,A3z] at hc
   have etn:tn=L.tn:=by simpa using hc.1.1
   subst etn;split at h
   .rename_i a r' S1 hm
    cases h;exact yd Tx Lc hN hsc hr TV (by simpa using hc.1.2) hc.2 CO S0 hm hs hst hT n1 n2 hq
   .rename_i a c hm
    split at h
    .rename_i hin
     split at h
     .rename_i x hcv
      cases h;exact yh Tx Lc hN hsc hr TA (by simpa using hc.1.2) hc.2 CO S0 hm hin hcv hs hst hT n1 n2 hq
     .cases h
    .cases h
   .cases h
  .cases h
 .cases h
end
section
variable{X:Cx}{U:Rho}{T:Pg}{F k:Nat}{sc:Scope}{L:LamP}{pl:Addr×Str}{ms:uq}{C p d dn un:Addr}{S S':Cst}
theorem ExtB.pre(E:Ext Hs H Hs1 H1)(B:ExtB pl l p d dn un un' Hs1 H1 Hs2 H2):ExtB pl l p d dn un un' Hs H Hs2 H2 :=
 ⟨E.vis.trans B.vis,λb o e=>B.all b o (E.all b o e),B.sub,λb o e h1 h2 h3 h4 n=>B.hid b o (E.all b o e) h1 h2 h3 h4 (E.hid b o e n),B.nu.imp id λz=>bH E.all z,let ⟨l',a1,a2,a3⟩:=B.lam;⟨l',a1,a2,λq hq=>⟨(a3 q hq).1,(a3 q hq).2.imp id λz=>bH E.all z⟩⟩⟩
def Qw(cx:Cxt)(L:LamP)(ms:uq)(S:Cst)(F:Nat)(sc:Scope)(U:Rho):List Stmt->Option (Addr×D×Cst)
 |.If c [.Return (some e) _] [] _::r=>match (ev cx F sc U c).bind asB with
  |some t=>if t then Mz cx L ms S F sc U e else Qw cx L ms S F sc U r
  |none=>none
 |.Return (some e) _::_=>Mz cx L ms S F sc U e
 |_=>none
theorem vD(G:Good (T.cx (aR T F k)) (k+3) X sc)(Tx:Text X.w X.K X.mg T)(Lc:LCx X pl)(hN:X.N=U.map (·.1))(TA:jU X.prog X.w X.K X.mg (k+1) T.exs L.cv L.tn)(TV:rR X.prog X.w X.K X.mg (k+1) L.tn)(CO:CaseOk X.prog X.w X.K X.mg k C ms) :
    ∀(b:List Stmt){H Hs:Hp}{l:List (Pos×Addr)}, Qw (T.cx (aR T F k)) L ms S F sc U b=some (p, r, S')->CRep X.K C Hs H p d dn un S->Same Hs H->bL X.K Hs U Y->LamT H pl.1 pl.2 l->Hs pl.1=none->(∀q∈l, Hs q.2=none) ->
      (∀v H' Hs' un',ExtB pl l p d dn un un' Hs H Hs' H'->CRep X.K C Hs' H' p d dn un' S'->Rep X.K Hs' r v->D0.rt v H')->dW X b D0 Y H
  |[],_,_,_,h,_,_,_,_,_,_,_=>by cases h
  |s::b,H,Hs,l,h,S0,hs,hst,hT,n1,n2,hq=>by
    unfold Qw at h
    split at h
    . rename_i heq
      cases heq
      refine PSs.sem (aH jK bf) ?_
      split at h
      . rename_i t hc
        refine PS.sem (mU dG bf fB) ((d8 _ F G hN (fK hc)).2 t rfl Y H Hs _ hs hst λH1 Hs1 E1=>?_)
        have S1:=S0.ext E1
        have T1:=hT.same E1.all
        have m1:=E1.hid _ _ hT.tab n1
        have m2:=λq hq'=>E1.hid _ _ (hT.cod q hq') (n2 q hq')
        have q1:∀v H' Hs' un',ExtB pl l p d dn un un' Hs1 H1 Hs' H'->CRep X.K C Hs' H' p d dn un' S'->Rep X.K Hs' r v->D0.rt v H':=λv H' Hs' un' B=>hq v H' Hs' un' (B.pre E1)
        cases t with
        |true=>exact oH (PSs.sem (aW (cI aq)) (oG Tx Lc hN G.sce G.room TA TV CO S1 h E1.sub (hst.same E1.vis) T1 m1 m2 q1))
        |false=>exact mW (vD G Tx Lc hN TA TV CO b h S1 E1.sub (hst.same E1.vis) T1 m1 m2 q1)
      . cases h
    . rename_i heq
      cases heq
      exact PSs.sem (aH (cI aq) bf) (oG Tx Lc hN G.sce G.room TA TV CO S0 h hs hst hT n1 n2 hq)
    . cases h
end
def Jc(K:Zf)(C:Addr)(pl:Addr×Str)(g:Addr->Cst->D->Option (Addr×D×Cst)):Sp:=λvs H Q _=>∃(p d dn un:Addr)(Hs:Hp)(S S':Cst)(x r:D)(u:V)(l:List (Pos×Addr)),
 vs=[.ref p,u]/\Same Hs H/\CRep K C Hs H p d dn un S/\Rep K Hs x u/\LamT H pl.1 pl.2 l/\Hs pl.1=none/\(∀q∈l,Hs q.2=none)/\g p S x=some (p,r,S') /\
 ∀v H' Hs' un',ExtB pl l p d dn un un' Hs H Hs' H'->CRep K C Hs' H' p d dn un' S'->Rep K Hs' r v->Q v H'
section
variable{P:Program}{w:World}{K:Zf}{mg:Str->Option Value}{base:Heap}{T:DE.Pg}{F k:Nat}
theorem Qv{dV kV doc pm ct oc:Value}(Tx:Text w K mg T)(lk:K.lookup f=some ⟨oc,od,.func (W.fnOf nm nm (bR t) (aO t) (ao t) dV kV doc pm an (.ref c) ct),osl⟩)(hcd:W.codeIn K (.ref c) nm=true)
  (hb:fd.body=aO t) (hs:fd.sc=ao t) (S:FnScope fd.N fd.ps fd.sc) (h1:fd.ps.length=2) (hC:W.CodeHd base c Pt) (hbm:base.BuiltinsAt mg Pt)
  (TA:jU P w K mg (k+1) T.exs L.cv L.tn) (TV:rR P w K mg (k+1) L.tn) (CO:CaseOk P w K mg k C ms)  (hqn:∀n a,qn=(envOfC nm (ao t) n a (.ref c)).qual++"<lambda>") :
  FnOk P w K mg base (CX1 P w) (k+4) f (W.fnOf nm nm (bR t) (aO t) (ao t) dV kV doc pm an (.ref c) ct) fd.ps (Jc K C (Pt,qn) λp S x=>Qw (T.cx (aR T F k)) L ms S F fd.sc (bx fd [.obj p,x]) fd.body):=by
 refine KQ lk hcd (by rw[<- hs];exact S) (λvs H Q E h=>by obtain⟨p,d,dn,un,Hs,S1,S2,x,r,u,l,rfl,_⟩:=h;rw[h1];rfl) λA outer s H vs Q E hr h=>?_
 obtain⟨p,d,dn,un,Hs,S1,S2,x,r,u,l,rfl,hsm,S0,rx,hT,n1,n2,hg,hq⟩:=h
 let pl:Addr×Str:=(Pt,qn)
 let X0:=gW (CX1 P w) P w K mg base fd.N nm (ao t) f (.ref c) A outer s H E
 let X:=X0.nox.relm (some pl)
 have G:Good (T.cx (aR T F k)) (k+3) X fd.sc :=
  oK Tx (by omega) rfl hr hs.symm S.kind S.nd
 have rl:aL K Hs [.obj p,x] [.ref p,u]:=.cons (by simp[Rep]) (.cons rx .nil);obtain⟨s1,s2,s3⟩:=fZ S (ds:=[.obj p,x]) (by rw[h1];rfl) rl
 have hst:bL K Hs (bx fd [.obj p,x]) (start fd.N [.ref p,u]):=λi y dd e=>by
  rcases s3 i y _ e with q|⟨d',v,q,q1,q2⟩
  .cases q
  .cases q
   exact⟨v,q1,q2⟩
 refine⟨λD Y H=>∀y0 s0,Inv X y0 Y H s0->wpAny (model X.prog X.w) X.A (execs (aO t) X.env) (SP X y0 D) X.xe s0,λy0 s0 Y H1 D I h=>?_,?_⟩
 .exact H5z (h y0 s0 ((I.wish _).relm _)) (λfl s' z=>z.unrelm.unwish) λ_ _ z=>False.elim z
 .rw[hb] at hg
  exact vD (X:=X) G Tx ⟨rfl,hqn _ _,⟨c,rfl,hC⟩,hbm,rfl,λ_=>rfl⟩ s1 TA TV CO (aO t) hg S0 hsm hst hT n1 n2 hq
end
section
variable{P:Program}{w:World}{K:Zf}{mg:Str->Option Value}{T:DE.Pg}{kd:Nat}
theorem CV(Tx:Text w K mg T)(hT:T.defs.lookup tn=some fdT)(hbody:fdT.body=[.Try [.Return (some (.Call (.Name dn p1) [] [] p2)) p3] [h0] [] [] pos])
  (hN:fdT.N=[dn,n]) (hps:fdT.ps=[dn]) (ld:fdT.sc.names.lookup dn=some .local) (pd:aK dn=true):rR P w K mg kd tn:=by
 have FA:=Tx.fns tn fdT hT;obtain⟨nm,t,a,g,m1,m2,m3,m4,m5⟩:=FA.ex;have S:=FA.fs;rw[hN,hps,m5] at S;rw[hps] at m3;exact⟨FA.nd,a,g,dn,m1,m2.kp,m3,λbase f fd o sp GD ho hd hb=>CT m2 (m4.symm.trans hbody) S (m5▸ld) pd GD ho hd hb⟩
end
section
variable(call:Str->List D->Option D)(callx:Str->List D->Option Str)
def Np(S:Cst)(n:D):Option D:=match jw call callx S [n] with
 |some (.inl t)=>some (.tup [n,t])
 |_=>none
def Rc(S:Cst):List D->Option (Sum D Str)
 |[]=>match jL S [] with
  |some (.inl (.lst l))=>if szl l.length then(bU (λd=>(Np call callx S d).map some) l).bind λout=>(iV out).map λq=>.inl (oX (Ht q)) else none
  |_=>none
 |_=>none
end
open Classical in
def elE(cx:Cxt)(F:Nat)(sc:Scope)(p:Addr)(g:D->Option D)(a b:Expr)(U:Rho)(_:Expr):Option D:=match ev cx F sc U a with
 |some n=>if xH cx F sc U b=some (p,("table_of":Str),[n]) then g n else none
 |none=>none
theorem jQ:∀(l:List D),(∀d∈l,f d=g d)->bU f l=bU g l
 |[],_=>rfl
 |d::r,h=>by
  simp[bU];rw[h d (N1z ..),jQ r λd hd=>h d (X0z _ hd)]
section
variable{P:Program}{w:World}{K:Zf}{mg:Str->Option Value}{base:Heap}{T:DE.Pg}{F k:Nat}
theorem Cj{call:Str->List D->Option D}{U1:Addr->D->Rho}(Tx:Text w K mg T)(Fn:Fun K nm nm t f g)
  (hb:aO t=[.Return (some (.Call (.Name "dict" p1) [.ListComp (.Tuple [a,b] kt tp) [⟨tg,iter,[],0⟩] scope lp] [] cp)) rp]) (hs:fd.sc=ao t) (S:FnScope fd.N fd.ps fd.sc) (h1:fd.ps.length=1)
  (hgl:fd.sc.names.lookup ("dict":Str)=some .globalImplicit) (hmg:mg "dict"=none) (hok:jm fd.sc scope=true) (cl:Cls K C)
  (GN:bV P w K mg C "names" q1 k (spR K C 0 jL)) (GT:bV P w K mg C "table_of" q2 k (spR K C 1 (jw call callx)))
  (hI:∀p:Addr,xH (T.cx (aR T F k)) F fd.sc (bx fd [.obj p]) iter=some (p,("names":Str),[]))
  (hB:∀(p:Addr) d,d9 scope tg d (cN scope (bx fd [.obj p]))=some (U1 p d))
  (he1:∀p d,ev (T.cx (aR T F k)) F (qp scope fd.sc) (U1 p d) a=some d) (he2:∀p d,xH (T.cx (aR T F k)) F (qp scope fd.sc) (U1 p d) b=some (p,("table_of":Str),[d])) :
  FnOk P w K mg base (CX1 P w) (k+1) f g fd.ps (spR K C 0 (Rc call callx)):=by
 refine Fun.okX Fn (by rw[<- hs];exact S) (λvs H Q E h=>by rw[nR h,h1]) λcdv A outer s H vs Q E hr h=>?_
 obtain⟨p,d,dn,un,Hs,S1,ds,us,o,rfl,e,hsm,S0,r,ho,kq⟩:=h;cases List.length_eq_zero_iff.mp e;cases (show us=[] by simpa[aL] using r);simp[Rc] at ho;split at ho
 .rename_i l hn
  split at ho
  .rename_i hz
   obtain⟨out,h2,h3⟩:=Option.bind_eq_some_iff.mp ho;obtain⟨q,h4,h5⟩:=O0z.mp h3;cases h5;refine⟨dW _ (aO t),bf,?_⟩;rw[hb];generalize hX:gW (CX1 P w) P w K mg base fd.N nm (ao t) f cdv A outer s H E=X
   have eK:X.K=K:=by rw[<- hX];rfl
   have eP:X.prog=P:=by rw[<- hX];rfl
   have ew:X.w=w:=by rw[<- hX];rfl
   have em:X.mg=mg:=by rw[<- hX];rfl
   have G:Good (T.cx (aR T F k)) k X fd.sc:=by
    subst hX;exact oK Tx (B5z _) rfl hr hs.symm S.kind S.nd
   have rl:aL K Hs [.obj p] [.ref p]:=.cons (by simp[Rep]) .nil;obtain⟨s1,s2,s3⟩:=fZ S (by rw[h1];rfl) rl
   have hN:X.N=(bx fd [.obj p]).map (·.1):=by rw[<- hX];exact s1
   have hst:bL X.K Hs (bx fd [.obj p]) (start fd.N [.ref p]):=λi y dd e=>by
    rw[eK];obtain q|⟨d',v,q,q1,q2⟩:=s3 i y _ e
    .cases q
    .cases q
     exact⟨v,q1,q2⟩
   have hg:Gl X "dict":=by subst hX;show(ao t).names.lookup ("dict":Str)=_;rw[<- hs];exact hgl
   obtain⟨ok1,ok2,ok3⟩:=gC G hok
   have hw:∀Q',(∀v H' Hs',Ext Hs H Hs' H'->Rep X.K Hs' (.lst l) v->Q' v H')->gZ X iter (start fd.N [.ref p]) H Q'/\aJ iter=true:=λQ' hq=>by
    subst hX;exact iZ G hN cl rfl GN hr lN (hI p) hsm hst S0 λH1 Hs1 vs E1 r1=>⟨p,d,dn,un,Hs1,S1,[],vs,_,rfl,rfl,E1.sub,S0.ext E1,r1,hn,λv H' Hs' E2 r2=>hq v H' Hs' (E1.trans E2) r2⟩
   refine PSs.sem (aW (cI aq)) ?_;refine(cZ (T:="dict") (cL) hg (by rw[em];exact hmg) rfl (aB aq aM)).sem ?_;refine PE.sem (zy G.calm ok1 ok2 ok3 uP (λXc C=>⟨lJ,uO,aq⟩) (iU (hw (λ_ _=>True) λ_ _ _ _ _=>trivial).2)) ?_;refine nF (E:=elE (T.cx (aR T F k)) F (qp scope fd.sc) p (Np call callx S1) a b) (out:=out) G hN hok (λR kR=>?_) hz ?_ (λXc Cc U' hN' e he dd hd=>?_) hst λacc vs Hs' H' E1 a1 a2 a3 ra=>?_
   .refine(zu aq).sem ((hw _ λv H1 Hs1 E1 r1=>?_).1)
    obtain⟨p,vs,rfl,h1,h2⟩:=cU r1;refine⟨p,rfl,⟨vs,E1.sub.seq h1⟩,kR _ H1 Hs1 E1 λHs' H' e1 e2=>⟨⟨vs,e2.seq (e1.seq h1),by rw[h2.length];exact B5z _⟩,λi d hd=>?_⟩⟩;obtain⟨v,g1,g2⟩:=h2.get hd;refine⟨⟨vs,v,e2.seq (e1.seq h1),g1⟩,λx H2 y=>?_⟩;obtain⟨rfl,y⟩:=y;have:=y vs (e2.seq (e1.seq h1));rw[g1] at this;cases this;exact⟨Hs',.refl e2,Rep.same e1 d v g2⟩
   .rw[<- h2]
    refine jQ l λd _=>?_;simp only[ud,hB,elE,he1,he2,oJ,bind,Option.bind];simp
   .obtain rfl:e=.Tuple [a,b] kt tp:=he.elim id λz=>by cases z
    unfold elE at hd;split at hd
    .rename_i n hna
     split at hd
     .rename_i hmb
      unfold Np at hd;split at hd
      .rename_i tt ht
       cases hd;refine⟨λY1 H1 Hs1 Q1 Ex hst1 hq1=>?_,λb z=>by cases z⟩;have GC:=G.comp Cc hok;refine(uQ (aB aq (aB aq aM (aA ?_)) (aA (aZ hna)))).sem ?_
       .exact wK hmb
       .refine(d8 _ F GC hN' hna).1 Y1 H1 Hs1 _ Ex.sub hst1 λv1 H2 Hs2 E2 r1=>?_
        have EX:=Ex.trans E2;refine(iZ (sp:=spR K C 1 (jw call callx)) GC hN' (by rw[Cc.K,eK];exact cl) rfl (by rw[Cc.prog,Cc.w,Cc.K,Cc.mg,eP,ew,eK,em];exact GT) (by rw[Cc.A];exact G.room) lN hmb EX.sub (hst1.same E2.vis) (by rw[Cc.K,eK];exact S0.ext EX) λH3 Hs3 vs E3 r3=>⟨p,d,dn,un,Hs3,S1,[n],vs,_,rfl,rfl,E3.sub,S0.ext (EX.trans E3),by rw[<- eK,<- Cc.K];exact r3,ht,λv2 H4 Hs4 E4 r4=>?_⟩).1;have E24:=E3.trans E4;refine⟨by show 2<=sizeLine;decide,λa ha=>iC E4.sub (.cons (Rep.same E24.vis n v1 r1) (.cons (by rw[Cc.K,eK];exact r4) .nil)) ha λu H5 Hs5 E5 r5=>hq1 u H5 Hs5 (E2.trans (E24.trans E5)) r5⟩
      .cases hd
     .cases hd
    .cases hd
   .have E2:=E1.shown a1 a2 a3
    have rr:Rep X.K (upd Hs' acc (.lst vs)) (.lst out) (.ref acc):=by
     refine⟨acc,vs,rfl,.of au,aL.same (λb u e=>?_) out vs ra⟩;rw[ak (aj e a2)];exact e
    exact vp G.calm h4 [.ref acc] H' _ _ E2.sub (.cons rr .nil) λv H5 Hs5 E5 r5=>kq v H5 Hs5 (E2.trans E5) (by rw[<- eK];exact r5)
  .cases ho
 .cases ho
end
theorem wA:uo P ps≠xu P q:=by
 intro h
 have g:({objs:=Array.replicate (P+1) ⟨.type "code",none,.fields #[.none,.str q 0],#[]⟩}:Heap).get? P=some ⟨.type "code",none,.fields #[.none,.str q 0],#[]⟩:=by
  unfold Heap.get?;rw[show({objs:=Array.replicate (P+1) ⟨.type "code",none,.fields #[.none,.str q 0],#[]⟩}:Heap).objs[P]?=some ⟨.type "code",none,.fields #[.none,.str q 0],#[]⟩ from by simp]
 have c:=(congrFun (HO.ext.inj h) _).mpr ⟨P,_,_,0,rfl,g,rfl,rfl⟩;rw[g] at c;cases c
open Classical in
def j6(Hs H:Hp)(A:Addr->Prop):Hp:=λb=>match Hs b with
 |some o=>some o
 |none=>if A b then H b else none
section
variable{Hs H:Hp}{A:Addr->Prop}
theorem vQ(hs:Same Hs H):Same (j6 Hs H A) H:=λb o e=>by
 unfold j6 at e;split at e
 .rename_i q;cases e;exact hs _ _ q
 .split at e
  .exact e
  .cases e
theorem jE(h:A b)(n:Hs b=none):j6 Hs H A b=H b:=by
 unfold j6;rw[n];exact T5z h
theorem pH(h:¬ A b)(n:Hs b=none):j6 Hs H A b=none:=by
 unfold j6;rw[n];exact U5z h
end
structure Cw where
 (p d dn:Addr)
def Cw.at(c:Cw)(un b:Addr):Prop:=b=c.p\/b=c.d\/b=c.dn\/b=un
def TbA(pt:Addr×Str)(l:List (Pos×Addr))(b:Addr):Prop:=b=pt.1\/∃q∈l,b=q.2
abbrev CA(K:Zf)(C:Addr)(Hs H:Hp)(c:Cw)(un:Addr)(S:Cst):Prop:=CRep K C Hs H c.p c.d c.dn un S
structure Tb0(pt:Addr×Str)(l:List (Pos×Addr))(Hs H:Hp):Prop where
 tb:LamT H pt.1 pt.2 l
 th:Hs pt.1=none
 ch:∀q∈l,Hs q.2=none
structure Aprt(c:Cw)(u:Addr)(c':Cw)(u':Addr):Prop where
 p:c.p≠c'.p
 d:c.d≠c'.d
 n:c.dn≠c'.dn
 un:u≠c'.dn
 nu:c.dn≠u'
 uu:u≠u'
section
variable{K:Zf}{pL pt pl:Addr×Str}{Hs0 H0 Hs H Hs' H':Hp}{U:Rho}{Y:St}{C un un' u2:Addr}{c c2:Cw}{S S' S2:Cst}{l l' lL:List (Pos×Addr)}{A:Addr->Prop}
theorem Aprt.symm(h:Aprt c un c2 u2):Aprt c2 u2 c un:=⟨h.p.symm,h.d.symm,h.n.symm,h.nu.symm,h.un.symm,h.uu.symm⟩
theorem CRep.j6(h:CA K C Hs H c un S)(hA:∀b,c.at un b->A b):CA K C Hs (j6 Hs H A) c un S:=by
 obtain⟨⟨dx,a1⟩,⟨kvs,b1,b2⟩,⟨vs,c1,c2⟩,⟨us,d1,d2⟩,e,f1,f2,f3,f4⟩:=h;refine⟨⟨dx,?_⟩,⟨kvs,?_,b2⟩,⟨vs,?_,c2⟩,⟨us,?_,d2⟩,e,f1,f2,f3,f4⟩
 .rw[jE (hA _ (.inl rfl)) f1];exact a1
 .rw[jE (hA _ (.inr (.inl rfl))) f2];exact b1
 .rw[jE (hA _ (.inr (.inr (.inl rfl)))) f3];exact c1
 .rw[jE (hA _ (.inr (.inr (.inr rfl)))) f4];exact d1
theorem Tb0.j6(h:Tb0 pt l Hs H)(hA:∀b,TbA pt l b->A b):Tb0 pt l Hs (j6 Hs H A):=by
 refine⟨⟨?_,λq hq=>?_⟩,h.th,h.ch⟩
 .rw[jE (hA _ (.inl rfl)) h.th];exact h.tb.tab
 .rw[jE (hA _ (.inr ⟨q,hq,rfl⟩)) (h.ch q hq)];exact h.tb.cod q hq
theorem Tb0.ext(h:Tb0 pt l Hs0 H0)(E:Ext Hs0 H0 Hs H):Tb0 pt l Hs H:=⟨h.tb.same E.all,E.hid _ _ h.tb.tab h.th,λq hq=>E.hid _ _ (h.tb.cod q hq) (h.ch q hq)⟩
theorem CRep.nex(h:CA K C Hs H c un S)(e:H b=some (.ext φ)):b≠c.p/\b≠c.d/\b≠c.dn/\b≠un:=by
 have:=h.noext e;exact⟨λz=>this (.inl z),λz=>this (.inr (.inl z)),λz=>this (.inr (.inr (.inl z))),λz=>this (.inr (.inr (.inr z)))⟩
theorem CRep.out(h:CA K C Hs H c un S)(e:H b=none):¬ c.at un b:=λz=>by
 obtain⟨a1,a2,a3,a4⟩:=h.cY e;obtain z|z|z|z:=z
 .exact a1 z
 .exact a2 z
 .exact a3 z
 .exact a4 z
theorem vI(e:H P=some (uo P ps))(g:H b=some (xu b q)):b≠P:=λz=>by
 subst z;rw[e] at g;exact wA (I3z g)
theorem CRep.keepA(h2:CA K C Hs H c2 u2 S2)(h:CA K C Hs H c un S)(ap:Aprt c un c2 u2)(vis:Same Hs Hs')
  (all:∀b o,H b=some o->(∀φ,o≠.ext φ)->b≠c.p->b≠c.d->b≠c.dn->b≠un->H' b=some o) (hid:∀b o,H b=some o->b≠c.p->b≠c.d->b≠c.dn->b≠un->Hs b=none->Hs' b=none):CA K C Hs' H' c2 u2 S2:=by
 obtain⟨⟨dx,a1⟩,⟨kvs,b1,b2⟩,⟨vs,c1,c2'⟩,⟨us,d1,d2⟩,e,f1,f2,f3,f4⟩:=h2;obtain⟨⟨dx',a1'⟩,⟨kvs',b1',_⟩,⟨vs',c1',_⟩,⟨us',d1',_⟩,_⟩:=h;have k2:=all _ _ b1 (λφ z=>nomatch z) (L2.cY b1 a1' λz=>nomatch z) ap.d.symm (L2.cY b1 c1' λz=>nomatch z) (L2.cY b1 d1' λz=>nomatch z);have k3:=all _ _ c1 (λφ z=>nomatch z) (L2.cY c1 a1' λz=>nomatch z) (L2.cY c1 b1' λz=>nomatch z) ap.n.symm ap.un.symm;have k4:=all _ _ d1 (λφ z=>nomatch z) (L2.cY d1 a1' λz=>nomatch z) (L2.cY d1 b1' λz=>nomatch z) ap.nu.symm ap.uu.symm
 exact⟨⟨dx,(all _ _ a1 (λφ z=>nomatch z) ap.p.symm (L2.cY a1 b1' λz=>nomatch z) (L2.cY a1 c1' λz=>nomatch z) (L2.cY a1 d1' λz=>nomatch z))⟩,⟨kvs,k2,b2.same vis⟩,⟨vs,k3,aL.same vis _ _ c2'⟩,⟨us,k4,aL.same vis _ _ d2⟩,e,
  hid _ _ a1 ap.p.symm (L2.cY a1 b1' λz=>nomatch z) (L2.cY a1 c1' λz=>nomatch z) (L2.cY a1 d1' λz=>nomatch z) f1,
  hid _ _ b1 (L2.cY b1 a1' λz=>nomatch z) ap.d.symm (L2.cY b1 c1' λz=>nomatch z) (L2.cY b1 d1' λz=>nomatch z) f2,
  hid _ _ c1 (L2.cY c1 a1' λz=>nomatch z) (L2.cY c1 b1' λz=>nomatch z) ap.n.symm ap.un.symm f3,
  hid _ _ d1 (L2.cY d1 a1' λz=>nomatch z) (L2.cY d1 b1' λz=>nomatch z) ap.nu.symm ap.uu.symm f4⟩
theorem Aprt.new(ap:Aprt c un c2 u2)(h2:CA K C Hs H c2 u2 S2)(nu:un'=un\/H un'=none):Aprt c un' c2 u2:=by
 obtain rfl|n:=nu
 .exact ap
 .obtain⟨_,_,⟨vs,c1,_⟩,⟨us,d1,_⟩,_⟩:=h2
  exact⟨ap.p,ap.d,ap.n,(λz=>by rw[z,c1] at n;cases n),ap.nu,(λz=>by rw[z,d1] at n;cases n)⟩
theorem Hd.stepG(h:Hd K (some pL) Hs0 H0 Hs H U Y)(vis:Same Hs Hs')(sub:Same Hs' H')(hA:∀b o,H b=some o->H0 b=none->Hs' b=none->¬ A b)
  (keep:∀b vs,H b=some (.lst vs)->Hs b=none->H0 b=none->H' b=some (.lst vs)/\Hs' b=none)
  (lam:∃l,LamT H' pL.1 pL.2 l/\Hs' pL.1=none/\∀r∈l,Hs' r.2=none):Hd K (some pL) Hs' (j6 Hs' H' A) Hs' H' U Y:=by
 obtain⟨n0,lL,TL,n1,n2⟩:=h.lam pL rfl;refine h.rebase vis ⟨.refl _,vQ sub,sub,λ_ _ _ z=>z⟩ (λb vs e n z=>?_) λq hq=>?_
 .obtain⟨k1,k2⟩:=keep b vs e n z
  exact⟨k1,k2,pH (hA b _ e z k2) k2⟩
 .cases hq
  obtain⟨l2,a1,a2,a3⟩:=lam;exact⟨pH (hA _ _ TL.tab n0 a2) a2,l2,a1,a2,a3⟩
end
structure Stp(pL pt:Addr×Str)(l:List (Pos×Addr))(c:Cw)(un un':Addr)(Hs H Hs' H':Hp):Prop where
 vis:Same Hs Hs'
 sub:Same Hs' H'
 all:∀b o,H b=some o->(∀φ,o≠.ext φ)->b≠c.p->b≠c.d->b≠c.dn->b≠un->H' b=some o
 hid:∀b o,H b=some o->b≠c.p->b≠c.d->b≠c.dn->b≠un->Hs b=none->Hs' b=none
 nu:un'=un\/H un'=none
 tbs:∃l',Tb0 pt l' Hs' H'/\∀q∈l',(∃r∈l,r.2=q.2)\/H q.2=none
 lam:∃l,LamT H' pL.1 pL.2 l/\Hs' pL.1=none/\∀r∈l,Hs' r.2=none
section
variable{K:Zf}{pL pt:Addr×Str}{Hs0 H0 Hs H Hs' H':Hp}{U:Rho}{Y:St}{C un un' u2:Addr}{c c2:Cw}{S S' S2:Cst}{l l' lL:List (Pos×Addr)}{A:Addr->Prop}
theorem Stp.ofD(h:Hd K (some pL) Hs0 H0 Hs H U Y)(cr:CA K C Hs0 H0 c un S)(tb:Tb0 pt l Hs0 H0)(E:ExtB pt l c.p c.d c.dn un un' Hs H Hs' H'):Stp pL pt l c un un' Hs H Hs' H':=by
 obtain⟨l',t,th,ch⟩:=E.lam;obtain⟨n0,lL,TL,n1,n2⟩:=h.lam pL rfl;have tb1:=tb.ext h.ext
 have nP:pL.1≠pt.1:=λz=>by rw[z,tb.tb.tab] at n0;cases n0
 have kp:∀{b:Addr}{φ:Heap->Prop},H b=some (.ext φ)->b≠pt.1->Hs b=none->H' b=some (.ext φ)/\Hs' b=none:=λ{b φ} e z n=>by
  obtain⟨a1,a2,a3,a4⟩:=CRep.nex (c:=c) (cr.ext h.ext) e;exact⟨E.all b _ e z a1 a2 a3 a4,E.hid b _ e a1 a2 a3 a4 n⟩
 exact⟨E.vis,E.sub,λb o e n=>E.all b o e (λz=>by rw[z,tb1.tb.tab] at e;cases e;exact n _ rfl),E.hid,E.nu,⟨l',⟨t,th,λq hq=>(ch q hq).1⟩,λq hq=>(ch q hq).2⟩,
  lL,⟨(kp TL.tab nP n1).1,λq hq=>(kp (TL.cod q hq) (vI tb1.tb.tab (TL.cod q hq)) (n2 q hq)).1⟩,(kp TL.tab nP n1).2,λq hq=>(kp (TL.cod q hq) (vI tb1.tb.tab (TL.cod q hq)) (n2 q hq)).2⟩
theorem Stp.ofT(h:Hd K (some pL) Hs0 H0 Hs H U Y)(cr:CA K C Hs0 H0 c un S)(tb:Tb0 pt l Hs0 H0)(TL:LamT H pL.1 pL.2 lL)(E:ExtB pL lL c.p c.d c.dn un un' Hs H Hs' H'):Stp pL pt l c un un' Hs H Hs' H':=by
 obtain⟨l',t,th,ch⟩:=E.lam;obtain⟨n0,_⟩:=h.lam pL rfl;have tb1:=tb.ext h.ext
 have nP:pt.1≠pL.1:=λz=>by rw[<- z,tb.tb.tab] at n0;cases n0
 have kp:∀{b:Addr}{φ:Heap->Prop},H b=some (.ext φ)->b≠pL.1->Hs b=none->H' b=some (.ext φ)/\Hs' b=none:=λ{b φ} e z n=>by
  obtain⟨a1,a2,a3,a4⟩:=CRep.nex (c:=c) (cr.ext h.ext) e;exact⟨E.all b _ e z a1 a2 a3 a4,E.hid b _ e a1 a2 a3 a4 n⟩
 exact⟨E.vis,E.sub,λb o e n=>E.all b o e (λz=>by rw[z,TL.tab] at e;cases e;exact n _ rfl),E.hid,E.nu,
  ⟨l,⟨⟨(kp tb1.tb.tab nP tb1.th).1,λq hq=>(kp (tb1.tb.cod q hq) (vI TL.tab (tb1.tb.cod q hq)) (tb1.ch q hq)).1⟩,(kp tb1.tb.tab nP tb1.th).2,λq hq=>(kp (tb1.tb.cod q hq) (vI TL.tab (tb1.tb.cod q hq)) (tb1.ch q hq)).2⟩,λq hq=>.inl ⟨q,hq,rfl⟩⟩,l',t,th,λq hq=>(ch q hq).1⟩
theorem Stp.ofM(h:Hd K (some pL) Hs0 H0 Hs H U Y)(cr:CA K C Hs0 H0 c un S)(tb:Tb0 pt l Hs0 H0)(E:ExtM c.p c.d c.dn un un' Hs H Hs' H'):Stp pL pt l c un un' Hs H Hs' H':=by
 obtain⟨n0,lL,TL,n1,n2⟩:=h.lam pL rfl;have tb1:=tb.ext h.ext
 have kp:∀{b:Addr}{φ:Heap->Prop},H b=some (.ext φ)->Hs b=none->H' b=some (.ext φ)/\Hs' b=none:=λ{b φ} e n=>by
  obtain⟨a1,a2,a3,a4⟩:=CRep.nex (c:=c) (cr.ext h.ext) e;exact⟨E.all b _ e a1 a2 a3 a4,E.hid b _ e a1 a2 a3 a4 n⟩
 exact⟨E.vis,E.sub,λb o e _=>E.all b o e,E.hid,E.nu,⟨l,⟨⟨(kp tb1.tb.tab tb1.th).1,λq hq=>(kp (tb1.tb.cod q hq) (tb1.ch q hq)).1⟩,(kp tb1.tb.tab tb1.th).2,λq hq=>(kp (tb1.tb.cod q hq) (tb1.ch q hq)).2⟩,λq hq=>.inl ⟨q,hq,rfl⟩⟩,
  lL,⟨(kp TL.tab n1).1,λq hq=>(kp (TL.cod q hq) (n2 q hq)).1⟩,(kp TL.tab n1).2,λq hq=>(kp (TL.cod q hq) (n2 q hq)).2⟩
theorem Hd.stp(h:Hd K (some pL) Hs0 H0 Hs H U Y)(cr:CA K C Hs0 H0 c un S)(tb:Tb0 pt l Hs0 H0)(E:Stp pL pt l c un un' Hs H Hs' H')(cr':CA K C Hs' H' c un' S'){R:Addr->Prop}(hR:∀b,R b->H0 b≠none) :
  ∃l',Tb0 pt l' Hs' H'/\Hd K (some pL) Hs' (j6 Hs' H' λb=>(c.at un' b\/TbA pt l' b)\/R b) Hs' H' U Y:=by
 obtain⟨l',t',nw⟩:=E.tbs;refine⟨l',t',h.stepG E.vis E.sub (λb o e z n=>?_) (λb vs e n z=>?_) E.lam⟩
 .have ne:=cr.cY z
  rintro((q|q)|q)
  .obtain q|q|q|q:=q
   .exact ne.1 q
   .exact ne.2.1 q
   .exact ne.2.2.1 q
   .obtain w|w:=E.nu
    .exact ne.2.2.2 (q.trans w)
    .rw[q,w] at e;cases e
  .obtain q|⟨r,hr,q⟩:=q
   .rw[q,tb.tb.tab] at z;cases z
   .obtain⟨r',h1,h2⟩|w:=nw r hr
    .rw[q,<- h2,tb.tb.cod r' h1] at z;cases z
    .rw[q,w] at e;cases e
  .exact hR b q z
 .have ne:=cr.cY z
  exact⟨E.all b _ e (λφ q=>nomatch q) ne.1 ne.2.1 ne.2.2.1 ne.2.2.2,E.hid b _ e ne.1 ne.2.1 ne.2.2.1 ne.2.2.2 n⟩
end
structure Wm where
 τ:Type
 B:τ->Hp->Hp->Prop
structure Lns(K:Zf)(C:Addr)(pt:Addr×Str)(W:Wm)(c:Cw)(get:W.τ->Cst)(set:W.τ->Cst->W.τ):Prop where
 ok:∀t Hs0 H0,W.B t Hs0 H0->∃un l,CA K C Hs0 H0 c un (get t)/\Tb0 pt l Hs0 H0 /\
  ∀(pL:Addr×Str)(Hs H:Hp)(U:Rho)(Y:St)(un':Addr)(S':Cst)(Hs' H':Hp),Hd K (some pL) Hs0 H0 Hs H U Y->CA K C Hs' H' c un' S'->Stp pL pt l c un un' Hs H Hs' H'->∃Hb,W.B (set t S') Hs' Hb/\Hd K (some pL) Hs' Hb Hs' H' U Y
def W1(K:Zf)(C:Addr)(pt:Addr×Str)(c:Cw):Wm:=⟨Cst,λS Hs H=>∃un l,CA K C Hs H c un S/\Tb0 pt l Hs H⟩
def W2(K:Zf)(C:Addr)(pt:Addr×Str)(c c2:Cw):Wm:=⟨Cst×Cst,λS Hs H=>∃un u2 l,CA K C Hs H c un S.1/\CA K C Hs H c2 u2 S.2/\Aprt c un c2 u2/\Tb0 pt l Hs H⟩
section
variable{K:Zf}{C:Addr}{pt:Addr×Str}{c c2:Cw}
theorem TF:Lns K C pt (W1 K C pt c) c id λ_ S=>S:=⟨λt Hs0 H0 ⟨un,l,cr,tb⟩=>⟨un,l,cr,tb,λpL Hs H U Y un' S' Hs' H' h cr' E=>by
 obtain⟨l',t',h'⟩:=h.stp (R:=λ_=>False) cr tb E cr' λ_ z=>z.elim
 exact⟨_,⟨un',l',cr'.j6 λb z=>.inl (.inl z),t'.j6 λb z=>.inl (.inr z)⟩,h'⟩⟩⟩
theorem two(h:Hd K (some pL) Hs0 H0 Hs H U Y)(cr:CA K C Hs0 H0 c un S)(cr2:CA K C Hs0 H0 c2 u2 S2)(ap:Aprt c un c2 u2)(tb:Tb0 pt l Hs0 H0)(E:Stp pL pt l c un un' Hs H Hs' H')(cr':CA K C Hs' H' c un' S') :
  ∃l' Hb,CA K C Hs' Hb c un' S'/\CA K C Hs' Hb c2 u2 S2/\Aprt c un' c2 u2/\Tb0 pt l' Hs' Hb/\Hd K (some pL) Hs' Hb Hs' H' U Y:=by
 obtain⟨l',t',h'⟩:=h.stp (R:=c2.at u2) cr tb E cr' λb z=>by
  obtain⟨⟨dx,a1⟩,⟨kvs,b1,_⟩,⟨vs,c1,_⟩,⟨us,d1,_⟩,_⟩:=cr2;obtain rfl|rfl|rfl|rfl:=z
  .rw[a1];exact λz=>nomatch z
  .rw[b1];exact λz=>nomatch z
  .rw[c1];exact λz=>nomatch z
  .rw[d1];exact λz=>nomatch z
 have k0:=cr.ext h.ext;have k2:=cr2.ext h.ext;exact⟨l',_,CRep.j6 cr' λb z=>.inl (.inl z),CRep.j6 (CRep.keepA k2 k0 ap E.vis E.all E.hid) λb z=>.inr z,ap.new k2 E.nu,t'.j6 λb z=>.inl (.inr z),h'⟩
theorem Tz:Lns K C pt (W2 K C pt c c2) c (·.1) λt S=>(S,t.2):=⟨λt Hs0 H0 ⟨un,u2,l,cr,cr2,ap,tb⟩=>⟨un,l,cr,tb,λpL Hs H U Y un' S' Hs' H' h cr' E=>by
 obtain⟨l',Hb,a,b,e,f,g⟩:=two h cr cr2 ap tb E cr'
 exact⟨Hb,⟨un',u2,l',a,b,e,f⟩,g⟩⟩⟩
theorem Tw:Lns K C pt (W2 K C pt c c2) c2 (·.2) λt S=>(t.1,S):=⟨λt Hs0 H0 ⟨un,u2,l,cr,cr2,ap,tb⟩=>⟨u2,l,cr2,tb,λpL Hs H U Y un' S' Hs' H' h cr' E=>by
 obtain⟨l',Hb,a,b,e,f,g⟩:=two h cr2 cr ap.symm tb E cr'
 exact⟨Hb,⟨un,un',l',b,a,e.symm,f⟩,g⟩⟩⟩
end
abbrev DF:=Addr->Cst->D->Option (Addr×D×Cst)
abbrev RF:=Cst->List D->Option (Sum D Str)
structure GoodT(T:Pg)(F k:Nat)(pt pL:Addr×Str)(C:Addr)(X:Cx)(sc:Scope)(L:LamP)(ms:uq)(fn an:Str)(dF:DF)(aF:RF):Prop where
 s:GoodS (T.cx (aR T F k)) (k+4) X sc
 lc:LCx X pL
 tx:Text X.w X.K X.mg T
 ta:jU X.prog X.w X.K X.mg (k+1) T.exs L.cv L.tn
 tv:rR X.prog X.w X.K X.mg (k+1) L.tn
 co:CaseOk X.prog X.w X.K X.mg k C ms
 cl:Cls X.K C
 dg:sc.names.lookup fn=some .globalImplicit/\(fn==("__debug__":Str))=false
 did:∃a g ps,X.mg fn=some (.ref a)/\W.keepIn X.K (.ref a)=true/\Binds X.K g ps []/\FnOk X.prog X.w X.K X.mg X.base (CX1 X.prog X.w) (k+4) a g ps (Jc X.K C pt dF)
 ag:sc.names.lookup an=some .globalImplicit/\(an==("__debug__":Str))=false
 all:∃a g ps,X.mg an=some (.ref a)/\W.keepIn X.K (.ref a)=true/\Binds X.K g ps []/\FnOk X.prog X.w X.K X.mg X.base (CX1 X.prog X.w) (k+4) a g ps (spR X.K C 0 aF)
 cnt:∃ps,bV X.prog X.w X.K X.mg C "counts" ps (k+4) (spR X.K C 0 jB)
def AtS(X:Cx)(W:Wm)(Hb:Hp)(t:W.τ)(U:Rho)(Y:St)(H:Hp):Prop:=∃Hs0 H0 Hs,Same Hb Hs/\W.B t Hs0 H0/\Hd X.K X.lm Hs0 H0 Hs H U Y
def Go(X:Cx)(W:Wm)(R:VK->Prop)(ss:List Stmt)(S:W.τ)(U:Rho)(Φ:W.τ->Rho->Prop):Prop:=∀Hb Y H D0,R D0.rt->AtS X W Hb S U Y H->(∀S' U' Y' H',Φ S' U'->X.N=U'.map (·.1)->AtS X W Hb S' U' Y' H'->D0.nx Y' H')->dW X ss D0 Y H
def Chk(X:Cx)(W:Wm)(c:Expr)(S:W.τ)(U:Rho)(S':W.τ):Prop:=∀Hb Y H (Q:Hp->Prop),AtS X W Hb S U Y H->(∀H',AtS X W Hb S' U Y H'->Q H')->nQ X c Y H (λc H'=>c=false/\Q H')
section
variable{X:Cx}{U U':Rho}{T:Pg}{F k:Nat}{sc:Scope}{pL:Addr×Str}{W:Wm}{C:Addr}{pt:Addr×Str}{S S1 S':W.τ}{L:LamP}{ms:uq}{fn an:Str}{dF:DF}{aF:RF}{Φ Ψ:W.τ->Rho->Prop}{R:VK->Prop}{rest:List Stmt}
theorem Hx(hf:∀U s fl,X.N=U.map (·.1)->f U s=some fl->Runs X Hs0 H0 U fl (n6 X s)):∀(pre:List Stmt){U:Rho}{Y:St}{Hs H:Hp},X.N=U.map (·.1)->lq f pre U=some (.nxt U1)->Hd X.K X.lm Hs0 H0 Hs H U Y ->
  (∀Y' Hs' H',Same Hs Hs'->X.N=U1.map (·.1)->Hd X.K X.lm Hs0 H0 Hs' H' U1 Y'->dW X rest D0 Y' H')->dW X (pre++rest) D0 Y H
 |[],U,Y,Hs,H,hN,h,hd,k=>by
  cases h;exact k Y Hs H (.refl _) hN hd
 |s::r,U,Y,Hs,H,hN,h,hd,k=>by
  obtain⟨fl,h1,h2⟩:=Option.bind_eq_some_iff.mp h;refine PSs.sem (aH jK bf) ?_
  cases fl with
  |ret d=>cases h2
  |nxt U'=>exact hf U s _ hN h1 Y H Hs _ hd hN (λU2 Y2 Hs2 H2 q2 sm hN2 h2'=>by cases q2;exact Hx hf r hN2 h2 h2' λY' Hs' H' sm'=>k Y' Hs' H' (sm.trans sm')) (λ_ _ _ _ q=>by cases q)
theorem AtS.mono(e:Same Hb Hb')(h:AtS X W Hb' S U Y H):AtS X W Hb S U Y H:=by
 obtain⟨Hs0,H0,Hs,a,b,c⟩:=h;exact⟨Hs0,H0,Hs,e.trans a,b,c⟩
theorem Go.nil(hN:X.N=U.map (·.1))(h:Φ S U):Go X W R [] S U Φ:=λHb Y H D0 _ a k=>PSs.sem fB (k S U Y H h hN a)
theorem Go.pre(G:GoodT T F k pt pL C X sc L ms fn an dF aF){pre:List Stmt}(hN:X.N=U.map (·.1))(h:lq (λU s=>DE.st (T.cx (aR T F k)) F F sc U s) pre U=some (.nxt U'))(g:X.N=U'.map (·.1)->Go X W R rest S U' Φ):Go X W R (pre++rest) S U Φ:=λHb Y H D0 rc ⟨Hs0,H0,Hs,a,b,c⟩ q =>
 Hx (λU s fl hN h=>yF _ F F G.s hN h) pre hN h c λY1 Hs1 H1 sm hN1 h1=>g hN1 Hb Y1 H1 D0 rc ⟨Hs0,H0,Hs1,a.trans sm,b,h1⟩ q
theorem AtS.ev(G:GoodT T F k pt pL C X sc L ms fn an dF aF)(hN:X.N=U.map (·.1)){Hb:Hp}{Y:St}{H:Hp}(h:AtS X W Hb S U Y H){e:Expr}{d:D}{Q:VK}(he:ev (T.cx (aR T F k)) F sc U e=some d)(q:∀v H' Hs',Same Hb Hs'->Rep X.K Hs' d v->AtS X W Hs' S U Y H'->Q v H'):gZ X e Y H Q:=by
 obtain⟨Hs0,H0,Hs,a,b,c⟩:=h;exact(d8 _ F G.s.good hN he).1 Y H Hs _ c.ext.sub c.sh λv H1 Hs1 E1 r1=>q v H1 Hs1 (a.trans E1.vis) r1 ⟨Hs0,H0,Hs1,.refl _,b,c.step E1⟩
theorem Go.chk(h:Chk X W c S U S1)(g:Go X W R rest S1 U Φ):Go X W R (.If c bd [] pos::rest) S U Φ:=λHb Y H D0 rc a q=>by
 refine PSs.sem (aH (mU dG bf fB) bf) (mY (h Hb Y H (λH'=>dW X rest D0 Y H') a λH' a'=>g Hb Y H' D0 rc a' q) λc H' z=>?_);rw[z.1];exact mW z.2
theorem Chk.or(h:Chk X W a S U S1)(g:Chk X W b S1 U S'):Chk X W (.BoolOp .Or [a,b] pos) S U S':=λHb Y H Q w q=>by
 refine PT.sem (PW.pt (Jv dG (G6 dG))) (mY (h Hb Y H (λH'=>nQ X b Y H' (λc H'=>c=false/\Q H')) w λH' a'=>g Hb Y H' Q a' q) λc H' z=>?_);rw[z.1];exact mW z.2
theorem Ql{I:Nat->W.τ->Rho->Prop}(rc:R D0.rt)(G:GoodT T F k pt pL C X sc L ms fn an dF aF)(hN:X.N=U.map (·.1))(hI:evI (T.cx (aR T F k)) (fM tg) (ev (T.cx (aR T F k)) F sc U) sc iter=some l)
  (hr:∀(i:Nat)(x:D),l[i]?=some x->∀S U,X.N=U.map (·.1)->I i S U->∃U1,d9 sc tg x U=some U1/\(X.N=U1.map (·.1)->Go X W R body S U1 (I (i+1)))) (h0:I 0 S U) (hd:AtS X W Hb S U Y H)
  (hq:∀S' U' Y' H',I l.length S' U'->X.N=U'.map (·.1)->AtS X W Hb S' U' Y' H'->D0.nx Y' H'):n6 X (.For tg iter body [] pos) D0 Y H:=by
 obtain⟨Hs0,H0,Hs,a0,B,hd⟩:=hd;obtain⟨hI',hp⟩:=Bb G.s.good (λe d h=>⟨(d8 _ F G.s.good hN h).1,aZ h⟩) hI;refine PS.sem (G9 G.s.pass G.s.good.calm uP lJ bf (iU hp)) (hI' Y H Hs _ hd.ext.sub hd.sh λJ H2 Hs2 E2 hJ=>?_)
 let V:Nat->Nat->St->Hp->Prop:=λi m Y H=>m=l.length-i/\i<=l.length/\∃S U,I i S U/\X.N=U.map (·.1)/\AtS X W Hs2 S U Y H
 refine⟨V,⟨l.length,rfl,D5z _,S,U,h0,hN,Hs0,H0,Hs2,.refl _,B,hd.step E2⟩,?_⟩;rintro i m Yi Hi ⟨rfl,hi,Si,Ui,ji,hNi,Hs3,H3,Hs4,sm,B4,h4⟩;obtain⟨stp,go⟩:=hJ Hs4 Hi sm h4.ext.sub
 by_cases hlt:i<l.length
 .have hx:=List.getElem?_eq_getElem hlt
  obtain⟨g1,g2⟩:=go i _ hx;refine .inr ⟨g1,λY' H'=>V (i+1) (l.length-(i+1)) Y' H',λY' H' w=>⟨_,by omega,w⟩,λx H' y=>?_⟩;obtain⟨Hs5,E5,rx⟩:=g2 x H' y;have h5:=h4.step E5;obtain⟨U1,b1,b2⟩:=hr i _ hx Si Ui hNi ji;exact pF G.s.good.calm G.s.own G.s.good.nd h5.ext.sub hNi (j8 (Hs0:=Hs3) (H0:=H3) (H:=H')) b1 h5 rx λY' hN2 h6=>b2 hN2 Hs2 Y' H' _ rc ⟨Hs3,H3,Hs5,sm.trans E5.vis,B4,h6⟩ λS' U' Y7 H7 j' n' a'=>⟨rfl,hlt,S',U',j',n',a'⟩
 .have hi':i=l.length:=by omega
  subst hi';exact .inl ⟨stp,hq Si Ui Yi Hi ji hNi ⟨Hs3,H3,Hs4,a0.trans (E2.vis.trans sm),B4,h4⟩⟩
theorem Go.for{I:Nat->W.τ->Rho->Prop}(G:GoodT T F k pt pL C X sc L ms fn an dF aF)(hN:X.N=U.map (·.1))(hI:evI (T.cx (aR T F k)) (fM tg) (ev (T.cx (aR T F k)) F sc U) sc iter=some l)(h0:I 0 S U)
  (hr:∀(i:Nat)(x:D),l[i]?=some x->∀S U,X.N=U.map (·.1)->I i S U->∃U1,d9 sc tg x U=some U1/\(X.N=U1.map (·.1)->Go X W R body S U1 (I (i+1)))) (g:∀S' U',X.N=U'.map (·.1)->I l.length S' U'->Go X W R rest S' U' Φ):Go X W R (.For tg iter body [] pos::rest) S U Φ:=λHb Y H D0 rc a q =>
 PSs.sem (aH jK bf) (Ql rc G hN hI hr h0 a λS' U' Y' H' j n a'=>g S' U' n j Hb Y' H' D0 rc a' q)
theorem Go.mono(g:Go X W R ss S U Ψ)(h:∀S' U',Ψ S' U'->Φ S' U'):Go X W R ss S U Φ:=λHb Y H D0 rc a q=>g Hb Y H D0 rc a λS' U' Y' H' z=>q S' U' Y' H' (h S' U' z)
theorem Go.fz(e:Expr)(hf:frz n e U=U')(g:Go X W R ss S U' Φ):Go X W R ss S U Φ:=λHb Y H D0 rc ⟨Hs0,H0,Hs,a,b,c⟩ q=>by
 obtain⟨Hs1,sm,h1⟩:=c.frozen n e;rw[hf] at h1;exact g Hb Y H D0 rc ⟨Hs0,H0,Hs1,a.trans sm,b,h1⟩ q
end
section
variable{X:Cx}{U U':Rho}{T:Pg}{F k:Nat}{sc:Scope}{pL pt:Addr×Str}{W:Wm}{C:Addr}{c:Cw}{get:W.τ->Cst}{set:W.τ->Cst->W.τ}{t:W.τ}{S S1 S':Cst}{L:LamP}{ms:uq}{fn an:Str}{dF:DF}{aF:RF}{Φ Ψ:W.τ->Rho->Prop}{R:VK->Prop}{rest:List Stmt}{e1 e2 e3:Expr}{x r due:D}{p1 p2 p3 pos:Pos}
theorem Bk(G:GoodT T F k pt pL C X sc L ms fn an dF aF)(hN:X.N=U.map (·.1))(Ls:Lns X.K C pt W c get set)(h1:ev (T.cx (aR T F k)) F sc U e1=some (.obj c.p))(h2:ev (T.cx (aR T F k)) F sc U e2=some x)
  (hg:dF c.p (get t) x=some (c.p,r,S'))     (a:AtS X W Hb t U Y H) (hq:∀v H' Hs',Same Hb Hs'->Rep X.K Hs' r v->AtS X W Hs' (set t S') U Y H'->Q v H'):gZ X (.Call (.Name fn p1) [e1,e2] [] p2) Y H Q:=by
 obtain⟨Hs0,H0,Hs,a0,B,hd⟩:=a;obtain⟨un,l,cr,tb,stp⟩:=Ls.ok t Hs0 H0 B;obtain⟨a,g,ps,m1,m2,m3,FD⟩:=G.did
 have hgl:Gl X fn:=by show X.env.scope.names.lookup fn=_;rw[G.s.good.sce];exact G.dg.1
 obtain⟨hA,hpl⟩:=dY (es:=[e1,e2]) (ds:=[.obj c.p,x]) (λe _ d he=>⟨(d8 _ F G.s.good hN he).1,aZ he⟩) (by simp[jZ,h1,h2]);refine(dX FD G.s.good.room hgl m1 m2 m3 .nil lN cQ G.dg.2 (aA (hpl e1 (by simp))) (dU λe' he=>hpl e' (X0z _ he))).sem (hA Y H Hs _ hd.ext.sub hd.sh λvs H1 Hs1 E1 r1=>?_);obtain⟨v,u,rfl,r2,r3⟩:=repL2 r1;cases (show v=.ref c.p by simpa[Rep] using r2);have h1':=hd.step E1;rw[G.lc.lm] at h1';have t1:=tb.ext h1'.ext;refine⟨c.p,c.d,c.dn,un,Hs1,get t,S',x,r,u,l,rfl,E1.sub,cr.ext h1'.ext,r3,t1.tb,t1.th,t1.ch,hg,λv H2 Hs2 un' E2 S2 r4=>?_⟩;obtain⟨Hb',B2,h2'⟩:=stp _ _ _ _ _ un' S' _ _ h1' S2 (.ofD h1' cr tb E2);rw[<- G.lc.lm] at h2';exact hq v H2 Hs2 (a0.trans (E1.vis.trans E2.vis)) r4 ⟨_,_,Hs2,.refl _,B2,h2'⟩
theorem Chk.ne(G:GoodT T F k pt pL C X sc L ms fn an dF aF)(hN:X.N=U.map (·.1))(h:∀Hb Y H (Q:VK),AtS X W Hb t U Y H->(∀v H' Hs',Same Hb Hs'->Rep X.K Hs' r v->AtS X W Hs' t' U Y H'->Q v H')->gZ X e1 Y H Q)(h3:ev (T.cx (aR T F k)) F sc U e3=some due)
  (hc:cmpop .NotEq r due=some (.bl false)):Chk X W (.Compare e1 [.NotEq] [e3] p3) t U t':=λHb Y H Q a hq=>by
 refine(ou (lR G.s.good.room G.s.good.kw .NotEq) aq aq (dB (aZ h3))).sem (h Hb Y H _ a λv H1 Hs1 s1 r1 a1=>?_);refine AtS.ev G hN a1 h3 λw H2 Hs2 s2 r2 a2=>?_;obtain⟨Hs0,H0,Hs,s3,B,hd⟩:=a2;exact⟨Hs2,r,due,_,s3.trans hd.ext.sub,Rep.same s2 r v r1,r2,hc,false,rfl,false,rfl,rfl,hq _ ⟨Hs0,H0,Hs,s1.trans (s2.trans s3),B,hd⟩⟩
theorem Chk.did(G:GoodT T F k pt pL C X sc L ms fn an dF aF)(hN:X.N=U.map (·.1))(Ls:Lns X.K C pt W c get set)(h1:ev (T.cx (aR T F k)) F sc U e1=some (.obj c.p))(h2:ev (T.cx (aR T F k)) F sc U e2=some x)(h3:ev (T.cx (aR T F k)) F sc U e3=some due)
  (hg:dF c.p (get t) x=some (c.p,r,S')) (hc:cmpop .NotEq r due=some (.bl false)):Chk X W (.Compare (.Call (.Name fn p1) [e1,e2] [] p2) [.NotEq] [e3] p3) t U (set t S') :=
 .ne G hN (λHb Y H Q a hq=>Bk G hN Ls h1 h2 hg a hq) h3 hc
theorem Go.did(G:GoodT T F k pt pL C X sc L ms fn an dF aF)(hN:X.N=U.map (·.1))(Ls:Lns X.K C pt W c get set)(h1:ev (T.cx (aR T F k)) F sc U e1=some (.obj c.p))(h2:ev (T.cx (aR T F k)) F sc U e2=some x)
  (hg:dF c.p (get t) x=some (c.p,r,S')) (g:Go X W R rest (set t S') U Φ):Go X W R (.Expr (.Call (.Name fn p1) [e1,e2] [] p2) pos::rest) t U Φ:=λHb Y H D0 rc a q =>
 PSs.sem (aH (bW aq) bf) (Bk G hN Ls h1 h2 hg a λv H' Hs' s1 _ a1=>g Hb Y H' D0 rc (a1.mono s1) q)
theorem Chk.told(G:GoodT T F k pt pL C X sc L ms fn an dF aF)(hN:X.N=U.map (·.1))(Ls:Lns X.K C pt W c get set)(h1:Mz (T.cx (aR T F k)) L ms (get t) F sc U e1=some (c.p,r,S'))(h3:ev (T.cx (aR T F k)) F sc U e3=some due)
  (hc:cmpop .NotEq r due=some (.bl false)):Chk X W (.Compare e1 [.NotEq] [e3] p3) t U (set t S') :=
 .ne G hN (λHb Y H Q ⟨Hs0,H0,Hs,a0,B,hd⟩ hq=>by
  obtain⟨un,l,cr,tb,stp⟩:=Ls.ok t Hs0 H0 B;have hd':=hd;rw[G.lc.lm] at hd';obtain⟨_,lL,TL,n1,n2⟩:=hd'.lam pL rfl;refine oG G.tx G.lc hN G.s.good.sce (G.s.good.room.mono (by omega)) G.ta G.tv G.co (cr.ext hd'.ext) h1 hd'.ext.sub hd'.sh TL n1 n2 λv H2 Hs2 un' E2 S2 r4=>?_;obtain⟨Hb',B2,h2'⟩:=stp _ _ _ _ _ un' S' _ _ hd' S2 (.ofT hd' cr tb TL E2);rw[<- G.lc.lm] at h2'
  exact hq v H2 Hs2 (a0.trans E2.vis) r4 ⟨_,_,Hs2,.refl _,B2,h2'⟩) h3 hc
theorem Go.met(G:GoodT T F k pt pL C X sc L ms fn an dF aF)(hN:X.N=U.map (·.1))(Ls:Lns X.K C pt W c get set)(h:xG (T.cx (aR T F k)) ms F sc U (get t) e1=some (c.p,.val r S'))(g:Go X W R rest (set t S') U Φ)(hs:swapsWith e1 none pos.line X.env=pure false:=by rfl):Go X W R (.Expr e1 pos::rest) t U Φ:=λHb Y H D0 rc ⟨Hs0,H0,Hs,a0,B,hd⟩ q=>by
 obtain⟨un,l,cr,tb,stp⟩:=Ls.ok t Hs0 H0 B;have hd':=hd;rw[G.lc.lm] at hd';refine PSs.sem (aH (bW aq hs) bf) (sW G.s.good hN G.co (G.s.good.room.mono (by omega)) lN h hd'.ext.sub hd'.sh (cr.ext hd'.ext) λv H2 Hs2 un' E2 S2 _=>?_).1;obtain⟨Hb',B2,h2'⟩:=stp _ _ _ _ _ un' S' _ _ hd' S2 (.ofM hd' cr tb E2);rw[<- G.lc.lm] at h2';exact g Hb Y H2 D0 rc ⟨_,_,Hs2,a0.trans E2.vis,B2,h2'⟩ q
theorem Chk.all(G:GoodT T F k pt pL C X sc L ms fn an dF aF)(hN:X.N=U.map (·.1))(Ls:Lns X.K C pt W c get set)(h1:ev (T.cx (aR T F k)) F sc U e1=some (.obj c.p))(h2:ev (T.cx (aR T F k)) F sc U e2=some (.dic ks' ds'))
  (hg:aF (get t) []=some (.inl (.dic ks ds))) (hc:Bl ks ds ks' ds'=true) (z1:∀d∈ds,dep d<=50) (z2:∀d∈ds',dep d<=50) (zk:∀d∈ds,∀d'∈ds',fW d d'=true):Chk X W (.Compare (.Call (.Name an p1) [e1] [] p2) [.NotEq] [e2] p3) t U t:=λHb Y H Q ⟨Hs0,H0,Hs,a0,B,hd⟩ hq=>by
 obtain⟨un,l,cr,tb,stp⟩:=Ls.ok t Hs0 H0 B;obtain⟨a,g,ps,m1,m2,m3,FD⟩:=G.all
 have hgl:Gl X an:=by show X.env.scope.names.lookup an=_;rw[G.s.good.sce];exact G.ag.1
 refine(ou (OJ G.s.good.room G.s.good.kw) aq aq (dB (aZ h2))).sem ?_;refine(dX FD G.s.good.room hgl m1 m2 m3 .nil lN (aB aq aM (aA (aZ h1))) G.ag.2 (aA (aZ h1)) rfl).sem ((d8 _ F G.s.good hN h1).1 Y H Hs _ hd.ext.sub hd.sh λv H1 Hs1 E1 r1=>?_);cases (show v=.ref c.p by simpa[Rep] using r1);have h1':=hd.step E1;refine⟨c.p,c.d,c.dn,un,Hs1,get t,[],[],_,rfl,rfl,E1.sub,cr.ext h1'.ext,.nil,hg,λv H2 Hs2 E2 r2=>?_⟩;have h2':=h1'.step E2;exact(d8 _ F G.s.good hN h2).1 Y H2 Hs2 _ h2'.ext.sub h2'.sh λw H3 Hs3 E3 r5=>⟨Hs3,ks,ds,ks',ds',E3.sub,Rep.same E3.vis _ v r2,r5,z1,z2,zk,false,by rw[hc];rfl,rfl,hq _ ⟨_,_,Hs3,a0.trans (E1.vis.trans (E2.vis.trans E3.vis)),B,h2'.step E3⟩⟩
theorem Chk.cnt(G:GoodT T F k pt pL C X sc L ms fn an dF aF)(hN:X.N=U.map (·.1))(Ls:Lns X.K C pt W c get set)(h1:xH (T.cx (aR T F k)) F sc U e1=some (c.p,("counts":Str),[]))(h3:ev (T.cx (aR T F k)) F sc U e3=some due)
  (hg:jB (get t) []=some (.inl r)) (hc:cmpop .NotEq r due=some (.bl false)):Chk X W (.Compare e1 [.NotEq] [e3] p3) t U t :=
 .ne G hN (λHb Y H Q ⟨Hs0,H0,Hs,a0,B,hd⟩ hq=>by
  obtain⟨un,l,cr,tb,stp⟩:=Ls.ok t Hs0 H0 B;obtain⟨ps,MO⟩:=G.cnt
  exact(iZ G.s.good hN G.cl rfl MO G.s.good.room lN h1 hd.ext.sub hd.sh (cr.ext hd.ext) λH1 Hs1 vs E1 r1=>⟨c.p,c.d,c.dn,un,Hs1,get t,[],vs,_,rfl,rfl,E1.sub,cr.ext (hd.ext.trans E1),r1,hg,λv H2 Hs2 E2 r2=>hq v H2 Hs2 (a0.trans (E1.vis.trans E2.vis)) r2 ⟨_,_,Hs2,.refl _,B,(hd.step E1).step E2⟩⟩).1) h3 hc
end
end L2
namespace L2
open PySem PySem.Spec PyProof.Rows
def uF(K:Zf)(l:List Addr):Sp:=λvs H Q _=>∃(a:Addr)(ns:List Int),vs=[.ref a]/\SqL K H a (ns.map V.int)/\ns.length<=63/\(∀P∈l,H P=some (uo P #[]))/\∀H':Hp,(∀P∈l,∃ps,H' P=some (uo P ps))->Q (.bl true) H'
def tbs(l:List Addr)(H:Hp):Hp:=λb=>if b∈l then some (uo b #[]) else H b
section
variable{l:List Addr}{H:Hp}{b:Addr}
theorem Gw(h:b∈l):tbs l H b=some (uo b #[]):=T5z h
theorem kY(h:b∉l):tbs l H b=H b:=U5z h
end
theorem zW{K:Zf}{cs:List (Addr×Addr)}
  (KX:K.In s₁.heap) (hns:s₁.heap.Ns mainGlobals mg) (hb:s₁.heap.Ns builtinsNs mb) (hbb:∀x:Str,x≠"__name__"->mb x=bootBuiltins x) (hlim:s₁.heap.NoLimit) (hg:s₁.gens = #[])
  (ha:s₁.heap.get? a=some {cls:=.type "list",data:=.seq vs.toArray}) (hi:IntsAre vs ns) (hl:ns.length<=63) (hr:Room k callerA)
  (hT:∀q∈cs,s₁.heap.get? q.2=some (W.tabObj #[])/\K.lookup q.2=none/\W.CodeHd s₁.heap q.1 q.2/\s₁.heap.BuiltinsAt mg q.2)
  (F:∀base:Heap,K.In base->base.Ns mainGlobals mg->(∀q∈cs,W.CodeHd base q.1 q.2/\base.BuiltinsAt mg q.2)->FnOk P w K mg base CX0 k fa fd [x] (uF K (cs.map (·.2)))) (hbind:∀(s:Shared)(u:Value),BindsTo s fd ⟨[u],[]⟩ [(x,u)]) :
  codeAny (model P w) callerA (.call (.ref fa) ⟨[.ref a],[]⟩) (λr s'=>r=.ok (.ret (.bool true))/\OldK s₁.heap s'.heap/\s'.os=s₁.os/\AllBare s'.gens) s₁:=by
 have rv:=pU hi;have lenV:=hi.length
 have hT1:∀b∈cs.map (·.2),s₁.heap.get? b=some (W.tabObj #[]):=λb hb=>by
  obtain⟨q,hq,rfl⟩:=List.mem_map.mp hb;exact(hT q hq).1
 have core:∀H0:Hp,Only H0->SqL K H0 a (ns.map V.int)->HOk P w H0 s₁.heap->(∀b,H0 b≠none->b=a)->(H0 a≠none->K.lookup a=none) ->
   codeAny (model P w) callerA (.call (.ref fa) ⟨[.ref a],[]⟩) (λr s'=>r=.ok (.ret (.bool true))/\OldK s₁.heap s'.heap/\s'.os=s₁.os/\AllBare s'.gens) s₁:=by
  intro H0 hO hS hok hA hK
  have up:∀{b u},H0 b=some u->tbs (cs.map (·.2)) H0 b=some u:=λ{b u} e=>by
   have:b=a:=hA b (by rw[e];simp)
   rw[kY (this▸(λz=>by rw[hT1 a z] at ha;cases ha))];exact e
  have hokH:HOk P w (tbs (cs.map (·.2)) H0) s₁.heap:=λb u e=>by
   by_cases hb:b∈cs.map (·.2)
   .rw[Gw hb] at e;cases e;exact Gx (hT1 b hb)
   .rw[kY hb] at e
    exact(hok b u e).stay (λc v _ q=>q) (λc q=>up q) λc zs q=>up q
  have hSH:SqL K (tbs (cs.map (·.2)) H0) a (ns.map V.int):=by
   obtain(e|⟨o,e⟩)|e:=hS
   .exact .inl (.inl (up e))
   .exact .inl (.inr ⟨o,up e⟩)
   .exact .inr e
  have noH:∀{b:Addr},b∉cs.map (·.2)->b≠a->(tbs (cs.map (·.2)) H0) b=none:=λ{b} h1 h2=>by
   rw[kY h1]
   cases q:H0 b with
   |none=>rfl
   |some u=>exact absurd (hA b (by rw[q];simp)) h2
  have un_of:∀{b:Addr}{o:Obj},s₁.heap.get? b=some o->(tbs (cs.map (·.2)) H0) b=none->(Cu s₁.heap (tbs (cs.map (·.2)) H0)).get? b=some o:=λe n=>vg e n;have nsK:∀{b:Addr}{m:Str->Option Value},s₁.heap.Ns b m->(Cu s₁.heap (tbs (cs.map (·.2)) H0)).Ns b m:=λ{b m} ⟨o,es,ep,e,d,r⟩=>⟨o,es,ep,un_of e (noH (λz=>by rw[hT1 b z] at e;cases e;cases d) (λz=>by rw[z,ha] at e;cases e;cases d)),d,r⟩
  have hKb:=λb o e=>un_of (KX b o e) (by
   have hbP:b∉cs.map (·.2):=λz=>by
    obtain⟨q,hq,rfl⟩:=List.mem_map.mp z;rw[(hT q hq).2.1] at e;cases e
   rw[kY hbP]
   cases q:H0 b with
   |none=>rfl
   |some u =>
    have e':=hA b (by rw[q];simp)
    subst e'
    rw[hK (by rw[q];simp)] at e;cases e)
  have hM:Mod K mg (Cu s₁.heap (tbs (cs.map (·.2)) H0)):=⟨hKb,nsK hns,⟨mb,nsK hb,hbb⟩,let ⟨mc,h1,h2⟩:=hlim;⟨mc,nsK h1,h2⟩⟩
  have hCb:∀q∈cs,W.CodeHd (Cu s₁.heap (tbs (cs.map (·.2)) H0)) q.1 q.2/\(Cu s₁.heap (tbs (cs.map (·.2)) H0)).BuiltinsAt mg q.2:=λq hq=>by
   obtain⟨t1,t2,⟨o,vs',file,tf,flags,tg,inF,text,tt,e1,e2,r⟩,⟨bm,ob,b1,b2,b3,b4,b5,b6,b7,b8⟩⟩:=hT q hq
   exact⟨⟨o,vs',file,tf,flags,tg,inF,text,tt,un_of e1 (noH (λz=>by rw[hT1 _ z] at e1;cases e1;cases e2) (λz=>by rw[z,ha] at e1;cases e1;exact absurd (show Value.type "list"=Value.type "code" from e2) (by decide))),e2,r⟩,
    ⟨bm,ob,b1,b2,b3,b4,un_of b5 (noH (λz=>by rw[hT1 _ z] at b5;cases b5;cases b6) (λz=>by rw[z,ha] at b5;cases b5;exact absurd (show Value.type "list"=Value.type "module" from b6) (by decide))),b6,b7,b8⟩⟩
  refine W4z ((F _ hKb (nsK hns) hCb).run callerA [] s₁ _ ⟨[.ref a],[]⟩ [.ref a] [.ref a] (λv H'=>v=.bl true/\∀P∈cs.map (·.2),∃ps',H' P=some (uo P ps')) (λ_ _ _=>False) hr ⟨rfl,hM,λb o e=>zL e,Nat.le_of_eq (qJ _ _),trivial,λb hb=>absurd (show b∈([]:List Addr) from hb) (by simp),hokH,.of_eq hg⟩ (hbind s₁ (.ref a)) (.cons rfl .nil) ⟨a,ns,rfl,hSH,hl,λP h=>Gw h,λH' e=>⟨rfl,e⟩⟩) λr s' h=>?_
  cases r with
  |error e=>exact False.elim h
  |ok fl =>
   cases fl with
   |next=>exact False.elim h
   |brk=>exact False.elim h
   |cont=>exact False.elim h
   |ret u =>
    obtain⟨v,H',os,bare,un,hok',r',q,hps⟩:=h;subst q;obtain rfl:u=Value.bool true:=r'
    have keep:∀b o,s₁.heap.get? b=some o->b∉cs.map (·.2)->s'.heap.get? b=some o:=λb o e hbP=>by
     by_cases hba:b=a
     .obtain z|⟨ob,zs,z⟩:=hO b
      .exact un.keep b o e (by rw[kY hbP];exact z) (by intro z;exact absurd (show b∈([]:List Addr) from z) (by simp)) (by simp)
      .obtain⟨e1,_⟩:=hok b _ z
       obtain⟨e2,_⟩:=hok' b _ (un.frzs b ob _ (up z));rw[e] at e1;cases e1;exact e2
     .exact un.keep b o e (noH hbP hba) (by intro z;exact absurd (show b∈([]:List Addr) from z) (by simp)) (by simp)
    have tb:∀b o,s₁.heap.get? b=some o->b∈cs.map (·.2)->o=W.tabObj #[]/\(∃c,W.CodeHd s₁.heap c b)/\∃ps',s'.heap.get? b=some (W.tabObj ps'):=λb o e h=>by
     obtain⟨ps',e'⟩:=hps b h;rw[hT1 b h] at e;cases e;obtain⟨q,hq,rfl⟩:=List.mem_map.mp h;exact⟨rfl,⟨q.1,(hT q hq).2.2.1⟩,ps',(hok' _ _ e').1⟩
    refine⟨rfl,⟨λb o e=>?_,λb o e=>?_⟩,os,bare⟩
    .by_cases hbP:b∈cs.map (·.2)
     .obtain⟨rfl,⟨c,hc⟩,ps',hPt⟩:=tb b o e hbP
      exact .inr (.inl ⟨(hc.tab e).isCodeTable,rfl,#[],ps',rfl,by rw[hPt];simp⟩)
     .exact .inl (keep b o e hbP)
    .by_cases hbP:b∈cs.map (·.2)
     .obtain⟨_,_,ps',hPt⟩:=tb b o e hbP
      exact⟨_,hPt⟩
     .exact⟨o,keep b o e hbP⟩
 cases hk:K.lookup a with
 |some o =>
  have e:=KX a o hk;rw[ha] at e;cases e;refine core (λ_=>none) (λ_=>.inl rfl) (.inr ⟨_,vs.toArray,_,hk,rfl,rfl,rfl,by rw[H2z,lenV];exact T4z hl (by decide),by simpa using rv⟩) (λb u z=>by have z':=z;cases z') (λb z=>absurd rfl z) λz=>absurd rfl z
 |none =>
  refine core (λb=>if b=a then some (.frz {cls:=.type "list",data:=.seq vs.toArray} (.lst (ns.map V.int))) else none) (λb=>?_) (.inl (.inr ⟨{cls:=.type "list",data:=.seq vs.toArray},T5z rfl⟩)) (λb u z=>?_) (λb z=>?_) λ_=>hk
  .by_cases hb:b=a
   .exact .inr ⟨_,_,T5z hb⟩
   .exact .inl (U5z hb)
  .by_cases hb:b=a
   .cases ((T5z hb).symm.trans z)
    subst hb;exact⟨ha,by rw[K3z];exact T4z hl (by decide),vs,_,rv,ha⟩
   .cases ((U5z hb).symm.trans z)
  .by_cases hb:b=a
   .exact hb
   .exact absurd (U5z hb) z
theorem walkN{l:W.OpenLaw}{K:Params->Zf}{cs:List (Addr×Addr)}
    (hn:l.most=some 63) (hdf:d.params.defaults=[]) (hr:Room k callerA)
    (hY:∀(w:World)(h:Heap),YP w h->(K w.params).In h/\∀q∈cs,h.get? q.2=some (W.tabObj #[])) (hKP:∀P,∀q∈cs,(K P).lookup q.2=none/\W.codeHdIn (K P) q.1 q.2=true)
    (F:∀(w:World)(mg:Str->Option Value)(fa:Addr)(h:Heap),(K w.params).In h->h.Ns mainGlobals mg->mg d.name=some (.ref fa) ->
      ∃fd:FuncData, (∀(s:Shared)(u:Value), BindsTo s fd ⟨[u], []⟩ [(x, u)]) /\
        ∀base:Heap,(K w.params).In base->base.Ns mainGlobals mg->(∀q∈cs,W.CodeHd base q.1 q.2/\base.BuiltinsAt mg q.2)->FnOk l.prog w (K w.params) mg base CX0 k fa fd [x] (uF (K w.params) (cs.map (·.2)))) :
    W.WalkO q loose XP YP l.row.toRowW d [] (λf vs=>PySem.call f vs):=by
  refine Att.um hn hdf λw s₀ s₁ mg mb fa o pm cd doc a vs ns G Y ho hd hcd hmg hobj hints hlen hg=>?_
  obtain⟨KX,hT⟩:=hY w _ Y
  obtain⟨fd,hb,hF⟩:=F w mg fa _ KX G.T.g hmg
  obtain⟨bm,ob,b1,b2,b3,b4,b5,b6⟩:=G.T.bmain
  have hbG:bm≠mainGlobals:=λz=>by
    obtain⟨o,es,ep,e,hd,_⟩:=G.T.g
    rw[z,e] at b3;cases b3;rw[hd] at b6;cases b6
  refine zW KX G.T.g G.T.b G.T.builtins G.T.nolimit hg hobj hints hlen hr (λq hq=>⟨hT q hq,(hKP _ q hq).1,W.codeHd_of_K KX (hKP _ q hq).2,⟨bm,ob,b1,b2,hbG,λz=>?_,b3,b4,b5,b6⟩⟩) hF hb
  rw[z,hT q hq] at b3;cases b3;cases b4
end L2
namespace L2
open PySem PySem.Spec PyProof.Rows
open DE hiding st
section
variable{X:Cx}{U U':Rho}{T:Pg}{F k:Nat}{sc:Scope}{pL pt:Addr×Str}{W:Wm}{C:Addr}{c:Cw}{get:W.τ->Cst}{set:W.τ->Cst->W.τ}{t:W.τ}{S:Cst}{L:LamP}{ms:uq}{fn an:Str}{dF:DF}{aF:RF}{rest:List Stmt}{e1:Expr}{pos:Pos}{Hb:Hp}{Y:St}{H:Hp}{D0:Ends}{R:VK->Prop}{Φ:(W1 X.K C pt c).τ->Rho->Prop}{Ψ:W.τ->Rho->Prop}
theorem CK(G:GoodT T F k pt pL C X sc L ms fn an dF aF)(hN:X.N=U.map (·.1))(MT:∃ps,bV X.prog X.w X.K X.mg C "twin" ps (k+4) (qb X.K C))(h1:xH (T.cx (aR T F k)) F sc U e1=some (c.p,("twin":Str),[]))(a:AtS X (W1 X.K C pt c) Hb S U Y H)
  (hq:∀(c2:Cw) H' Hs',Same Hb Hs'->AtS X (W2 X.K C pt c c2) Hs' ((S,S):Cst×Cst) U Y H'->Q (.ref c2.p) H'):gZ X e1 Y H Q:=by
 obtain⟨Hs0,H0,Hs,a0,⟨un,l,cr,tb⟩,hd⟩:=a;obtain⟨ps,MO⟩:=MT;refine(iZ G.s.good hN G.cl rfl MO G.s.good.room lN h1 hd.ext.sub hd.sh (cr.ext hd.ext) λH1 Hs1 vs E1 r1=>?_).1;cases (show vs=[] by simpa[aL] using r1);have h1':=hd.step E1;rw[G.lc.lm] at h1';have c1:=cr.ext h1'.ext;have t1:=tb.ext h1'.ext;refine⟨c.p,c.d,c.dn,un,Hs1,S,rfl,E1.sub,c1,λp2 d2 dn2 un2 H' CR2 n1 n2 n3 n4 all=>?_⟩;have sub:=E1.sub.trans all;have E2:Ext Hs1 H1 Hs1 H':=⟨.refl _,all,sub,λ_ _ _ z=>z⟩;obtain⟨_,lL,TL,m1,m2⟩:=h1'.lam pL rfl
 have h3:Hd X.K (some pL) Hs1 (j6 Hs1 H' λb=>(c.at un b\/(Cw.mk p2 d2 dn2).at un2 b)\/TbA pt l b) Hs1 H' U Y:=by
  refine h1'.stepG (.refl _) sub (λb o e z n=>?_) (λb vs e n z=>⟨all _ _ e,n⟩) ⟨lL,TL.same all,m1,m2⟩;rintro((q|q)|q)
  .exact CRep.out cr z q
  .obtain rfl|rfl|rfl|rfl:=q
   .rw[n1] at e;cases e
   .rw[n2] at e;cases e
   .rw[n3] at e;cases e
   .rw[n4] at e;cases e
  .obtain rfl|⟨r,hr,rfl⟩:=q
   .rw[tb.tb.tab] at z;cases z
   .rw[tb.tb.cod r hr] at z;cases z
 have ap:Aprt c un ⟨p2,d2,dn2⟩ un2:=by
  obtain⟨⟨dx,a1⟩,⟨kvs,b1,_⟩,⟨vs,c1,_⟩,⟨us,d1,_⟩,_⟩:=c1;exact⟨aj a1 n1,aj b1 n2,aj c1 n3,aj d1 n3,aj c1 n4,aj d1 n4⟩
 rw[<- G.lc.lm] at h3;exact hq ⟨p2,d2,dn2⟩ H' Hs1 (a0.trans E1.vis) ⟨_,_,Hs1,.refl _,⟨un,un2,l,CRep.j6 (c1.ext E2) λb z=>.inl (.inl z),CRep.j6 CR2 λb z=>.inl (.inr z),ap,(t1.ext E2).j6 λb z=>.inr z⟩,h3⟩
theorem Go.twin(G:GoodT T F k pt pL C X sc L ms fn an dF aF)(hN:X.N=U.map (·.1))(MT:∃ps,bV X.prog X.w X.K X.mg C "twin" ps (k+4) (qb X.K C))(h1:xH (T.cx (aR T F k)) F sc U e1=some (c.p,("twin":Str),[]))
  (g:∀c2:Cw,∃U1,d9 sc tg (.obj c2.p) U=some U1/\(X.N=U1.map (·.1)->Go X (W2 X.K C pt c c2) R rest ((S,S):Cst×Cst) U1 λ_ _=>False)) (hs:swapsWithSole [tg] e1 pos.line X.env=pure false:=by rfl) (hw:swappedStores [tg] e1 X.env=pure none:=by rfl)
  (h2:(assignEach [tg] X.env).map (·.2)=[assign tg X.env]:=by rfl):Go X (W1 X.K C pt c) R (.Assign [tg] e1 pos::rest) S U Φ:=λHb Y H D0 rc a _ =>
 PSs.sem (aH (Hf aq lJ hs hw h2) bf) (CK G hN MT h1 a λc2 H' Hs' s1 ⟨Hs0,H0,Hs,s2,B,hd⟩=>by
  obtain⟨U1,b1,b2⟩:=g c2
  exact pF G.s.good.calm G.s.own G.s.good.nd hd.ext.sub hN (j8) b1 hd (show Rep X.K Hs (.obj c2.p) (.ref c2.p) by simp[Rep]) λY' hN2 h6=>b2 hN2 Hs' Y' H' D0 rc ⟨Hs0,H0,Hs,s2,B,h6⟩ λ_ _ _ _ z=>z.elim)
def RT(P1 P2:Addr)(rt:VK):Prop:=∀H',(∀P'∈[P1,P2],∃ps,H' P'=some (uo P' ps))->rt (.bl true) H'
theorem Go.ret{e9:Expr}(G:GoodT T F k pt pL C X sc L ms fn an dF aF)(hN:X.N=U.map (·.1))(Ls:Lns X.K C pt W c get set)(h:ev (T.cx (aR T F k)) F sc U e9=some (.bl true))(_:True:=trivial):Go X W (RT pL.1 pt.1) [.Return (some e9) pos] t U Ψ:=λHb Y H D0 hq a _=>by
 refine PSs.sem (aW (cI aq)) (AtS.ev G hN a h λv H9 Hs9 _ r9 ⟨A1,A2,A3,_,B9,h9⟩=>?_);cases (show v=.bl true by simpa[Rep] using r9);obtain⟨un,l,cr,tb,_⟩:=Ls.ok t A1 A2 B9;rw[G.lc.lm] at h9;refine hq H9 λP' hP'=>?_;obtain rfl|hP':=P4z.mp hP'
 .obtain⟨_,lL,TL,_⟩:=h9.lam _ rfl
  exact⟨_,TL.tab⟩
 .cases D2z.mp hP'
  exact⟨_,(tb.ext h9.ext).tb.tab⟩
end
section
variable{K:Zf}{pL pt:Addr×Str}{Hs0 H0 Hs H H':Hp}{U:Rho}{Y:St}{C un:Addr}{c:Cw}{S:Cst}
theorem Hd.stepM(h:Hd K (some pL) Hs0 H0 Hs H U Y)(all:Same H H')(n1:H c.p=none)(n2:H c.d=none)(n3:H c.dn=none)(n4:H un=none)(cr:CA K C Hs H' c un S)(t:LamT H pt.1 pt.2 [])(th:Hs pt.1=none)(nP:pL.1≠pt.1) :
  ∃Hb,(W1 K C pt c).B S Hs Hb/\Hd K (some pL) Hs Hb Hs H' U Y:=by
 have sub:=h.ext.sub.trans all
 have out:∀{b o},H b=some o->b≠pt.1->Hs b=none->j6 Hs H' (λb=>c.at un b\/TbA pt [] b) b=none:=λ{b o} e z n=>pH (λq=>by
  obtain(rfl|rfl|rfl|rfl)|q|⟨r,hr,_⟩:=q
  .rw[n1] at e;cases e
  .rw[n2] at e;cases e
  .rw[n3] at e;cases e
  .rw[n4] at e;cases e
  .exact z q
  .cases hr) n
 refine⟨j6 Hs H' (λb=>c.at un b\/TbA pt [] b),⟨un,[],CRep.j6 cr λb z=>.inl z,Tb0.j6 ⟨t.same all,th,λq hq=>nomatch hq⟩ λb z=>.inr z⟩,?_⟩;refine h.rebase (.refl _) ⟨.refl _,vQ sub,sub,λ_ _ _ z=>z⟩ (λb vs e n _=>⟨all b _ e,n,out e (λz=>by rw[z,t.tab] at e;cases e) n⟩) λq hq=>?_;cases hq;obtain⟨_,l,T,m1,m2⟩:=h.lam _ rfl;exact⟨out T.tab nP m1,l,T.same all,m1,m2⟩
end
structure LawX where
 (cn kn:Str) (e2:Expr) (rest:List Stmt) (kt k2:Nat) (r1 r2 r3 r4 r5 r7 r8:Pos)
def LawX.body(L:LawX):List Stmt:=.Assign [.Tuple [.Name L.cn L.r1,.Name L.kn L.r2] L.kt L.r3] (.Tuple [.Call (.Name "Case" L.r4) [] [] L.r5,L.e2] L.k2 L.r7) L.r8::L.rest
section
variable{P:Program}{w:World}{K:Zf}{mg:Str->Option Value}{base:Heap}{T:DE.Pg}{F k:Nat}
theorem Kp{dV kV doc pm ct oc:Value}{L:LawX}(Tx:Text w K mg T)(lk:K.lookup f=some ⟨oc,od,.func (W.fnOf nm nm (bR t) (aO t) (ao t) dV kV doc pm an (.ref c) ct),osl⟩)(hcd:W.codeIn K (.ref c) nm=true)
    (hb:aO t=L.body) (hs:fd.sc=ao t) (S:FnScope fd.N fd.ps fd.sc) (h1:fd.ps.length=1) (hC:W.CodeHd base c Pt) (hbm:base.BuiltinsAt mg Pt) (hqn:∀n a,qn=(envOfC nm (ao t) n a (.ref c)).qual++"<lambda>") (nP:Pt≠pt.1)
    (TA:jU P w K mg (k+1) T.exs LP.cv LP.tn) (TV:rR P w K mg (k+1) LP.tn) (CO:CaseOk P w K mg k C ms) (cl:Cls K C)
    (dg:fd.sc.names.lookup fn=some .globalImplicit/\(fn==("__debug__":Str))=false) (did:∃a g ps,mg fn=some (.ref a)/\W.keepIn K (.ref a)=true/\Binds K g ps []/\FnOk P w K mg base (CX1 P w) (k+4) a g ps (Jc K C pt dF))
    (ag:fd.sc.names.lookup al=some .globalImplicit/\(al==("__debug__":Str))=false) (all:∃a g ps,mg al=some (.ref a)/\W.keepIn K (.ref a)=true/\Binds K g ps []/\FnOk P w K mg base (CX1 P w) (k+4) a g ps (spR K C 0 aF))
    (cnt:∃ps,bV P w K mg C "counts" ps (k+4) (spR K C 0 jB))
    (hmg:mg "Case"=some (.ref C)) (hgl:fd.sc.names.lookup ("Case":Str)=some .globalImplicit) (MK:Mk K C fI) (bI:Binds K fdI ["self"] []) (FI:FnOk P w K mg base (CX1 P w) 1 fI fdI ["self"] (M83.yI K C))
    (hsw:swp fd.sc [.Name L.cn L.r1,.Name L.kn L.r2] (.Tuple [.Call (.Name "Case" L.r4) [] [] L.r5,L.e2] L.k2 L.r7)=some true) (hcN:fd.N.contains L.cn=true) (hkN:fd.N.contains L.kn=true) (hpl:aJ L.e2=true)
    (hlaw:∀ns:List Int,ns.length<=63->∀(X:Cx),X.prog=P->X.w=w->X.K=K->X.mg=mg->X.N=fd.N->GoodT T F k pt (Pt,qn) C X fd.sc LP ms fn al dF aF->ev (T.cx (aR T F k)) F fd.sc (bx fd [.lst (ns.map D.int)]) L.e2=some d2 /\
      ∀(cw:Cw),Go X (W1 X.K C pt cw) (RT Pt pt.1) L.rest (⟨[],[],[]⟩:Cst) (fL (fL (bx fd [.lst (ns.map D.int)]) L.cn (.sh (.obj cw.p))) L.kn (.sh d2)) λ_ _=>False) :
    FnOk P w K mg base CX0 (k+5) f (W.fnOf nm nm (bR t) (aO t) (ao t) dV kV doc pm an (.ref c) ct) fd.ps (uF K [Pt,pt.1]):=by
  refine KQ lk hcd (by rw[<- hs];exact S) (λvs H Q E h=>by obtain⟨a,ns,rfl,_⟩:=h;rw[h1];rfl) λA outer s H vs Q E hr h=>?_
  obtain⟨a,ns,rfl,hS,hl,hP,hq⟩:=h
  have hP1:=hP Pt (by simp)
  have hP2:=hP pt.1 (by simp)
  let X0:=gW CX0 P w K mg base fd.N nm (ao t) f (.ref c) A outer s H E
  let X:=X0.nox.relm (some (Pt,qn))
  have GS:GoodS (T.cx (aR T F k)) (k+4) X fd.sc :=
           { good:=oK Tx (by omega) rfl hr hs.symm S.kind S.nd
             own:=⟨λx hx=>⟨by
               unfold ownIn at hx
               rw[V3z] at hx
               show(ao t).names.lookup x=_\/(ao t).names.lookup x=_
               rw[<- hs]
               exact hx.imp (λq=>by simpa using q) (λq=>by simpa using q),.inl rfl⟩⟩
             pass:=PassesOwn.never
             stk:=⟨rfl,rfl⟩ }
  let Hd0:Hp:=del (del H Pt) pt.1
  have dn1:Hd0 Pt=none:=(fQ nP).trans jk
  have dn2:Hd0 pt.1=none:=jk
  have sub0:Same Hd0 H:=λb o e=>(o7 (o7 e).1).1
  have up0:∀{b:Addr}{o:HO},H b=some o->(∀u,o≠.ext u)->Hd0 b=some o:=λ{b o} e n=>by
    show del (del H Pt) pt.1 b=_
    rw[fQ (λz=>by rw[z,hP2] at e;cases e;exact n _ rfl),fQ (λz=>by rw[z,hP1] at e;cases e;exact n _ rfl)]
    exact e
  have rl:aL K Hd0 [.lst (ns.map D.int)] [.ref a]:=by
    refine .cons ?_ .nil
    simp only[Rep]
    refine⟨a,ns.map V.int,rfl,?_,uL (λx=>by simp[Rep]) ns⟩
    rcases hS with(e|⟨o,e⟩)|e
    . exact .inl (.inl (up0 e λu z=>nomatch z))
    . exact .inl (.inr ⟨o,up0 e λu z=>nomatch z⟩)
    . exact .inr e
  obtain⟨s1,s2,s3⟩:=fZ S (ds:=[.lst (ns.map D.int)]) (by rw[h1];rfl) rl
  have noow:∀(i:Nat)(x:Str)(ds':List D),(bx fd [.lst (ns.map D.int)])[i]?=some (x,.ow ds')->False:=λi x ds' e=>by
    rcases s3 i x _ e with q|⟨d',v,q,q1,q2⟩
    . cases q
    . cases q
  have hd:Hd K (some (Pt,qn)) Hd0 Hd0 Hd0 H (bx fd [.lst (ns.map D.int)]) (start fd.N [.ref a]):=by
    refine⟨⟨.refl _,sub0,sub0,λ_ _ _ z=>z⟩,s2,λi x d e=>?_,λi x ds' e=>(noow i x ds' e).elim,λi j x y ds' es a' _ e=>(noow i x ds' e).elim,(λi x dss e=>by
      rcases s3 i x _ e with q|⟨d',v,q,q1,q2⟩
      . cases q
      . cases q),λp' hp'=>?_⟩
    . rcases s3 i x _ e with q|⟨d',v,q,q1,q2⟩
      . cases q
      . cases q
        exact⟨v,q1,q2⟩
    . cases hp'
      exact⟨dn1,[],⟨by rw[hP1];rfl,λq hq=>nomatch hq⟩,dn1,λq hq=>nomatch hq⟩
  refine⟨λD Y H=>∀y0 s0,Inv X y0 Y H s0->wpAny (model X.prog X.w) X.A (execs (aO t) X.env) (SP X y0 D) X.xe s0,λy0 s0 Y H1 D I h=>?_,?_⟩
  . exact H5z (h y0 s0 ((I.wish _).relm _)) (λfl s' z=>z.unrelm.unwish) λ_ _ z=>False.elim z
  . rw[hb]
    refine PSs.sem (aH jK bf) ?_
    obtain⟨v2,hrest⟩:=hlaw ns hl X rfl rfl rfl rfl rfl ⟨GS,⟨rfl,hqn _ _,⟨c,rfl,hC⟩,hbm,rfl,λ_=>rfl⟩,Tx,TA,TV,CO,cl,dg,did,ag,all,cnt⟩
    obtain⟨x,px,y,py,a1,b1,k2,p2,e1,e2,lx,ly,hxy,pa,pb,hw⟩:=yx GS.good hsw
    cases e1
    cases e2
    obtain⟨i,hi⟩:=cW hcN
    obtain⟨j,hj⟩:=cW hkN
    refine PS.sem (G8 GS.good.calm GS.good.nd hi hj (λz=>by rw[z,hj] at hi;exact hxy (I3z hi).symm) lx ly (aB (uR MK FI (hr.mono (by omega)) (by show(ao t).names.lookup ("Case":Str)=_;rw[<- hs];exact hgl) hmg bI .nil lN) (aB aq aM (aA hpl)) rfl) hw rfl) ?_
    intro b dx hbn hdn hne
    have fr:∀q,(upd (upd H dx (.own b)) b (.ins C dx [])) q=none->H q=none:=λq e=>by
      by_cases q1:q=b
      . subst q1;exact hbn
      . rw[ak q1] at e
        by_cases q2:q=dx
        . subst q2;exact hdn
        . rwa [ak q2] at e
    have up:∀q o,H q=some o->(upd (upd H dx (.own b)) b (.ins C dx [])) q=some o:=λq o e=>by
      rw[ak (aj e hbn),ak (aj e hdn)];exact e
    refine⟨b,dx,Hd0,rfl,au,λq o e=>up q o (sub0 q o e),sub0.free hbn,λd dn un H2 CR n1 n2 n3 keep=>⟨rfl,?_⟩⟩
    obtain⟨Hb,B,h2⟩:=hd.stepM (pt:=pt) (c:=⟨b,d,dn⟩) (un:=un) (λq o e=>keep q o (up q o e) (aj e hbn)) hbn (fr _ n1) (fr _ n2) (fr _ n3) CR ⟨by rw[hP2];rfl,λq hq=>nomatch hq⟩ dn2 nP
    refine(d8 _ F GS.good s1 v2).1 _ _ _ _ h2.ext.sub h2.sh λu2 H3 Hs3 E3 r3=>?_
    have nd:((bx fd [.lst (ns.map D.int)]).map (·.1)).Nodup:=by rw[<- s1];exact GS.good.nd
    have hi':((bx fd [.lst (ns.map D.int)]).map (·.1))[i]?=some L.cn:=by rw[<- s1];exact hi
    have hj':((bx fd [.lst (ns.map D.int)]).map (·.1))[j]?=some L.kn:=by rw[<- s1];exact hj
    have g1:=(h2.step E3).set nd hi' (d:=.obj b) (v:=.ref b) (by simp[Rep])
    exact⟨_,_,rfl,hrest ⟨b,d,dn⟩ (λ_=>none) _ _ _ hq ⟨Hd0,Hb,Hs3,(λ_ _ z=>nomatch z),B,(g1.set (by rw[aQ];exact nd) (by rw[aQ];exact hj') r3)⟩ λ_ _ _ _ z=>z.elim⟩
end
end L2
namespace M83
open PySem DE
theorem all2{f g:Nat->α}(h:(List.range n).map f=(List.range n).foldr (λi l=>g i::l) [])(hi:i<n):f i=g i:=by
 rw[<- List.map_eq_foldr] at h;exact List.map_inj_left.mp h i (List.mem_range.mpr hi)
theorem Uo(k:Nat)(hm:m<8)(hn:n<8):aU T 60 (k+3) "has_table_form" [tbl (m+1) (n+1) f]=some (.bl (decide (m<4)&&decide (n<4))) :=
 all2 (f:=λn=>aU T 60 (k+3) "has_table_form" [tbl (m+1) (n+1) f]) (all2 (f:=λm=>(List.range 8).map λn=>aU T 60 (k+3) "has_table_form" [tbl (m+1) (n+1) f]) (g:=λm=>(List.range 8).foldr (λn l=>some (.bl (decide (m<4)&&decide (n<4)))::l) []) (by rfl') hm) hn
theorem vh(k:Nat)(h1:1<=m)(h2:m<=8)(h3:1<=n)(h4:n<=8):aU T 60 (k+3) "has_table_form" [tbl m n f]=some (.bl (decide (m<=4)&&decide (n<=4))):=by
 obtain⟨m,rfl⟩:∃m',m=m'+1:=⟨m-1,by omega⟩;obtain⟨n,rfl⟩:∃n',n=n'+1:=⟨n-1,by omega⟩;exact Uo k (by omega) (by omega)
theorem need_table(k:Nat)(h1:1<=m)(h2:m<=4)(h3:1<=n)(h4:n<=4):aU T 60 (k+4) "need_table" [tbl m n f]=some .non:=by
 refine Im rfl rfl (fU (M8 ?_) jf);have:=vh k (f:=f) h1 (by omega) h3 (by omega);rw[C4z h2,C4z h4] at this;refine' aX ?L83a_1a ?L83a_1b ?L83a_1c;(case L83a_1a=>rfl);(case L83a_1b=>walk_at "xm");(case L83a_1c=>exact this)
def within(l m i:Int):Bool:=decide (l<=i)&&decide (i<=m)
theorem lZ(k:Nat):aU T 60 (k+2) "is_whole_within" [.int i,.int l,.int m]=some (.bl (within l m i)):=by
 refine fY rfl rfl (fO (jx (wg ?_ (Cr ?_))))
 .exact aX rfl (by walk_at "xm") (show aU T 60 (k+1) "is_whole" [.int i]=some (.bl true) by rfl')
 .by_cases h1:l<=i
  .have e:within l m i=decide (i<=m):=by simp[within,h1]
   rw[e];exact Rz (by nofun) (by nofun) (oLe h1) (by nofun) WT
  .have e:within l m i=false:=by simp[within,h1]
   rw[e];exact RB (by nofun) (by nofun) (WR h1)
theorem u5(hx:x∈Ls m h):∃i,i<m/\x=h i:=by
 obtain⟨i,hi,rfl⟩:=List.mem_map.mp hx;exact⟨i,List.mem_range.mp hi,rfl⟩
theorem column_of(k:Nat)(hj:j<n)(h2:m<=4):aU T 60 (k+1) "column_of" [tbl m n f,.int j]=some (row m λi=>f i j):=by
 refine fY rfl rfl (fO ?_);refine' iH ?L83a_2a ?L83a_2b ?L83a_2c ?L83a_2d ?L83a_2e;(case L83a_2a=>rfl);(case L83a_2b=>rfl);(case L83a_2c=>rfl);(case L83a_2d=>walk_at "xm");(case L83a_2e=>exact rN)
theorem columns_of(k:Nat)(h1:1<=m)(h2:m<=4)(h4:n<=4):aU T 60 (k+2) "columns_of" [tbl m n f]=some (tbl n m λi j=>f j i):=by
 refine fY rfl rfl (fO ?_);refine iH rfl rfl rfl (aG ?_ cT) rN;refine' iw ?L83a_3a ?L83a_3b ?L83a_3c (bM ?L83a_3d);(case L83a_3a=>rfl);(case L83a_3b=>walk_at "xi");(case L83a_3c=>exact iR (by omega))
 case L83a_3d =>
  intro i hi;refine' jt ?L83a_3e ?L83a_3f;(case L83a_3e=>rfl)
  case L83a_3f =>
   refine' aX ?L83a_4a ?L83a_4b ?L83a_4c;(case L83a_4a=>rfl);(case L83a_4b=>walk_at "xm");(case L83a_4c=>exact column_of _ hi h2)
def Sm(m n:Nat)(f:Nat->Nat->Int):Prop:=∀i j,i<m->j<n->small (f i j)=true
noncomputable def Gg(ns:List Int)(k:Nat):Int:=if k<ns.length then ns.getD k 0 else if ns=[] then 0 else ns.getD (k%ns.length) 0*31+k
def gA(ns:List Int)(k:Nat):Int:=(Gg ns k+6151*((k:Int)+1))*40692%2147483399
def pickN(ns:List Int)(k many:Nat):Nat:=((gA ns k*gA ns k+gA ns k / 31)%2147483629%(many:Int)).toNat
theorem eE(h:0<many):pickN ns k many<many:=by
 unfold pickN;have h2:=Int.emod_lt_of_pos ((gA ns k*gA ns k+gA ns k / 31)%2147483629) (show(0:Int)<many by omega);omega
abbrev scr(ns:List Int):D:=.lst (ns.map D.int)
theorem nZ:blt "len" [scr ns]=some (.int (ns.length:Int)):=by
 show some (D.int ((ns.map D.int).length:Int))=_;rw[K3z]
theorem G3{ns:List Int}(h:k<ns.length):atD (ns.map D.int) (k:Int)=some (.int (ns.getD k 0)):=by
 refine jG ?_;rw[List.getElem?_map,List.getElem?_eq_getElem h,List.getD_eq_getElem?_getD,List.getElem?_eq_getElem h];rfl
theorem Je:dep (scr ns)<=50:=by
 simp[dep]
 have:=oZ (b:=0) (l:=ns.map D.int) λd hd=>by
  obtain⟨i,_,rfl⟩:=List.mem_map.mp hd;simp[dep]
 omega
theorem cell(k:Nat)(ns:List Int)(kk:Nat):aU T 60 (k+1) "_law_cell" [scr ns,.int kk]=some (.int (Gg ns kk)):=by
 unfold Gg
 by_cases h:kk<ns.length
 .rw[T5z h]
  refine fY rfl rfl (mq (bC (by nofun) (iH rfl rfl rfl (by walk_at "xm") nZ) (oLt (by omega))) (fO ?_) rfl);exact xIx (by nofun) (by nofun) rfl (G3 h)
 .rw[U5z h]
  by_cases e:ns=[]
  .subst e
   refine fY rfl rfl (fU (bC (by nofun) (iH rfl rfl rfl (by walk_at "xm") (nZ)) (Ph (by simp))) (mq (bC (by nofun) (by nofun) rfl) (fO (by nofun)) rfl))
  .rw[U5z e]
   have hl:=List.length_pos_iff.mpr e;refine fY rfl rfl (fU (bC (by nofun) (iH rfl rfl rfl (by walk_at "xm") nZ) (Ph (by omega))) (fU (bC (by nofun) (by nofun) ?_) (fO ?_)))
   .rw[oEq Je (by simp[dep,deps]) (show fW (scr ns) (.lst [])=true from jq λ_ _ _ h=>nomatch h)]
    cases ns with
    |nil=>exact absurd rfl e
    |cons a r=>rfl
   .refine dR (dR (xIx (by nofun) ?_ rfl (G3 (Nat.mod_lt _ hl))) (by nofun) (Gj (.inr rfl))) (by nofun) rfl
    refine dR (by nofun) (iH rfl rfl rfl (by walk_at "xm") nZ) ?_;rw[Rk (by omega)];rfl
theorem pick(k:Nat)(ns:List Int)(kk:Nat){many:Nat}(h:0<many):aU T 60 (k+2) "_law_pick" [scr ns,.int kk,.int many]=some (.int ((pickN ns kk many:Nat):Int)):=by
 have e:((pickN ns kk many:Nat):Int)=(gA ns kk*gA ns kk+gA ns kk / 31)%2147483629%(many:Int):=by
  exact Int.toNat_of_nonneg (Int.emod_nonneg _ (by omega))
 rw[e];refine fY rfl rfl (j5 rfl (d:=.int (gA ns kk)) ?_ (fO ?_))
 .refine dR (dR (dR (x:=.int (Gg ns kk)) (y:=.int (6151*((kk:Int)+1))) ?_ ?_ rfl) (by nofun) (Gj (.inr rfl))) (by nofun) (Rk (by decide))
  .refine' aX ?L83a_5a ?L83a_5b ?L83a_5c;(case L83a_5a=>rfl);(case L83a_5b=>walk_at "xm");(case L83a_5c=>exact cell _ ns kk)
  .exact dR (by nofun) (dR (by nofun) (by nofun) rfl) (Gj (.inl rfl))
 .refine dR (dR (dR (dR (by nofun) (by nofun) (Gj (.inl ?_))) (dR (by nofun) (by nofun) (Xi (by decide) (by decide))) rfl) (by nofun) (Rk (by decide))) (by nofun) (Rk (by omega))
  unfold small;unfold gA;rw[C4z (by omega),C4z (by omega)];rfl
theorem jX(h:ev cx n sc U e=some d)(q:d=d'):ev cx n sc U e=some d':=q▸h
def Ep:Nat->Nat
 |0=>0
 |1=>0
 |2=>1
 |_=>4
theorem Ko(p:Nat):Ep p<=4:=by unfold Ep;split<;>omega
def Mr(ns:List Int)(at':Nat):Nat->Nat->Int:=λi j=>((pickN ns (at'+1+8*i+j) (6+Ep (pickN ns at' 4)):Nat):Int)-((Ep (pickN ns at' 4):Nat):Int)
def Vm:Nat->Sl
 |0=>.no
 |i+1=>.sh (.int i)
def Vn(ns:List Int)(a m n low:Nat)(md:List D)(rw:Sl):Rho:=[("_law_script",.sh (scr ns)),("_law_at",.sh (.int a)),("_law_rows",.sh (.int m)),("_law_columns",.sh (.int n)),("_law_low",.sh (.int low)),("_law_made_here",.ow md),("_law_row",rw)]
theorem table(k:Nat)(ns:List Int)(a:Nat){m n:Nat}(hm:m<=4)(hn:n<=4):aU T 60 (k+3) "_law_table" [scr ns,.int a,.int m,.int n]=some (tbl m n (Mr ns a)):=by
 have hp:=eE (ns:=ns) (k:=a) (many:=4) (by omega);refine fY rfl rfl (j5 rfl (d:=.int ((Ep (pickN ns a 4):Nat):Int)) ?_ (j5 rfl (by nofun) (Vx (l:=Ls m λi=>.int i) (fl1:=.nxt (Vn ns a m n (Ep (pickN ns a 4)) (Ls m λi=>row n (Mr ns a i)) (Vm m))) ?_ ?_ (fO (iH rfl rfl rfl (by walk_at "xm") rN)))))
 .refine xIx (i:=((pickN ns a 4:Nat):Int)) (by nofun) ?_ rfl ?_
  .refine aX rfl (by walk_at "xm") (pick (k+0) ns a (by omega))
  .generalize pickN ns a 4=p at hp
   match p,hp with
   |0,_=>rfl
   |1,_=>rfl
   |2,_=>rfl
   |3,_=>rfl
 .walk_at "xi"
 .refine Fj (R:=λi=>Vn ns a m n (Ep (pickN ns a 4)) (Ls i λi=>row n (Mr ns a i)) (Vm i)) λi hi=>?_
  refine Fp rfl ?_;rw[pJ];refine Vz rfl rfl rfl (Dd (by rw[bQ];omega)) ?_ rfl;refine iH rfl rfl rfl (aG ?_ cT) rN;refine' iw ?L83a_6a ?L83a_6b ?L83a_6c (bM ?L83a_6d);(case L83a_6a=>rfl);(case L83a_6b=>walk_at "xi");(case L83a_6c=>exact iR (by omega))
  case L83a_6d =>
   intro j hj;refine' jt ?L83a_6e ?L83a_6f;(case L83a_6e=>rfl)
   case L83a_6f =>
    refine dR (aX rfl (aG ?_ (aG ?_ (aG ?_ cT))) (pick (k+0) ns (a+1+8*i+j) (many:=6+Ep (pickN ns a 4)) (by omega))) (by nofun) rfl
    .nofun
    .refine jX (dR (dR (dR (by nofun) (by nofun) rfl) (dR (by nofun) (by nofun) (Gj (.inl rfl))) rfl) (by nofun) rfl) (congrArg D.int (by omega))
    .refine jX (dR (by nofun) (by nofun) rfl) (congrArg D.int (by omega))
theorem turned(k:Nat)(h1:1<=m)(h2:m<=4)(h3:1<=n)(h4:n<=4):aU T 60 (k+5) "turned" [tbl m n f]=some (tbl n m λi j=>f j i):=by
 refine fY rfl rfl (Cv rfl (d:=.non) ?_ (fO ?_))
 .refine' aX ?L83a_7a ?L83a_7b ?L83a_7c;(case L83a_7a=>rfl);(case L83a_7b=>walk_at "xm");(case L83a_7c=>exact need_table k h1 h2 h3 h4)
 .refine' aX ?L83a_8a ?L83a_8b ?L83a_8c;(case L83a_8a=>rfl);(case L83a_8b=>walk_at "xm");(case L83a_8c=>exact columns_of (k+2) h1 h2 h4)
theorem flipped(k:Nat)(h1:1<=m)(h2:m<=4)(h3:1<=n)(h4:n<=4):aU T 60 (k+5) "flipped" [tbl m n f]=some (tbl m n λi j=>f (m-1-i) (n-1-j)):=by
 refine fY rfl rfl (Cv rfl (d:=.non) ?_ (fO ?_))
 .refine' aX ?L83a_9a ?L83a_9b ?L83a_9c;(case L83a_9a=>rfl);(case L83a_9b=>walk_at "xm");(case L83a_9c=>exact need_table k h1 h2 h3 h4)
 .refine' iH ?L83a_10a ?L83a_10b ?L83a_10c ?L83a_10d ?L83a_10e;(case L83a_10a=>rfl);(case L83a_10b=>rfl);(case L83a_10c=>rfl);(case L83a_10d=>walk_at "xm");(case L83a_10e=>exact rN)
theorem row_by_column(k:Nat)(h4:n<=4)(hs:∀j,j<n->small (f j)=true\/small (g j)=true):aU T 60 (k+1) "row_by_column" [row n f,row n g]=some (.int (Df n λj=>f j*g j)):=by
 refine fY rfl rfl (fO (iH rfl rfl rfl (aG ?_ cT) VN));refine' iw ?L83a_11a ?L83a_11b ?L83a_11c (bM ?L83a_11d);(case L83a_11a=>rfl);(case L83a_11b=>walk_at "xi");(case L83a_11c=>exact iR (by omega))
 case L83a_11d =>
  intro j hj;refine' jt ?L83a_11e ?L83a_11f;(case L83a_11e=>rfl)
  case L83a_11f =>
   refine' dR ?a1 ?a2 (Gj (hs j hj));(case a1=>nofun);(case a2=>nofun)
theorem row_by_columns(k:Nat)(h4:n<=4)(h5:p<=4)(hs:∀i j,i<p->j<n->small (f j)=true\/small (g i j)=true):aU T 60 (k+2) "row_by_columns" [row n f,tbl p n g]=some (row p λi=>Df n λj=>f j*g i j):=by
 refine fY rfl rfl (fO (iH rfl rfl rfl (aG ?_ cT) rN));refine' iw ?L83a_12a ?L83a_12b ?L83a_12c (bM ?L83a_12d);(case L83a_12a=>rfl);(case L83a_12b=>walk_at "xi");(case L83a_12c=>exact iR (by omega))
 case L83a_12d =>
  intro i hi;refine' jt ?L83a_12e ?L83a_12f;(case L83a_12e=>rfl)
  case L83a_12f =>
   refine' aX ?L83a_13a ?L83a_13b ?L83a_13c;(case L83a_13a=>rfl);(case L83a_13b=>walk_at "xm");(case L83a_13c=>exact row_by_column k h4 (hs i · hi ·))
def mul(n:Nat)(f g:Nat->Nat->Int):Nat->Nat->Int:=λi j=>Df n λl=>f i l*g l j
theorem times(k:Nat)(h1:1<=m)(h2:m<=4)(h3:1<=n)(h4:n<=4)(h5:1<=p)(h6:p<=4)(hs:Sm m n f\/Sm n p g):aU T 60 (k+6) "times" [tbl m n f,tbl n p g]=some (tbl m p (mul n f g)):=by
 refine fY rfl rfl (Cv rfl (d:=.non) ?_ (Cv rfl (d:=.non) ?_ (fU (bC (x:=.int n) ?_ ?_ (Pb rfl)) (j5 rfl (d:=tbl p n λi j=>g j i) ?_ (fO (iH rfl rfl rfl (aG ?_ cT) rN))))))
 .refine' aX ?L83a_14a ?L83a_14b ?L83a_14c;(case L83a_14a=>rfl);(case L83a_14b=>walk_at "xm");(case L83a_14c=>exact need_table (k+1) h1 h2 h3 h4)
 .refine' aX ?L83a_15a ?L83a_15b ?L83a_15c;(case L83a_15a=>rfl);(case L83a_15b=>walk_at "xm");(case L83a_15c=>exact need_table (k+1) h3 h4 h5 h6)
 .nofun
 .nofun
 .refine' aX ?L83a_16a ?L83a_16b ?L83a_16c;(case L83a_16a=>rfl);(case L83a_16b=>walk_at "xm");(case L83a_16c=>exact columns_of (k+3) h3 h4 h6)
 .refine' iw ?L83a_17a ?L83a_17b ?L83a_17c (bM ?L83a_17d);(case L83a_17a=>rfl);(case L83a_17b=>walk_at "xi");(case L83a_17c=>exact iR (by omega))
  case L83a_17d =>
   intro i hi;refine' jt ?L83a_17e ?L83a_17f;(case L83a_17e=>rfl)
   case L83a_17f =>
    refine' aX ?a1 (aG ?a2 (aG ?a3 cT)) (row_by_columns (k+3) h4 h6 ?a4);(case a1=>rfl)
    case a2=>nofun
    case a3=>nofun
    case a4=>exact λa b ha hb=>hs.imp (λq=>q i b hi hb) (λq=>q b a hb ha)
theorem row_plus(k:Nat)(h4:n<=4):aU T 60 (k+1) "row_plus" [row n f,row n g]=some (row n λj=>f j+g j):=by
 refine fY rfl rfl (fO ?_);refine' iH ?L83a_18a ?L83a_18b ?L83a_18c ?L83a_18d ?L83a_18e;(case L83a_18a=>rfl);(case L83a_18b=>rfl);(case L83a_18c=>rfl);(case L83a_18d=>walk_at "xm");(case L83a_18e=>exact rN)
theorem yM(k:Nat)(h1:1<=m):aU T 60 (k+1) "need_same_size" [tbl m n f,tbl m n g]=some .non:=by
 refine Im rfl rfl (fU (jx (QX (bC (x:=.int m) ?_ ?_ (Pb rfl)) (Cr (bC (x:=.int n) ?_ ?_ (Pb rfl))))) jf)
 .nofun
 .nofun
 .nofun
 .nofun
theorem plus(k:Nat)(h1:1<=m)(h2:m<=4)(h3:1<=n)(h4:n<=4):aU T 60 (k+5) "plus" [tbl m n f,tbl m n g]=some (tbl m n λi j=>f i j+g i j):=by
 refine fY rfl rfl (Cv rfl (d:=.non) ?_ (Cv rfl (d:=.non) ?_ (Cv rfl (d:=.non) ?_ (fO (iH rfl rfl rfl (aG ?_ cT) rN)))))
 .refine' aX ?L83a_19a ?L83a_19b ?L83a_19c;(case L83a_19a=>rfl);(case L83a_19b=>walk_at "xm");(case L83a_19c=>exact need_table k h1 h2 h3 h4)
 .refine' aX ?L83a_20a ?L83a_20b ?L83a_20c;(case L83a_20a=>rfl);(case L83a_20b=>walk_at "xm");(case L83a_20c=>exact need_table k h1 h2 h3 h4)
 .refine' aX ?L83a_21a ?L83a_21b ?L83a_21c;(case L83a_21a=>rfl);(case L83a_21b=>walk_at "xm");(case L83a_21c=>exact yM (k+3) h1)
 .refine' iw ?L83a_22a ?L83a_22b ?L83a_22c (bM ?L83a_22d);(case L83a_22a=>rfl);(case L83a_22b=>walk_at "xi");(case L83a_22c=>exact iR (by omega))
  case L83a_22d =>
   intro i hi;refine' jt ?L83a_22e ?L83a_22f;(case L83a_22e=>rfl)
   case L83a_22f =>
    refine' aX ?L83a_23a ?L83a_23b ?L83a_23c;(case L83a_23a=>rfl);(case L83a_23b=>walk_at "xm");(case L83a_23c=>exact row_plus (k+3) h4)
theorem need_size(k:Nat){n:Nat}(h1:1<=n)(h4:n<=4):aU T 60 (k+3) "need_size" [.int n,.int 4]=some .non:=by
 refine Im rfl rfl (fU (M8 ?_) jf);have:=lZ k (i:=(n:Int)) (l:=1) (m:=4);rw[show within 1 4 (n:Int)=true by unfold within;rw[C4z (by omega),C4z (by omega)];rfl] at this;refine' aX ?L83a_24a ?L83a_24b ?L83a_24c;(case L83a_24a=>rfl);(case L83a_24b=>walk_at "xm");(case L83a_24c=>exact this)
theorem qz(k:Nat){n:Nat}(h4:4<n):jr T 60 (k+3) "need_size" [.int n,.int 4]=some "NoFit"/\aU T 60 (k+3) "need_size" [.int n,.int 4]=none:=by
 refine jV rfl rfl (iI (Rx ?_) rfl);have:=lZ k (i:=(n:Int)) (l:=1) (m:=4);rw[show within 1 4 (n:Int)=false by unfold within;rw[H3z (show ¬ (n:Int)<=4 by omega),F4z]] at this;refine' aX ?L83a_25a ?L83a_25b ?L83a_25c;(case L83a_25a=>rfl);(case L83a_25b=>walk_at "xm");(case L83a_25c=>exact this)
theorem eO(h:nOw s=true)(r:mJ U=true):mJ ((y,s)::U)=true:=by
 unfold mJ at r ⊢;rw[O4z,h,r];rfl
section
variable{cx:Cxt}{sc:Scope}{U U':Rho}{e:Expr}{p:Pos}{d:D}{nm:Str}{F m:Nat}{r:List Stmt}{fl:Fl}{y:Str}{s:Sl}{ds:List D}
theorem Hz:frz F e []=[]:=rfl
theorem dw(h:nOw s=true)(q:frz F e U=U'):frz F e ((y,s)::U)=(y,s)::U':=by rw[Fi h,q]
theorem Av(h:gn F y e=false)(q:frz F e U=U'):frz F e ((y,.ow ds)::U)=(y,.ow ds)::U':=by
 rw[Fg,q];simp[h,V1z,Q5z]
theorem VB(h:gn F y e=true)(q:frz F e U=U'):frz F e ((y,.ow ds)::U)=(y,.sh (.lst ds))::U':=by rw[KN h,q]
theorem Ul(hf:frz F iter U=U')(hI:evI cx (fM tg) (ev cx F sc U') sc iter=some l)(hgo:fV (fF cx F m sc tg body) l U'=some fl1)(k2:yr cx F (m+1) sc r fl1=some fl):blk cx F (m+1) sc (.For tg iter body [] p::r) U=some fl:=by
 subst hf;exact Vx hI hgo k2
theorem Qj{M:Str}(hf:frz F e U=U')(hx:U'.lookup nm=some (.ow ds))(ho:(ownIn sc nm&&aK nm&&ap.endLine==cp.line)=true)(hM:(M=="append")=true)(hz:szl (ds.length+1)=true)(h:ev cx F sc U' e=some d)(k:blk cx F (m+1) sc r (fL U' nm (.ow (ds++[d])))=some fl) :
  blk cx F (m+1) sc (.Expr (.Call (.Attribute (.Name nm px) M ap) [e] [] cp) p::r) U=some fl:=by
 subst hf;exact Vz hx ho hM hz h k
end
def vo:Stmt->List Stmt
 |.For _ _ b _ _=>b
 |_=>[]
def MJ:Stmt->Expr
 |.For t _ _ _ _=>t
 |_=>.Name "" ⟨0,0,0,0⟩
def pss:Stmt:=.Pass ⟨0,0,0,0⟩
theorem KD(hf:frz F iter U=U')(hI:evI cx (fM tg) (ev cx F sc U') sc iter=some l)(hgo:fV (fF cx F m sc tg body) l U'=some (.nxt U2))(k2:blk cx F (m+1) sc r U2=some fl):blk cx F (m+1) sc (.For tg iter body [] p::r) U=some fl:=Ul hf hI hgo k2
theorem WW:pN [] x=true:=rfl
theorem Kc(h:nOw s=true)(q:pN U x=true):pN ((y,s)::U) x=true:=by
 unfold pN at q ⊢;rw[O4z,q,Bool.and_true]
 cases s<;>first|(simp[nOw] at h;done)|simp[Ri]
theorem WX(q:pN U x=true):pN ((y,.ow ds)::U) x=true:=by
 unfold pN at q ⊢;rw[O4z,q,Bool.and_true];simp[Ri]
theorem Ti(q:pN U x=true):(cu e && !pN U x)=false:=by rw[q];simp
theorem Uk(hf:frz F e U=U')(ho:(ownIn sc nm&&(U.map (·.1)).contains nm)=true)(h:ev cx F sc U' e=some d)(k:blk cx F (m+1) sc r (fL U' nm (nW e d))=some fl)(hoo:(ooE cx sc e&&DY U' nm)=false)(hno:(cu e && !pN U' nm)=false)(hle:Mx cx sc e=false:=by rfl)(hrd:rdA e=false:=by rfl):blk cx F (m+1) sc (.Assign [.Name nm px] e p::r) U=some fl:=by
 subst hf;exact j5 ho h k hoo hno hle hrd
theorem mC{P:Nat->Rho->Prop}(hs:∀i U,i<N->P i U->∃U',P (i+1) U'/\f (h i) U=some (.nxt U'))(h0:P 0 U):∃U',P N U'/\fV f (Ls N h) U=some (.nxt U'):=by
 have key:∀(n a:Nat)(U:Rho),a+n<=N->P a U->∃U',P (a+n) U'/\fV f ((List.range' a n).map h) U=some (.nxt U'):=by
  intro n
  induction n with
  |zero=>intro a U _ hp;exact⟨U,hp,rfl⟩
  |succ n ih =>
   intro a U ha hp;obtain⟨U1,h1,h2⟩:=hs a U (by omega) hp;obtain⟨U2,h3,h4⟩:=ih (a+1) U1 (by omega) h1;refine⟨U2,by rw[show a+(n+1)=a+1+n by omega];exact h3,?_⟩;rw[List.range'_succ,I4z];simp[fV,h2];exact h4
 obtain⟨U',h1,h2⟩:=key N 0 U (by omega) h0;rw[Nat.zero_add] at h1;refine⟨U',h1,?_⟩;unfold Ls;rw[List.range_eq_range'];exact h2
def Dm(o p:D)(md ro li co to k:Sl):Rho:=[("_law_one",.sh o),("_law_other",.sh p),("_law_made_here",md),("_law_row",ro),("_law_line",li),("_law_column",co),("_law_total",to),("_law_k",k)]
def lt1:Stmt:=(cG (top 48)).body.getD 1 pss
def lt2:Stmt:=(vo lt1).getD 1 pss
def lt3:Stmt:=(vo lt2).getD 1 pss
theorem Py(k:Nat)(hk:nOw k0=true)(hj:j<p)(hs:∀l,l<n->small (f i l)=true\/small (g l j)=true) :
  ∃k',nOw k'=true/\fV (fF (cxN T 60 k) 60 57 (cG (top 48)).sc (MJ lt3) (vo lt3)) (Ls n λl=>.int l) (Dm (tbl m n f) (tbl n p g) (.ow md) (.sh (row n (f i))) (.ow li) (.sh (.int j)) (.sh (.int 0)) k0)=some (.nxt (Dm (tbl m n f) (tbl n p g) (.ow md) (.sh (row n (f i))) (.ow li) (.sh (.int j)) (.sh (.int (mul n f g i j))) k')):=by
 have st:=mC (f:=fF (cxN T 60 k) 60 57 (cG (top 48)).sc (MJ lt3) (vo lt3)) (P:=λl U=>∃k',nOw k'=true/\U=Dm (tbl m n f) (tbl n p g) (.ow md) (.sh (row n (f i))) (.ow li) (.sh (.int j)) (.sh (.int (Df l λl=>f i l*g l j))) k') (λl U hl hP=>by
  obtain⟨k1,hk1,e⟩:=hP;subst e;refine⟨_,⟨.sh (.int l),rfl,rfl⟩,?_⟩;refine Fp rfl ?_;refine j5 rfl (d:=.int (Df (l+1) λl=>f i l*g l j)) ?_ rfl;refine dR (by nofun) (dR (Q0 (h:=λl=>.int (f i l)) ?_ ?_ hl rfl rfl) (Q0 (Q0 (h:=λl=>row p (g l)) ?_ ?_ hl rfl rfl) ?_ hj rfl rfl) (Gj (hs l hl))) rfl
  .nofun
  .nofun
  .nofun
  .nofun
  .nofun) ⟨k0,hk,rfl⟩
 obtain⟨U',⟨k',h1,rfl⟩,h2⟩:=st;exact⟨k',h1,h2⟩
theorem Pz(k:Nat)(hc:nOw c0=true)(ht:nOw t0=true)(hk:nOw k0=true)(n1:1<=n)(n4:n<=4)(p4:p<=4)(hs:∀l j,l<n->j<p->small (f i l)=true\/small (g l j)=true) :
  ∃c' t' k',nOw c'=true/\nOw t'=true/\nOw k'=true/\fV (fF (cxN T 60 k) 60 58 (cG (top 48)).sc (MJ lt2) (vo lt2)) (Ls p λl=>.int l) (Dm (tbl m n f) (tbl n p g) (.ow md) (.sh (row n (f i))) (.ow []) c0 t0 k0)=some (.nxt (Dm (tbl m n f) (tbl n p g) (.ow md) (.sh (row n (f i))) (.ow (Ls p λj=>.int (mul n f g i j))) c' t' k')):=by
 have st:=mC (f:=fF (cxN T 60 k) 60 58 (cG (top 48)).sc (MJ lt2) (vo lt2)) (P:=λj U=>∃c' t' k',nOw c'=true/\nOw t'=true/\nOw k'=true/\U=Dm (tbl m n f) (tbl n p g) (.ow md) (.sh (row n (f i))) (.ow (Ls j λj=>.int (mul n f g i j))) c' t' k') (λj U hj hP=>by
  obtain⟨c1,t1,k1,hc1,ht1,hk1,e⟩:=hP;subst e;obtain⟨k2,hk2,go⟩:=Py k hk1 hj (λl hl=>hs l j hl hj);refine⟨_,⟨.sh (.int j),.sh (.int (mul n f g i j)),k2,rfl,rfl,hk2,rfl⟩,?_⟩;rw[pJ];refine Fp rfl ?_;refine Uj (dw rfl (dw rfl (Av rfl (dw rfl (Av rfl (dw rfl (dw ht1 (dw hk1 Hz)))))))) rfl rfl (by nofun) ?_;refine KD (dw rfl (dw rfl (Av rfl (dw rfl (Av rfl (dw rfl (dw rfl (dw hk1 Hz)))))))) ?_ go ?_
  .walk_at "xi"
  .refine Qj (dw rfl (dw rfl (Av rfl (dw rfl (Av rfl (dw rfl (dw rfl (dw hk2 Hz)))))))) rfl rfl rfl (Dd (by rw[bQ];omega)) (by nofun) rfl) ⟨c0,t0,k0,hc,ht,hk,rfl⟩
 obtain⟨U',⟨c',t',k',h1,h2,h3,rfl⟩,h4⟩:=st;exact⟨c',t',k',h1,h2,h3,h4⟩
theorem PB(k:Nat)(m4:m<=4)(n1:1<=n)(n4:n<=4)(p4:p<=4)(hs:∀i l j,i<m->l<n->j<p->small (f i l)=true\/small (g l j)=true) :
  ∃r' l' c' t' k',nOw r'=true/\nOw l'=true/\nOw c'=true/\nOw t'=true/\nOw k'=true/\fV (fF (cxN T 60 k) 60 59 (cG (top 48)).sc (MJ lt1) (vo lt1)) (Ls m λi=>row n (f i)) (Dm (tbl m n f) (tbl n p g) (.ow []) .no .no .no .no .no)=some (.nxt (Dm (tbl m n f) (tbl n p g) (.ow (Ls m λi=>row p (mul n f g i))) r' l' c' t' k')):=by
 have st:=mC (f:=fF (cxN T 60 k) 60 59 (cG (top 48)).sc (MJ lt1) (vo lt1)) (P:=λi U=>∃r' l' c' t' k',nOw r'=true/\nOw l'=true/\nOw c'=true/\nOw t'=true/\nOw k'=true/\U=Dm (tbl m n f) (tbl n p g) (.ow (Ls i λi=>row p (mul n f g i))) r' l' c' t' k') (λi U hi hP=>by
  obtain⟨r1,l1,c1,t1,k1,hr1,hl1,hc1,ht1,hk1,e⟩:=hP;subst e;obtain⟨c2,t2,k2,hc2,ht2,hk2,go⟩:=Pz k hc1 ht1 hk1 n1 n4 p4 (λl j hl hj=>hs i l j hi hl hj);refine⟨_,⟨.sh (row n (f i)),.sh (.lst (Ls p λj=>.int (mul n f g i j))),c2,t2,k2,rfl,rfl,hc2,ht2,hk2,rfl⟩,?_⟩;rw[pJ];refine Fp rfl ?_;refine Uk (dw rfl (dw rfl (Av rfl (dw rfl (dw hl1 (dw hc1 (dw ht1 (dw hk1 Hz)))))))) rfl (by nofun) ?_ rfl (Ti (Kc rfl (Kc rfl (WX (Kc rfl (Kc hl1 (Kc hc1 (Kc ht1 (Kc hk1 WW)))))))));refine KD (dw rfl (dw rfl (Av rfl (dw rfl (Av rfl (dw hc1 (dw ht1 (dw hk1 Hz)))))))) ?_ go ?_
  .walk_at "xi"
  .refine Qj (dw rfl (dw rfl (Av rfl (dw rfl (VB rfl (dw hc2 (dw ht2 (dw hk2 Hz)))))))) rfl rfl rfl (Dd (by rw[bQ];omega)) ?_ rfl
   exact iH rfl rfl rfl (by walk_at "xm") rN) ⟨.no,.no,.no,.no,.no,rfl,rfl,rfl,rfl,rfl,rfl⟩
 obtain⟨U',⟨r',l',c',t',k',h1,h2,h3,h4,h5,rfl⟩,h6⟩:=st;exact⟨r',l',c',t',k',h1,h2,h3,h4,h5,h6⟩
theorem Ew(k:Nat)(m4:m<=4)(n1:1<=n)(n4:n<=4)(p4:p<=4)(hs:Sm m n f\/Sm n p g):aU T 60 (k+1) "_law_times" [tbl m n f,tbl n p g]=some (tbl m p (mul n f g)):=by
 obtain⟨r',l',c',t',k',h1,h2,h3,h4,h5,go⟩:=PB k m4 n1 n4 p4 (λi l j hi hl hj=>hs.imp (λq=>q i l hi hl) (λq=>q l j hl hj));refine fY rfl rfl (j5 rfl (by nofun) ?_);refine KD (dw rfl (dw rfl (Av rfl (dw rfl (dw rfl (dw rfl (dw rfl (dw rfl Hz)))))))) ?_ go ?_
 .walk_at "xi"
 .refine fO (iH rfl rfl rfl (aG ?_ cT) rN)
  nofun
section
variable{cx:Cxt}{sc:Scope}{U U':Rho}{e:Expr}{p:Pos}{d:D}{nm:Str}{F m:Nat}{r:List Stmt}{fl:Fl}{y:Str}{s:Sl}{ds:List D}
end
theorem QK:blt "all" [.lst (Ls n λi=>.bl (t i))]=some (.bl ((List.range n).all t)):=by
 have:(Ls n λi=>D.bl (t i))=(Ls n λi=>D.int i).map λx=>.bl (match x with|.int i=>t i.toNat|_=>false):=by
  unfold Ls;rw[Z4z];rfl
 rw[this,U0];congr 2;unfold Ls;rw[List.all_map];rfl
def okT(m n:Nat)(f:Nat->Nat->Int):Bool:=(decide (m<=4)&&decide (n<=4))&&(List.range m).all λi=>(List.range n).all λj=>within (-99) 99 (f i j)
theorem yJ(k:Nat)(h4:n<=4):aU T 60 (k+3) "is_small_row" [row n f]=some (.bl ((List.range n).all λj=>within (-99) 99 (f j))):=by
 refine fY rfl rfl (fO (iH rfl rfl rfl (aG (iw rfl (wSq rfl (by nofun) rfl) (iR (by omega)) (bM λj hj=>jt rfl ?_)) cT) QK));refine' aX ?L83b_1a ?L83b_1b ?L83b_1c;(case L83b_1a=>rfl);(case L83b_1b=>walk_at "xm");(case L83b_1c=>exact lZ k)
theorem is_table(k:Nat){m n:Nat}{f:Nat->Nat->Int}(h1:1<=m)(h2:m<=8)(h3:1<=n)(h4:n<=8):aU T 60 (k+4) "is_table" [tbl m n f]=some (.bl (okT m n f)):=by
 have hf:=vh k (f:=f) h1 h2 h3 h4
 cases hl:(decide (m<=4)&&decide (n<=4)) with
 |false =>
  rw[hl] at hf;rw[show okT m n f=false by unfold okT;rw[hl];rfl];refine fY (fd:=cG (top 24)) rfl rfl (fO (jx (Ng ?_)));refine' aX ?L83b_2a ?L83b_2b ?L83b_2c;(case L83b_2a=>rfl);(case L83b_2b=>walk_at "xm");(case L83b_2c=>exact hf)
 |true =>
  rw[hl] at hf;rw[show okT m n f=(List.range m).all λi=>(List.range n).all λj=>within (-99) 99 (f i j) by unfold okT;rw[hl];rfl];rw[A3z,B2z,B2z] at hl;refine fY (fd:=cG (top 24)) rfl rfl (fO (jx (wg ?_ (Cr ?_))))
  .refine' aX ?L83b_3a ?L83b_3b ?L83b_3c;(case L83b_3a=>rfl);(case L83b_3b=>walk_at "xm");(case L83b_3c=>exact hf)
  .refine iH rfl rfl rfl (aG (iw (l:=Ls m λi=>row n (f i)) rfl (wSq rfl (by nofun) rfl) (iR (by omega)) (bM (g:=λi=>.bl ((List.range n).all λj=>within (-99) 99 (f i j))) λi hi=>jt rfl ?_)) cT) QK
   refine' aX ?L83b_4a ?L83b_4b ?L83b_4c;(case L83b_4a=>rfl);(case L83b_4b=>walk_at "xm");(case L83b_4c=>exact yJ k hl.2)
theorem rZ(hc:mJ U=true)(h:ev cx F sc U c=some (.bl false))(k:ug cx F (m+1) sc r U cn):ug cx F (m+1) sc (.If c A [] p::r) U cn :=
 vM (by
  have:=fU (m:=m) (r:=[]) (p:=p) (A:=A) (by rw[jg hc];exact h) rfl
  simp[lq] at this
  cases q:st cx F (m+1) sc U (.If c A [] p) with
  |none=>rw[q] at this;cases this
  |some fl =>
   rw[q] at this
   cases fl with
   |ret d=>cases this
   | nxt U'=>exact this) k
theorem CG(hc:mJ U=true)(h:ev cx F sc U c=some (.bl true))(k:ug cx F m sc A U cn):ug cx F (m+1) sc (.If c A B p::r) U cn:=by
 obtain⟨k1,U',k2⟩:=k;refine kE (U1:=U') ?_ ?_
 .simp[st,jg hc,h,asB,Option.bind,bind,S5z,k1]
 .simp[stx,jg hc,h,asB,Option.bind,S5z,k2]
def blw(a:Nat)(f g:Nat->Nat->Int):Nat->Nat->Int:=λi j=>if i<a then f i j else g (i-a) j
theorem Ik:Ls a h++Ls b g=Ls (a+b) λi=>if i<a then h i else g (i-a):=by
 apply List.ext_getElem?;intro i
 by_cases hi:i<a
 .rw[List.getElem?_append_left (by rw[bQ];exact hi),eV hi,eV (by omega),T5z hi]
 .rw[List.getElem?_append_right (by rw[bQ];omega),bQ]
  by_cases h2:i<a+b
  .rw[eV (by omega),eV h2,U5z hi]
  .rw[List.getElem?_eq_none (by rw[bQ];omega),List.getElem?_eq_none (by rw[bQ];omega)]
theorem yt:D.tup ((Ls a λi=>row n (f i))++Ls b λi=>row n (g i))=tbl (a+b) n (blw a f g):=by
 rw[Ik];refine congrArg D.tup (vZ λi _=>?_);unfold blw
 by_cases h:i<a
 .simp[h,S5z]
 .simp[h,Q5z]
section
variable{m n p q:Nat}{f g:Nat->Nat->Int}
theorem below(k:Nat)(h1:1<=m)(h2:m<=4)(h3:1<=n)(h4:n<=4)(h5:1<=p)(h6:p<=4)(h:m+p<=4):aU T 60 (k+5) "set_below" [tbl m n f,tbl p n g]=some (tbl (m+p) n (blw m f g)):=by
 refine fY (fd:=cG (top 35)) rfl rfl (Cv rfl (d:=.non) ?_ (Cv rfl (d:=.non) ?_ (fU (bC (x:=.int n) ?_ ?_ (Pb rfl)) (Cv rfl (d:=.non) (aX rfl (aG (jX (d':=.int ((m+p:Nat):Int)) (dR (x:=.int m) (y:=.int p) ?_ ?_ rfl) (congrArg D.int (by omega))) (aG ?_ cT)) (need_size (k+1) (by omega) h)) (fO (jX (dR (x:=tbl m n f) (y:=tbl p n g) ?_ ?_ (LR (by rw[bQ,bQ];omega))) yt))))))
 .refine' aX ?L83b_5a ?L83b_5b ?L83b_5c;(case L83b_5a=>rfl);(case L83b_5b=>walk_at "xm");(case L83b_5c=>exact need_table k h1 h2 h3 h4)
 .refine' aX ?L83b_6a ?L83b_6b ?L83b_6c;(case L83b_6a=>rfl);(case L83b_6b=>walk_at "xm");(case L83b_6c=>exact need_table k h5 h6 h3 h4)
 .nofun
 .nofun
 .nofun
 .nofun
 .nofun
 .nofun
 .nofun
theorem vU(k:Nat)(h1:1<=m)(h2:m<=4)(h3:1<=n)(h4:n<=4)(h5:1<=p)(h6:p<=4)(h7:1<=q)(h8:q<=4)(h:n≠q\/4<m+p):jr T 60 (k+5) "set_below" [tbl m n f,tbl p q g]=some "NoFit"/\aU T 60 (k+5) "set_below" [tbl m n f,tbl p q g]=none:=by
 by_cases e:n=q
 .subst e
  have ns:=qz (k+1) (n:=m+p) (by omega);refine jV (fd:=cG (top 35)) rfl rfl (pR rfl (d:=.non) ?_ (pR rfl (d:=.non) ?_ (rZ rfl (bC (x:=.int n) ?_ ?_ (Pb rfl)) (M7 rfl (kJ rfl (aG (jX (d':=.int ((m+p:Nat):Int)) (dR (x:=.int m) (y:=.int p) ?_ ?_ rfl) (congrArg D.int (by omega))) (aG ?_ cT)) ns.1 ns.2)))))
  .refine' aX ?L83b_7a ?L83b_7b ?L83b_7c;(case L83b_7a=>rfl);(case L83b_7b=>walk_at "xm");(case L83b_7c=>exact need_table k h1 h2 h3 h4)
  .refine' aX ?L83b_8a ?L83b_8b ?L83b_8c;(case L83b_8a=>rfl);(case L83b_8b=>walk_at "xm");(case L83b_8c=>exact need_table k h5 h6 h3 h4)
  .nofun
  .nofun
  .nofun
  .nofun
  .nofun
 .refine jV (fd:=cG (top 35)) rfl rfl (pR rfl (d:=.non) ?_ (pR rfl (d:=.non) ?_ (iI (bC (x:=.int n) (y:=.int q) ?_ ?_ (by rw[O9,C4z e])) rfl)))
  .refine' aX ?L83b_9a ?L83b_9b ?L83b_9c;(case L83b_9a=>rfl);(case L83b_9b=>walk_at "xm");(case L83b_9c=>exact need_table k h1 h2 h3 h4)
  .refine' aX ?L83b_10a ?L83b_10b ?L83b_10c;(case L83b_10a=>rfl);(case L83b_10b=>walk_at "xm");(case L83b_10c=>exact need_table k h5 h6 h7 h8)
  .nofun
  .nofun
theorem CW(k:Nat)(h1:1<=m)(h2:m<=4)(h3:1<=n)(h4:n<=4)(h5:1<=p)(h6:p<=4)(h7:1<=q)(h8:q<=4)(h:n≠p):jr T 60 (k+5) "times" [tbl m n f,tbl p q g]=some "NoFit"/\aU T 60 (k+5) "times" [tbl m n f,tbl p q g]=none:=by
 refine jV rfl rfl (pR rfl (d:=.non) ?_ (pR rfl (d:=.non) ?_ (iI (bC ?_ ?_ (by rw[O9,C4z h])) rfl)))
 .refine' aX ?L83b_11a ?L83b_11b ?L83b_11c;(case L83b_11a=>rfl);(case L83b_11b=>walk_at "xm");(case L83b_11c=>exact need_table k h1 h2 h3 h4)
 .refine' aX ?L83b_12a ?L83b_12b ?L83b_12c;(case L83b_12a=>rfl);(case L83b_12b=>walk_at "xm");(case L83b_12c=>exact need_table k h5 h6 h7 h8)
 .nofun
 .nofun
theorem Jf(k:Nat)(h1:1<=m)(h5:1<=p)(h:m≠p\/n≠q):jr T 60 (k+1) "need_same_size" [tbl m n f,tbl p q g]=some "NoFit"/\aU T 60 (k+1) "need_same_size" [tbl m n f,tbl p q g]=none:=by
 by_cases e:m=p
 .refine jV rfl rfl (iI (jx (QX (bC (x:=.int m) (y:=.int p) ?_ ?_ (by rw[O9,H3z (by omega)])) (Cr (bC (x:=.int n) (y:=.int q) ?_ ?_ (by rw[O9,C4z (by omega)]))))) rfl)
  .nofun
  .nofun
  .nofun
  .nofun
 .refine jV rfl rfl (iI (jx (Ve (bC ?_ ?_ (by rw[O9,C4z e])))) rfl)
  .nofun
  .nofun
theorem JD(k:Nat)(h1:1<=m)(h2:m<=4)(h3:1<=n)(h4:n<=4)(h5:1<=p)(h6:p<=4)(h7:1<=q)(h8:q<=4)(h:m≠p\/n≠q):jr T 60 (k+5) "plus" [tbl m n f,tbl p q g]=some "NoFit"/\aU T 60 (k+5) "plus" [tbl m n f,tbl p q g]=none:=by
 have ns:=Jf (k+3) (f:=f) (g:=g) h1 h5 h;refine jV rfl rfl (pR rfl (d:=.non) ?_ (pR rfl (d:=.non) ?_ (M7 rfl (kJ rfl (by walk_at "xm") ns.1 ns.2))))
 .refine' aX ?L83b_13a ?L83b_13b ?L83b_13c;(case L83b_13a=>rfl);(case L83b_13b=>walk_at "xm");(case L83b_13c=>exact need_table k h1 h2 h3 h4)
 .refine' aX ?L83b_14a ?L83b_14b ?L83b_14c;(case L83b_14a=>rfl);(case L83b_14b=>walk_at "xm");(case L83b_14c=>exact need_table k h5 h6 h7 h8)
def bsd(a:Nat)(f g:Nat->Nat->Int):Nat->Nat->Int:=λi j=>if j<a then f i j else g i (j-a)
theorem beside(k:Nat)(h1:1<=m)(h2:m<=4)(h3:1<=n)(h4:n<=4)(h7:1<=q)(h8:q<=4)(h:n+q<=4):aU T 60 (k+6) "set_beside" [tbl m n f,tbl m q g]=some (tbl m (n+q) (bsd n f g)):=by
 have t1:=turned k (f:=f) h1 h2 h3 h4;have t2:=turned k (f:=g) h1 h2 h7 h8;have t3:=turned k (f:=blw n (λi j=>f j i) (λi j=>g j i)) (by omega) h h1 h2;have b:=below k (f:=λi j=>f j i) (g:=λi j=>g j i) h3 h4 h1 h2 h7 h8 h;exact fY rfl rfl (fO (aX rfl (aG (aX rfl (aG (aX rfl (by walk_at "xm") t1) (aG (aX rfl (by walk_at "xm") t2) cT)) b) cT) t3))
theorem BZ(k:Nat)(h1:1<=m)(h2:m<=4)(h3:1<=n)(h4:n<=4)(h5:1<=p)(h6:p<=4)(h7:1<=q)(h8:q<=4)(h:m≠p\/4<n+q):jr T 60 (k+6) "set_beside" [tbl m n f,tbl p q g]=some "NoFit"/\aU T 60 (k+6) "set_beside" [tbl m n f,tbl p q g]=none:=by
 have t1:=turned k (f:=f) h1 h2 h3 h4;have t2:=turned k (f:=g) h5 h6 h7 h8;have b:=vU k (f:=λi j=>f j i) (g:=λi j=>g j i) h3 h4 h1 h2 h7 h8 h5 h6 h;exact jV rfl rfl (xP (RD rfl (kJ rfl (aG (aX rfl (by walk_at "xm") t1) (aG (aX rfl (by walk_at "xm") t2) cT)) b.1 b.2)))
end
def wdN:Nat->Str
 |0=>"times"
 |1=>"plus"
 |2=>"beside"
 |_=>"below"
def fnN:Nat->Str
 |0=>"times"
 |1=>"plus"
 |2=>"set_beside"
 |_=>"set_below"
theorem Ud(k:Nat)(hw:w<4)(h:aU T 60 (k+1) (fnN w) [x,y]=some d):aU T 60 (k+2) "joined" [.str (wdN w),x,y]=some d:=by
 match w,hw with
 |0,_=>exact fY rfl rfl (mq (bC (by nofun) (by nofun) rfl) (fO (aX rfl (by walk_at "xm") h)) rfl)
 |1,_=>exact fY rfl rfl (fU (bC (by nofun) (by nofun) rfl) (mq (bC (by nofun) (by nofun) rfl) (fO (aX rfl (by walk_at "xm") h)) rfl))
 |2,_=>exact fY rfl rfl (fU (bC (by nofun) (by nofun) rfl) (fU (bC (by nofun) (by nofun) rfl) (mq (bC (by nofun) (by nofun) rfl) (fO (aX rfl (by walk_at "xm") h)) rfl)))
 |3,_=>exact fY rfl rfl (fU (bC (by nofun) (by nofun) rfl) (fU (bC (by nofun) (by nofun) rfl) (fU (bC (by nofun) (by nofun) rfl) (mq (bC (by nofun) (by nofun) rfl) (fO (aX rfl (by walk_at "xm") h)) rfl))))
theorem Uc(k:Nat)(hw:w<4)(h:jr T 60 (k+1) (fnN w) [x,y]=some c/\aU T 60 (k+1) (fnN w) [x,y]=none):jr T 60 (k+2) "joined" [.str (wdN w),x,y]=some c/\aU T 60 (k+2) "joined" [.str (wdN w),x,y]=none:=by
 match w,hw with
 |0,_=>exact jV rfl rfl (CG rfl (bC (by nofun) (by nofun) rfl) (xP (kJ rfl (by walk_at "xm") h.1 h.2)))
 |1,_=>exact jV rfl rfl (rZ rfl (bC (by nofun) (by nofun) rfl) (CG rfl (bC (by nofun) (by nofun) rfl) (xP (kJ rfl (by walk_at "xm") h.1 h.2))))
 |2,_=>exact jV rfl rfl (rZ rfl (bC (by nofun) (by nofun) rfl) (rZ rfl (bC (by nofun) (by nofun) rfl) (CG rfl (bC (by nofun) (by nofun) rfl) (xP (kJ rfl (by walk_at "xm") h.1 h.2)))))
 |3,_=>exact jV rfl rfl (rZ rfl (bC (by nofun) (by nofun) rfl) (rZ rfl (bC (by nofun) (by nofun) rfl) (rZ rfl (bC (by nofun) (by nofun) rfl) (CG rfl (bC (by nofun) (by nofun) rfl) (xP (kJ rfl (by walk_at "xm") h.1 h.2))))))
def HD(w m n p q:Nat):Bool:=match w with
 |0=>decide (n=p)
 |1=>decide (m=p)&&decide (n=q)
 |2=>decide (m=p)
 |_=>decide (n=q)
def jM(w m p:Nat):Nat:=match w with
 |3=>m+p
 |_=>m
def jN(w n q:Nat):Nat:=match w with
 |0=>q
 |2=>n+q
 |_=>n
def jF(w m n:Nat)(f g:Nat->Nat->Int):Nat->Nat->Int:=match w with
 |0=>mul n f g
 |1=>λi j=>f i j+g i j
 |2=>bsd n f g
 |_=>blw m f g
section
variable{w m n p q:Nat}{f g:Nat->Nat->Int}
theorem Ae(k:Nat)(hw:w<4)(h1:1<=m)(h2:m<=4)(h3:1<=n)(h4:n<=4)(h5:1<=p)(h6:p<=4)(h7:1<=q)(h8:q<=4)(hs:Sm m n f)(h:HD w m n p q=true)(ha:jM w m p<=4)(hb:jN w n q<=4):aU T 60 (k+8) "joined" [.str (wdN w),tbl m n f,tbl p q g]=some (tbl (jM w m p) (jN w n q) (jF w m n f g)):=by
 refine Ud (k+6) hw ?_
 match w,hw with
 |0,_ =>
  obtain rfl:n=p:=P2z h;exact times (k+1) h1 h2 h3 h4 h7 h8 (.inl hs)
 |1,_ =>
  have h:(decide (m=p)&&decide (n=q))=true:=h;rw[A3z,B2z,B2z] at h;obtain⟨rfl,rfl⟩:=h;exact plus (k+2) h1 h2 h3 h4
 |2,_ =>
  obtain rfl:m=p:=P2z h;exact beside (k+1) h1 h2 h3 h4 h7 h8 hb
 |3,_ =>
  obtain rfl:n=q:=P2z h;exact below (k+2) h1 h2 h3 h4 h5 h6 ha
theorem Af(k:Nat)(hw:w<4)(h1:1<=m)(h2:m<=4)(h3:1<=n)(h4:n<=4)(h5:1<=p)(h6:p<=4)(h7:1<=q)(h8:q<=4)(h:HD w m n p q=false\/4<jM w m p\/4<jN w n q):jr T 60 (k+8) "joined" [.str (wdN w),tbl m n f,tbl p q g]=some "NoFit"/\aU T 60 (k+8) "joined" [.str (wdN w),tbl m n f,tbl p q g]=none:=by
 refine Uc (k+6) hw ?_
 match w,hw with
 | 0,_=>exact CW (k+2) h1 h2 h3 h4 h5 h6 h7 h8 (by
   obtain h|h|h:=h
   .exact C2z h
   .exact absurd h (by show ¬ 4<m;omega)
   .exact absurd h (by show ¬ 4<q;omega))
 | 1,_=>exact JD (k+2) h1 h2 h3 h4 h5 h6 h7 h8 (by
   obtain h|h|h:=h
   .have h:(decide (m=p)&&decide (n=q))=false:=h
    rw[U0z,K0z,K0z] at h;exact h
   .exact absurd h (by show ¬ 4<m;omega)
   .exact absurd h (by show ¬ 4<n;omega))
 | 2,_=>exact BZ (k+1) h1 h2 h3 h4 h5 h6 h7 h8 (by
   obtain h|h|h:=h
   .exact .inl (C2z h)
   .exact absurd h (by show ¬ 4<m;omega)
   .exact .inr h)
 | 3,_=>exact vU (k+2) h1 h2 h3 h4 h5 h6 h7 h8 (by
   obtain h|h|h:=h
   .exact .inl (C2z h)
   .exact .inr h
   .exact absurd h (by show ¬ 4<n;omega))
def rM(x y z:D)(md:Sl):Rho:=[("_law_word",.sh x),("_law_one",.sh y),("_law_other",.sh z),("_law_made_here",md)]
theorem zT(k:Nat):blk (cxN T 60 k) 60 60 (cG (top 52)).sc ((cG (top 52)).body.drop 1) (rM x y z (.sh .non))=some (.ret (.str "no fit")):=by rfl'
theorem En(k:Nat)(h1:1<=a)(h2:a<=8)(h3:1<=b)(h4:b<=8):blk (cxN T 60 (k+4)) 60 60 (cG (top 52)).sc ((cG (top 52)).body.drop 1) (rM x y z (.sh (tbl a b h)))=some (.ret (if okT a b h then tbl a b h else .str "no fit")):=by
 have it:=is_table k (f:=h) h1 h2 h3 h4
 cases e:okT a b h with
 |true =>
  rw[e] at it;refine fO (Nb (jx (wg (bC (by nofun) (by nofun) rfl) (Cr ?_))) (by nofun));refine' aX ?L83c_1a ?L83c_1b ?L83c_1c;(case L83c_1a=>rfl);(case L83c_1b=>walk_at "xm");(case L83c_1c=>exact it)
 |false =>
  rw[e] at it;refine fO (Nf (jx (wg (bC (by nofun) (by nofun) rfl) (Cr ?_))) (by nofun));refine' aX ?L83c_2a ?L83c_2b ?L83c_2c;(case L83c_2a=>rfl);(case L83c_2b=>walk_at "xm");(case L83c_2c=>exact it)
theorem Jm{f g:Nat->Int}:D.tup ((Ls a λj=>.int (f j))++Ls b λj=>.int (g j))=row (a+b) λj=>if j<a then f j else g (j-a):=by
 rw[Ik];refine congrArg D.tup (vZ λi _=>?_)
 by_cases h:i<a
 .simp[h,S5z]
 .simp[h,Q5z]
theorem Eu(k:Nat)(hw:w<4)(h1:1<=m)(h2:m<=4)(h3:1<=n)(h4:n<=4)(h5:1<=p)(h6:p<=4)(h7:1<=q)(h8:q<=4)(hs:Sm m n f):aU T 60 (k+5) "_law_made" [.str (wdN w),tbl m n f,tbl p q g]=some (if HD w m n p q&&okT (jM w m p) (jN w n q) (jF w m n f g) then tbl (jM w m p) (jN w n q) (jF w m n f g) else .str "no fit"):=by
 cases e:HD w m n p q with
 |false =>
  rw[Bool.false_and]
  match w,hw with
  |0,_=>exact fY rfl rfl (mq (bC (by nofun) (by nofun) rfl) (j5 rfl (d:=.non) (Nf (bC (by nofun) (by nofun) (Mv (by have:=C2z e;omega))) (by nofun)) jf) (zT _))
  |1,_ =>
   have e:(decide (m=p)&&decide (n=q))=false:=e;rw[U0z,K0z,K0z] at e
   by_cases e2:m=p
   .exact fY rfl rfl (vm (bC (by nofun) (by nofun) rfl) (mq (bC (by nofun) (by nofun) rfl) (j5 rfl (d:=.non) (by nofun) (fU (jx (wg (bC (by nofun) (by nofun) (J9 (by omega))) (Cr (bC (by nofun) (by nofun) (Mv (by omega)))))) jf)) rfl) (zT _))
   .exact fY rfl rfl (vm (bC (by nofun) (by nofun) rfl) (mq (bC (by nofun) (by nofun) rfl) (j5 rfl (d:=.non) (by nofun) (fU (jx (Ng (bC (by nofun) (by nofun) (Mv (by omega))))) jf)) rfl) (zT _))
  |2,_=>exact fY rfl rfl (vm (bC (by nofun) (by nofun) rfl) (vm (bC (by nofun) (by nofun) rfl) (vm (bC (by nofun) (by nofun) rfl) (j5 rfl (d:=.non) (Nf (bC (by nofun) (by nofun) (Mv (by have:=C2z e;omega))) (by nofun)) jf) rfl) rfl) (zT _))
  |3,_=>exact fY rfl rfl (vm (bC (by nofun) (by nofun) rfl) (vm (bC (by nofun) (by nofun) rfl) (mq (bC (by nofun) (by nofun) rfl) (j5 rfl (d:=.non) (Nf (bC (by nofun) (by nofun) (Mv (by have:=C2z e;omega))) (by nofun)) jf) rfl) rfl) (zT _))
 |true =>
  rw[Bool.true_and]
  match w,hw with
  |0,_ =>
   obtain rfl:n=p:=P2z e;refine fY rfl rfl (mq (bC (by nofun) (by nofun) rfl) (j5 rfl (d:=tbl m q (mul n f g)) (Nb (bC (by nofun) (by nofun) (J9 rfl)) ?_) jf) (En k h1 (by omega) h7 (by omega)));refine' aX ?L83c_3a ?L83c_3b ?L83c_3c;(case L83c_3a=>rfl);(case L83c_3b=>walk_at "xm");(case L83c_3c=>exact Ew (k+3) h2 h3 h4 h8 (.inl hs))
  |1,_ =>
   have e:(decide (m=p)&&decide (n=q))=true:=e;rw[A3z,B2z,B2z] at e;obtain⟨rfl,rfl⟩:=e;refine fY rfl rfl (vm (fl1:=.nxt (rM _ _ _ (.sh (tbl m n λi j=>f i j+g i j)))) (bC (by nofun) (by nofun) rfl) (mq (fl1:=.nxt (rM _ _ _ (.sh (tbl m n λi j=>f i j+g i j)))) (bC (by nofun) (by nofun) rfl) (j5 rfl (d:=.non) (by nofun) (mq (fl1:=.nxt (rM _ _ _ (.sh (tbl m n λi j=>f i j+g i j)))) (jx (wg (bC (x:=.int m) (y:=.int m) (by nofun) (by nofun) (J9 rfl)) (Cr (bC (x:=.int n) (y:=.int n) (by nofun) (by nofun) (J9 rfl))))) (j5 rfl (d:=tbl m n λi j=>f i j+g i j) (iH rfl rfl rfl (aG ?_ cT) rN) jf) rfl)) rfl) (En k h1 (by omega) h3 (by omega)));refine iw (l:=Ls m λi=>.tup [row n (f i),row n (g i)]) rfl (Q5 rfl (by nofun) (by nofun)) (iR (by omega)) (bM (g:=λi=>row n λj=>f i j+g i j) λi hi=>jt rfl ?_);exact iH rfl rfl rfl (aG (iw (l:=Ls n λj=>.tup [.int (f i j),.int (g i j)]) rfl (Q5 rfl (by nofun) (by nofun)) (iR (by omega)) (bM (g:=λj=>.int (f i j+g i j)) λj hj=>jt rfl (dR (by nofun) (by nofun) rfl))) cT) rN
  |2,_ =>
   obtain rfl:m=p:=P2z e;refine fY (fd:=cG (top 52)) rfl rfl (vm (fl1:=.nxt (rM _ _ _ (.sh (tbl m (n+q) (bsd n f g))))) (bC (by nofun) (by nofun) rfl) (vm (fl1:=.nxt (rM _ _ _ (.sh (tbl m (n+q) (bsd n f g))))) (bC (by nofun) (by nofun) rfl) (vm (fl1:=.nxt (rM _ _ _ (.sh (tbl m (n+q) (bsd n f g))))) (bC (by nofun) (by nofun) rfl) (j5 rfl (d:=tbl m (n+q) (bsd n f g)) (Nb (bC (x:=.int m) (y:=.int m) (by nofun) (by nofun) (J9 rfl)) (iH rfl rfl rfl (aG ?_ cT) rN)) jf) rfl) rfl) (En k h1 (by omega) (by omega) (by omega)));refine iw (l:=Ls m λi=>.tup [row n (f i),row q (g i)]) rfl (Q5 rfl (by nofun) (by nofun)) (iR (by omega)) (bM (g:=λi=>row (n+q) (bsd n f g i)) λi hi=>jt rfl ?_);exact jX (dR (x:=row n (f i)) (y:=row q (g i)) (by nofun) (by nofun) (LR (by rw[bQ,bQ];omega))) Jm
  |3,_ =>
   obtain rfl:n=q:=P2z e;refine fY (fd:=cG (top 52)) rfl rfl (vm (fl1:=.nxt (rM _ _ _ (.sh (tbl (m+p) n (blw m f g))))) (bC (by nofun) (by nofun) rfl) (vm (fl1:=.nxt (rM _ _ _ (.sh (tbl (m+p) n (blw m f g))))) (bC (by nofun) (by nofun) rfl) (mq (fl1:=.nxt (rM _ _ _ (.sh (tbl (m+p) n (blw m f g))))) (bC (by nofun) (by nofun) rfl) (j5 rfl (d:=tbl (m+p) n (blw m f g)) (Nb (bC (x:=.int n) (y:=.int n) (by nofun) (by nofun) (J9 rfl)) (jX (dR (x:=tbl m n f) (y:=tbl p n g) (by nofun) (by nofun) (LR (by rw[bQ,bQ];omega))) yt)) jf) rfl) rfl) (En k (by omega) (by omega) h3 (by omega)))
end
def cP(l:List (Str×D)):D:=.dic (l.map λq=>.inr q.1) (l.map (·.2))
def prK(l:List (Str×D)):List D:=l.map λq=>.tup [.str q.1,q.2]
section
variable{l:List (Str×D)}{n:Str}{x:D}
theorem Rr:∀{l:List (Str×D)},(l.map λq=>(Sum.inr q.1:Sum Int Str)).zip (l.map (·.2))=l.map λq=>(Sum.inr q.1,q.2)
 |[]=>rfl
 |q::l=>by rw[I4z,I4z,I4z,Z1z,Rr]
theorem Q6:kO (l.map λq=>.inr q.1) (l.map (·.2)) (.inr n)=L2.bD l n:=by
 unfold kO L2.bD;rw[Rr,List.find?_map]
 have:((λq:Sum Int Str×D=>decide (q.1=Sum.inr n))∘λq:Str×D=>((Sum.inr q.1:Sum Int Str),q.2))=λp:Str×D=>decide (p.1=n):=by
  funext p;exact decide_eq_decide.mpr ⟨λh=>A5z h,λh=>congrArg Sum.inr h⟩
 rw[this,Option.map_map];rfl
theorem inK:cmpop .In (.str n) (cP l)=some (.bl (L2.bD l n).isSome):=by
 show some (D.bl (kO _ _ _).isSome)=_;rw[Q6]
theorem Ei:cmpop .NotIn (.str n) (cP l)=some (.bl (!(L2.bD l n).isSome)):=by
 show some (D.bl (!(kO _ _ _).isSome))=_;rw[Q6]
theorem Ms:Mt (cP l) (.str n)=L2.bD l n:=by
 show kO _ _ _=_;rw[Q6]
theorem zE:∀{l:List (Str×D)},iV (prK l)=some (l.map λq=>(.inr q.1,q.2))
 |[]=>rfl
 |q::l=>by
  show(iV (prK l)).map _=_;rw[zE];rfl
theorem Vs:∀{l:List (Str×D)}{a:List (Sum Int Str×D)},(l.map (·.1)).Nodup->(∀q∈l,∀p∈a,p.1≠Sum.inr q.1)->(l.map λq=>((Sum.inr q.1:Sum Int Str),q.2)).foldl (λa q=>putD a q.1 q.2) a=a++l.map λq=>(.inr q.1,q.2)
 |[],a,_,_=>by simp
 |q::l,a,hn,ha=>by
  rw[I4z,N3z] at hn;rw[I4z,List.foldl_cons]
  have e:putD a (.inr q.1) q.2=a++[(.inr q.1,q.2)]:=by
   unfold putD;rw[U5z];intro h;obtain⟨p,h1,h2⟩:=List.any_eq_true.mp h;exact ha q (N1z ..) p h1 (P2z h2)
  rw[e,Vs hn.2 λr hr p hp=>?_,List.append_assoc];rfl
  obtain hp|hp:=List.mem_append.mp hp
  .exact ha r (X0z _ hr) p hp
  .rw[D2z] at hp
   subst hp;exact λh=>hn.1 (List.mem_map.mpr ⟨r,hr,(A5z h).symm⟩)
theorem Vr(h:(l.map (·.1)).Nodup):Ht (l.map λq=>((Sum.inr q.1:Sum Int Str),q.2))=l.map λq=>(.inr q.1,q.2):=Vs h λ_ _ _ h=>nomatch h
theorem Qx(h:(l.map (·.1)).Nodup):blt "dict" [.lst (prK l)]=some (cP l):=by
 show(iV (prK l)).map (λl=>oX (Ht l))=_;rw[zE];show some (oX (Ht _))=_;rw[Vr h];unfold oX cP;rw[Z4z,Z4z];rfl
theorem WQ:cmpop .NotEq (.str a) (.str b)=some (.bl (decide (a≠b))):=by
 rw[oNe (by simp[dep]) (by simp[dep])];congr 2;show(!(a==b))=_
 by_cases h:a=b
 .subst h;simp
 .simp[h]
theorem qW:∀{l:List α},(∀q∈l,f (h q)=some (if t q then some (g q) else none))->bU f (l.map h)=some ((l.filter t).map g)
 |[],_=>rfl
 |q::l,hq=>by
  have h2:=qW λr hr=>hq r (X0z _ hr);simp only[I4z,bU,(hq q (N1z ..))]
  cases ht:t q with
  |true=>simp only[Z2z,ht,h2];rfl
  |false=>simp[Q5z,Z2z,ht];exact h2
theorem get_mem:∀{l:List (Str×D)}{q:Str×D},(l.map (·.1)).Nodup->q∈l->L2.bD l q.1=some q.2
 |p::l,q,hn,h=>by
  rw[I4z,N3z] at hn;unfold L2.bD;obtain rfl|h:=P4z.mp h
  .rw[List.find?_cons_of_pos (by simp)];rfl
  .rw[List.find?_cons_of_neg (by
    have:p.1≠q.1:=λz=>hn.1 (List.mem_map.mpr ⟨q,h,z.symm⟩)
    simpa using this)]
   exact get_mem hn.2 h
theorem tQ(hn:(l.map (·.1)).Nodup):((L2.c7 l n).map (·.1)).Nodup:=hn.sublist (List.filter_sublist.map _)
theorem wDc(hw:wj cx sc e=.sq)(h:ev cx k sc U e=some (cP l)):evI cx false (ev cx k sc U) sc e=some (l.map λq=>.str q.1):=by
 unfold evI;rw[hw];rw[h];show some ((l.map λq=>(Sum.inr q.1:Sum Int Str)).map kD)=_;rw[Z4z];rfl
theorem V1{x:Str}(hg:cg cx sc x=some "list")(hw:CJ cx sc "list" [e]=.li a)(h:ev cx k sc U a=some (cP l))(hl:l.length<=1000):ev cx (k+1) sc U (.Call (.Name x q) [e] [] p)=some (.lst (prK l)):=by
 unfold cg at hg;split at hg
 case isFalse=>cases hg
 rename_i h1;simp only[ev,h1,hg,S5z];split
 .rename_i he;exact absurd he (by decide)
 .rename_i he
  cases he;rw[hw];show(ev cx k sc U a).bind Ue=_;rw[h];show(if decide ((l.map λq=>(Sum.inr q.1:Sum Int Str)).length<=1000) then some (D.lst _) else none)=_;rw[K3z,C4z hl,Rr,Z4z];rfl
 .rename_i he;cases he
end
def ifA:Stmt->List Stmt
 |.If _ a _ _=>a
 |_=>[]
def Wt:Stmt->Expr
 |.Assign _ e _=>e
 |_=>.Name "" ⟨0,0,0,0⟩
def rB(kn dd:D)(rs md tb:Sl):Rho:=[("_law_known",.sh kn),("_law_deed_here",.sh dd),("_law_rest",rs),("_law_made_here",md),("_law_table_here",tb)]
theorem U3(h:us.length+vs.length<=100000):binop .Add (.lst us) (.lst vs)=some (.lst (us++vs)):=by
 show(if szl (us.length+vs.length) then some (D.lst (us++vs)) else none)=_;rw[T5z (Dd h)]
section
variable{l:List (Str×D)}{n:Str}{ds:List D}{w r:D}
theorem bh(k:Nat)(hn:(l.map (·.1)).Nodup)(hl:l.length<=100)(h:blk (cxN T 60 k) 60 60 (cG (top 53)).sc ((cG (top 53)).body.drop 1) (rB (cP l) (.tup (w::.str n::ds)) (.sh (cP (L2.c7 l n))) .no .no)=some (.ret r)):aU T 60 (k+1) "_law_behind" [cP l,.tup (w::.str n::ds)]=some r:=by
 refine fY rfl rfl (j5 rfl (iH rfl rfl rfl (aG (iw rfl (wDc rfl (by nofun)) (Dd (by rw[K3z];omega)) (qW λq hq=>Lw rfl (bC (by nofun) (xIx (by nofun) (by nofun) rfl ?_) WQ) ?_)) cT) (Qx (tQ hn))) h)
 .exact jG rfl
 .exact jW (aG (by nofun) (aG (v9 (by nofun) (by nofun) (Ms.trans (get_mem hn hq))) cT)) rfl
theorem fX{l:List D}{j:Nat}(h:l[j]?=some x):atD l (j:Int)=some x:=jG h
theorem Ij{t:D}(hn:(l.map (·.1)).Nodup):((L2.c7 l n++[(n,t)]).map (·.1)).Nodup:=by
 rw[X3z,List.nodup_append];refine⟨tQ hn,by simp,λa ha b hb=>?_⟩;obtain⟨q,hq,rfl⟩:=List.mem_map.mp ha
 have hb:b=n:=by simpa using hb
 subst hb;exact P2z (List.mem_filter.mp hq).2
theorem FN:(L2.c7 l n).length<=l.length:=List.length_filter_le ..
theorem oF(hn:(l.map (·.1)).Nodup)(hl:l.length<=100)(g1:cg cx sc x=some "dict")(gw:CJ cx sc "dict" [.BinOp (.Call (.Name y q) [e] [] p) .Add (.List [a] p2) p3]=.al)(g2:cg cx sc y=some "list")(gi:CJ cx sc "list" [e]=.li b)(h1:ev cx k sc U b=some (cP (L2.c7 l n)))(h2:ev cx k sc U a=some (.tup [.str n,t])) :
  ev cx (k+3) sc U (.Call (.Name x o) [.BinOp (.Call (.Name y q) [e] [] p) .Add (.List [a] p2) p3] [] p4)=some (cP (L2.c7 l n++[(n,t)])):=by
 have dl:=FN (l:=l) (n:=n);refine iH g1 gw rfl (aG (jX (dR (V1 g2 gi h1 (by omega)) (QZ (aG h2 cT) rfl) (U3 ?_)) ?_) cT) (Qx (Ij hn))
 .unfold prK
  rw[K3z];show _+1<=_;omega
 .unfold prK
  rw[X3z];rfl
theorem QF(k:Nat)(hn:(l.map (·.1)).Nodup)(hl:l.length<=100):aU T 60 (k+1) "_law_behind" [cP l,.tup [.str "put",.str n,t]]=some (.tup [cP (L2.c7 l n++[(n,t)]),.bl (L2.bD l n).isSome]):=by
 refine bh k hn hl (mq (bC (xIx (by nofun) (by nofun) rfl (fX rfl)) (by nofun) rfl) (fO (jW (aG (oF hn hl rfl rfl rfl rfl (by nofun) (jW (aG (xIx (by nofun) (by nofun) rfl (fX rfl)) (aG (xIx (by nofun) (by nofun) rfl (fX rfl)) cT)) rfl)) (aG (bC (xIx (by nofun) (by nofun) rfl (fX rfl)) (by nofun) inK) cT)) rfl)) rfl)
theorem BX(k:Nat){w:Str}(hn:(l.map (·.1)).Nodup)(hl:l.length<=100)(h1:deq (.str w) (.str "put")=false)(h2:deq (.str w) (.str "join")=false)(h:L2.bD l n=none):aU T 60 (k+1) "_law_behind" [cP l,.tup [.str w,.str n]]=some (.tup [cP l,.str "no name"]):=by
 refine bh k hn hl (fU (bC (xIx (by nofun) (by nofun) rfl (fX rfl)) (by nofun) ?_) (fU (bC (xIx (by nofun) (by nofun) rfl (fX rfl)) (by nofun) ?_) (mq (bC (xIx (by nofun) (by nofun) rfl (fX rfl)) (by nofun) (Ei.trans (by rw[h];rfl))) (fO (jW (aG (by nofun) (aG (by nofun) cT)) rfl)) rfl)))
 .rw[oEq (by simp[dep]) (by simp[dep]),h1]
 .rw[oEq (by simp[dep]) (by simp[dep]),h2]
theorem LK(k:Nat)(hn:(l.map (·.1)).Nodup)(hl:l.length<=100)(h:L2.bD l n=some t):aU T 60 (k+1) "_law_behind" [cP l,.tup [.str "take",.str n]]=some (.tup [cP (L2.c7 l n),t]) :=
 bh k hn hl (fU (bC (xIx (by nofun) (by nofun) rfl (fX rfl)) (by nofun) rfl) (fU (bC (xIx (by nofun) (by nofun) rfl (fX rfl)) (by nofun) rfl) (fU (bC (xIx (by nofun) (by nofun) rfl (fX rfl)) (by nofun) (Ei.trans (by rw[h];rfl))) (pD rfl rfl rfl (v9 (by nofun) (xIx (by nofun) (by nofun) rfl (fX rfl)) (Ms.trans h)) (mq (bC (xIx (by nofun) (by nofun) rfl (fX rfl)) (by nofun) rfl) (fO (jW (aG (xName rfl) (aG (xName rfl) cT)) rfl)) rfl)))))
theorem Vd(h1:ev cx k sc U a=some (.tup us))(h2:ev cx k sc U c=some (.int (-1))):ev cx (k+1) sc U (.Subscript a (.Slice none none (some c) q) p)=some (.tup us.reverse):=by
 simp[ev,h1];rw[h2];rfl
def wT:Bool->Str
 |true=>"turn"
 |false=>"flip"
def trn(m q:Nat)(f:Nat->Nat->Int)(w:Bool):D:=match w with
 |true=>tbl q m λi j=>f j i
 |false=>tbl m q λi j=>f (m-1-i) (q-1-j)
theorem LC(k:Nat){w:Bool}(h1:1<=m)(h2:m<=4)(h3:1<=q)(h4:q<=4)(hn:(l.map (·.1)).Nodup)(hl:l.length<=100)(h:L2.bD l n=some (tbl m q f)):aU T 60 (k+1) "_law_behind" [cP l,.tup [.str (wT w),.str n]]=some (.tup [cP (L2.c7 l n++[(n,trn m q f w)]),trn m q f w]):=by
 have fl:ev (cxN T 60 k) 60 (cG (top 53)).sc (rB (cP l) (.tup [.str (wT w),.str n]) (.sh (cP (L2.c7 l n))) .no (.sh (tbl m q f))) (Wt (((cG (top 53)).body.drop 1).getD 5 pss))=some (tbl m q λi j=>f (m-1-i) (q-1-j)):=by
  refine iH rfl rfl rfl (aG (jX (iw rfl (Vf rfl (Vd (xName rfl) (by nofun))) (by rw[rW];exact iR (by omega)) (by rw[rW];exact bM λi hi=>jt rfl (jX (Vd (xName rfl) (by nofun)) (congrArg D.tup rW)))) rfl) cT) rN
 have dc:∀{cx:Cxt}{md:D}{F:Nat}{sc:Scope}{U:Rho}{a b:Expr}{j:Nat}{p:Pos},ev cx F sc U a=some (cP (L2.c7 l n++[(n,md)]))->ev cx F sc U b=some md->ev cx (F+1) sc U (.Tuple [a,b] j p)=some (.tup [cP (L2.c7 l n++[(n,md)]),md]):=λ{_ _ _ _ _ _ _ _ _} x y=>jW (aG x (aG y cT)) rfl
 cases w with
 |false =>
  refine bh k hn hl (fU (bC (xIx (by nofun) (by nofun) rfl (fX rfl)) (by nofun) rfl) (fU (bC (xIx (by nofun) (by nofun) rfl (fX rfl)) (by nofun) rfl) (fU (bC (xIx (by nofun) (by nofun) rfl (fX rfl)) (by nofun) (Ei.trans (by rw[h];rfl))) (pD rfl rfl rfl (v9 (by nofun) (xIx (by nofun) (by nofun) rfl (fX rfl)) (Ms.trans h)) (fU (bC (xIx (by nofun) (by nofun) rfl (fX rfl)) (by nofun) rfl) (j5 rfl fl (fU (bC (xIx (by nofun) (by nofun) rfl (fX rfl)) (by nofun) rfl) (fO (dc (oF hn hl rfl rfl rfl rfl (by nofun) (jW (aG (xIx (by nofun) (by nofun) rfl (fX rfl)) (aG (xName rfl) cT)) rfl)) (xName rfl))))))))))
 |true =>
  refine bh k hn hl (fU (bC (xIx (by nofun) (by nofun) rfl (fX rfl)) (by nofun) rfl) (fU (bC (xIx (by nofun) (by nofun) rfl (fX rfl)) (by nofun) rfl) (fU (bC (xIx (by nofun) (by nofun) rfl (fX rfl)) (by nofun) (Ei.trans (by rw[h];rfl))) (pD rfl rfl rfl (v9 (by nofun) (xIx (by nofun) (by nofun) rfl (fX rfl)) (Ms.trans h)) (fU (bC (xIx (by nofun) (by nofun) rfl (fX rfl)) (by nofun) rfl) (j5 rfl fl (mq (bC (xIx (by nofun) (by nofun) rfl (fX rfl)) (by nofun) rfl) (j5 rfl (iH rfl rfl rfl (aG ?_ cT) rN) jf) (fO (dc (oF hn hl rfl rfl rfl rfl (by nofun) (jW (aG (xIx (by nofun) (by nofun) rfl (fX rfl)) (aG (xName rfl) cT)) rfl)) (xName rfl))))))))))
  refine' iw ?L83e_1a ?L83e_1b ?L83e_1c (bM ?L83e_1d);(case L83e_1a=>rfl);(case L83e_1b=>walk_at "xi");(case L83e_1c=>exact iR (by omega))
  case L83e_1d =>
   intro i hi;refine' jt ?L83e_1e ?L83e_1f;(case L83e_1e=>rfl)
   case L83e_1f =>
    refine' iH ?L83e_2a ?L83e_2b ?L83e_2c ?L83e_2d ?L83e_2e;(case L83e_2a=>rfl);(case L83e_2b=>rfl);(case L83e_2c=>rfl);(case L83e_2d=>walk_at "xm");(case L83e_2e=>exact rN)
theorem VL(k:Nat)(hn:(l.map (·.1)).Nodup)(hl:l.length<=100)(h:blk (cxN T 60 k) 60 59 (cG (top 53)).sc (ifA (((cG (top 53)).body.drop 1).getD 1 pss)) (rB (cP l) (.tup [.str "join",.str n,.str wd,.str a,.str b]) (.sh (cP (L2.c7 l n))) .no .no)=some (.ret r)):aU T 60 (k+1) "_law_behind" [cP l,.tup [.str "join",.str n,.str wd,.str a,.str b]]=some r :=
 bh k hn hl (fU (bC (xIx (by nofun) (by nofun) rfl (fX rfl)) (by nofun) rfl) (mq (bC (xIx (by nofun) (by nofun) rfl (fX rfl)) (by nofun) rfl) h rfl))
theorem QG(k:Nat)(hn:(l.map (·.1)).Nodup)(hl:l.length<=100)(h:L2.bD l a=none\/L2.bD l b=none):aU T 60 (k+1) "_law_behind" [cP l,.tup [.str "join",.str n,.str wd,.str a,.str b]]=some (.tup [cP l,.str "no name"]):=by
 refine VL k hn hl (mq (jx ?_) (fO (jW (aG (by nofun) (aG (by nofun) cT)) rfl)) rfl)
 cases ha:L2.bD l a with
 |none=>exact Ve (bC (xIx (by nofun) (by nofun) rfl (fX rfl)) (by nofun) (Ei.trans (by rw[ha];rfl)))
 |some x =>
  exact QX (bC (xIx (by nofun) (by nofun) rfl (fX (j:=3) rfl)) (by nofun) (Ei.trans (by rw[ha];rfl))) (Cr (bC (xIx (by nofun) (by nofun) rfl (fX (j:=4) rfl)) (by nofun) (Ei.trans (by rw[(h.resolve_left (by rw[ha];simp))];rfl))))
theorem QJ(k:Nat)(hn:(l.map (·.1)).Nodup)(hl:l.length<=100)(ha:L2.bD l a=some x)(hb:L2.bD l b=some y)(hm:aU T 60 k "_law_made" [.str wd,x,y]=some md)
  (h:blk (cxN T 60 k) 60 59 (cG (top 53)).sc ((ifA (((cG (top 53)).body.drop 1).getD 1 pss)).drop 2) (rB (cP l) (.tup [.str "join",.str n,.str wd,.str a,.str b]) (.sh (cP (L2.c7 l n))) (.sh md) .no)=some (.ret r)):aU T 60 (k+1) "_law_behind" [cP l,.tup [.str "join",.str n,.str wd,.str a,.str b]]=some r :=
 VL k hn hl (fU (jx (QX (bC (xIx (by nofun) (by nofun) rfl (fX rfl)) (by nofun) (Ei.trans (by rw[ha];rfl))) (Cr (bC (xIx (by nofun) (by nofun) rfl (fX rfl)) (by nofun) (Ei.trans (by rw[hb];rfl)))))) (pD rfl rfl rfl (aX rfl (aG (xIx (by nofun) (by nofun) rfl (fX rfl)) (aG (v9 (by nofun) (xIx (by nofun) (by nofun) rfl (fX rfl)) (Ms.trans ha)) (aG (v9 (by nofun) (xIx (by nofun) (by nofun) rfl (fX rfl)) (Ms.trans hb)) cT))) hm) h))
theorem QH(k:Nat)(hn:(l.map (·.1)).Nodup)(hl:l.length<=100)(ha:L2.bD l a=some x)(hb:L2.bD l b=some y)(hm:aU T 60 k "_law_made" [.str wd,x,y]=some (.str "no fit")):aU T 60 (k+1) "_law_behind" [cP l,.tup [.str "join",.str n,.str wd,.str a,.str b]]=some (.tup [cP l,.str "no fit"]) :=
 QJ k hn hl ha hb hm (mq (bC (by nofun) (by nofun) rfl) (fO (jW (aG (by nofun) (aG (by nofun) cT)) rfl)) rfl)
theorem LQ(k:Nat)(hn:(l.map (·.1)).Nodup)(hl:l.length<=100)(ha:L2.bD l a=some x)(hb:L2.bD l b=some y)(hm:aU T 60 k "_law_made" [.str wd,x,y]=some (tbl m q f)):aU T 60 (k+1) "_law_behind" [cP l,.tup [.str "join",.str n,.str wd,.str a,.str b]]=some (.tup [cP (L2.c7 l n++[(n,tbl m q f)]),tbl m q f]) :=
 QJ k hn hl ha hb hm (fU (bC (y:=.str "no fit") (by nofun) (by nofun) (oEq (T4z tY (by decide)) (by simp[dep]))) (fO (jW (aG (oF hn hl rfl rfl rfl rfl (by nofun) (jW (aG (xIx (by nofun) (by nofun) rfl (fX rfl)) (aG (xName rfl) cT)) rfl)) (aG (xName rfl) cT)) rfl)))
end
def nmN:Nat->Str
 |0=>"a"
 |1=>"b"
 |2=>"gh"
 |_=>"wxyz"
def tkN:Nat->Str
 |0=>"take"
 |1=>"turn"
 |_=>"flip"
def nmL:List D:=[.str "a",.str "b",.str "gh",.str "wxyz"]
def wyV(ns:List Int)(a:Nat):Nat:=pickN ns (a+1) 9
def qQ(ns:List Int)(a:Nat):D:=if wyV ns a<3 then .tup [.str "put",.str (nmN (pickN ns a 4)),tbl (1+pickN ns (a+2) 3) (1+pickN ns (a+3) 3) (Mr ns (a+10))]
 else if wyV ns a<6 then .tup [.str (tkN (wyV ns a-3)),.str (nmN (pickN ns a 4))]
 else .tup [.str "join",.str (nmN (pickN ns a 4)),.str (wdN (pickN ns (a+4) 4)),.str (nmN (pickN ns (a+5) 4)),.str (nmN (pickN ns (a+6) 4))]
def rD(ns:List Int)(a:Nat)(nl nm wy ro co wd:Sl):Rho:=[("_law_script",.sh (scr ns)),("_law_at",.sh (.int a)),("_law_names",nl),("_law_name",nm),("_law_way",wy),("_law_rows",ro),("_law_columns",co),("_law_word",wd)]
theorem Mf{p:Nat}(h:p<4):atD nmL (p:Int)=some (.str (nmN p)):=by
 refine jG ?_
 match p,h with
 |0,_=>rfl
 |1,_=>rfl
 |2,_=>rfl
 |3,_=>rfl
theorem U4{p:Nat}(h:p<4):atD [.str "times",.str "plus",.str "beside",.str "below"] (p:Int)=some (.str (wdN p)):=by
 refine jG ?_
 match p,h with
 |0,_=>rfl
 |1,_=>rfl
 |2,_=>rfl
 |3,_=>rfl
theorem U5{p:Nat}(h:p<3):atD [.str "take",.str "turn",.str "flip"] (p:Int)=some (.str (tkN p)):=by
 refine jG ?_
 match p,h with
 |0,_=>rfl
 |1,_=>rfl
 |2,_=>rfl
section
variable{ns:List Int}{a:Nat}
theorem pk{k j many:Nat}(hc:∀d,aU T 60 (k+2) "_law_pick" [scr ns,.int ((a+j:Nat):Int),.int many]=some d->cx.call x [scr ns,.int ((a+j:Nat):Int),.int many]=some d)(hf:isFn cx sc x [e1,e2,e3]=true)(h0:0<many)(h1:ev cx n sc U e1=some (scr ns))(h2:ev cx n sc U e2=some (.int ((a+j:Nat):Int)))(h3:ev cx n sc U e3=some (.int many)):ev cx (n+1) sc U (.Call (.Name x q) [e1,e2,e3] [] p)=some (.int ((pickN ns (a+j) many:Nat):Int)) :=
 aX hf (aG h1 (aG h2 (aG h3 cT))) (hc _ (pick k ns (a+j) h0))
theorem deed(k:Nat):aU T 60 (k+4) "_law_deed" [scr ns,.int a]=some (qQ ns a):=by
 have p4:=λj=>eE (ns:=ns) (k:=a+j) (many:=4) (by omega);refine fY (fd:=cG (top 51)) rfl rfl (j5 rfl (d:=.lst nmL) (by nofun) (gTup (d:=.tup [.str (nmN (pickN ns a 4)),.int (wyV ns a:Int)]) (l:=[.str (nmN (pickN ns a 4)),.int (wyV ns a:Int)]) (U':=rD ns a (.sh (.lst nmL)) (.sh (.str (nmN (pickN ns a 4)))) (.sh (.int (wyV ns a:Int))) .no .no .no) rfl (jW (aG (xIx (by nofun) (aX rfl (by walk_at "xm") (pick (k+1) ns a (many:=4) (by omega))) rfl (Mf (p4 0))) (aG (pk (λd h=>h) rfl (by omega) (by nofun) ?_ (by nofun)) cT)) rfl) rfl rfl ?_))
 .exact jX (dR (by nofun) (by nofun) rfl) rfl
 .unfold qQ
  by_cases h3:wyV ns a<3
  .rw[T5z h3]
   have q2:pickN ns (a+2) 3<3:=eE (by omega);have q3:pickN ns (a+3) 3<3:=eE (by omega);refine mq (bC (by nofun) (by nofun) (oLt (by omega))) (gTup (l:=[.int ((1+pickN ns (a+2) 3:Nat):Int),.int ((1+pickN ns (a+3) 3:Nat):Int)]) rfl (jW (aG (jX (dR (by nofun) (pk (j:=2) (many:=3) (λd h=>h) rfl (by omega) (by nofun) (jX (dR (by nofun) (by nofun) rfl) rfl) (by nofun)) rfl) (congrArg D.int (by omega))) (aG (jX (dR (by nofun) (pk (j:=3) (many:=3) (λd h=>h) rfl (by omega) (by nofun) (jX (dR (by nofun) (by nofun) rfl) rfl) (by nofun)) rfl) (congrArg D.int (by omega))) cT)) rfl) rfl rfl (fO (jW (aG (by nofun) (aG (by nofun) (aG (aX rfl (aG (by nofun) (aG (jX (dR (by nofun) (by nofun) rfl) rfl) (aG (by nofun) (aG (by nofun) cT)))) (table k ns (a+10) (by omega) (by omega))) cT))) rfl))) rfl
  .rw[U5z h3]
   by_cases h6:wyV ns a<6
   .rw[T5z h6]
    exact fU (bC (by nofun) (by nofun) (Ph (by omega))) (mq (bC (by nofun) (by nofun) (oLt (by omega))) (fO (jW (aG (xIx (by nofun) (jX (dR (by nofun) (by nofun) rfl) (congrArg D.int (by omega))) rfl (U5 (by omega))) (aG (by nofun) cT)) rfl)) rfl)
   .rw[U5z h6]
    exact fU (bC (by nofun) (by nofun) (Ph (by omega))) (fU (bC (by nofun) (by nofun) (Ph (by omega))) (j5 rfl (xIx (by nofun) (pk (λd h=>h) rfl (by omega) (by nofun) (jX (dR (by nofun) (by nofun) rfl) rfl) (by nofun)) rfl (U4 (p4 4))) (fO (jW (aG (by nofun) (aG (by nofun) (aG (by nofun) (aG (xIx (by nofun) (pk (λd h=>h) rfl (by omega) (by nofun) (jX (dR (by nofun) (by nofun) rfl) rfl) (by nofun)) rfl (Mf (p4 5))) (aG (xIx (by nofun) (pk (λd h=>h) rfl (by omega) (by nofun) (jX (dR (by nofun) (by nofun) rfl) rfl) (by nofun)) rfl (Mf (p4 6))) cT))))) rfl))))
end
end M83
namespace M83
open PySem DE L2
abbrev cx0:Cxt:=T.cx (aR T 60 36)
abbrev LP:LamP:=⟨"_law_told",VG T 60 (cG (top 49))⟩
def dF(p:Addr)(S:Cst)(x:D):Option (Addr×D×Cst):=Qw cx0 LP ms S 60 (cG (top 54)).sc (bx (cG (top 54)) [.obj p,x]) (cG (top 54)).body
def tell(S:Cst):Option (Addr×MR)->Option (Addr×D×Cst)
 |some (a,.val r S')=>some (a,r,S')
 | some (a,.exc c)=>if cx0.exs.contains c then(match LP.cv c with
  |some (.str x)=>some (a,.str x,S)
  | _=>none) else none
 |none=>none
section
variable{p:Addr}{S:Cst}{n:Str}{t:D}
theorem Li:dF p S (.tup [.str "put",.str n,t])=tell S ((Km cl clx S [.str n,t]).map λo=>(p,o)):=by rfl'
theorem vC:dF p S (.tup [.str "take",.str n])=tell S ((lV cl clx S [.str n]).map λo=>(p,o)):=by rfl'
theorem Ga:dF p S (.tup [.str "turn",.str n])=tell S ((fC cl clx "turned" "turn" S [.str n]).map λo=>(p,o)):=by rfl'
theorem Gb:dF p S (.tup [.str "flip",.str n])=tell S ((fC cl clx "flipped" "flip" S [.str n]).map λo=>(p,o)):=by rfl'
theorem oW:dF p S (.tup [.str "join",.str n,.str w,.str a,.str b])=tell S ((mV cl clx S [.str n,.str w,.str a,.str b]).map λo=>(p,o)):=by rfl'
theorem sE:tell S (some (p,.exc "NoName"))=some (p,.str "no name",S):=by rfl'
theorem Iu:tell S (some (p,.exc "NoFit"))=some (p,.str "no fit",S):=by rfl'
end
def N4:List Str:=["a","b","gh","wxyz"]
theorem sO:nmN j∈N4:=by
 match j with
 |0=>simp[nmN,N4]
 |1=>simp[nmN,N4]
 |2=>simp[nmN,N4]
 |_+3=>simp[nmN,N4]
theorem Pq:(N4.map λn=>ndN cl clx (.str n))=N4.map λn=>some (.inl n):=by rfl'
theorem nd4(h:n∈N4):ndN cl clx (.str n)=some (.inl n):=List.map_inj_left.mp Pq n h
def Oz:Nat->List Str->List (List Str)
 |0,_=>[[]]
 |k+1,pool=>[]::pool.flatMap λx=>(Oz k (pool.erase x)).map (x::·)
theorem Ai:∀{k:Nat}{l pool:List Str},l.Nodup->(∀x∈l,x∈pool)->l.length<=k->l∈Oz k pool
 |0,l,pool,_,_,hk=>by
  cases l with
  |nil=>simp[Oz]
  |cons x r=>simp at hk
 |k+1,[],pool,_,_,_=>by simp[Oz]
 |k+1,x::r,pool,hn,hp,hk=>by
  rw[N3z] at hn;exact X0z _ (List.mem_flatMap.mpr ⟨x,hp x (N1z ..),List.mem_map.mpr ⟨r,Ai hn.2 (λy hy=>((List.mem_erase_of_ne (show y≠x from λz=>hn.1 (z▸hy))).mpr (hp y (X0z _ hy)))) (by simpa using hk),rfl⟩⟩)
theorem zP:∀{l pool:List Str},l.Nodup->(∀x∈l,x∈pool)->l.length<=pool.length
 |[],_,_,_=>D5z _
 |x::r,pool,hn,hp=>by
  rw[N3z] at hn;have h1:=zP hn.2 λy hy=>(List.mem_erase_of_ne (show y≠x from λz=>hn.1 (z▸hy))).mpr (hp y (X0z _ hy));have h2:=List.length_erase_of_mem (hp x (N1z ..));have h3:=List.length_pos_of_mem (hp x (N1z ..));rw[S2z];omega
theorem JR:(Oz 4 N4).all (λl=>decide (GR l=some (N4.filter l.contains))&&decide ((N4.filter l.contains).length=l.length))=true:=by decide +kernel
theorem Wr(h1:l.Nodup)(h2:∀x∈l,x∈N4):GR l=some (N4.filter l.contains)/\(N4.filter l.contains).length=l.length:=by
 have:=G3z.mp JR l (Ai h1 h2 (zP h1 h2));rw[A3z,B2z,B2z] at this;exact this
section
variable{l:List (Str×D)}{n x:Str}{t:D}
theorem cC:bD (q::l) n=if q.1=n then some q.2 else bD l n:=by
 unfold bD
 by_cases h:q.1=n
 .rw[List.find?_cons_of_pos (by simpa using h),T5z h];rfl
 .rw[List.find?_cons_of_neg (by simpa using h),U5z h]
theorem nA:∀{l:List (Str×D)},(bD l n).isSome=true↔n∈l.map (·.1)
 |[]=>by simp[bD]
 |q::l=>by
  rw[cC,I4z,P4z]
  by_cases h:q.1=n
  .rw[T5z h];exact⟨λ_=>.inl h.symm,λ_=>rfl⟩
  .rw[U5z h,nA];exact⟨.inr,λz=>z.resolve_left λe=>h e.symm⟩
theorem fJ:∀{l:List (Str×D)},bD (c7 l n) x=if x=n then none else bD l x
 |[]=>by simp[bD,c7]
 |q::l=>by
  have ih:=@fJ l;unfold c7 at ih ⊢
  by_cases h:q.1=n
  .rw[I0z (by simpa using h),ih,cC]
   by_cases h2:x=n
   .rw[T5z h2,T5z h2]
   .rw[U5z h2,U5z h2,U5z (λz=>h2 (z.symm.trans h))]
  .rw[J0z (by simpa using h),cC,ih,cC]
   by_cases h2:x=n
   .rw[T5z h2,T5z h2,U5z (λz=>h (z.trans h2))]
   .rw[U5z h2,U5z h2]
theorem tH:∀{l:List (Str×D)},bD (l++[(n,t)]) x=match bD l x with
  |some d=>some d
  |none=>if n=x then some t else none
 |[]=>by rw[T3z,cC];rfl
 |q::l=>by
  rw[List.cons_append,cC,cC,tH]
  by_cases h:q.1=x
  .rw[T5z h,T5z h]
  .rw[U5z h,U5z h]
theorem oM:bD (c7 l n++[(n,t)]) x=if x=n then some t else bD l x:=by
 rw[tH,fJ]
 by_cases h:x=n
 .rw[T5z h,T5z h,T5z h.symm]
 .rw[U5z h,U5z h]
  cases bD l x with
  |none=>exact U5z λz=>h z.symm
  |some d=>rfl
theorem Aq:∀{l:List (Str×D)},bD (l.map λp=>if p.1=n then(p.1,t) else p) x=if x=n then(bD l x).map (λ_=>t) else bD l x
 |[]=>by simp[bD]
 |q::l=>by
  rw[I4z,cC,cC,Aq]
  by_cases h:q.1=n
  .rw[T5z h]
   by_cases h2:x=n
   .rw[T5z h2,T5z h2,T5z (h.trans h2.symm),T5z (h.trans h2.symm)];rfl
   .rw[U5z h2,U5z h2,U5z (λz=>h2 (z.symm.trans h)),U5z (λz=>h2 (z.symm.trans h))]
  .rw[U5z h]
   by_cases h2:x=n
   .rw[T5z h2,T5z h2,U5z (λz=>h (z.trans h2)),U5z (λz=>h (z.trans h2))]
   .rw[U5z h2,U5z h2]
theorem Ci:(l.any λp=>decide (p.1=n))=true↔n∈l.map (·.1):=by
 rw[List.any_eq_true,List.mem_map];exact⟨λ⟨q,h1,h2⟩=>⟨q,h1,P2z h2⟩,λ⟨q,h1,h2⟩=>⟨q,h1,C4z h2⟩⟩
theorem Ar:bD (pK l n t) x=if x=n then some t else bD l x:=by
 unfold pK
 by_cases h:(l.any λp=>decide (p.1=n))=true
 .rw[T5z h,Aq]
  by_cases h2:x=n
  .have:=nA.mpr (Ci.mp h)
   rw[h2];obtain⟨d,hd⟩:=Option.isSome_iff_exists.mp this;rw[hd];rfl
  .rw[U5z h2,U5z h2]
 .rw[U5z h,tH]
  by_cases h2:x=n
  .rw[T5z h2]
   have:bD l x=none:=by
    cases q:bD l x with
    |none=>rfl
    |some d=>exact absurd (Ci.mpr (h2▸nA.mp (by rw[q];rfl))) h
   rw[this];exact T5z h2.symm
  .rw[U5z h2]
   cases bD l x with
   |none=>exact U5z λz=>h2 z.symm
   |some d=>rfl
def Tb(t:D):Prop:=∃m q f,t=tbl m q f/\1<=m/\m<=4/\1<=q/\q<=4/\okT m q f=true
structure Keys(l:List (Str×D)):Prop where
 nd:(l.map (·.1)).Nodup
 nm:∀q∈l,q.1∈N4
 tb:∀q∈l,Tb q.2
theorem Keys.len(h:Keys l):l.length<=4:=by
 have:=zP h.nd λx hx=>by
  obtain⟨q,hq,rfl⟩:=List.mem_map.mp hx;exact h.nm q hq
 rw[K3z] at this;exact this
theorem Hy:∀{l:List (Str×D)}{d:D},bD l n=some d->(n,d)∈l
 |q::l,d,h=>by
  rw[cC] at h
  by_cases e:q.1=n
  .rw[T5z e] at h
   cases h;rw[<- e];exact N1z ..
  .rw[U5z e] at h
   exact X0z _ (Hy h)
theorem Keys.get(h:Keys l)(g:bD l n=some d):Tb d:=h.tb _ (Hy g)
theorem Keys.drop(h:Keys l):Keys (c7 l n):=⟨tQ h.nd,λq hq=>h.nm q (List.mem_filter.mp hq).1,λq hq=>h.tb q (List.mem_filter.mp hq).1⟩
theorem Keys.new(h:Keys l)(hn:n∈N4)(ht:Tb t):Keys (c7 l n++[(n,t)]):=by
 refine⟨Ij h.nd,λq hq=>?_,λq hq=>?_⟩
 .obtain hq|hq:=List.mem_append.mp hq
  .exact h.drop.nm q hq
  .rw[D2z] at hq;subst hq;exact hn
 .obtain hq|hq:=List.mem_append.mp hq
  .exact h.drop.tb q hq
  .rw[D2z] at hq;subst hq;exact ht
theorem Keys.put(h:Keys l)(hn:n∈N4)(ht:Tb t):Keys (pK l n t):=by
 unfold pK
 by_cases g:(l.any λp=>decide (p.1=n))=true
 .rw[T5z g]
  refine⟨?_,λq hq=>?_,λq hq=>?_⟩
  .rw[Z4z]
   have:((λx:Str×D=>x.1)∘λp:Str×D=>if p.1=n then(p.1,t) else p)=λp=>p.1:=by
    funext p;show(if p.1=n then(p.1,t) else p).1=p.1
    split<;>rfl
   rw[this];exact h.nd
  .obtain⟨p,hp,rfl⟩:=List.mem_map.mp hq
   split
   .exact h.nm p hp
   .exact h.nm p hp
  .obtain⟨p,hp,rfl⟩:=List.mem_map.mp hq
   split
   .exact ht
   .exact h.tb p hp
 .rw[U5z g]
  refine⟨?_,λq hq=>?_,λq hq=>?_⟩
  .rw[X3z,List.nodup_append]
   refine⟨h.nd,by simp,λa ha b hb z=>?_⟩
   have hb:b=n:=by simpa using hb
   exact g (Ci.mpr (by rw[<- hb,<- z];exact ha))
  .obtain hq|hq:=List.mem_append.mp hq
   .exact h.nm q hq
   .rw[D2z] at hq;subst hq;exact hn
  .obtain hq|hq:=List.mem_append.mp hq
   .exact h.tb q hq
   .rw[D2z] at hq;subst hq;exact ht
end
theorem Gf:cl f ds=aU T 60 34 f ds:=gQ.symm
theorem Ib:clx f ds=jr T 60 34 f ds:=kj.symm
theorem Bs(h:aU T 60 34 f ds=some d):clx f ds=none:=by
 rw[Ib,kj];rw[gQ] at h
 cases q:aR T 60 34 f ds with
 |none=>rfl
 |some r =>
  rw[q] at h
  cases r with
  |val d=>rfl
  |exc c=>cases h
section
variable{m n:Nat}{f g:Nat->Nat->Int}
theorem iB:okT m n f=true↔m<=4/\n<=4/\∀i j,i<m->j<n -> -99<=f i j/\f i j<=99:=by
 unfold okT within;rw[A3z,A3z,B2z,B2z,G3z];constructor
 .rintro⟨⟨h1,h2⟩,h3⟩
  refine⟨h1,h2,λi j hi hj=>?_⟩;have:=G3z.mp (h3 i (List.mem_range.mpr hi)) j (List.mem_range.mpr hj);simpa using this
 .rintro⟨h1,h2,h3⟩
  refine⟨⟨h1,h2⟩,λi hi=>G3z.mpr λj hj=>?_⟩;have:=h3 i j (List.mem_range.mp hi) (List.mem_range.mp hj);simpa using this
theorem Hq(h:okT m n f=true):Sm m n f:=λi j hi hj=>by
 have:=(iB.mp h).2.2 i j hi hj;unfold small;rw[C4z (by omega),C4z (by omega)];rfl
theorem Iw(h1:m<=4)(h2:n<=4):okT m n (Mr ns a)=true:=iB.mpr ⟨h1,h2,λi j _ _=>by
 have h1:=eE (ns:=ns) (k:=a+1+8*i+j) (many:=6+Ep (pickN ns a 4)) (by omega);have h2:=Ko (pickN ns a 4);unfold Mr
 omega⟩
end
structure J(i:Nat)(S:Cst)(kv:List (Str×D)):Prop where
 k:Keys kv
 s:Keys S.tabs
 e:∀n,bD S.tabs n=bD kv n
 d:S.don.length<=i
section
variable{S:Cst}{n:Str}{w:Str}{kv:List (Str×D)}{i:Nat}
theorem Bh(ht:Tb t)(hd:S.don.length<1000)(hl:S.tabs.length<1000):doS S w n t=some ⟨pK S.tabs n t,S.don++[dj w n ((bD S.tabs n).getD .non) t],[]⟩:=by
 obtain⟨m,q,f,rfl,_⟩:=ht;unfold doS;rw[T5z (C4z hd)];show(if decide (S.tabs.length<1000) then _ else none)=_;rw[T5z (C4z hl)]
theorem J.put(h:J i S kv)(hn:n∈N4)(ht:Tb t):J (i+1) ⟨pK S.tabs n t,S.don++[x],[]⟩ (c7 kv n++[(n,t)]) :=
 ⟨h.k.new hn ht,h.s.put hn ht,λy=>by rw[Ar,oM,h.e],by have:=h.d;simp;omega⟩
theorem J.same(h:J i S kv):J (i+1) S kv:=⟨h.k,h.s,h.e,Nat.le_succ_of_le h.d⟩
theorem Vg(hn:n∈N4):jw cl clx S [.str n]=match bD S.tabs n with
  |some d=>some (.inl d)
  |none=>some (.inr "NoName"):=by
 simp[jw,nd4 hn]<;>cases bD S.tabs n<;>rfl
def ov(kv:List (Str×D))(n:Str):D:=(bD kv n).getD .non
structure Ln(kv:List (Str×D))(n:Str)(kv':List (Str×D)):Prop where
 nm:n∈N4
 ot:∀y,y≠n->bD kv' y=bD kv y
 one:(bD kv n).isSome=true\/(bD kv' n).isSome=true
def noW:D:=.tup [.str "no name",.str "no fit"]
def Nx(S:Cst)(kv:List (Str×D))(dd due:D)(S':Cst)(kv':List (Str×D)):Prop:=(cmpop .NotIn due noW=some (.bl false)/\kv'=kv/\S'=S)\/(cmpop .NotIn due noW=some (.bl true)/\∃w n r,dd=.tup (.str w::r)/\Ln kv n kv'/\S'.don=S.don++[dj w n (ov kv n) (ov kv' n)]/\S'.und=[])
theorem Ka:Nx S kv dd (.str "no name") S kv:=.inl ⟨by rfl',rfl,rfl⟩
theorem Tg:Nx S kv dd (.str "no fit") S kv:=.inl ⟨by rfl',rfl,rfl⟩
theorem Kv(h:Tb t):cmpop .NotIn t noW=some (.bl true):=by
 obtain⟨m,q,f,rfl,_⟩:=h;show((if decide (dep (tbl m q f)<=50)&&fW (.str "") (tbl m q f) then some _ else none:Option Bool)).map _=_;rw[(C4z (T4z tY (by decide)))];rfl
theorem zM(h:J i S kv)(hn:n∈N4)(hd:cmpop .NotIn due noW=some (.bl true)):Nx S kv (.tup (.str w::r)) due ⟨pK S.tabs n t,S.don++[dj w n ((bD S.tabs n).getD .non) t],[]⟩ (c7 kv n++[(n,t)]):=by
 refine .inr ⟨hd,w,n,r,rfl,⟨hn,λy hy=>by rw[oM,U5z hy],.inr (by rw[oM,T5z rfl];rfl)⟩,?_,rfl⟩
 unfold ov;rw[h.e,oM,T5z rfl];rfl
def Rn(i:Nat)(S:Cst)(kv:List (Str×D))(dd:D):Prop:=∃kv' due S',aU T 60 36 "_law_behind" [cP kv,dd]=some (.tup [cP kv',due])/\(∀p,dF p S dd=some (p,due,S'))/\(dep due<=50/\fW due due=true)/\J (i+1) S' kv'/\Nx S kv dd due S' kv'
theorem nC(h:Tb t):dep t<=50:=by
 obtain⟨m,q,f,rfl,_⟩:=h;exact T4z tY (by decide)
theorem vJ(h:Tb t)(h':Tb t'):fW t t'=true:=by
 obtain⟨m,q,f,rfl,_⟩:=h;obtain⟨m',q',f',rfl,_⟩:=h';refine jq λa ha b hb=>?_;obtain⟨i,_,rfl⟩:=u5 ha;obtain⟨j,_,rfl⟩:=u5 hb;refine jq λa ha b hb=>?_;obtain⟨i,_,rfl⟩:=u5 ha;obtain⟨j,_,rfl⟩:=u5 hb;rfl
theorem Oa(h:J i S kv)(hi:i<100)(hn:n∈N4)(ht:Tb t):Rn i S kv (.tup [.str "put",.str n,t]):=by
 have l1:=h.k.len;have l2:=h.s.len;have l3:=h.d;refine⟨_,_,⟨pK S.tabs n t,S.don++[dj "put" n ((bD S.tabs n).getD .non) t],[]⟩,QF 35 h.k.nd (by omega),λp=>?_,⟨by simp[dep],rfl⟩,h.put hn ht,zM h hn (by cases bD kv n<;>rfl')⟩;rw[Li]
 have e:Km cl clx S [.str n,t]=some (.val (.bl (bD kv n).isSome) ⟨pK S.tabs n t,S.don++[dj "put" n ((bD S.tabs n).getD .non) t],[]⟩):=by
  have it:cl "is_table" [t]=some (.bl true):=by
   obtain⟨m,q,f,rfl,h1,h2,h3,h4,h5⟩:=ht;rw[Gf,<- h5];exact is_table 30 h1 (by omega) h3 (by omega)
  simp[Km,it,nd4 hn,Bh ht (show S.don.length<1000 by omega) (show S.tabs.length<1000 by omega),h.e,O3z]
 rw[e];rfl
theorem no4(h:bD kv n=none)(hJ:J i S kv)(hn:n∈N4):jw cl clx S [.str n]=some (.inr "NoName"):=by
 rw[Vg hn,hJ.e,h]
theorem Mp(h:bD kv n=some t)(hJ:J i S kv)(hn:n∈N4):jw cl clx S [.str n]=some (.inl t):=by
 rw[Vg hn,hJ.e,h]
theorem Jo(h:J i S kv)(hi:i<100)(hn:n∈N4):Rn i S kv (.tup [.str "take",.str n]):=by
 have l1:=h.k.len;have l3:=h.d
 cases g:bD kv n with
 |none =>
  refine⟨kv,_,S,BX 35 h.k.nd (by omega) rfl rfl g,λp=>?_,⟨by simp[dep],rfl⟩,h.same,Ka⟩;rw[vC]
  have e:lV cl clx S [.str n]=some (.exc "NoName"):=by
   simp[lV,no4 g h hn]
  rw[e];exact sE
 |some t =>
  refine⟨_,_,⟨c7 S.tabs n,S.don++[dj "take" n ((bD S.tabs n).getD .non) .non],[]⟩,LK 35 h.k.nd (by omega) g,λp=>?_,⟨nC (h.k.get g),vJ (h.k.get g) (h.k.get g)⟩,⟨h.k.drop,h.s.drop,λy=>by rw[fJ,fJ,h.e],by simp;omega⟩,.inr ⟨Kv (h.k.get g),"take",n,_,rfl,⟨hn,λy hy=>by rw[fJ,U5z hy],.inl (by rw[g];rfl)⟩,by
   unfold ov;rw[h.e,fJ,T5z rfl]
   rfl,rfl⟩⟩
  rw[vC]
  have e:lV cl clx S [.str n]=some (.val t ⟨c7 S.tabs n,S.don++[dj "take" n ((bD S.tabs n).getD .non) .non],[]⟩):=by
   simp only[lV,Mp g h hn];unfold doS;rw[T5z (C4z (by omega))];show(if(bD S.tabs n).isSome then some _ else none).map _=_;rw[h.e,g];rfl
  rw[e];rfl
def fnT:Bool->Str
 |true=>"turned"
 |false=>"flipped"
theorem Nk(h1:1<=m)(h2:m<=4)(h3:1<=q)(h4:q<=4)(h5:okT m q f=true):Tb (trn m q f b):=by
 have h6:=(iB.mp h5).2.2
 cases b with
 |true=>exact⟨q,m,_,rfl,h3,h4,h1,h2,iB.mpr ⟨h4,h2,λi j hi hj=>h6 j i hj hi⟩⟩
 |false=>exact⟨m,q,_,rfl,h1,h2,h3,h4,iB.mpr ⟨h2,h4,λi j hi hj=>h6 _ _ (by omega) (by omega)⟩⟩
theorem Nm(h1:1<=m)(h2:m<=4)(h3:1<=q)(h4:q<=4):aU T 60 34 (fnT b) [tbl m q f]=some (trn m q f b):=by
 cases b with
 |true=>exact turned 29 h1 h2 h3 h4
 |false=>exact flipped 29 h1 h2 h3 h4
theorem yS(h:J i S kv)(hi:i<100)(hn:n∈N4):Rn i S kv (.tup [.str (wT b),.str n]):=by
 have l1:=h.k.len;have l2:=h.s.len;have l3:=h.d
 have dd:∀p,dF p S (.tup [.str (wT b),.str n])=tell S ((fC cl clx (fnT b) (wT b) S [.str n]).map λo=>(p,o)):=λp=>by
  cases b with
  |true=>exact Ga
  |false=>exact Gb
 cases g:bD kv n with
 |none =>
  refine⟨kv,_,S,BX 35 h.k.nd (by omega) (by cases b<;>rfl) (by cases b<;>rfl) g,λp=>?_,⟨by simp[dep],rfl⟩,h.same,Ka⟩
  rw[dd]
  have e:fC cl clx (fnT b) (wT b) S [.str n]=some (.exc "NoName"):=by
   simp[fC,no4 g h hn]
  rw[e];exact sE
 |some t =>
  obtain⟨m,q,f,rfl,h1,h2,h3,h4,h5⟩:=h.k.get g;have ht:=Nk (b:=b) h1 h2 h3 h4 h5;have hc:=Nm (f:=f) (b:=b) h1 h2 h3 h4;refine⟨_,_,⟨pK S.tabs n (trn m q f b),S.don++[dj (wT b) n ((bD S.tabs n).getD .non) (trn m q f b)],[]⟩,LC 35 h1 h2 h3 h4 h.k.nd (by omega) g,λp=>?_,⟨nC ht,vJ ht ht⟩,h.put hn ht,zM h hn (Kv ht)⟩;rw[dd]
  have e:fC cl clx (fnT b) (wT b) S [.str n]=some (.val (trn m q f b) ⟨pK S.tabs n (trn m q f b),S.don++[dj (wT b) n ((bD S.tabs n).getD .non) (trn m q f b)],[]⟩):=by
   simp[fC,Mp g h hn,doF,Bs hc];rw[Gf,hc];simp[Bh ht (show S.don.length<1000 by omega) (show S.tabs.length<1000 by omega),O3z]
  rw[e];rfl
theorem Jp(h:J i S kv)(hi:i<100)(hn:n∈N4)(ha:a∈N4)(hb:b∈N4)(hv:v<4):Rn i S kv (.tup [.str "join",.str n,.str (wdN v),.str a,.str b]):=by
 have l1:=h.k.len;have l2:=h.s.len;have l3:=h.d
 have none_case:bD kv a=none\/bD kv b=none->Rn i S kv (.tup [.str "join",.str n,.str (wdN v),.str a,.str b]):=λg=>by
  refine⟨kv,_,S,QG 35 h.k.nd (by omega) g,λp=>?_,⟨by simp[dep],rfl⟩,h.same,Ka⟩;rw[oW]
  have e:mV cl clx S [.str n,.str (wdN v),.str a,.str b]=some (.exc "NoName"):=by
   cases ga:bD kv a with
   |none=>simp[mV,nd4 hn,no4 ga h ha]
   |some x=>simp[mV,nd4 hn,Mp ga h ha,no4 (g.resolve_left (by rw[ga];simp)) h hb]
  rw[e];exact sE
 cases ga:bD kv a with
 |none=>exact none_case (.inl ga)
 |some x =>
  cases gb:bD kv b with
  |none=>exact none_case (.inr gb)
  |some y =>
   obtain⟨m,q,f,rfl,h1,h2,h3,h4,h5⟩:=h.k.get ga;obtain⟨m',q',f',rfl,g1,g2,g3,g4,g5⟩:=h.k.get gb;have lm:=Eu 30 (g:=f') hv h1 h2 h3 h4 g1 g2 g3 g4 (Hq h5)
   have ej:mV cl clx S [.str n,.str (wdN v),.str a,.str b]=jO cl clx S (.str n) (tbl m q f) (tbl m' q' f') (.str (wdN v)):=by
    simp[mV,nd4 hn,Mp ga h ha,Mp gb h hb]
   have nofit:(HD v m q m' q'&&okT (jM v m m') (jN v q q') (jF v m q f f'))=false->jO cl clx S (.str n) (tbl m q f) (tbl m' q' f') (.str (wdN v))=some (.exc "NoFit")->Rn i S kv (.tup [.str "join",.str n,.str (wdN v),.str a,.str b]):=λe1 e2=>by
    rw[e1] at lm;refine⟨kv,_,S,QH 35 h.k.nd (by omega) ga gb lm,λp=>?_,⟨by simp[dep],rfl⟩,h.same,Tg⟩;rw[oW,ej,e2];exact Iu
   by_cases sz:HD v m q m' q'=true/\jM v m m'<=4/\jN v q q'<=4
   .obtain⟨z1,z2,z3⟩:=sz
    have jo:=Ae 26 (g:=f') hv h1 h2 h3 h4 g1 g2 g3 g4 (Hq h5) z1 z2 z3
    have k1:1<=jM v m m':=by unfold jM;split<;>omega
    have k3:1<=jN v q q':=by unfold jN;split<;>omega
    have it:cl "is_table" [tbl (jM v m m') (jN v q q') (jF v m q f f')]=some (.bl (okT (jM v m m') (jN v q q') (jF v m q f f'))):=by
     rw[Gf];exact is_table 30 k1 (by omega) k3 (by omega)
    have cj:cl "joined" [.str (wdN v),tbl m q f,tbl m' q' f']=some (tbl (jM v m m') (jN v q q') (jF v m q f f')):=by rw[Gf];exact jo
    cases ok:okT (jM v m m') (jN v q q') (jF v m q f f') with
    |false =>
     rw[ok] at it;exact nofit (by rw[ok,F4z]) (by simp[jO,Bs jo,cj,it])
    |true =>
     rw[ok] at it;have ht:Tb (tbl (jM v m m') (jN v q q') (jF v m q f f')):=⟨_,_,_,rfl,k1,z2,k3,z3,ok⟩;rw[z1,ok] at lm;refine⟨_,_,⟨pK S.tabs n (tbl (jM v m m') (jN v q q') (jF v m q f f')),S.don++[dj "join" n ((bD S.tabs n).getD .non) (tbl (jM v m m') (jN v q q') (jF v m q f f'))],[]⟩,LQ 35 h.k.nd (by omega) ga gb lm,λp=>?_,⟨nC ht,vJ ht ht⟩,h.put hn ht,zM h hn (Kv ht)⟩;rw[oW,ej]
     have e:jO cl clx S (.str n) (tbl m q f) (tbl m' q' f') (.str (wdN v))=some (.val (tbl (jM v m m') (jN v q q') (jF v m q f f')) ⟨pK S.tabs n (tbl (jM v m m') (jN v q q') (jF v m q f f')),S.don++[dj "join" n ((bD S.tabs n).getD .non) (tbl (jM v m m') (jN v q q') (jF v m q f f'))],[]⟩):=by
      simp[jO,Bs jo,cj,it,Bh ht (show S.don.length<1000 by omega) (show S.tabs.length<1000 by omega),O3z]
     rw[e];rfl
   .have hno:HD v m q m' q'=false\/4<jM v m m'\/4<jN v q q':=by
     cases z:HD v m q m' q' with
     |false=>exact .inl rfl
     |true =>
      right
      by_cases z2:jM v m m'<=4
      .exact .inr (Nat.lt_of_not_le λz3=>sz ⟨z,z2,z3⟩)
      .exact .inl (Nat.lt_of_not_le z2)
    refine nofit ?_ ?_
    .rcases hno with z|z|z
     .rw[z];rfl
     .rw[U0z]
      right
      cases ok:okT (jM v m m') (jN v q q') (jF v m q f f') with
      |false=>rfl
      |true=>exact absurd (iB.mp ok).1 (by omega)
     .rw[U0z]
      right
      cases ok:okT (jM v m m') (jN v q q') (jF v m q f f') with
      |false=>rfl
      |true=>exact absurd (iB.mp ok).2.1 (by omega)
    .have:clx "joined" [.str (wdN v),tbl m q f,tbl m' q' f']=some ("NoFit":Str):=by rw[Ib];exact(Af 26 (f:=f) (g:=f') hv h1 h2 h3 h4 g1 g2 g3 g4 hno).1
     simp[jO,this]
theorem G5(h:J i S kv)(hi:i<100):Rn i S kv (qQ ns a):=by
 unfold qQ;have p2:pickN ns (a+2) 3<3:=eE (by omega);have p3:pickN ns (a+3) 3<3:=eE (by omega);split
 .exact Oa h hi sO ⟨_,_,_,rfl,by omega,by omega,by omega,by omega,Iw (by omega) (by omega)⟩
 .split
  .have:∀j,j<3->Rn i S kv (.tup [.str (tkN j),.str (nmN (pickN ns a 4))]):=λj hj=>by
    match j,hj with
    |0,_=>exact Jo h hi sO
    |1,_=>exact yS (b:=true) h hi sO
    |2,_=>exact yS (b:=false) h hi sO
   exact this _ (by omega)
  .exact Jp h hi sO sO sO (eE (by omega))
end
abbrev aF:Cst->List D->Option (Sum D Str):=Rc cl clx
section
variable{S:Cst}{kv:List (Str×D)}{i:Nat}
theorem TY(h:J i S kv):N4.filter (S.tabs.map (·.1)).contains=N4.filter (kv.map (·.1)).contains:=by
 refine List.filter_congr λx _=>?_;rw[Bool.eq_iff_iff,List.contains_iff_mem,List.contains_iff_mem,<- nA,<- nA,h.e]
theorem Keys.srt(h:Keys l):GR (l.map (·.1))=some (N4.filter (l.map (·.1)).contains)/\(N4.filter (l.map (·.1)).contains).length=l.length:=by
 have:=Wr h.nd λx hx=>by
  obtain⟨q,hq,rfl⟩:=List.mem_map.mp hx;exact h.nm q hq
 rw[K3z] at this;exact this
def nms(kv:List (Str×D)):List Str:=N4.filter (kv.map (·.1)).contains
theorem Eh(h:J i S kv):jL S []=some (.inl (.lst ((nms kv).map .str))):=by
 have l:=h.s.len;have e:decide (S.tabs.length<64)=true:=C4z (by omega);simp[jL,e,h.s.srt.1];rw[TY h];rfl
def vl(kv:List (Str×D))(n:Str):D:=(bD kv n).getD .non
theorem uW(h:n∈nms kv):n∈N4/\bD kv n=some (vl kv n):=by
 obtain⟨h1,h2⟩:=List.mem_filter.mp h;refine⟨h1,?_⟩;have:=nA.mpr (List.contains_iff_mem.mp h2);obtain⟨d,hd⟩:=Option.isSome_iff_exists.mp this;unfold vl;rw[hd];rfl
theorem Pk:(nms kv).Nodup:=List.Nodup.sublist List.filter_sublist (by decide +kernel)
def alK(kv:List (Str×D)):List (Str×D):=(nms kv).map λn=>(n,vl kv n)
theorem QL(h:J i S kv):aF S []=some (.inl (cP (alK kv))):=by
 have l:=h.k.len;have hl:(nms kv).length=kv.length:=h.k.srt.2;have e1:szl ((nms kv).map D.str).length=true:=Dd (by rw[K3z];omega)
 have e2:bU (λd=>(Np cl clx S d).map some) ((nms kv).map .str)=some (prK (alK kv)):=by
  unfold prK alK;rw[Z4z];refine qU λn hn=>?_;obtain⟨h1,h2⟩:=uW hn;simp only[Np,Mp h2 h h1];rfl
 have e3:(alK kv).map (·.1)=nms kv:=by
  unfold alK;rw[Z4z];exact G5z _
 simp only[Rc,Eh h,e1,e2,F3z,zE,O3z];rw[Vr (by rw[e3];exact Pk)];unfold oX cP;rw[Z4z,Z4z];rfl
theorem Ut(h:J i S kv):Bl ((alK kv).map λq=>.inr q.1) ((alK kv).map (·.2)) (kv.map λq=>.inr q.1) (kv.map (·.2))=true:=by
 have hl:(nms kv).length=kv.length:=h.k.srt.2;unfold Bl;rw[K3z,K3z,show(alK kv).length=kv.length by unfold alK;rw[K3z,hl]]
 have key:∀(l:List Str),(∀n∈l,n∈nms kv)->tX (kv.map λq=>.inr q.1) (kv.map (·.2)) ((l.map λn=>(n,vl kv n)).map λq=>.inr q.1) ((l.map λn=>(n,vl kv n)).map (·.2))=true:=by
  intro l
  induction l with
  |nil=>intro _;rfl
  |cons n l ih =>
   intro hn;obtain⟨h1,h2⟩:=uW (hn n (N1z ..));have:=nC (h.k.get h2)
   show((match kO (kv.map λq=>.inr q.1) (kv.map (·.2)) (.inr n) with
    |some d'=>deq (vl kv n) d'
    | none=>false)&&tX _ _ _ _)=true
   rw[Q6,h2,ih λx hx=>hn x (X0z _ hx)];show(deq (vl kv n) (vl kv n)&&true)=true;rw[j9 _ (by omega)];rfl
 rw[show((alK kv).map λq=>(Sum.inr q.1:Sum Int Str))=((nms kv).map λn=>(n,vl kv n)).map λq=>.inr q.1 from rfl];rw[show(alK kv).map (·.2)=((nms kv).map λn=>(n,vl kv n)).map (·.2) from rfl,key _ λn hn=>hn];simp
theorem QM(h:J i S kv):∀d∈(alK kv).map (·.2),dep d<=50:=λd hd=>by
 obtain⟨q,hq,rfl⟩:=List.mem_map.mp hd;obtain⟨n,hn,rfl⟩:=List.mem_map.mp hq;exact nC (h.k.get (uW hn).2)
theorem Ro(h:J i S kv):∀d∈(alK kv).map (·.2),∀d'∈kv.map (·.2),fW d d'=true:=λd hd d' hd'=>by
 obtain⟨q,hq,rfl⟩:=List.mem_map.mp hd;obtain⟨n,hn,rfl⟩:=List.mem_map.mp hq;obtain⟨q,hq,rfl⟩:=List.mem_map.mp hd';exact vJ (h.k.get (uW hn).2) (h.k.tb q hq)
theorem PL(h:J i S kv):∀d∈kv.map (·.2),dep d<=50:=λd hd=>by
 obtain⟨q,hq,rfl⟩:=List.mem_map.mp hd;exact nC (h.k.tb q hq)
end
abbrev KV:=List (Str×D)
set_option genInjectivity true in
inductive Pa:List KV->List Str->List D->KV->Prop
 |nil {kv:KV}:Pa [] [] [] kv
 |snoc {R:List KV} {W:List Str} {l:List D} {kv kv':KV} {n w:Str}:Pa R W l kv->Keys kv->Ln kv n kv'->Pa (R++[kv]) (W++[w]) (l++[dj w n (ov kv n) (ov kv' n)]) kv'
set_option genInjectivity true in
inductive Fu:KV->List KV->List Str->List D->Prop
 |nil {kv:KV}:Fu kv [] [] []
 |cons {R:List KV} {W:List Str} {l:List D} {kv kv':KV} {n w:Str}:Fu kv' R W l->Keys kv'->Ln kv n kv'->Fu kv (kv'::R) (w::W) (l++[dj w n (ov kv n) (ov kv' n)])
theorem Pa.len(h:Pa R W l kv):R.length=W.length/\l.length=W.length:=by
 induction h with
 |nil=>exact⟨rfl,rfl⟩
 |snoc _ _ _ ih=>simp[ih.1,ih.2]
theorem Fu.len(h:Fu kv R W l):R.length=W.length/\l.length=W.length:=by
 induction h with
 |nil=>exact⟨rfl,rfl⟩
 |cons _ _ _ ih=>simp[ih.1,ih.2]
structure Z(i:Nat)(S:Cst)(Rp Rf:List KV)(Wp Wf:List Str)(kv:KV):Prop where
 p:Pa Rp Wp S.don kv
 f:Fu kv Rf Wf S.und
 j:J i S kv
 l:Wp.length+Wf.length<=i
section
variable{S:Cst}{kv kv' k1:KV}{i:Nat}{n w:Str}{Rp Rf:List KV}{Wp Wf:List Str}{d u:List D}
theorem GZ(h1:Keys k1)(hs:Keys S.tabs)(he:∀y,bD S.tabs y=bD kv y)(hn:n∈N4)(ot:∀y,y≠n->bD kv y=bD k1 y)(one:(bD k1 n).isSome=true\/(bD kv n).isSome=true):∃tb,nY S n (ov k1 n)=some {S with tabs:=tb}/\Keys tb/\∀y,bD tb y=bD k1 y:=by
 have l:=hs.len
 cases g:bD k1 n with
 |none =>
  refine⟨c7 S.tabs n,?_,hs.drop,λy=>?_⟩
  .unfold ov
   rw[g];show(if(bD S.tabs n).isSome then some _ else none)=_;rw[he,(one.resolve_left (by rw[g];simp))];rfl
  .rw[fJ]
   by_cases e:y=n
   .rw[T5z e,e,g]
   .rw[U5z e,he,ot y e]
 |some t =>
  have ht:=h1.get g;refine⟨pK S.tabs n t,?_,hs.put hn ht,λy=>?_⟩
  .unfold ov
   rw[g];obtain⟨m,q,f,rfl,_⟩:=ht;show(if decide (S.tabs.length<1000) then some _ else none)=_;rw[T5z (C4z (by omega))];rfl
  .rw[Ar]
   by_cases e:y=n
   .rw[T5z e,e,g]
   .rw[U5z e,he,ot y e]
theorem ux:undo (d++[dj w n o t])=some (d,w,n,o,t):=by
 unfold undo;rw[List.getLast?_concat,List.dropLast_concat];rfl
theorem Uy(h:Z i S Rp Rf [] Wf kv):jd S []=some (.exc "NoBack"):=by
 simp only[jd,(List.length_eq_zero_iff.mp h.p.len.2)]
theorem bk(h:Z i S Rp Rf (Wp++[w]) Wf kv)(hi:i<100):∃S' R k1,Rp=R++[k1]/\jd S []=some (.val (.str w) S')/\Z (i+1) S' R (kv::Rf) Wp (w::Wf) k1:=by
 obtain⟨p,f,j,l⟩:=h;have lu:=f.len.2;rw[T1z] at l;generalize hW:Wp++[w]=W at p;generalize hd:S.don=dn at p
 cases p with
 |nil=>simp at hW
 |snoc p0 hk L =>
  rename_i R0 W0 l0 k0 n0 w0;obtain⟨e1,e2⟩:=List.append_inj' hW rfl;cases e1;cases e2;have lp:=p0.len;obtain⟨tb,q1,q2,q3⟩:=GZ (S:={S with don:=l0,und:=S.und++[dj w n0 (ov k0 n0) (ov kv n0)]}) hk j.s j.e L.nm L.ot L.one;refine⟨⟨tb,l0,S.und++[dj w n0 (ov k0 n0) (ov kv n0)]⟩,R0,k0,rfl,?_,⟨p0,f.cons j.k L,⟨hk,q2,q3,?_⟩,?_⟩⟩
  .simp only[jd]
   split
   .rename_i e;exact absurd e (by rw[hd];simp)
   .rw[T5z (C4z (by omega)),hd,ux]
    show(nY _ n0 (ov k0 n0)).map _=_;rw[q1];rfl
  .show l0.length<=i+1
   omega
  .simp;omega
theorem fo(h:Z i S Rp Rf Wp (w::Wf) kv)(hi:i<100):∃S' R k1,Rf=k1::R/\jc S []=some (.val (.str w) S')/\Z (i+1) S' (Rp++[kv]) R (Wp++[w]) Wf k1:=by
 obtain⟨p,f,j,l⟩:=h;have lp:=p.len.2;rw[S2z] at l;generalize hW:w::Wf=W at f;generalize hd:S.und=dn at f
 cases f with
 |nil=>simp at hW
 |cons f0 hk L =>
  rename_i R0 W0 l0 k0 n0 w0;cases hW;obtain⟨tb,q1,q2,q3⟩:=GZ (S:={S with und:=l0,don:=S.don++[dj w n0 (ov kv n0) (ov k0 n0)]}) hk j.s j.e L.nm (λy hy=>(L.ot y hy).symm) L.one.symm;refine⟨⟨tb,S.don++[dj w n0 (ov kv n0) (ov k0 n0)],l0⟩,R0,k0,rfl,?_,⟨p.snoc j.k L,f0,⟨hk,q2,q3,?_⟩,?_⟩⟩
  .simp only[jc]
   split
   .rename_i e;exact absurd e (by rw[hd];simp)
   .rw[T5z (C4z (by omega)),hd,ux]
    show(nY _ n0 (ov k0 n0)).map _=_;rw[q1];rfl
  .rw[T1z,Q0z];omega
  .simp;omega
end
abbrev bdy:List Stmt:=(cG (top 56)).body
abbrev lSc:Scope:=(cG (top 56)).sc
def nE:Expr:=.Name "" ⟨0,0,0,0⟩
def eK:Stmt->List Expr
 |.If c _ _ _=>[c]
 |.Assign [t] v _=>[t,v]
 |.For t i _ _ _=>[t,i]
 |.Return (some e) _=>[e]
 |.Expr e _=>[e]
 |_=>[]
def kid:Expr->List Expr
 |.Compare a _ [b] _=>[a,b]
 |.BoolOp _ [a,b] _=>[a,b]
 |.Tuple l _ _=>l
 |_=>[]
def k0(s:Stmt):Expr:=(eK s).getD 0 nE
def k1(s:Stmt):Expr:=(eK s).getD 1 nE
def s(k:Nat):Stmt:=bdy.getD k pss
def lA(k:Nat):Stmt:=(vo (s 3)).getD k pss
def lO(k:Nat):Stmt:=(vo (s 10)).getD k pss
def lB(k:Nat):Stmt:=(vo (lO 0)).getD k pss
def lC(k:Nat):Stmt:=(vo (lO 2)).getD k pss
def LW:LawX where
 cn:="_law_case"
 kn:="_law_rows"
 e2:=(kid (k1 (s 0))).getD 1 nE
 rest:=bdy.drop 1
 kt:=0
 k2:=0
 r1:=⟨286,4,286,13⟩
 r2:=⟨286,15,286,24⟩
 r3:=⟨286,4,286,24⟩
 r4:=⟨286,28,286,32⟩
 r5:=⟨286,28,286,34⟩
 r7:=⟨286,27,286,89⟩
 r8:=⟨286,4,286,89⟩
theorem Ly:bdy=LW.body:=by rfl'
theorem Sg:LW.rest=[s 1,s 2,s 3,s 4,s 5,s 6,s 7,s 8,s 9,s 10,s 11]:=by rfl'
def RS(ns:List Int)(p:Addr)(R:List KV)(k dd kn du mn ot ro a he co on:Sl):Rho:=[("_law_script",.sh (scr ns)),("_law_case",.sh (.obj p)),("_law_rows",.sh (.lst (R.map cP))),("_law_k",k),("_law_deed_here",dd),("_law_known",kn),("_law_due",du),("_law_many",mn),("_law_other",ot),("_law_rounds",ro),("_law_at",a),("_law_here",he),("_law_count",co),("_law_one",on)]
structure Cm(k dd kn du mn ot ro a he co on:Sl):Prop where
 a1:nOw k=true
 a2:nOw dd=true
 a3:nOw kn=true
 a4:nOw du=true
 a5:nOw mn=true
 a6:nOw ot=true
 a7:nOw ro=true
 a8:nOw a=true
 a9:nOw he=true
 b1:nOw co=true
 b2:nOw on=true
def tA:D:=.tup [.tup [.int 1]]
def tB:D:=.tup [.tup [.int 2,.int 3]]
def kA:KV:=[("a",tA)]
def kB:KV:=[("a",tA),("b",tB)]
def S1:Cst:=⟨kA,[dj "put" "a" .non tA],[]⟩
def S2:Cst:=⟨kB,[dj "put" "a" .non tA,dj "put" "b" .non tB],[]⟩
section
variable{ns:List Int}{R:List KV}{p:Addr}{k dd kn du mn ot ro a he co on:Sl}{S:Cst}
theorem RS.calm(h:Cm k dd kn du mn ot ro a he co on):mJ (RS ns p R k dd kn du mn ot ro a he co on)=true:=eO rfl (eO rfl (eO rfl (eO h.a1 (eO h.a2 (eO h.a3 (eO h.a4 (eO h.a5 (eO h.a6 (eO h.a7 (eO h.a8 (eO h.a9 (eO h.b1 (eO h.b2 rfl)))))))))))))
theorem nmR:(RS ns p R k dd kn du mn ot ro a he co on).map (·.1)=(cG (top 56)).N:=by rfl'
theorem Q8:fL (fL (bx (cG (top 56)) [scr ns]) LW.cn (.sh (.obj p))) LW.kn (.sh (.lst ([[],kA,kB].map cP)))=RS ns p [[],kA,kB] .no .no .no .no .no .no .no .no .no .no .no:=by rfl'
theorem Ur:ev cx0 60 lSc (bx (cG (top 56)) [scr ns]) LW.e2=some (.lst ([[],kA,kB].map cP)):=by rfl'
theorem put1:xG cx0 ms 60 lSc (RS ns p R k dd kn du mn ot ro a he co on) ⟨[],[],[]⟩ (k0 (s 1))=some (p,.val (.bl false) S1):=by rfl'
theorem put2:xG cx0 ms 60 lSc (RS ns p R k dd kn du mn ot ro a he co on) S1 (k0 (s 2))=some (p,.val (.bl false) S2):=by rfl'
theorem UW:xG cx0 ms 60 lSc (RS ns p R k dd kn du mn ot ro a he co on) S (k0 (s 5))=(jd S []).map λo=>(p,o):=by rfl'
theorem UL:xG cx0 ms 60 lSc (RS ns p R k dd kn du mn ot ro a he co on) S (k0 (s 6))=(jd S []).map λo=>(p,o):=by rfl'
theorem tb1:Tb tA:=⟨1,1,λ_ _=>1,rfl,by decide,by decide,by decide,by decide,by decide +kernel⟩
theorem tb2:Tb tB:=⟨1,2,λ_ j=>(j:Int)+2,rfl,by decide,by decide,by decide,by decide,by decide +kernel⟩
theorem Ub:Keys []:=⟨.nil,(λq h=>nomatch h),(λq h=>nomatch h)⟩
theorem Ua:Keys kA:=⟨by decide +kernel,by
 intro q h;cases D2z.mp h
 decide +kernel,by
 intro q h;cases D2z.mp h
 exact tb1⟩
theorem PN:Keys kB:=⟨by decide +kernel,by
 intro q h;obtain rfl|h:=P4z.mp h
 .decide +kernel
 .cases D2z.mp h
  decide +kernel,by
 intro q h;obtain rfl|h:=P4z.mp h
 .exact tb1
 .cases D2z.mp h
  exact tb2⟩
theorem ln1:Ln [] "a" kA:=by
 refine⟨by decide +kernel,λy hy=>?_,.inr rfl⟩;show bD [("a",tA)] y=bD [] y;rw[cC,U5z (λz=>hy z.symm)]
theorem ln2:Ln kA "b" kB:=by
 refine⟨by decide +kernel,λy hy=>?_,.inr rfl⟩;show bD [("a",tA),("b",tB)] y=bD [("a",tA)] y;rw[cC,cC,cC]
 by_cases q:("a":Str)=y
 .rw[T5z q,T5z q]
 .rw[U5z q,U5z q,U5z (λz=>hy z.symm)]
theorem VD:([]++[dj "put" "a" (ov [] "a") (ov kA "a")])++[dj "put" "b" (ov kA "b") (ov kB "b")]=S2.don:=by rfl'
theorem z2:Z 2 S2 [[],kA] [] ["put","put"] [] kB:=by
 refine⟨?_,.nil,⟨PN,PN,λn=>rfl,B5z _⟩,B5z _⟩;have:=Pa.snoc (w:="put") (Pa.snoc (w:="put") (.nil) Ub ln1) Ua ln2;exact this
end
abbrev GT(X:Cx)(pt pL:Addr×Str)(C:Addr):Prop:=GoodT T 60 36 pt pL C X lSc LP ms "_law_did" "_law_all_of" dF aF
structure Lx(X:Cx)(C:Addr)(pt:Addr×Str)(W:Wm)(c:Cw)(get:W.τ->Cst)(set:W.τ->Cst->W.τ):Prop where
 l:Lns X.K C pt W c get set
 gs:∀t S,get (set t S)=S
 ss:∀t S S',set (set t S) S'=set t S'
 sg:∀t,set t (get t)=t
theorem Bp:cx0=cxN T 60 36:=Gd
theorem Rj(hk:k=-((B.length:Int)+1)):atD ((A++x::B).map f) k=some (f x):=by
 unfold atD ixD;rw[U5z (by omega),T5z (by rw[K3z,T1z,S2z];omega)]
 have e:(k+((A++x::B).map f).length).toNat=A.length:=by rw[K3z,T1z,S2z];omega
 rw[e];simp
section
variable{ns:List Int}{R Rp:List KV}{Wp:List Str}{p:Addr}{k dd kn du mn ot ro a he co on:Sl}{S:Cst}{kv kv':KV}{due d:D}{i:Nat}
theorem goA(h:Cm k dd kn du mn ot ro a he co on)(hb:aU T 60 36 "_law_behind" [cP kv,qQ ns (1000+60*i)]=some (.tup [cP kv',due])):lq (λU s=>DE.st cx0 60 60 lSc U s) [lA 0,lA 1] (RS ns p (Rp++[kv]) (.sh (.int i)) dd kn du mn ot ro a he co on)=some (.nxt (RS ns p (Rp++[kv]) (.sh (.int i)) (.sh (qQ ns (1000+60*i))) (.sh (cP kv')) (.sh due) mn ot ro a he co on)):=by
 rw[Bp]
 exact pD (RS.calm {h with a1:=rfl}) rfl rfl (aX rfl (aG (xName rfl) (aG (jX (dR (bZ rfl) (dR (bZ rfl) (xName rfl) (Gj (.inl rfl))) rfl) (congrArg D.int (by omega))) cT)) (deed 32))
  (Ux (RS.calm {h with a1:=rfl,a2:=rfl}) rfl (aX rfl (aG (xIx (xName rfl) (Mq (bZ rfl)) rfl (Rj rfl)) (aG (xName rfl) cT)) hb) rfl rfl rfl)
theorem goR(t:Bool)(h:Cm k dd kn du mn ot ro a he co on)(l1:Rp.length<1000)(hd:cmpop .NotIn due noW=some (.bl t)):lq (λU s=>DE.st cx0 60 60 lSc U s) [lA 3] (RS ns p (Rp++[kv]) k dd (.sh (cP kv')) (.sh due) mn ot ro a he co on)=some (.nxt (RS ns p (bif t then(Rp++[kv])++[kv'] else Rp++[kv]) k dd (.sh (cP kv')) (.sh due) mn ot ro a he co on)):=by
 have hm:binop .Mult (.lst [cP kv']) (.int (b2i t))=some (.lst (bif t then[cP kv'] else[])):=by cases t<;>rfl
 have ha:binop .Add (.lst ((Rp++[kv]).map cP)) (.lst (bif t then[cP kv'] else[]))=some (.lst ((bif t then(Rp++[kv])++[kv'] else Rp++[kv]).map cP)):=by
  unfold binop;simp only;rw[T5z (Dd (by cases t<;>simp<;>omega))]
  cases t<;>simp
 exact pD (RS.calm {h with a3:=rfl,a4:=rfl}) rfl rfl (dR (xName rfl) (dR (QZ (aG (xName rfl) cT) rfl) (iH rfl rfl rfl (aG (bC (xName rfl) (jW (aG (bZ rfl) (aG (bZ rfl) cT)) rfl) hd) cT) rfl) hm) ha) rfl
theorem goM(h:Cm k dd kn du mn ot ro a he co on)(e:Rp.length=Wp.length):lq (λU s=>DE.st cx0 60 60 lSc U s) [s 4] (RS ns p (Rp++[kv]) k dd kn du mn ot ro a he co on)=some (.nxt (RS ns p (Rp++[kv]) k dd kn du (.sh (.int (Wp.length:Int))) ot ro a he co on)) :=
 pD (RS.calm h) rfl rfl (jX (dR (iH rfl rfl rfl (aG (xName rfl) cT) rfl) (bZ rfl) rfl) (congrArg D.int (by rw[K3z,T1z,Q0z];omega))) rfl
theorem Uz:d9 lSc (k0 (s 3)) x (RS ns p R k dd kn du mn ot ro a he co on)=some (RS ns p R (.sh x) dd kn du mn ot ro a he co on):=by rfl'
variable{X:Cx}{W:Wm}{pt pL:Addr×Str}{C:Addr}{c:Cw}{get:W.τ->Cst}{set:W.τ->Cst->W.τ}{t:W.τ}{RR:VK->Prop}{rest:List Stmt}{Φ:W.τ->Rho->Prop}
theorem Tv(G:GT X pt pL C)(hN:X.N=(cG (top 56)).N)(L:Lx X C pt W c get set)(h:Cm k dd kn du mn ot ro a he co on)(h0:get t=S2)
  (g:∀t' Rp Wp kv k dd kn du,Cm k dd kn du mn ot ro a he co on->(∃S,t'=set t S)->Z 10 (get t') Rp [] Wp [] kv->2<=Wp.length->(Rp++[kv]).head?=some []->Go X W RR rest t' (RS ns c.p (Rp++[kv]) k dd kn du mn ot ro a he co on) Φ):Go X W RR (s 3::rest) t (RS ns c.p [[],kA,kB] k dd kn du mn ot ro a he co on) Φ:=by
 refine Go.for (l:=f9 0 8) (I:=λi t' U=>∃Rp Wp kv k dd kn du,U=RS ns c.p (Rp++[kv]) k dd kn du mn ot ro a he co on/\Cm k dd kn du mn ot ro a he co on/\(∃S,t'=set t S)/\Z (i+2) (get t') Rp [] Wp [] kv/\2<=Wp.length/\(Rp++[kv]).head?=some []) G (hN.trans nmR.symm) rfl ⟨[[],kA],["put","put"],kB,_,_,_,_,rfl,h,⟨get t,(L.sg t).symm⟩,by rw[h0];exact z2,by decide,rfl⟩ (λi x hx t' U n q=>?_) λt' U n q=>?_
 .obtain⟨Rp,Wp,kv,k,dd,kn,du,rfl,h,⟨S,rfl⟩,z,l2,hh⟩:=q
  rw[show(8:Int)=((8:Nat):Int) from rfl,lE] at hx
  have hi:i<8:=by
   have:=(List.getElem?_eq_some_iff.mp hx).1
   rwa [bQ] at this
  rw[eV hi] at hx;cases hx;refine⟨_,Uz,λhN1=>?_⟩;rw[L.gs] at z;obtain⟨kv',due,S',h1,h2,h3,h4,h9⟩:=G5 z.j (by omega);have e:=z.p.len.1;have ll:=z.l;refine Go.pre G hN1 (goA h h1) λhN2=>?_;refine Go.did G hN2 L.l (xName rfl) (xName rfl) (by rw[L.gs];exact h2 c.p) ?_;rw[L.ss];obtain⟨q1,rfl,rfl⟩|⟨q1,w,n,r,q2,q3,q4,q5⟩:=h9
  .exact Go.pre G hN2 (goR false {h with a1:=rfl,a2:=rfl} (by omega) q1) λhN3=>.nil hN3 ⟨Rp,Wp,kv',_,_,_,_,rfl,{h with a1:=rfl,a2:=rfl,a3:=rfl,a4:=rfl},⟨_,rfl⟩,by rw[L.gs];exact⟨z.p,z.f,h4,by omega⟩,l2,hh⟩
  .refine Go.pre G hN2 (goR true {h with a1:=rfl,a2:=rfl} (by omega) q1) λhN3=>.nil hN3 ⟨Rp++[kv],Wp++[w],kv',_,_,_,_,rfl,{h with a1:=rfl,a2:=rfl,a3:=rfl,a4:=rfl},⟨_,rfl⟩,?_,by simp;omega,?_⟩
   .rw[L.gs]
    refine⟨?_,?_,h4,?_⟩
    .rw[q4];exact z.p.snoc z.j.k q3
    .rw[q5];exact .nil
    .simp;omega
   .rw[List.head?_append,hh];rfl
 .obtain⟨Rp,Wp,kv,k,dd,kn,du,rfl,h,sx,z,l2,hh⟩:=q
  exact g t' Rp Wp kv k dd kn du h sx z l2 hh
def Mid(R:List KV)(m:Nat)(S:Cst):Prop:=∃Rq Wq q0 q1 q2 w1 w2,R=Rq++[q0,q1,q2]/\m=Wq.length+2/\Z 12 S Rq [q1,q2] Wq [w1,w2] q0/\R.head?=some []
theorem ph1(G:GT X pt pL C)(hN:X.N=(cG (top 56)).N)(L:Lx X C pt W c get set)(h:Cm k dd kn du mn ot ro a he co on)(h0:get t=⟨[],[],[]⟩)
  (g:∀(t':W.τ)(R:List KV)(m:Nat)(k dd kn du:Sl),Cm k dd kn du (.sh (.int m)) ot ro a he co on->Mid R m (get t')->Go X W RR rest t' (RS ns c.p R k dd kn du (.sh (.int m)) ot ro a he co on) Φ):Go X W RR (s 1::s 2::s 3::s 4::s 5::s 6::rest) t (RS ns c.p [[],kA,kB] k dd kn du mn ot ro a he co on) Φ:=by
 refine Go.met G (hN.trans nmR.symm) L.l (by rw[h0];exact put1) ?_
 refine Go.met G (hN.trans nmR.symm) L.l (by rw[L.gs];exact put2) ?_
 refine Tv G hN L h (by rw[L.gs]) λt' Rp Wp kv k dd kn du h _ z l2 hh=>?_;refine Go.pre G (hN.trans nmR.symm) (goM h z.p.len.1) λhN2=>?_;obtain rfl|⟨W1,w2,rfl⟩:=V0z Wp
 .simp at l2
 rw[W0z] at z l2 ⊢;obtain rfl|⟨W0,w1,rfl⟩:=V0z W1
 .simp at l2
 rw[W0z] at z l2 ⊢;obtain⟨S3,R1,x1,rfl,b1,z1⟩:=bk z (by omega);obtain⟨S4,R0,x0,rfl,b0,z0⟩:=bk z1 (by omega);refine Go.met G hN2 L.l (UW.trans (by rw[b1];rfl)) ?_;refine Go.met G hN2 L.l (UL.trans (by rw[L.gs,b0];rfl)) ?_
 have em:((W0++[w1])++[w2]).length=W0.length+2:=by simp
 rw[em];exact g _ _ _ _ _ _ _ {h with a5:=rfl} ⟨R0,W0,x0,x1,kv,w1,w2,by simp,rfl,by rw[L.gs];exact z0,hh⟩
end
section
variable{ns:List Int}{R Rp Rf:List KV}{Wp Wf:List Str}{p q:Addr}{k dd kn du mn ot ro a he co on:Sl}{S S':Cst}{kv kv':KV}{due d:D}{i n A m:Nat}
theorem foB:xG cx0 ms 60 lSc (RS ns p R k dd kn du mn ot ro a he co (.sh (.obj q))) S (k0 (lB 0))=(jc S []).map λo=>(q,o):=by rfl'
theorem bkD:xG cx0 ms 60 lSc (RS ns p R k dd kn du mn ot ro a he co (.sh (.obj q))) S (k0 ((vo (lO 3)).getD 0 pss))=(jd S []).map λo=>(q,o):=by rfl'
theorem foF:xG cx0 ms 60 lSc (RS ns p R k dd kn du mn ot ro a he co (.sh (.obj q))) S (k0 ((vo (lO 5)).getD 0 pss))=(jc S []).map λo=>(q,o):=by rfl'
theorem Iv:tell S (some (p,.exc "NoBack"))=some (p,.str "no back",S):=by rfl'
theorem lamE:Mz cx0 LP ms S 60 lSc (RS ns p R k dd kn du mn ot ro a he co (.sh (.obj q))) ((kid ((kid (k0 (lO 4))).getD 1 nE)).getD 0 nE)=tell S ((jd S []).map λo=>(q,o)):=by rfl'
theorem bindB(hj:j=0\/j=2\/j=3\/j=5):d9 lSc (k0 (lO j)) x (RS ns p R k dd kn du mn ot ro a he co on)=some (RS ns p R (.sh x) dd kn du mn ot ro a he co on):=by
 rcases hj with rfl|rfl|rfl|rfl<;>rfl'
theorem goH(h:Cm k dd kn du mn ot ro a he co on):lq (λU s=>DE.st cx0 60 60 lSc U s) [lO 1] (RS ns p (Rp++[kv]) k dd kn du (.sh d) ot ro a he co on)=some (.nxt (RS ns p (Rp++[kv]) k dd kn du (.sh d) ot ro a (.sh (cP kv)) (.sh d) on)) :=
 Ux (RS.calm {h with a5:=rfl}) rfl (jW (aG (xIx (xName rfl) (Mq (bZ rfl)) rfl (Rj rfl)) (aG (xName rfl) cT)) rfl) rfl rfl rfl
theorem goC(h:Cm k dd kn du mn ot ro a he co on)(hb:aU T 60 36 "_law_behind" [cP kv,qQ ns (A+60*i)]=some (.tup [cP kv',due])):lq (λU s=>DE.st cx0 60 60 lSc U s) [lC 0,lC 1] (RS ns p R (.sh (.int i)) dd kn du mn ot ro (.sh (.int A)) (.sh (cP kv)) co on)=some (.nxt (RS ns p R (.sh (.int i)) (.sh (qQ ns (A+60*i))) kn (.sh due) mn ot ro (.sh (.int A)) (.sh (cP kv')) co on)):=by
 rw[Bp]
 exact pD (RS.calm {h with a1:=rfl,a8:=rfl,a9:=rfl}) rfl rfl (aX rfl (aG (xName rfl) (aG (jX (dR (xName rfl) (dR (bZ rfl) (xName rfl) (Gj (.inl rfl))) rfl) (congrArg D.int (by omega))) cT)) (deed 32))
  (Ux (RS.calm {h with a1:=rfl,a2:=rfl,a8:=rfl,a9:=rfl}) rfl (aX rfl (aG (xName rfl) (aG (xName rfl) cT)) hb) rfl rfl rfl)
theorem goD(t:Bool)(h:Cm k dd kn du mn ot ro a he co on)(hd:cmpop .NotIn due noW=some (.bl t)):lq (λU s=>DE.st cx0 60 60 lSc U s) [lC 3] (RS ns p R k dd kn (.sh due) mn ot ro a he (.sh (.int n)) on)=some (.nxt (RS ns p R k dd kn (.sh due) mn ot ro a he (.sh (.int ((bif t then n+1 else n:Nat):Int))) on)) :=
 pD (RS.calm {h with a4:=rfl,b1:=rfl}) rfl rfl (jX (dR (xName rfl) (iH rfl rfl rfl (aG (bC (xName rfl) (jW (aG (bZ rfl) (aG (bZ rfl) cT)) rfl) hd) cT) rfl) rfl) (congrArg D.int (by cases t<;>simp[b2i]))) rfl
variable{X:Cx}{W:Wm}{pt pL:Addr×Str}{C:Addr}{c:Cw}{get:W.τ->Cst}{set:W.τ->Cst->W.τ}{t:W.τ}{RR:VK->Prop}{rest:List Stmt}{Φ:W.τ->Rho->Prop}
theorem Rm(G:GT X pt pL C)(hN:X.N=(cG (top 56)).N)(L:Lx X C pt W c get set)(z:Z i (get t) Rp Rf Wp Wf kv)(hN':X.N=U.map (·.1))(h1:ev cx0 60 lSc U e1=some (.obj c.p))(h2:ev cx0 60 lSc U e2=some (cP kv)):Chk X W (.Compare (.Call (.Name "_law_all_of" p1) [e1] [] p2) [.NotEq] [e2] p3) t U t :=
 Chk.all G hN' L.l h1 h2 (QL z.j) (Ut z.j) (QM z.j) (PL z.j) (Ro z.j)
theorem Tt(G:GT X pt pL C)(hN:X.N=(cG (top 56)).N)(L:Lx X C pt W c get set)(h:Cm k dd kn du mn ot ro a he co (.sh (.obj c.p)))(M:Mid R m (get t))
  (g:∀(t':W.τ)(Rp:List KV)(Wp:List Str)(kv:KV)(k:Sl),Cm k dd kn du mn ot ro a he co (.sh (.obj c.p))->(∃S,t'=set t S)->R=Rp++[kv]->m=Wp.length->Z 14 (get t') Rp [] Wp [] kv->R.head?=some []->Go X W RR rest t' (RS ns p R k dd kn du mn ot ro a he co (.sh (.obj c.p))) Φ):Go X W RR (lO 0::rest) t (RS ns p R k dd kn du mn ot ro a he co (.sh (.obj c.p))) Φ:=by
 obtain⟨Rq,Wq,q0,q1,q2,w1,w2,hR,hm,z,hh⟩:=M;refine Go.for (l:=[.int 2,.int 1]) (I:=λj t' U=>∃Rp Rf Wp Wf kv k,U=RS ns p R k dd kn du mn ot ro a he co (.sh (.obj c.p))/\nOw k=true/\(∃S,t'=set t S)/\R=Rp++kv::Rf/\m=Wp.length+Wf.length/\Wf.length+j=2/\Z (12+j) (get t') Rp Rf Wp Wf kv) G (hN.trans nmR.symm) rfl ⟨Rq,[q1,q2],Wq,[w1,w2],q0,k,rfl,h.a1,⟨_,(L.sg t).symm⟩,hR,hm,rfl,z⟩ (λj x hx t' U nn q=>?_) λt' U nn q=>?_
 .obtain⟨Rp,Rf,Wp,Wf,kv,k,rfl,hk,⟨S,rfl⟩,hR,hm,hl,z⟩:=q
  rw[L.gs] at z;refine⟨_,bindB (.inl rfl),λhN1=>?_⟩;have hj:j<2:=(List.getElem?_eq_some_iff.mp hx).1
  cases Wf with
  |nil=>simp at hl;omega
  |cons w Wf =>
   obtain⟨S',R',k1,rfl,f1,z1⟩:=fo z (by omega);rw[S2z] at hl hm;have lr:=z1.f.len.1
   have hx':x=.int ((2-j:Nat):Int):=by
    obtain _|_|j:=j
    .exact(I3z hx).symm
    .exact(I3z hx).symm
    .omega
   subst hx'
   have hR':R=(Rp++[kv])++k1::R':=by rw[hR];simp
   refine Go.met G hN1 L.l (foB.trans (by rw[L.gs,f1];rfl)) ?_
   rw[L.ss]
   have z2:Z (12+(j+1)) (get (set t S')) (Rp++[kv]) R' (Wp++[w]) Wf k1:=by rw[L.gs];exact z1
   refine Go.chk (Rm G hN L z2 hN1 (xName rfl) (xIx (xName rfl) (Mq (xName rfl)) rfl (by rw[hR'];exact Rj (by omega)))) (.nil hN1 ⟨Rp++[kv],R',Wp++[w],Wf,k1,_,rfl,rfl,⟨_,rfl⟩,hR',by simp;omega,by omega,z2⟩)
 .obtain⟨Rp,Rf,Wp,Wf,kv,k,rfl,hk,sx,hR,hm,hl,z⟩:=q
  have e0:Wf=[]:=List.length_eq_zero_iff.mp (by have:([D.int 2,D.int 1]:List D).length=2:=rfl;omega)
  subst e0;have e1:=List.length_eq_zero_iff.mp z.f.len.1;subst e1;exact g t' Rp Wp kv k {h with a1:=hk} sx hR hm z hh
theorem Tr(G:GT X pt pL C)(hN:X.N=(cG (top 56)).N)(L:Lx X C pt W c get set)(h:Cm k dd kn du mn ot ro (.sh (.int A)) (.sh (cP kv)) (.sh (.int (Wp.length:Int))) (.sh (.obj c.p)))(z:Z 14 (get t) Rp [] Wp [] kv)(hh:(Rp++[kv]).head?=some [])
  (g:∀(t':W.τ)(Rp:List KV)(Wp:List Str)(kv:KV)(k dd du:Sl),Cm k dd kn du mn ot ro (.sh (.int A)) (.sh (cP kv)) (.sh (.int (Wp.length:Int))) (.sh (.obj c.p))->(∃S,t'=set t S)->Z 17 (get t') Rp [] Wp [] kv->(Rp++[kv]).head?=some []->Go X W RR rest t' (RS ns p R k dd kn du mn ot ro (.sh (.int A)) (.sh (cP kv)) (.sh (.int (Wp.length:Int))) (.sh (.obj c.p))) Φ) :
  Go X W RR (lO 2::rest) t (RS ns p R k dd kn du mn ot ro (.sh (.int A)) (.sh (cP kv)) (.sh (.int (Wp.length:Int))) (.sh (.obj c.p))) Φ:=by
 refine Go.for (l:=f9 0 3) (I:=λj t' U=>∃Rp Wp kv k dd du,U=RS ns p R k dd kn du mn ot ro (.sh (.int A)) (.sh (cP kv)) (.sh (.int ((Wp:List Str).length:Int))) (.sh (.obj c.p))/\Cm k dd kn du mn ot ro (.sh (.int A)) (.sh (cP kv)) (.sh (.int (Wp.length:Int))) (.sh (.obj c.p))/\(∃S,t'=set t S)/\Z (14+j) (get t') Rp [] Wp [] kv/\(Rp++[kv]).head?=some []) G (hN.trans nmR.symm) rfl ⟨Rp,Wp,kv,k,dd,du,rfl,h,⟨_,(L.sg t).symm⟩,z,hh⟩ (λj x hx t' U nn q=>?_) λt' U nn q=>?_
 .obtain⟨Rp,Wp,kv,k,dd,du,rfl,h,⟨S,rfl⟩,z,hh⟩:=q
  rw[show(3:Int)=((3:Nat):Int) from rfl,lE] at hx
  have hj:j<3:=by
   have:=(List.getElem?_eq_some_iff.mp hx).1
   rwa [bQ] at this
  rw[eV hj] at hx;cases hx;refine⟨_,bindB (.inr (.inl rfl)),λhN1=>?_⟩;rw[L.gs] at z;obtain⟨kv',due,S',h1,h2,h3,h4,h9⟩:=G5 z.j (by omega);have ll:=z.l;refine Go.pre G hN1 (goC h h1) λhN2=>?_;refine Go.chk (Chk.did G hN2 L.l (xName rfl) (xName rfl) (xName rfl) (by rw[L.gs];exact h2 c.p) (Tf h3.1 h3.2)) ?_;rw[L.ss];obtain⟨q1,rfl,rfl⟩|⟨q1,w,nm,r,q2,q3,q4,q5⟩:=h9
  .exact Go.pre G hN2 (goD false {h with a1:=rfl,a2:=rfl,a9:=rfl} q1) λhN3=>.nil hN3 ⟨Rp,Wp,kv',_,_,_,rfl,{h with a1:=rfl,a2:=rfl,a4:=rfl,a9:=rfl},⟨_,rfl⟩,by rw[L.gs];exact⟨z.p,z.f,h4,by omega⟩,hh⟩
  .refine Go.pre G hN2 (goD true {h with a1:=rfl,a2:=rfl,a9:=rfl} q1) λhN3=>.nil hN3 ⟨Rp++[kv],Wp++[w],kv',_,_,_,by rw[T1z];rfl,{h with a1:=rfl,a2:=rfl,a4:=rfl,a9:=rfl,b1:=rfl},⟨_,rfl⟩,?_,?_⟩
   .rw[L.gs]
    refine⟨?_,?_,h4,?_⟩
    .rw[q4];exact z.p.snoc z.j.k q3
    .rw[q5];exact .nil
    .simp;omega
   .rw[List.head?_append,hh];rfl
 .obtain⟨Rp,Wp,kv,k,dd,du,rfl,h,sx,z,hh⟩:=q
  exact g t' Rp Wp kv k dd du h sx z hh
end
section
variable{ns:List Int}{R Rp Rf RA:List KV}{Wp Wf WA:List Str}{p q:Addr}{k dd kn du mn ot ro a he co on:Sl}{S S':Cst}{kv kv':KV}{due d:D}{i n A m:Nat}
variable{X:Cx}{W:Wm}{pt pL:Addr×Str}{C:Addr}{c:Cw}{get:W.τ->Cst}{set:W.τ->Cst->W.τ}{t:W.τ}{RR:VK->Prop}{rest:List Stmt}{Φ:W.τ->Rho->Prop}
theorem ixL(hx:(Ls n λk=>D.int k)[j]?=some x):j<n:=by
 have:=(List.getElem?_eq_some_iff.mp hx).1
 rwa [bQ] at this
theorem Tq(G:GT X pt pL C)(hN:X.N=(cG (top 56)).N)(L:Lx X C pt W c get set)(hn:WA.length<40)(h:Cm k dd kn du mn ot ro a he (.sh (.int (WA.length:Int))) (.sh (.obj c.p)))(z:Z 17 (get t) Rp [] WA [] kv)(hA:RA=Rp++[kv])(hh:RA.head?=some [])
  (g:∀(t':W.τ)(Rf:List KV)(k:Sl),Cm k dd kn du mn ot ro a he (.sh (.int (WA.length:Int))) (.sh (.obj c.p))->(∃S,t'=set t S)->RA=[]::Rf->Z (17+WA.length) (get t') [] Rf [] WA []->Go X W RR rest t' (RS ns p R k dd kn du mn ot ro a he (.sh (.int (WA.length:Int))) (.sh (.obj c.p))) Φ) :
  Go X W RR (lO 3::rest) t (RS ns p R k dd kn du mn ot ro a he (.sh (.int (WA.length:Int))) (.sh (.obj c.p))) Φ:=by
 refine Go.for (I:=λj t' U=>∃Rp Rf Wp Wf kv k,U=RS ns p R k dd kn du mn ot ro a he (.sh (.int (WA.length:Int))) (.sh (.obj c.p))/\nOw k=true/\(∃S,t'=set t S)/\RA=Rp++kv::Rf/\WA=Wp++Wf/\Wf.length=j/\Z (17+j) (get t') Rp Rf Wp Wf kv) G (hN.trans nmR.symm) (RJ rfl (xName rfl) (by omega)) ⟨Rp,[],WA,[],kv,k,rfl,h.a1,⟨_,(L.sg t).symm⟩,hA,(L3z _).symm,rfl,z⟩ (λj x hx t' U nn q=>?_) λt' U nn q=>?_
 .obtain⟨Rp,Rf,Wp,Wf,kv,k,rfl,hk,⟨S,rfl⟩,hR,hW,hl,z⟩:=q
  have hj:=ixL hx;rw[eV hj] at hx;cases hx;rw[L.gs] at z;refine⟨_,bindB (.inr (.inr (.inl rfl))),λhN1=>?_⟩;obtain rfl|⟨W0,w,rfl⟩:=V0z Wp
  .rw[T3z] at hW;rw[hW] at hj;omega
  .rw[W0z] at z hW
   obtain⟨S',R',k1,rfl,b1,z1⟩:=bk z (by omega);refine Go.met G hN1 L.l (bkD.trans (by rw[L.gs,b1];rfl)) ?_;rw[L.ss];exact .nil hN1 ⟨R',kv::Rf,W0,w::Wf,k1,_,rfl,rfl,⟨_,rfl⟩,by rw[hR];simp,by rw[hW];simp,by simp[hl],by rw[L.gs];exact z1⟩
 .rw[bQ] at q
  obtain⟨Rp,Rf,Wp,Wf,kv,k,rfl,hk,sx,hR,hW,hl,z⟩:=q;have e0:Wp=[]:=List.length_eq_zero_iff.mp (by have:=congrArg List.length hW;rw[T1z] at this;omega);subst e0;have e1:=List.length_eq_zero_iff.mp z.p.len.1;subst e1;rw[T3z] at hW hR;rw[hR] at hh;cases (I3z hh:kv=[]);rw[<- hW] at z;exact g t' Rf k {h with a1:=hk} sx hR z
theorem Tp(G:GT X pt pL C)(hN:X.N=(cG (top 56)).N)(L:Lx X C pt W c get set)(hn:WA.length<40)(h:Cm k dd kn du mn ot ro a he (.sh (.int (WA.length:Int))) (.sh (.obj c.p)))(z:Z (17+WA.length) (get t) [] Rf [] WA [])(hA:RA=[]::Rf)(hE:RA=Rp++[kv])
  (g:∀(t':W.τ)(Rp:List KV)(k:Sl),Cm k dd kn du mn ot ro a he (.sh (.int (WA.length:Int))) (.sh (.obj c.p))->(∃S,t'=set t S)->Z (17+WA.length+WA.length) (get t') Rp [] WA [] kv->Go X W RR rest t' (RS ns p R k dd kn du mn ot ro a he (.sh (.int (WA.length:Int))) (.sh (.obj c.p))) Φ) :
  Go X W RR (lO 5::rest) t (RS ns p R k dd kn du mn ot ro a he (.sh (.int (WA.length:Int))) (.sh (.obj c.p))) Φ:=by
 refine Go.for (I:=λj t' U=>∃Rp Rf Wp Wf kv k,U=RS ns p R k dd kn du mn ot ro a he (.sh (.int (WA.length:Int))) (.sh (.obj c.p))/\nOw k=true/\(∃S,t'=set t S)/\RA=Rp++kv::Rf/\WA=Wp++Wf/\Wp.length=j/\Z (17+WA.length+j) (get t') Rp Rf Wp Wf kv) G (hN.trans nmR.symm) (RJ rfl (xName rfl) (by omega)) ⟨[],Rf,[],WA,[],k,rfl,h.a1,⟨_,(L.sg t).symm⟩,hA,rfl,rfl,z⟩ (λj x hx t' U nn q=>?_) λt' U nn q=>?_
 .obtain⟨Rp,Rf,Wp,Wf,kv,k,rfl,hk,⟨S,rfl⟩,hR,hW,hl,z⟩:=q
  have hj:=ixL hx;rw[eV hj] at hx;cases hx;rw[L.gs] at z;refine⟨_,bindB (.inr (.inr (.inr rfl))),λhN1=>?_⟩
  cases Wf with
  |nil=>rw[L3z] at hW;rw[hW] at hj;omega
  |cons w Wf =>
   obtain⟨S',R',k1,rfl,b1,z1⟩:=fo z (by omega);refine Go.met G hN1 L.l (foF.trans (by rw[L.gs,b1];rfl)) ?_;rw[L.ss];exact .nil hN1 ⟨Rp++[kv],R',Wp++[w],Wf,k1,_,rfl,rfl,⟨_,rfl⟩,by rw[hR];simp,by rw[hW];simp,by simp[hl],by rw[L.gs];exact z1⟩
 .rw[bQ] at q
  obtain⟨Rp',Rf,Wp,Wf,kv',k,rfl,hk,sx,hR,hW,hl,z⟩:=q;have e0:Wf=[]:=List.length_eq_zero_iff.mp (by have:=congrArg List.length hW;rw[T1z] at this;omega);subst e0;have e1:=List.length_eq_zero_iff.mp z.f.len.1;subst e1;rw[L3z] at hW;cases ((List.append_inj' (hR.symm.trans hE) rfl).2);rw[<- hW] at z;exact g t' Rp' k {h with a1:=hk} sx z
theorem turn(G:GT X pt pL C)(hN:X.N=(cG (top 56)).N)(L:Lx X C pt W c get set)(h:Cm k dd kn du (.sh (.int m)) ot ro (.sh (.int A)) he co (.sh (.obj c.p)))(M:Mid R m (get t)) :
  Go X W RR [lO 0,lO 1,lO 2,lO 3,lO 4,lO 5,lO 6] t (RS ns p R k dd kn du (.sh (.int m)) ot ro (.sh (.int A)) he co (.sh (.obj c.p))) λt' U=>∃k dd kn du he co,U=RS ns p R k dd kn du (.sh (.int m)) ot ro (.sh (.int A)) he co (.sh (.obj c.p))/\Cm k dd kn du (.sh (.int m)) ot ro (.sh (.int A)) he co (.sh (.obj c.p))/\∃S,t'=set t S:=by
 refine Tt G hN L h M λt1 Rp Wp kv k h ⟨S1,e1⟩ hR hm z hh=>?_;subst e1;subst hm;rw[hR] at hh ⊢;refine Go.pre G (hN.trans nmR.symm) (goH h) λhN2=>?_;refine Tr G hN L {h with a9:=rfl,b1:=rfl} z hh λt2 Rp2 W2' kv2 k dd du h ⟨S2,e2⟩ z2 hh2=>?_;rw[L.ss] at e2;subst e2;have ll:=z2.l
 have hn:W2'.length<40:=by rw[U3z] at ll;omega
 refine Tq G hN L hn h z2 rfl hh2 λt3 Rf3 k h ⟨S3,e3⟩ hR3 z3=>?_;rw[L.ss] at e3;subst e3;have z3':=z3;rw[L.gs] at z3';have hN3:∀{k dd kn du mn ot ro a he co on},X.N=(RS ns p (Rp++[kv]) k dd kn du mn ot ro a he co on).map (·.1):=λ{_ _ _ _ _ _ _ _ _ _ _}=>hN.trans nmR.symm;refine Go.chk (.or (Rm G hN L z3 hN3 (xName rfl) rfl) (Chk.told G hN3 L.l (lamE.trans (by rw[L.gs,Uy z3'];exact Iv)) (bZ rfl) rfl)) ?_;rw[L.ss];refine Tp G hN L hn h z3 hR3 rfl λt4 Rp4 k h ⟨S4,e4⟩ z4=>?_;rw[L.ss] at e4;subst e4;refine Go.chk (.or (Rm G hN L z4 hN3 (xName rfl) (xName rfl)) (Chk.cnt G hN3 L.l rfl (jW (aG (xName rfl) (aG (bZ rfl) cT)) rfl) rfl ?_)) (.nil hN3 ⟨_,_,_,_,_,_,rfl,h,_,rfl⟩);rw[z4.p.len.2,z4.f.len.2];exact Tf (by simp[dep,deps]) rfl
end
def uJ(p q:Addr):List D:=[.tup [.obj p,.int 3000],.tup [.obj q,.int 4000]]
theorem Ru(h1:ev cx k sc U a=some (.lst us))(h2:ev cx k sc U c=some (.int (-1))):ev cx (k+1) sc U (.Subscript a (.Slice none none (some c) q) p)=some (.lst us.reverse):=by
 simp only[ev,h1,h2];rfl
section
variable{ns:List Int}{R:List KV}{p q:Addr}{k dd kn du mn ot ro a he co on:Sl}{m:Nat}{x y:D}
theorem go9(h:Cm k dd kn du mn ot ro a he co on):lq (λU s=>DE.st cx0 60 60 lSc U s) [s 9] (RS ns p R k dd kn du mn (.sh (.obj q)) ro a he co on)=some (.nxt (RS ns p R k dd kn du mn (.sh (.obj q)) (.ow (uJ p q)) a he co on)) :=
 VH (RS.calm {h with a6:=rfl}) rfl (QZ (aG (jW (aG (xName rfl) (aG (bZ rfl) cT)) rfl) (aG (jW (aG (xName rfl) (aG (bZ rfl) cT)) rfl) cT)) rfl) rfl
theorem fz9(h:Cm k dd kn du mn ot ro a he co on):frz 60 (k1 (s 10)) (RS ns p R k dd kn du mn ot (.ow (uJ p q)) a he co on)=RS ns p R k dd kn du mn ot (.sh (.lst (uJ p q))) a he co on :=
 dw rfl (dw rfl (dw rfl (dw h.a1 (dw h.a2 (dw h.a3 (dw h.a4 (dw h.a5 (dw h.a6 (VB rfl (dw h.a8 (dw h.a9 (dw h.b1 (dw h.b2 Hz)))))))))))))
theorem vO:d9 lSc (k0 (s 10)) (.tup [x,y]) (RS ns p R k dd kn du mn ot ro a he co on)=some (RS ns p R k dd kn du mn ot ro (.sh y) he co (.sh x)):=by rfl'
theorem UG:d9 lSc (k0 (s 7)) x (RS ns p R k dd kn du mn ot ro a he co on)=some (RS ns p R k dd kn du mn (.sh x) ro a he co on):=by rfl'
theorem W3:xH cx0 60 lSc (RS ns p R k dd kn du mn ot ro a he co on) (k1 (s 7))=some (p,("twin":Str),[]):=by rfl'
def Rb(ns:List Int):Bool:=decide (pickN ns 5 2=0)
def ord(ns:List Int)(p q:Addr):List D:=bif Rb ns then uJ p q else(uJ p q).reverse
theorem W7:evI cx0 (fM (k0 (s 10))) (ev cx0 60 lSc (RS ns p R k dd kn du mn ot (.sh (.lst (uJ p q))) a he co on)) lSc (k1 (s 10))=some (ord ns p q):=by
 have pk:=pick 34 ns 5 (many:=2) (by omega);rw[Bp];refine wSq (x:=.lst (ord ns p q)) rfl ?_ rfl;unfold ord Rb
 by_cases e:pickN ns 5 2=0
 .rw[C4z e]
  exact Nb (bC (aX rfl (aG (xName rfl) (aG (bZ rfl) (aG (bZ rfl) cT))) pk) (bZ rfl) (J9 (by omega))) (xName rfl)
 .rw[H3z e]
  exact Nf (bC (aX rfl (aG (xName rfl) (aG (bZ rfl) (aG (bZ rfl) cT))) pk) (bZ rfl) (Mv (by omega))) (Ru (xName rfl) (Mq (bZ rfl)))
variable{X:Cx}{pt pL:Addr×Str}{C:Addr}{c c2:Cw}{S:Cst}{RR:VK->Prop}{rest:List Stmt}
theorem lxA:Lx X C pt (W2 X.K C pt c c2) c (·.1) λt S=>(S,t.2):=⟨Tz,λ_ _=>rfl,λ_ _ _=>rfl,λ_=>rfl⟩
theorem lxB:Lx X C pt (W2 X.K C pt c c2) c2 (·.2) λt S=>(t.1,S):=⟨Tw,λ_ _=>rfl,λ_ _ _=>rfl,λ_=>rfl⟩
theorem lx1:Lx X C pt (W1 X.K C pt c) c id λ_ S=>S:=⟨TF,λ_ _=>rfl,λ_ _ _=>rfl,λ_=>rfl⟩
def Io(ns:List Int)(R:List KV)(m:Nat)(p q:Addr)(i:Nat)(t:Cst×Cst)(U:Rho):Prop:=(∃k dd kn du a he co on,U=RS ns p R k dd kn du (.sh (.int m)) (.sh (.obj q)) (.sh (.lst (uJ p q))) a he co on/\Cm k dd kn du (.sh (.int m)) (.sh (.obj q)) (.sh (.lst (uJ p q))) a he co on)/\(i=0->Mid R m t.1/\Mid R m t.2)/\(i=1->bif Rb ns then Mid R m t.2 else Mid R m t.1)
theorem both(G:GT X pt pL C)(hN:X.N=(cG (top 56)).N)(h:Cm k dd kn du (.sh (.int m)) ot ro a he co on)(M:Mid R m S) :
  Go X (W2 X.K C pt c c2) (RT pL.1 pt.1) [s 8,s 9,s 10,s 11] ((S,S):Cst×Cst) (RS ns c.p R k dd kn du (.sh (.int m)) (.sh (.obj c2.p)) ro a he co on) λ_ _=>False:=by
 have hN3:∀{k dd kn du mn ot ro a he co on},X.N=(RS ns c.p R k dd kn du mn ot ro a he co on).map (·.1):=λ{_ _ _ _ _ _ _ _ _ _ _}=>hN.trans nmR.symm;have M':=M;obtain⟨Rq,Wq,q0,q1,q2,w1,w2,hR,hm,z,hh⟩:=M';refine Go.chk (.or (Chk.cnt (due:=.tup [.int (Wq.length:Int),.int 2]) G hN3 lxB.l rfl (jW (aG (jX (dR (xName rfl) (bZ rfl) rfl) (congrArg D.int (by omega))) (aG (bZ rfl) cT)) rfl) rfl ?_) (Rm G hN lxB z hN3 (xName rfl) (xIx (xName rfl) (Mq (bZ rfl)) rfl (by rw[hR];exact Rj rfl)))) ?_
 .rw[z.p.len.2,z.f.len.2]
  exact Tf (by simp[dep,deps]) rfl
 refine Go.pre G hN3 (go9 h) λhN4=>?_;refine Go.fz (k1 (s 10)) (fz9 {h with a6:=rfl}) ?_;refine Go.for (T:=T) (F:=60) (k:=36) (l:=ord ns c.p c2.p) (I:=Io ns R m c.p c2.p) G hN3 W7 ⟨⟨_,_,_,_,_,_,_,_,rfl,({h with a6:=rfl,a7:=rfl})⟩,λ_=>⟨M,M⟩,λz=>nomatch z⟩ (λi x hx t U n q=>?_) λt U n q=>?_
 .obtain⟨⟨k,dd,kn,du,a,he,co,on,rfl,h⟩,f0,f1⟩:=q
  have tA:∀(A:Nat),Mid R m t.1->Go X (W2 X.K C pt c c2) (RT pL.1 pt.1) [lO 0,lO 1,lO 2,lO 3,lO 4,lO 5,lO 6] t (RS ns c.p R k dd kn du (.sh (.int m)) (.sh (.obj c2.p)) (.sh (.lst (uJ c.p c2.p))) (.sh (.int A)) he co (.sh (.obj c.p))) λt' U=>(∃k dd kn du a he co on,U=RS ns c.p R k dd kn du (.sh (.int m)) (.sh (.obj c2.p)) (.sh (.lst (uJ c.p c2.p))) a he co on/\Cm k dd kn du (.sh (.int m)) (.sh (.obj c2.p)) (.sh (.lst (uJ c.p c2.p))) a he co on)/\∃S,t'=(S,t.2):=λA M =>
   (turn G hN (lxA) {h with a8:=rfl,b2:=rfl} M).mono λt' U ⟨k,dd,kn,du,he,co,e,hc,sx⟩=>⟨⟨_,_,_,_,_,_,_,_,e,hc⟩,sx⟩
  have tB:∀(A:Nat),Mid R m t.2->Go X (W2 X.K C pt c c2) (RT pL.1 pt.1) [lO 0,lO 1,lO 2,lO 3,lO 4,lO 5,lO 6] t (RS ns c.p R k dd kn du (.sh (.int m)) (.sh (.obj c2.p)) (.sh (.lst (uJ c.p c2.p))) (.sh (.int A)) he co (.sh (.obj c2.p))) λt' U=>(∃k dd kn du a he co on,U=RS ns c.p R k dd kn du (.sh (.int m)) (.sh (.obj c2.p)) (.sh (.lst (uJ c.p c2.p))) a he co on/\Cm k dd kn du (.sh (.int m)) (.sh (.obj c2.p)) (.sh (.lst (uJ c.p c2.p))) a he co on)/\∃S,t'=(t.1,S):=λA M =>
   (turn G hN (lxB) {h with a8:=rfl,b2:=rfl} M).mono λt' U ⟨k,dd,kn,du,he,co,e,hc,sx⟩=>⟨⟨_,_,_,_,_,_,_,_,e,hc⟩,sx⟩
  unfold ord at hx
  cases ob:Rb ns with
  |true =>
   rw[ob] at hx f1;obtain _|_|i:=i
   .cases (I3z hx)
    exact⟨_,vO,λ_=>(tA 3000 (f0 rfl).1).mono λt' U ⟨e,S,e2⟩=>⟨e,(λz=>nomatch z),λ_=>by rw[ob,e2];exact(f0 rfl).2⟩⟩
   .cases (I3z hx)
    exact⟨_,vO,λ_=>(tB 4000 (f1 rfl)).mono λt' U ⟨e,S,e2⟩=>⟨e,(λz=>nomatch z),λz=>nomatch z⟩⟩
   .cases hx
  |false =>
   rw[ob] at hx f1;obtain _|_|i:=i
   .cases (I3z hx)
    exact⟨_,vO,λ_=>(tB 4000 (f0 rfl).2).mono λt' U ⟨e,S,e2⟩=>⟨e,(λz=>nomatch z),λ_=>by rw[ob,e2];exact(f0 rfl).1⟩⟩
   .cases (I3z hx)
    exact⟨_,vO,λ_=>(tA 3000 (f1 rfl)).mono λt' U ⟨e,S,e2⟩=>⟨e,(λz=>nomatch z),λz=>nomatch z⟩⟩
   .cases hx
 .exact Go.ret G n lxA.l rfl
theorem Et(G:GT X pt pL C)(hN:X.N=(cG (top 56)).N)(MT:∃ps,bV X.prog X.w X.K X.mg C "twin" ps 40 (qb X.K C)) :
  Go X (W1 X.K C pt c) (RT pL.1 pt.1) LW.rest (⟨[],[],[]⟩:Cst) (fL (fL (bx (cG (top 56)) [scr ns]) LW.cn (.sh (.obj c.p))) LW.kn (.sh (.lst ([[],kA,kB].map cP)))) λ_ _=>False:=by
 refine ph1 G hN lx1 (show Cm .no .no .no .no .no .no .no .no .no .no .no from⟨rfl,rfl,rfl,rfl,rfl,rfl,rfl,rfl,rfl,rfl,rfl⟩) rfl λt R m k dd kn du h M=>?_;exact Go.twin G (hN.trans nmR.symm) MT W3 λc2=>⟨_,UG,λ_=>both G hN h M⟩
end
theorem Gu:T.defs.lookup ("_law_told":Str)=some (cG (top 50)):=by rfl'
theorem Uv:T.defs.lookup ("_law_class":Str)=some (cG (top 49)):=by rfl'
theorem U7:T.defs.lookup ("_law_all_of":Str)=some (cG (top 55)):=by rfl'
section
variable{P:Program}{w:World}{K:Zf}{mg:Str->Option Value}
theorem Gv(TX:Text w K mg T):jU P w K mg 37 T.exs LP.cv LP.tn :=
 yq TX Gu Uv rfl rfl rfl rfl rfl rfl rfl rfl rfl rfl rfl (by omega)
theorem yj(TX:Text w K mg T):rR P w K mg 37 LP.tn:=CV (n:="e") TX Gu rfl rfl rfl rfl rfl
def rA(p:Addr)(d:D):Rho:=[(".0",.no),("_law_name",.sh d),("_law_case",.sh (.obj p))]
theorem U8(TX:Text w K mg T)(Y:CaseTxt K mg C)(base:Heap):∃a g ps,mg "_law_all_of"=some (.ref a)/\W.keepIn K (.ref a)=true/\Binds K g ps []/\FnOk P w K mg base (CX1 P w) 40 a g ps (spR K C 0 aF):=by
 have FA:=TX.fns "_law_all_of" (cG (top 55)) U7;obtain⟨nm,t,a,g,m1,m2,m3,m4,m5⟩:=FA.ex;have GN:=ig (Vw (P:=P) TX Y) (show 1<=36 by omega);have GT:=ig (Vv (P:=P) TX Y) (show 35<=36 by omega);refine⟨a,g,(cG (top 55)).ps,m1,m2.kp,m3,(Cj (F:=60) (U1:=rA) TX m2 (m4.symm.trans rfl) m5 FA.fs rfl rfl (TX.blt "dict" "dict" rfl).1 rfl Y.t.cl GN GT (λp=>by rfl') (λp d=>by rfl') (λp d=>by rfl') (λp d=>by rfl')).mono (by omega)⟩
theorem Nj(TX:Text w K mg T)(Y:CaseTxt K mg C)(FT:MF K C "twin" "Case.twin" yN)(MK:Mk K C fI)(FI:Fun K "__init__" "Case.__init__" Dj fI fdI):∃ps,bV P w K mg C "twin" ps 40 (qb K C):=by
 obtain⟨fs,ds,ms1,Fs⟩:=FT;exact⟨_,ig ⟨fs,ds,ms1,Fs.binds λ_ _ _ _ _ _ us hl=>by obtain⟨_,rfl⟩:=len1 hl;rfl,λbase=>J3 Fs Y.t (TX.blt "dict" "dict" rfl).1 (TX.blt "list" "list" rfl).1 MK (FI.binds λ_ _ _ _ _ _ us hl=>by obtain⟨_,rfl⟩:=len1 hl;rfl) λbase=>zH FI Y.t⟩ (by omega)⟩
theorem finN{l:W.OpenLaw}(TX:Text w K mg T)(Y:CaseTxt K mg C)(FT:MF K C "twin" "Case.twin" yN)(MK:Mk K C fI)(FI:Fun K "__init__" "Case.__init__" Dj fI fdI)(X:K.In h)(G:h.Ns mainGlobals mg)(hfa:mg "law"=some (.ref fa))(f c fD cD Pl Pt:Addr)(nP:Pl≠Pt)(dc pm dcD pmD:Value)(a:W.nsIn K mainGlobals "law"=some (some (.ref f)))
  (lk:K.lookup f=some ⟨.type "function",none,.func (W.fnOf "law" "law" (bR (top 56)) (aO (top 56)) (ao (top 56)) .none .none dc pm none (.ref c) .none),#[]⟩) (cd:W.codeIn K (.ref c) "law"=true)
  (aD:W.nsIn K mainGlobals "_law_did"=some (some (.ref fD))) (lkD:K.lookup fD=some ⟨.type "function",none,.func (W.fnOf "_law_did" "_law_did" (bR (top 54)) (aO (top 54)) (ao (top 54)) .none .none dcD pmD none (.ref cD) .none),#[]⟩) (cdD:W.codeIn K (.ref cD) "_law_did"=true) (kD:W.keepIn K (.ref fD)=true) :
  ∃fd:FuncData,(∀(s:Shared)(v:Value),BindsTo s fd ⟨[v],[]⟩ [("_law_script",v)])/\∀base:Heap,K.In base->base.Ns mainGlobals mg->(∀q∈[(c,Pl),(cD,Pt)],W.CodeHd base q.1 q.2/\base.BuiltinsAt mg q.2)->FnOk l.prog w K mg base CX0 41 fa fd ["_law_script"] (uF K ([(c,Pl),(cD,Pt)].map (·.2))):=by
 cases (hfa.symm.trans (Q4z X G a));refine⟨_,λs v=>.of_eq (b56 .none dc pm none (.ref c) .none [v] rfl),λbase _ _ hq=>?_⟩;obtain⟨hC,hbm⟩:=hq (c,Pl) (by simp);obtain⟨hCD,hbD⟩:=hq (cD,Pt) (by simp);have DD:=Qv (P:=l.prog) (F:=60) (fd:=cG (top 54)) (qn:="_law_did.<locals>.<lambda>") TX lkD cdD rfl rfl (KJ rfl) rfl hCD hbD (Gv TX) (yj TX) (Ig TX Y) (λn a=>by rfl');exact Kp (qn:="law.<locals>.<lambda>") TX lk cd Ly rfl (KJ rfl) rfl hC hbm (λn a=>by rfl') nP (Gv TX) (yj TX) (Ig TX Y) Y.t.cl ⟨by rfl',by rfl'⟩ ⟨fD,_,_,Q4z X G aD,kD,(fun_mk lkD cdD kD).binds b54,DD⟩ ⟨by rfl',by rfl'⟩ (U8 TX Y base) ⟨_,ig (Vy TX Y) (by omega)⟩ Y.t.mgC rfl MK (FI.binds λ_ _ _ _ _ _ us hl=>by obtain⟨_,rfl⟩:=len1 hl;rfl) (zH FI Y.t) rfl rfl rfl rfl λns hl X e1 e2 e3 e4 hN GG=>⟨Ur,λcw=>Et GG hN (by rw[e1,e2,e3,e4];exact Nj TX Y FT MK FI)⟩
end
end M83
noncomputable section
namespace HS
open PySem PySem.W
theorem goT{p:Program}{w:World}{m:Nat}{a:Option Value}{n:Nat}{x y:Shared}{u:Thread}{c:Code}{o:Pos}{l:List Frame}(h:Fast.tw15667345088766844465 Fast.tw14364793385576792824 p w m a n x u=some (y,⟨Fast.tw11892475500146522536 Fast.tw14364793385576792824 c,c,o,l⟩)):topGo treeTable p w m a n x u=some (y,⟨denote treeTable c,c,o,l⟩):=by
 rw[Fast.te15667345088766844465,B0z,Fast.te11892475500146522536];exact h
theorem Wu{p:Program}{w:World}{m:Nat}{a:Option Value}{k n:Nat}{x:Shared}{u:Thread}{y:Option (Flow×Shared×Code×Pos)}(h:Fast.tw14374325043358763698 Fast.tw14364793385576792824 p w m a k n x u=y):segRun treeTable p w m a k n x u=y:=by
 rw[Fast.te14374325043358763698,B0z];exact h
theorem wF{p:Program}{w:World}{m:Nat}{a:Option Value}{k n:Nat}{x:SharedT}{u:Thread}{y:Option (Flow×SharedT×Code×Pos)}(h:Fast.tw10110043849684766642 Fast.tw14364793385576792824 p w m a k n x u=y):segRunT treeTable p w m a k n x u=y:=by
 rw[Fast.te10110043849684766642,B0z];exact h
theorem V3{p:Program}{w:World}{m:Nat}{a:Option Value}{n:Nat}{x:Shared}{u:Thread}{y:Option Shared}(h:Fast.tw14082659384304107361 Fast.tw14364793385576792824 p w m a n x u=y):topRun treeTable p w m a n x u=y:=by
 rw[Fast.te14082659384304107361,B0z];exact h
theorem Sh{p:Program}{w:World}{m:Nat}{a:Option Value}{n:Nat}{x:Shared}{b l:List Stmt}{E:Env}{c:Code}{o:Pos}{B:List Frame}{y:Option Shared}(e:b=l)(h:topRun treeTable p w m a n x (restOf l E c o B)=y):topRun treeTable p w m a n x (restOf b E c o B)=y:=by
 rw[e];exact h
end HS
namespace H83
open PySem PySem.W HS
noncomputable abbrev p:Program:=PySem.Challenge.pw_minortables_k83_whole_case_twins
abbrev q:Program:=W.view p [1,2,3,4,5,6,7,8,9,11,12,13,14,15,16,17,18,19,20,22,23,24,25,26,27,28,29,30,31,32,33,35,36,38,39,40,41,42,43,45,46,47,48,49,50,51,52,53,54,55,56]
abbrev N:Nat:=7588
abbrev lo:List Str:=[]
abbrev z:Value:=.none
noncomputable abbrev r(a:Nat):Value:=.ref a
noncomputable abbrev i(a:Int)(n:Nat):Value:=.int a n
abbrev s(x:Str)(n:Nat):Value:=.str x n
abbrev t(x:String):Value:=.type x
abbrev b(x:String):Value:=.builtin x
abbrev e(P:Params)(x:Str)(n:Nat)(v:Value):DictEntry:=⟨PyData.keyHash P x,.str x n,v⟩
def d(j:Nat):Stmt:=p.main.body.getD j (.Pass ⟨0,0,0,0⟩)
def m(j k:Nat):Stmt:=match d j with|.ClassDef _ _ _ l .. =>l.getD k (.Pass ⟨0,0,0,0⟩)|x=>x
def f(x:Stmt)(qn:Str)(g:Nat)(dV kV dc pm cd ct:Value):FuncData:=match x with|.FunctionDef n a l _ _ _ sc .. =>⟨n,qn,a,.stmts l,sc,g,[],dV,kV,dc,pm,none,cd,ct,0⟩|_=>default
def y:Obj:=⟨.type "tuple",none,.seq #[] 0,#[]⟩
noncomputable def x:Obj:=⟨.none,none,.fields #[],#[]⟩
noncomputable def tnV:List Str->Nat->List Value|[],_=>[]|a::l,k=>.str a k::tnV l (k+1)
def tn(l:List Str)(k:Nat):Obj:=⟨.type "tuple",none,.seq (tnV l k).toArray 0,#[]⟩
def g(a:Stmt)(n:Str):Obj:=⟨.none,none,.func (f a n 0 z z z z z z),#[]⟩
def u(a:Stmt)(n:Str)(pm:Value)(c:Nat):Obj:=⟨.type "function",none,.func (f a n 3 z z z pm (r c) z),#[]⟩
def c(n:Str)(k:Nat)(l a fl:Int)(q:Nat)(bb:Bool)(h:Int)(q':Nat)(v w v':Value)(k':Nat):Obj:=⟨.type "code",none,.fields #[s n k,s n (k+1),s "/claim/cut.py" (k+2),i l 0,i a 0,i 0 0,i 0 0,i fl 0,r q,.bool bb,i h 0,r q',z,v,w,v',i k' 0,i l 0,s "/claim/cut.py" (k'+1)],#[]⟩
def c2(n m:Str)(k:Nat)(l a fl:Int)(q:Nat)(bb:Bool)(h:Int)(q':Nat)(v w v':Value)(k':Nat):Obj:=⟨.type "code",none,.fields #[s n k,s m (k+1),s "/claim/cut.py" (k+2),i l 0,i a 0,i 0 0,i 0 0,i fl 0,r q,.bool bb,i h 0,r q',z,v,w,v',i k' 0,i l 0,s "/claim/cut.py" (k'+1)],#[]⟩
def I(t:BT):Nat->List Obj->BT|_,[]=>t|n,o::l=>I (t.ins n o) (n+1) l
structure Pl where
 (j b k:Nat) (ns ws:List Str)
def Pl.v(p:Pl):Bool:=p.ns.isEmpty
def Pl.c(p:Pl):Nat:=p.b+if p.v then 3 else 5
def Pl.e(p:Pl):Nat:=p.k+3+p.ns.length+p.ws.length
def pls:Nat->Nat->Nat->List (List Str×List Str)->List Pl
 |_,_,_,[]=>[]
 |j,b,k,(ns,ws)::l=>⟨j,b,k,ns,ws⟩::pls (j+1) (Pl.c ⟨j,b,k,ns,ws⟩+2) (Pl.e ⟨j,b,k,ns,ws⟩+3) l
def nmS:Stmt->Str×Nat×Nat|.FunctionDef n a _ _ _ _ _ _ _ o=>(n,a.args.length,o.line)|_=>("",0,0)
def fo(st:Nat->Stmt)(q:Str)(mt:Value)(p:Pl):List Obj :=
 let G:=st p.j;let h:=nmS G;let n:=q++h.1
 [y,x]++(if p.v then[] else[tn p.ns (p.k+3),tn p.ws (p.k+3+p.ns.length)])++[g G n,c2 h.1 n p.k h.2.2 h.2.1 3 p.b true 181 (p.b+1) (if p.v then z else r (p.b+2)) (if p.v then z else r (p.b+3)) (r (p.c-1)) p.e,u G n mt p.c]
def fe(P:Params)(st:Nat->Stmt)(p:Pl):DictEntry:=e P (nmS (st p.j)).1 (p.e+2) (r (p.c+1))
def fw(st:Nat->Stmt)(p:Pl):List Value:=[i (nmS (st p.j)).2.2 0,i 0 0,r p.c]
def fa(p:Pl):List Nat:=p.b::(if p.v then[] else[p.b+2,p.b+3])++[p.c,p.c+1]
def xn:List Str:=["NoTable","NoFit","NoPlace","NoStep","NoSteps","NoText","NoName","NoBack"]
def R0:List Pl:=pls 12 124 339 [(["thing"],[]),(["thing","least","most"],[]),(["thing"],[]),([],[]),(["table","told","row"],[]),([],[]),(["thing"],[]),(["one","other"],[]),(["thing","most"],[])]
def R1:List Pl:=pls 23 183 410 [([],[]),([],[]),([],[]),([],[]),(["table"],[]),([],[]),([],[]),([],[]),([],[]),([],[]),([],[])]
def R2:List Pl:=pls 35 240 479 [(["one","other"],[]),(["one","other"],[])]
def R3:List Pl:=pls 40 254 501 [([],[]),(["thing"],[]),(["word","one","other"],[])]
def R4:List Pl:=pls 0 280 535 [(["self"],[]),(["self","name","table"],[]),(["self","word","name","table"],[]),(["self","name","table","had"],[]),(["self","name"],[]),(["self","name","table"],[]),(["self","name","word","one","other","table"],[]),(["self","name","table"],[]),(["self","name","table"],[]),(["self"],[]),(["self","some","others","place","step"],[]),(["self"],[]),(["self"],[]),(["self"],[]),(["self","other"],[])]
def R5:List Pl:=pls 45 392 678 [(["_law_script","_law_k"],[]),(["_law_script","_law_k","_law_many","_law_drawn"],[]),([],[]),(["_law_one","_law_other","_law_made_here","_law_row","_law_line","_law_column","_law_total","_law_k"],[]),(["_law_kept","_law_kinds","_law_some"],[]),(["_law_deed_here","e"],[]),(["_law_script","_law_at","_law_names","_law_name","_law_way","_law_rows","_law_columns","_law_word"],[]),([],[]),([],[]),(["_law_case","_law_deed_here"],["_law_case","_law_deed_here"]),([],[]),(["_law_script","_law_case","_law_rows","_law_k","_law_deed_here","_law_known","_law_due","_law_many","_law_other","_law_rounds","_law_at","_law_here","_law_count"],["_law_one"])]
def bm(n:String)(v:Value):Obj:=⟨t "builtin_function_or_method",none,.fields #[b n,v],#[]⟩
def su(a:Nat):Obj:=⟨t "super",none,.fields #[r a,r a,r a],#[]⟩
def es(P:Params):List DictEntry:=[e P "__doc__" 166 z,e P "__package__" 167 z,e P "__loader__" 168 (b "__main__.__loader__#opaque"),e P "__spec__" 169 z,e P "__annotations__" 170 (r 6),e P "__builtins__" 171 (r 4),e P "__file__" 173 (s "/claim/cut.py" 172),e P "__cached__" 174 z,e P "MinorError" 206 (r 24)]++(xn.zipIdx.map λq=>e P q.1 (222+16*q.2) (r (37+12*q.2)))++[e P "MOST_LINES" 338 (i 4 337)]++R0.map (fe P d)++[e P "MOST_NUMBER" 409 (i 99 408)]++R1.map (fe P d)++R2.map (fe P d)++[e P "LETTERS" 498 (s "abcdefghijklmnopqrstuvwxyz" 497),e P "MOST_LETTERS" 500 (i 4 499)]++R3.map (fe P d)++[e P "Case" 675 (r 387)]++R5.map (fe P d)
def og(k n:Nat)(v:Value)(P:Params):Obj:=⟨.type "dict",none,.dict ((e P "__name__" 165 v::es P).take k).toArray n,#[]⟩
def fv:List Value:=[(i 2 0),(i 0 0),(r 20)]++((List.range 8).flatMap λ(q:Nat)=>[i (4+2*q:Nat) 0,i 0 0,r (33+12*q)])++R0.flatMap (fw d)++R1.flatMap (fw d)++R2.flatMap (fw d)++R3.flatMap (fw d)++[(i 112 0),(i 0 0),(r 278)]++R5.flatMap (fw d)
def o12(n:Nat):Obj:=⟨z,none,.fields (fv.take n).toArray,#[]⟩
def o31(n:Nat):Obj:=⟨(t "type"),none,(.cls ⟨"MinorError",[(t "ValueError")],[(r 24),(t "ValueError"),(t "Exception"),(t "BaseException"),(t "object")],23,"MinorError",true,[],((List.range n).map λ(q:Nat)=>r (37+12*q)),false,none,false⟩),#[some (r 15),none,some (s "MinorError" 189),some (s "MinorError" 197),some (b "ValueError.__new__"),some (.bool true)]⟩
def xb(P:Params)(q:Str×Nat):List Obj :=
 let n:=q.1;let a:=28+12*q.2;let k:=207+16*q.2;let l:Int:=(4+2*q.2:Nat);let mo:=s "minortables.errors" 187
 [⟨t "tuple",none,.seq #[r 24] 0,#[]⟩,bm "type.__prepare__" (t "type"),⟨t "dict",none,.dict #[e P "__module__" (k+7) mo,e P "__qualname__" (k+9) (s n (k+8)),e P "__firstlineno__" (k+11) (i l (k+10)),e P "__static_attributes__" (k+12) (r (a+7))] 4,#[]⟩,y,x,
  c n (k+2) l 0 0 (a+3) false 181 (a+4) z z z (k+5),⟨t "frame",none,.plain,#[some (r (a+5)),some (r 3),some (r (a+2)),none,some mo,none,some (r 0)]⟩,y,⟨t "dict",none,.dict #[e P "__module__" (k+7) mo,e P "__firstlineno__" (k+11) (i l (k+10)),e P "__static_attributes__" (k+12) (r (a+7)),e P "__doc__" (k+13) z] 2,#[]⟩,
  ⟨t "type",none,.cls ⟨n,[r 24],[r (a+9),r 24,t "ValueError",t "Exception",t "BaseException",t "object"],a+8,n,true,[],[],false,none,false⟩,#[some (r a),none,some (s n k),some (s n (k+8)),some (b "ValueError.__new__"),some (.bool true)]⟩,su (a+9),bm "object.__init_subclass__" (r (a+9))]
def ini(P:Params):List Obj:=[boot_o_0 P,boot_o_1 P,boot_o_2 P,boot_o_3 P,boot_o_4 P,boot_o_5 P,boot_o_6 P,boot_o_7 P,boot_o_8 P,boot_o_9 P,boot_o_10 P,y,o12 0,c "<module>" 182 1 0 0 11 false 181 12 z z z 185,⟨(t "frame"),none,.plain,#[some (r 13),some (r 3),some (r 3),none,some (s "__main__" 164),none,some (r 0)]⟩,⟨(t "tuple"),none,(.seq #[(t "ValueError")] 0),#[]⟩,bm "type.__prepare__" (t "type"),⟨(t "dict"),none,(.dict #[e P "__module__" 196 (s "minortables.errors" 187),e P "__qualname__" 198 (s "MinorError" 197),e P "__firstlineno__" 200 (i 2 199),e P "__static_attributes__" 201 (r 22)] 4),#[]⟩,y,x,c "MinorError" 191 2 0 0 18 false 181 19 z z z 194,⟨(t "frame"),none,.plain,#[some (r 20),some (r 3),some (r 17),none,some (s "minortables.errors" 187),none,some (r 0)]⟩,y,⟨(t "dict"),none,(.dict #[e P "__module__" 196 (s "minortables.errors" 187),e P "__firstlineno__" 200 (i 2 199),e P "__static_attributes__" 201 (r 22),e P "__weakref__" 203 (r 25),e P "__doc__" 204 z] 3),#[]⟩,o31 0,⟨(t "getset_descriptor"),none,(.fields #[(s "__weakref__" 202),(r 24),(b "ExceptionGroup.__weakref__"),z]),#[]⟩,su 24,bm "object.__init_subclass__" (r 24)]++xn.zipIdx.flatMap (xb P)++R0.flatMap (fo d "" (s "minortables.checks" 335))++R1.flatMap (fo d "" (s "minortables.tables" 406))++R2.flatMap (fo d "" (s "minortables.joining" 477))++R3.flatMap (fo d "" (s "minortables.cases" 495))++[y,bm "type.__prepare__" (t "type"),⟨(t "dict"),none,(.dict ([e P "__module__" 530 (s "minortables.cases" 495),e P "__qualname__" 532 (s "Case" 531),e P "__firstlineno__" 534 (i 112 533)]++R4.map (fe P (m 43))++[e P "__static_attributes__" 668 (r 385)]).toArray 19),#[]⟩,y,⟨z,none,(.fields #[(i 114 0),(i 4 0),(r 285),(i 119 0),(i 4 0),(r 292),(i 125 0),(i 4 0),(r 299),(i 130 0),(i 4 0),(r 306),(i 138 0),(i 4 0),(r 313),(i 144 0),(i 4 0),(r 320),(i 149 0),(i 4 0),(r 327),(i 157 0),(i 4 0),(r 334),(i 162 0),(i 4 0),(r 341),(i 167 0),(i 4 0),(r 348),(i 170 0),(i 4 0),(r 355),(i 178 0),(i 4 0),(r 362),(i 181 0),(i 4 0),(r 369),(i 184 0),(i 4 0),(r 376),(i 187 0),(i 4 0),(r 383)]),#[]⟩,c "Case" 525 112 0 0 276 false 181 277 z z z 528,⟨(t "frame"),none,.plain,#[some (r 278),some (r 3),some (r 275),none,some (s "minortables.cases" 495),none,some (r 0)]⟩]++R4.flatMap (fo (m 43) "Case." (s "minortables.cases" 495))++[tn ["done","tables","undone"] 665,⟨(t "dict"),none,(.dict ([e P "__module__" 530 (s "minortables.cases" 495),e P "__firstlineno__" 534 (i 112 533)]++R4.map (fe P (m 43))++[e P "__static_attributes__" 668 (r 385),e P "__dict__" 670 (r 388),e P "__weakref__" 672 (r 389),e P "__doc__" 673 z]).toArray 4),#[]⟩,⟨(t "type"),none,(.cls ⟨"Case",[(t "object")],[(r 387),(t "object")],386,"Case",true,[],[],false,none,false⟩),#[none,none,some (s "Case" 523),some (s "Case" 531),some (b "object.__new__"),some (.bool true)]⟩,⟨(t "getset_descriptor"),none,(.fields #[(s "__dict__" 669),(r 387),(b "function.__dict__"),(b "function.__dict__#set")]),#[]⟩,⟨(t "getset_descriptor"),none,(.fields #[(s "__weakref__" 671),(r 387),(b "ExceptionGroup.__weakref__"),z]),#[]⟩,su 387,bm "object.__init_subclass__" (r 387)]++R5.flatMap (fo d "" (s "law_minortables_k83_whole_case_twins" 676))
def Tx(t:BT)(P:Params)(n m:Nat):BT:=I t n (((ini P).drop n).take m)
def Ha(P:Params):Heap:=⟨⟨(ini P).take 15⟩,{}⟩
def T0(P:Params):BT:=I .nil 0 ((ini P).take 15)
def T1(P:Params):BT:=Tx (T0 P) P 15 13 |>.set 3 (λ_=>og 10 10 (s "minortables.errors" 187) P) |>.set 12 (λ_=>o12 3)
def T2(P:Params):BT:=Tx (T1 P) P 28 12 |>.set 3 (λ_=>og 11 11 (s "minortables.errors" 187) P) |>.set 12 (λ_=>o12 6) |>.set 24 (λ_=>o31 1)
def T3(P:Params):BT:=Tx (T2 P) P 40 12 |>.set 3 (λ_=>og 12 12 (s "minortables.errors" 187) P) |>.set 12 (λ_=>o12 9) |>.set 24 (λ_=>o31 2)
def T4(P:Params):BT:=Tx (T3 P) P 52 12 |>.set 3 (λ_=>og 13 13 (s "minortables.errors" 187) P) |>.set 12 (λ_=>o12 12) |>.set 24 (λ_=>o31 3)
def T5(P:Params):BT:=Tx (T4 P) P 64 12 |>.set 3 (λ_=>og 14 14 (s "minortables.errors" 187) P) |>.set 12 (λ_=>o12 15) |>.set 24 (λ_=>o31 4)
def T6(P:Params):BT:=Tx (T5 P) P 76 12 |>.set 3 (λ_=>og 15 15 (s "minortables.errors" 187) P) |>.set 12 (λ_=>o12 18) |>.set 24 (λ_=>o31 5)
def T7(P:Params):BT:=Tx (T6 P) P 88 12 |>.set 3 (λ_=>og 16 16 (s "minortables.errors" 187) P) |>.set 12 (λ_=>o12 21) |>.set 24 (λ_=>o31 6)
def T8(P:Params):BT:=Tx (T7 P) P 100 12 |>.set 3 (λ_=>og 17 17 (s "minortables.errors" 187) P) |>.set 12 (λ_=>o12 24) |>.set 24 (λ_=>o31 7)
def T9(P:Params):BT:=Tx (T8 P) P 112 45 |>.set 3 (λ_=>og 24 24 (s "minortables.checks" 335) P) |>.set 12 (λ_=>o12 42) |>.set 24 (λ_=>o31 8)
def T10(P:Params):BT:=Tx (T9 P) P 157 78 |>.set 3 (λ_=>og 39 39 (s "minortables.tables" 406) P) |>.set 12 (λ_=>o12 84)
def T11(P:Params):BT:=Tx (T10 P) P 235 38 |>.set 3 (λ_=>og 47 47 (s "minortables.cases" 495) P) |>.set 12 (λ_=>o12 102)
def T12(P:Params):BT:=Tx (T11 P) P 273 119 |>.set 3 (λ_=>og 48 48 (s "minortables.cases" 495) P) |>.set 12 (λ_=>o12 105)
def T13(P:Params):BT:=Tx (T12 P) P 392 76 |>.set 3 (λ_=>og 60 60 (s "law_minortables_k83_whole_case_twins" 676) P) |>.set 12 (λ_=>o12 141)
def H1(P:Params):Heap:=⟨⟨(((ini P).set 3 (og 60 60 (s "law_minortables_k83_whole_case_twins" 676) P)).set 12 (o12 141)).set 24 (o31 8)⟩,{}⟩
def Sx(T:Params->BT)(n k:Nat)(w:World)(os:OsState):SharedT:=⟨T w.params,n,{},⟨[]⟩,{},k,os⟩
abbrev S0:=Sx T0 15 187
abbrev S1:=Sx T1 28 207
abbrev S2:=Sx T2 40 223
abbrev S3:=Sx T3 52 239
abbrev S4:=Sx T4 64 255
abbrev S5:=Sx T5 76 271
abbrev S6:=Sx T6 88 287
abbrev S7:=Sx T7 100 303
abbrev S8:=Sx T8 112 319
abbrev S9:=Sx T9 157 377
abbrev S10:=Sx T10 235 471
abbrev S11:=Sx T11 273 523
abbrev S12:=Sx T12 392 676
abbrev S13:=Sx T13 468 795
def S(w:World)(os:OsState):Shared:=⟨H1 w.params,⟨[]⟩,{},795,os⟩
def E:Env:={scope:=p.main.scope,locals:=mainNs,globals:=mainNs,cells:=[],code:=(r 13),frame:=some 14}
abbrev C:Code:=.body (behindTheImports p) E
abbrev B:List Frame:=[topFrame ⟨0,0,0,0⟩]
def lx(a b:Nat):List Stmt:=((behindTheImports p).drop a).take b
abbrev l1:=lx 0 2
abbrev l2:=lx 2 1
abbrev l3:=lx 3 1
abbrev l4:=lx 4 1
abbrev l5:=lx 5 1
abbrev l6:=lx 6 1
abbrev l7:=lx 7 1
abbrev l8:=lx 8 1
abbrev l9:=lx 9 8
abbrev l10:=lx 17 16
abbrev l11:=lx 33 10
abbrev l12:=lx 43 1
abbrev l13:=lx 44 13
theorem pre(w:World)(os:OsState):topGo treeTable p w 11 (some (r 6)) 12 ⟨boot_heap w.params,Array.mk [],boot_drawn,boot_toks,os⟩ (topStub p)=some (⟨Ha w.params,⟨[]⟩,{},187,os⟩,⟨denote treeTable C,C,⟨0,0,0,0⟩,B⟩):=goT (by rfl')
theorem blk(w:World)(os:OsState):segRun treeTable p w 11 (some (r 6)) 1 1 ⟨Ha w.params,⟨[]⟩,{},187,os⟩ (blockOf (behindTheImports p) E C ⟨0,0,0,0⟩ B)=some (.next,(S0 w os).abs,C,⟨0,0,0,0⟩):=Wu (by rfl')
abbrev Px(w:World)(os:OsState)(n:Nat)(A B':World->OsState->SharedT)(l:List Stmt)(o o':Pos):Prop:=segRun treeTable p w 11 (some (r 6)) 1 n (A w os).abs (piecesOf l E C o B)=some (.next,(B' w os).abs,C,o')
theorem p1(w:World)(os:OsState):Px w os 196 S0 S1 l1 ⟨0,0,0,0⟩ ⟨2,0,3,8⟩:=O5z (wF (by rfl'))
theorem p2(w:World)(os:OsState):Px w os 214 S1 S2 l2 ⟨2,0,3,8⟩ ⟨4,0,5,8⟩:=O5z (wF (by rfl'))
theorem p3(w:World)(os:OsState):Px w os 214 S2 S3 l3 ⟨4,0,5,8⟩ ⟨6,0,7,8⟩:=O5z (wF (by rfl'))
theorem p4(w:World)(os:OsState):Px w os 214 S3 S4 l4 ⟨6,0,7,8⟩ ⟨8,0,9,8⟩:=O5z (wF (by rfl'))
theorem p5(w:World)(os:OsState):Px w os 214 S4 S5 l5 ⟨8,0,9,8⟩ ⟨10,0,11,8⟩:=O5z (wF (by rfl'))
theorem p6(w:World)(os:OsState):Px w os 214 S5 S6 l6 ⟨10,0,11,8⟩ ⟨12,0,13,8⟩:=O5z (wF (by rfl'))
theorem p7(w:World)(os:OsState):Px w os 214 S6 S7 l7 ⟨12,0,13,8⟩ ⟨14,0,15,8⟩:=O5z (wF (by rfl'))
theorem p8(w:World)(os:OsState):Px w os 214 S7 S8 l8 ⟨14,0,15,8⟩ ⟨16,0,17,8⟩:=O5z (wF (by rfl'))
theorem p9(w:World)(os:OsState):Px w os 378 S8 S9 l9 ⟨16,0,17,8⟩ ⟨32,0,36,15⟩:=O5z (wF (by rfl'))
theorem p10(w:World)(os:OsState):Px w os 397 S9 S10 l10 ⟨32,0,36,15⟩ ⟨75,0,76,69⟩:=O5z (wF (by rfl'))
theorem p11(w:World)(os:OsState):Px w os 209 S10 S11 l11 ⟨75,0,76,69⟩ ⟨102,0,111,37⟩:=O5z (wF (by rfl'))
theorem p12(w:World)(os:OsState):Px w os 683 S11 S12 l12 ⟨102,0,111,37⟩ ⟨112,0,192,20⟩:=O5z (wF (by rfl'))
theorem p13(w:World)(os:OsState):Px w os 383 S12 S13 l13 ⟨112,0,192,20⟩ ⟨285,0,321,15⟩:=O5z (wF (by rfl'))
theorem fin(w:World)(os:OsState):topRun treeTable p w 11 (some (r 6)) 2 (S13 w os).abs ⟨doneF .next,C,⟨285,0,321,15⟩,B⟩=some (S w os):=V3 (by rfl')
abbrev M:Nat:=(12+(1+(196+(214+(214+(214+(214+(214+(214+(214+(378+(397+(209+(683+(383+2)))))))))))))))
theorem lst:behindTheImports p=(l1++(l2++(l3++(l4++(l5++(l6++(l7++(l8++(l9++(l10++(l11++(l12++(l13++[]))))))))))))):=by rfl'
theorem r0(w:World)(os:OsState):topRun treeTable p w 11 (some (r 6)) (196+(214+(214+(214+(214+(214+(214+(214+(378+(397+(209+(683+(383+2))))))))))))) (S0 w os).abs (restOf (l1++(l2++(l3++(l4++(l5++(l6++(l7++(l8++(l9++(l10++(l11++(l12++(l13++[]))))))))))))) E C ⟨0,0,0,0⟩ B)=some (S w os):=P5z (p1 w os) (P5z (p2 w os) (P5z (p3 w os) (P5z (p4 w os) (P5z (p5 w os) (P5z (p6 w os) (P5z (p7 w os) (P5z (p8 w os) (P5z (p9 w os) (P5z (p10 w os) (P5z (p11 w os) (P5z (p12 w os) (P5z (p13 w os) (fin w os)))))))))))))
theorem run(w:World)(os:OsState):topRun treeTable p w 11 (some (r 6)) M ⟨boot_heap w.params,Array.mk [],boot_drawn,boot_toks,os⟩ (topStub p)=some (S w os):=go_top (pre w os) (piece_block (blk w os) (Sh lst (r0 w os)))
def ka:List Addr:=[2,3,15,22,23,24,25]++((List.range 8).flatMap λ(q:Nat)=>[28+12*q,35+12*q,36+12*q,37+12*q])++R0.flatMap fa++R1.flatMap fa++R2.flatMap fa++R3.flatMap fa++R4.flatMap fa++[385,386,387,388,389]++R5.flatMap fa
def K(P:Params):Frag:=ka.map λa=>(a,(H1 P).objs.toList.getD a x)
def KT(P:Params):Frag:=K P++[(462,x),(450,x)]
abbrev as:List Addr:=ka++[462,450]
abbrev m0:Nat:=11
abbrev tk:Nat:=795
abbrev ann:Option Value:=(some (r 6))
def Xt(s:Shared):Bool:=xlAt q [] s&&recOk PySem.Challenge.rw_minortables_k83_whole_case_twins.row.toRowW.records s
theorem lk0(w:World)(os:OsState):(staticsOk (importedModules p.main.body) (boot_heap w.params) (H1 w.params)&&namesBound p (H1 w.params)&&gensDone (S w os)&&laidKept (boot_heap w.params) (H1 w.params))=true:=by
 rw[Fast.te5923862056798008813];rfl'
theorem lk1(w:World)(os:OsState):PyProof.Rows.seen ((PyProof.Rows.recsOf q).map (·.name)) (PyProof.Rows.ownsOf q) [] {S w os with gens := #[]}=PyProof.Rows.expectedOf q:=by
 rw[Fast.te5160383126252970620,Fast.te3399658132070893891,Fast.te5991557255702980513];rfl'
theorem lk2(w:World)(os:OsState):(S w os).heap.bltView=bltViewBooted:=by rfl'
theorem lk3(w:World)(os:OsState):((S w os).heap.keysOk (looseW q lo) ((PyProof.Rows.recsOf q).map (·.name)) ((PyProof.Rows.litsOf q).map (·.1)) ((PyProof.Rows.clssOf q (looseW q lo)).map (·.name))&&(S w os).heap.accountedOkI (importedModules p.main.body)&&(S w os).heap.isNs mainGlobals&&(S w os).heap.isNs builtinsNs&&PyProof.Rows.tablesOk q (S w os).heap&&Xt (S w os)&&(if true then(S w os).gens.size==0 else !leftWithCleanup (S w os).gens))=true:=by
 rw[Fast.te10880121769531294198,Fast.te821141287760084731,Fast.te3399658132070893891,Fast.te7409074990110511671,Fast.te13664370479719496447,Fast.te14722251495701143533,Fast.te5923862056798008813];rfl'
theorem lk4(w:World)(os:OsState):PyProof.Rows.tabsOk q (S w os)=true:=by rw[Fast.te479339242167458305];rfl'
theorem lk5(w:World)(os:OsState):pinSeenD q (PyProof.Rows.drecsOf q) (S w os)=pinGoodD (PyProof.Rows.drecsOf q):=by rw[Fast.te16090120013241838585,Fast.te3247288618530077131];rfl'
theorem lk6(w:World)(os:OsState):PyProof.Rows.plainSeenE q (looseW q lo) (S w os)=PyProof.Rows.plainGoodE q (looseW q lo):=by rw[Fast.te2386780881361962483,Fast.te821141287760084731];rfl'
theorem lk7(w:World)(os:OsState):PyProof.Rows.plainSeenD q lo (S w os)=PyProof.Rows.plainGoodD q lo:=by rw[Fast.te11698064438423848299];rfl'
theorem lk8(w:World)(os:OsState):wideSeen q (S w os)=wideGood q:=by rw[Fast.te7317090234206586261];rfl'
theorem lk9(w:World)(os:OsState):clsSeenW q lo (S w os)=clsGoodW q lo:=by rw[Fast.te7369524293546568484];rfl'
theorem asK(P:Params):as=(KT P).map (·.1):=by rfl'
abbrev H:Hook:=kHook KT as asK
theorem lkY(w:World)(os:OsState):H.obs (S w os)=H.val w:=by rfl'
theorem looks(w:World):(λos=>((staticsOk (importedModules p.main.body) (boot_heap w.params) (H1 w.params)&&namesBound p (H1 w.params)&&gensDone (S w os)&&laidKept (boot_heap w.params) (H1 w.params)),openSeen q lo (importedModules p.main.body) Xt true (S w os),H.obs (S w os)))=λ_=>(true,openGood q lo,H.val w) :=
 funext λos=>N5z (lk0 w os) (N5z (N5z (lk1 w os) (N5z (lk2 w os) (N5z (lk3 w os) (N5z (lk4 w os) (N5z (lk5 w os) (N5z (lk6 w os) (N5z (lk7 w os) (N5z (lk8 w os) (lk9 w os))))))))) (lkY w os))
theorem size(w:World):((boot_heap w.params).isNs mainGlobals&&(Array.mk ([]:List GenState)).size==0,(boot_heap w.params).objs.size,(boot_heap w.params).nsMap mainGlobals "__annotations__")=(true,m0,ann):=by
 rw[Fast.te8920871248978507458];rfl'
theorem bt(w:World):(fencedOpening treeTable p w N).map (λs=>(s.heap,s.gens,s.drawn,s.toks))=some (boot_heap w.params,Array.mk [],boot_drawn,boot_toks) :=
 boot_open (p:=p) (N:=N) (by rfl') (by rfl') (λ_=>rfl) w
theorem left:LeftO p q lo Xt H.obs H.val N :=
 LeftO.of_pieces (H₀:=boot_heap) (H₁:=H1) (m₀:=m0) (ann:=ann) (M:=M) (gs₀:=Array.mk []) (gs₁:=⟨[]⟩) (d₀:=boot_drawn) (d₁:={}) (k₀:=boot_toks) (k₁:=tk) bt size run (by rfl') looks
abbrev R:OpenLaw:=PySem.Challenge.rw_minortables_k83_whole_case_twins
theorem said:R.wellSaid=true:=by rw[Fast.te9446332074065402090];rfl'
def dr:DefRec:=match d 56 with|.FunctionDef n a l _ _ _ sc _ _ o=>⟨n,a,l,sc,o⟩|_=>⟨"",default,[],default,⟨0,0,0,0⟩⟩
theorem hdef:defOf q R.row.name=some (dr,[]):=by rfl'
theorem hthe:R.row.prog.theDef R.row.name=some (dr.params,dr.body,dr.scope):=by rfl'
theorem hkw:kwWritten? dr.params.kwonlyargs dr.params.kw_defaults=some []:=by rfl'
theorem hok:(chainsOk q&&opensWell R.row.prog&&(frees R.row.toRowW&&R.row.within.isEmpty))=true:=by rfl'
theorem hbare:R.row.prog.bare:=⟨rfl,rfl,rfl,rfl,rfl,by rfl'⟩
theorem Xd:R.row.toRowW.promised:=⟨[.list []],by rfl',by rfl'⟩
theorem holds(call:WalkO q lo (XL q []) H.says R.row.toRowW dr [] λf vs=>PySem.call f vs):R.Holds :=
 holds_law said λk1=>holds_open (r:=R.row) (q:=q) (loose:=lo) (Xt:=Xt) (XP:=XL q []) (Yf:=H.obs) (Ya:=H.val) (YP:=H.says) (N:=N) left H.of H.keeps (λs e=>xl_of s (Bool.and_eq_true_iff.mp e).1) XL.keeps hdef hthe hkw (λs e=>recFacts_of (Bool.and_eq_true_iff.mp e).2) rfl k1 hok hbare Xd call
end H83
end
namespace M83
open PySem PySem.W L2 DE
theorem txt(w:World){mg:Str->Option Value}{h:Heap}(X:(H83.K w.params).In h)(G:h.Ns mainGlobals mg):Text w (H83.K w.params) mg T :=
 ⟨in_of (l:=cs) (Q:=λ(x:Str)(d:D)=>∃v u,(∀H',Rep (H83.K w.params) H' d v)/\mg x=some u/\RelV v u) (aC (cA X G 337 (by rfl')) (aC (cA X G 408 (by rfl')) (aC (cS X G 497 (by rfl')) (aC (cA X G 499 (by rfl')) (aN))))),
  in_of (l:=bl) (Q:=λx b=>mg x=none/\x=Str.ofString b) (Lz X G (by rfl')),
  in_of (l:=df) (Q:=λx fd=>FunAt (H83.K w.params) mg x fd) (KH X G (by rfl') (by rfl') (by rfl')),XText.of (λx v h=>Q4z X G h) (by rfl'),by show List.map _ _=List.map _ _;rfl'⟩
theorem cas(w:World){mg:Str->Option Value}{h:Heap}(X:(H83.K w.params).In h)(G:h.Ns mainGlobals mg):CaseTxt (H83.K w.params) mg 387 :=
 ⟨⟨⟨(by rfl'),(by rfl'),(by rfl'),(by rfl')⟩,by show findIn _ _ _=_;rfl',by show findIn _ _ _=_;rfl',by show findIn _ _ _=_;rfl',Q4z X G (by rfl')⟩,
  iY 293 (.str "minortables.cases" 495) (.ref 292) (by rfl') (by rfl') (by rfl') (by rfl') (by rfl'),
  iY 300 (.str "minortables.cases" 495) (.ref 299) (by rfl') (by rfl') (by rfl') (by rfl') (by rfl'),
  iY 307 (.str "minortables.cases" 495) (.ref 306) (by rfl') (by rfl') (by rfl') (by rfl') (by rfl'),
  iY 314 (.str "minortables.cases" 495) (.ref 313) (by rfl') (by rfl') (by rfl') (by rfl') (by rfl'),
  iY 321 (.str "minortables.cases" 495) (.ref 320) (by rfl') (by rfl') (by rfl') (by rfl') (by rfl'),
  iY 328 (.str "minortables.cases" 495) (.ref 327) (by rfl') (by rfl') (by rfl') (by rfl') (by rfl'),
  iY 335 (.str "minortables.cases" 495) (.ref 334) (by rfl') (by rfl') (by rfl') (by rfl') (by rfl'),
  iY 342 (.str "minortables.cases" 495) (.ref 341) (by rfl') (by rfl') (by rfl') (by rfl') (by rfl'),
  iY 349 (.str "minortables.cases" 495) (.ref 348) (by rfl') (by rfl') (by rfl') (by rfl') (by rfl'),
  iY 356 (.str "minortables.cases" 495) (.ref 355) (by rfl') (by rfl') (by rfl') (by rfl') (by rfl'),
  iY 363 (.str "minortables.cases" 495) (.ref 362) (by rfl') (by rfl') (by rfl') (by rfl') (by rfl'),
  iY 370 (.str "minortables.cases" 495) (.ref 369) (by rfl') (by rfl') (by rfl') (by rfl') (by rfl'),
  iY 377 (.str "minortables.cases" 495) (.ref 376) (by rfl') (by rfl') (by rfl') (by rfl') (by rfl')⟩
theorem twn(w:World):MF (H83.K w.params) 387 "twin" "Case.twin" yN:=iY 384 (.str "minortables.cases" 495) (.ref 383) (by rfl') (by rfl') (by rfl') (by rfl') (by rfl')
end M83
namespace H83
open PySem PySem.W
theorem noT(P:Params):∀q∈[(466,462),(454,450)],(K P).lookup q.2=none/\W.codeHdIn (K P) q.1 q.2=true:=λq hq=>by
 rcases P4z.mp hq with rfl|hq
 .exact⟨by rfl',by rfl'⟩
 .cases D2z.mp hq
  exact⟨by rfl',by rfl'⟩
theorem inT{P:Params}{h:Heap}(X:(KT P).In h):(K P).In h/\∀q∈[(466,462),(454,450)],h.get? q.2=some (tabObj #[]):=by
 refine⟨λb o e=>X b o ?_,λq hq=>X q.2 _ ?_⟩
 .unfold KT
  rw[List.lookup_append,e];rfl
 .unfold KT
  rw[List.lookup_append,(noT P q hq).1];rcases P4z.mp hq with rfl|hq
  .rfl
  .cases D2z.mp hq
   rfl
end H83
open PySem PySem.W PyProof.Rows
set_option maxRecDepth 100000 in
set_option maxHeartbeats 0 in
theorem PySem.Challenge.cw_minortables_k83_whole_case_twins_holds : PySem.Challenge.rw_minortables_k83_whole_case_twins.Holds :=
 H83.holds (L2.walkN (l := PySem.Challenge.rw_minortables_k83_whole_case_twins) (k := 41) (K := H83.K) (x := "_law_script") (cs := [(466, 462), (454, 450)]) rfl (by rfl') ⟨rfl, by decide, by decide⟩ (fun w h Y => H83.inT (W.kIn_of (e := H83.asK) Y)) (fun P => H83.noT P) fun w mg fa h KX G hmg => M83.finN (fI := 286) (M83.txt w KX G) (M83.cas w KX G) (M83.twn w) ⟨by rfl', by rfl', by rfl', by rfl'⟩ (L2.fun_mk (f := 286) (oc := .type "function") (od := none) (osl := #[]) (kV := .none) (doc := .none) (pm := (.str "minortables.cases" 495)) (cdv := .ref 285) (ct := .none) (an := none) (by rfl') (by rfl') (by rfl')) KX G hmg 467 466 455 454 462 450 (by decide) .none (.str "law_minortables_k83_whole_case_twins" 676) .none (.str "law_minortables_k83_whole_case_twins" 676) (by rfl') (by rfl') (by rfl') (by rfl') (by rfl') (by rfl') (by rfl'))
#print axioms PySem.Challenge.cw_minortables_k83_whole_case_twins_holds
